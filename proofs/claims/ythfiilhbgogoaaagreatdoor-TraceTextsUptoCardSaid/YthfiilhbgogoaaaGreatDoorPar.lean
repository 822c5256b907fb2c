/-
  internal/strconv.ParseUint to the base 16, of at most 32 bits: the number, or an error.
-/
import Derived.Test.YthfiilhbgogoaaaGreatDoorBit
import Derived.Lib.Walk
import Derived.Lib.ConvBytes
import Derived.Lib.UnsafeStr
import Derived.Laws.Strings3
import Derived.Laws.Closers25
import Derived.BigCall
import Derived.BigGuard
namespace Go.Proofs.YthfiilhbgogoaaaGreatDoor
open Go.RowKit Go.Lib
set_option linter.unusedVariables false

theorem lower_run (c : Int) (w : World) : Calls Tryz.prog 118 #[.int .u8 c] w (Gives (.int .u8 (bits .or .u8 c 32)) w) := by
  go_enter Tryz.func118, Tryz.ntmps118
  go_wp2
  go_ret
  exact ⟨rfl, rfl⟩
/-- How a parse ends: a number, or an error of the inner package's. -/
def PEnd (r : Option Nat) (w : World) (e : Ending) (w' : World) : Prop :=
  (match r with
    | some v => e = .returned (.tuple #[.int .u64 (v : Int), .nilIface])
    | none => ∃ (z k : Int), (k = 1 ∨ k = 2) ∧ e = .returned (.tuple #[.int .u64 z, .iface 137 (.int .i64 k)])) ∧ Stp [] w [] w'
theorem pend_some {r : Option Nat} {v : Nat} {a : Int} {w w' : World} (hr : r = some v) (ha : a = v) (hs : Stp [] w [] w') : PEnd r w (.returned (.tuple #[.int .u64 a, .nilIface])) w' := by
  subst hr ha
  exact ⟨rfl, hs⟩
theorem pend_none {r : Option Nat} {w w' : World} {z k : Int} (hr : r = none) (hk : k = 1 ∨ k = 2) (hs : Stp [] w [] w') : PEnd r w (.returned (.tuple #[.int .u64 z, .iface 137 (.int .i64 k)])) w' := by
  subst hr
  exact ⟨⟨z, k, hk, rfl⟩, hs⟩
theorem bytesWorld_stp (w : World) (t : ByteArray) : Stp [] w [] (Lib.bytesWorld w 5 t) := by
  unfold Lib.bytesWorld
  exact Stp.of_below (below_freeze (p := ⟨w.heap.size, _, none⟩) (((Below.refl w.heap.size w).drew).alloc (Nat.le_refl _) _) (Nat.le_refl _) 1)

set_option maxHeartbeats 32000000 in
set_option maxRecDepth 100000 in
theorem parseI_run (t : ByteArray) (hne : t.size ≠ 0) (hmax : t.size ≤ 9223372036854775806) (w : World) :
    Calls Tryz.prog 108 #[.string t, .int .i64 16, .int .i64 32] w (PEnd (par 16 4294967295 0 t.data.toList) w) := by
  have mixed : Tryz.prog.follows Departure.mixedOrders = true := by kernel_rfl
  have hemp : t.toList.isEmpty = false := by
    rw [← decide_eq_emptyBytes]
    exact decide_eq_false (fun h => hne (by rw [h]; rfl))
  have hcv := Lib.run_convert_string_bytes (P := Tryz.prog) w 9 35 5 t (u := .string) Tryz.underlying9 Tryz.underlying35 Tryz.underlying5
  have hB : ∀ j, j < t.size → (Lib.bytesWorld w 5 t).cell? ⟨w.heap.size, j, none⟩ = some (.int .u8 (t.data.toList.getD j 0).toNat) := fun j hj => Lib.bytesWorld_cell w 5 t j hj
  have hS := bytesWorld_stp w t
  obtain ⟨W1, hW1⟩ : ∃ W1, W1 = Lib.bytesWorld w 5 t := ⟨_, rfl⟩
  rw [← hW1] at hcv hB hS
  clear hW1
  obtain ⟨bs, hL⟩ : ∃ bs, bs = t.data.toList := ⟨_, rfl⟩
  have hLn : bs.length = t.size := by rw [hL, Lib.size_eq]
  rw [← hL] at hB ⊢
  clear hL
  have hmv : IntKind.u64.wrap (IntKind.u64.wrap 4294967296 - 1) = 4294967295 := by
    rw [IntKind.wrap_u64, IntKind.wrap_u64]
    decide
  go_enter Tryz.func108, Tryz.ntmps108
  go_wp2
  go_loop [12, 13, 101] (fun vu vn vi => ∃ (k acc : Nat) (a : Int), vu = .bool false ∧ vn = .int .u64 a ∧ vi = .int .i64 k ∧ k ≤ t.size ∧ Hid (a = (acc : Int) ∧ acc ≤ 4294967295 ∧ par 16 4294967295 0 bs = par 16 4294967295 acc (bs.drop k)))
    (fun _ _ vi => t.size - (Lib.intOf vi).toNat)
  case atStart => exact ⟨0, 0, 0, rfl, rfl, rfl, by omega, rfl, by omega, rfl⟩
  case round =>
    obtain ⟨k, acc, a, rfl, rfl, rfl, hk, hh⟩ := hrel
    obtain ⟨ha, hacc, hdec⟩ := hh.out
    clear hh
    have a0 : 0 ≤ a := by omega
    have a1 : a ≤ 4294967295 := by omega
    by_cases hkn : k < t.size
    · have hc := hB k hkn
      have hdrop : bs.drop k = bs[k]'(by omega) :: bs.drop (k + 1) := List.drop_eq_getElem_cons (by omega)
      have hget : bs.getD k 0 = bs[k]'(by omega) := by simp [List.getD, List.getElem?_eq_getElem (show k < bs.length by omega)]
      rw [hdrop] at hdec
      rw [hget] at hc
      generalize bs[k]'(by omega) = c at hc hdec
      have hc256 : c.toNat < 256 := c.toNat_lt
      clear hB hdrop hget
      by_cases hdig : 48 ≤ c.toNat ∧ c.toNat ≤ 57
      · obtain ⟨hd0, hd1⟩ := hdig
        have hdv : dv c = some (c.toNat - 48) := by unfold dv; rw [if_pos ⟨hd0, hd1⟩]
        have hlt : ¬ 16 ≤ c.toNat - 48 := by omega
        by_cases hov : 4294967295 < acc * 16 + (c.toNat - 48)
        · have hF : par 16 4294967295 acc (c :: bs.drop (k + 1)) = none := by simp [par, hdv, hlt, hov]
          have HF : Aside (par 16 4294967295 0 bs = none) := hdec.trans hF
          have iov : 4294967295 < a * 16 + ((c.toNat : Int) - 48) := by omega
          clear hacc hF hov ha hdec hdv hlt
          go_wp2
          go_ret2
          exact pend_none HF (by simp) hS
        · have hF : par 16 4294967295 acc (c :: bs.drop (k + 1)) = par 16 4294967295 (acc * 16 + (c.toNat - 48)) (bs.drop (k + 1)) := by simp [par, hdv, hlt, hov]
          have HN : Hid (a * 16 + ((c.toNat : Int) - 48) = ((acc * 16 + (c.toNat - 48) : Nat) : Int) ∧ acc * 16 + (c.toNat - 48) ≤ 4294967295 ∧ par 16 4294967295 0 bs = par 16 4294967295 (acc * 16 + (c.toNat - 48)) (bs.drop (k + 1))) := Lib.hid ⟨by omega, by omega, hdec.trans hF⟩
          have iov : a * 16 + ((c.toNat : Int) - 48) ≤ 4294967295 := by omega
          clear hacc hF hov hdec ha hdv hlt
          go_wp2
          refine ⟨⟨k + 1, acc * 16 + (c.toNat - 48), a * 16 + ((c.toNat : Int) - 48), rfl, (by first | rfl | (congr 1; omega)), (by first | rfl | (congr 1; omega)), by omega, HN⟩, by simp [Lib.intOf]; omega⟩
      · by_cases hlet : 97 ≤ (c ||| 32).toNat ∧ (c ||| 32).toNat ≤ 122
        · obtain ⟨hl0, hl1⟩ := hlet
          have hdv : dv c = some ((c ||| 32).toNat - 87) := by unfold dv; rw [if_neg hdig, if_pos ⟨hl0, hl1⟩]
          have hlw := lower_eq c
          have h95 : c.toNat ≠ 95 := by
            intro e
            have : c = 95 := UInt8.toNat_inj.1 e
            subst this
            revert hl1
            decide
          generalize (c ||| 32).toNat = lw at *
          by_cases hlt : 16 ≤ lw - 87
          · have hF : par 16 4294967295 acc (c :: bs.drop (k + 1)) = none := by simp [par, hdv, hlt]
            have HF : Aside (par 16 4294967295 0 bs = none) := hdec.trans hF
            have ilt : (16 : Int) ≤ (lw : Int) - 97 + 10 := by omega
            clear hacc hF ha hdec hdv hlt
            go_wp2_with (go_at_call 118; refine (lower_run _ _).mono ?_; rintro e w' ⟨rfl, rfl⟩; simp only [hlw])
            all_goals go_ret2
            all_goals exact pend_none HF (by simp) hS
          · by_cases hov : 4294967295 < acc * 16 + (lw - 87)
            · have hF : par 16 4294967295 acc (c :: bs.drop (k + 1)) = none := by simp [par, hdv, hlt, hov]
              have HF : Aside (par 16 4294967295 0 bs = none) := hdec.trans hF
              have ilt : (lw : Int) - 97 + 10 < 16 := by omega
              have iov : 4294967295 < a * 16 + ((lw : Int) - 97 + 10) := by omega
              clear hacc hF hov ha hdec hdv hlt
              go_wp2_with (go_at_call 118; refine (lower_run _ _).mono ?_; rintro e w' ⟨rfl, rfl⟩; simp only [hlw])
              all_goals go_ret2
              all_goals exact pend_none HF (by simp) hS
            · have hF : par 16 4294967295 acc (c :: bs.drop (k + 1)) = par 16 4294967295 (acc * 16 + (lw - 87)) (bs.drop (k + 1)) := by simp [par, hdv, hlt, hov]
              have HN : Hid (a * 16 + ((lw : Int) - 97 + 10) = ((acc * 16 + (lw - 87) : Nat) : Int) ∧ acc * 16 + (lw - 87) ≤ 4294967295 ∧ par 16 4294967295 0 bs = par 16 4294967295 (acc * 16 + (lw - 87)) (bs.drop (k + 1))) := Lib.hid ⟨by omega, by omega, hdec.trans hF⟩
              have ilt : (lw : Int) - 97 + 10 < 16 := by omega
              have iov : a * 16 + ((lw : Int) - 97 + 10) ≤ 4294967295 := by omega
              clear hacc hF hov ha hdec hdv hlt
              go_wp2_with (go_at_call 118; refine (lower_run _ _).mono ?_; rintro e w' ⟨rfl, rfl⟩; simp only [hlw])
              all_goals refine ⟨⟨k + 1, acc * 16 + (lw - 87), a * 16 + ((lw : Int) - 97 + 10), rfl, (by first | rfl | (congr 1; omega)), (by first | rfl | (congr 1; omega)), by omega, HN⟩, by simp [Lib.intOf]; omega⟩
        · have hF : par 16 4294967295 acc (c :: bs.drop (k + 1)) = none := by
            have : dv c = none := by unfold dv; rw [if_neg hdig, if_neg hlet]
            simp [par, this]
          have HF : Aside (par 16 4294967295 0 bs = none) := hdec.trans hF
          have hlw := lower_eq c
          have hlw95 := lower_eq 95
          have hl2 : (c ||| 32).toNat < 256 := (c ||| 32).toNat_lt
          generalize (c ||| 32).toNat = lw at *
          clear hacc hF ha hdec
          go_wp2_with (go_at_call 118; refine (lower_run _ _).mono ?_; rintro e w' ⟨rfl, rfl⟩; try simp only [hlw])
          all_goals go_ret2
          all_goals exact pend_none HF (by simp) hS
    · have hkk : k = t.size := by omega
      subst hkk
      have hF : par 16 4294967295 acc (bs.drop t.size) = some acc := by rw [List.drop_eq_nil_of_le (by omega)]; rfl
      have HF : Aside (par 16 4294967295 0 bs = some acc) := hdec.trans hF
      have HA : Aside (a = (acc : Int)) := ha
      clear hacc hF ha hdec
      go_wp2
      go_ret2
      exact pend_some HF HA hS

end Go.Proofs.YthfiilhbgogoaaaGreatDoor
