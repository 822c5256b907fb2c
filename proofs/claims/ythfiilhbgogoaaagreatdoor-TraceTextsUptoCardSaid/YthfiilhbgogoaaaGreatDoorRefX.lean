/-
  The document: how it went, and the text of bytes.
-/
import Derived.Test.YthfiilhbgogoaaaGreatDoorWl
import Derived.Test.YthfiilhbgogoaaaGreatDoorRefB
namespace Go.Proofs.YthfiilhbgogoaaaGreatDoor
open Go.RowKit Go.Lib
set_option linter.unusedVariables false

set_option maxHeartbeats 1000000 in
set_option maxRecDepth 100000 in
theorem went_run (b : Bool) (w : World) : Calls Tryz.prog 34 #[.bool b] w (Gives (.string (st (if b then [111, 107] else [102, 97, 105, 108]))) w) := by
  cases b
  · go_enter Tryz.func34, Tryz.ntmps34
    go_wp2
    go_ret
    exact ⟨rfl, rfl⟩
  · go_enter Tryz.func34, Tryz.ntmps34
    go_wp2
    go_ret
    exact ⟨rfl, rfl⟩
set_option maxHeartbeats 1000000 in
set_option maxRecDepth 100000 in
theorem rhex_run (a : Option Addr) (cap : Nat) (l : List UInt8) (hl : l.length ≤ 100000) (w : World) (h : Bts w a l) : Calls Tryz.prog 36 #[.slice a l.length cap] w (Tells (.string (st (hext l))) w) := by
  by_cases h0 : l = []
  · subst h0
    go_enter Tryz.func36, Tryz.ntmps36
    go_wp2
    go_ret
    exact ⟨rfl, Stp.refl _ _⟩
  · have hlp : 0 < l.length := List.length_pos_iff.2 h0
    have hz : ((l.length : Int) == 0) = false := beq_eq_false_iff_ne.2 (by omega)
    have HB : Aside (Bts w a l) := h
    have HV : Aside (hext l = hexs l) := by
      show hext l = hexs l
      unfold hext hexs
      rw [if_neg h0]
    clear h
    go_enter Tryz.func36, Tryz.ntmps36
    go_wp2
    have mixed : Tryz.prog.follows Departure.mixedOrders = true := by kernel_rfl
    go_loopg [3, 4] l.length (fun gk v3 vi wr => ∃ (i : Nat) (s : ByteArray), v3 = .string s ∧ vi = .int .i64 (i : Int) ∧ i ≤ l.length ∧ l.length - i ≤ gk ∧ s.size ≤ 300000 ∧ Aside (s = st (hexs (l.take i)) ∧ Stp [] w [] wr))
    case atStart => exact ⟨0, _, rfl, rfl, by omega, by omega, by decide, rfl, Stp.refl _ _⟩
    case round =>
      obtain ⟨i, s, rfl, rfl, hi, hg, hss, HS⟩ := hrel
      by_cases hlt : i < l.length
      · have hltz : (i : Int) < (l.length : Int) := by omega
        obtain ⟨b, off, ha, hc⟩ := (HB.out.stays HS.out.2) h0
        subst ha
        have hci := hc i hlt
        unfold bval at hci
        have hx256 : (l[i]!).toNat < 256 := (l[i]!).toNat_lt
        have HX : Aside (st (hexs (l.take (i + 1))) = s ++ st [dch ((l[i]!).toNat / 16)] ++ st [dch ((l[i]!).toNat % 16)]) := by
          show st (hexs (l.take (i + 1))) = _
          rw [hexs_snoc l i hlt, HS.out.1, st_append, st_append]
          simp [hexd]
        have HZ : Aside ((st (hexs (l.take (i + 1)))).size ≤ 300000) := by
          show (st (hexs (l.take (i + 1)))).size ≤ 300000
          rw [st_size, hexs_len, List.length_take]
          omega
        have hdiv : ((l[i]!).toNat : Int) / 16 = (((l[i]!).toNat / 16 : Nat) : Int) := by omega
        have hmod : ((l[i]!).toNat : Int) % 16 = (((l[i]!).toNat % 16 : Nat) : Int) := by omega
        have d1 : (l[i]!).toNat / 16 < 16 := by omega
        have d2 : (l[i]!).toNat % 16 < 16 := by omega
        have x1 := d16_ext ((l[i]!).toNat / 16) d1
        have x2 := d16_ext ((l[i]!).toNat % 16) d2
        unfold D16 at x1 x2
        have s1 : (st [dch ((l[i]!).toNat / 16)]).size = 1 := st_size _
        have s2 : (st [dch ((l[i]!).toNat % 16)]).size = 1 := st_size _
        have hz256 : ((l[i]!).toNat : Int) ≤ 255 := by omega
        have hz0 : (0 : Int) ≤ ((l[i]!).toNat : Int) := by omega
        clear hc
        generalize st [dch ((l[i]!).toNat / 16)] = t1 at *
        generalize st [dch ((l[i]!).toNat % 16)] = t2 at *
        generalize (l[i]!).toNat / 16 = e1 at *
        generalize (l[i]!).toNat % 16 = e2 at *
        generalize ((l[i]!).toNat : Int) = z at *
        obtain ⟨sz, hsz⟩ : ∃ sz, s.size = sz := ⟨_, rfl⟩
        have hsz2 : (s ++ t1).size = sz + 1 := by rw [ByteArray.size_append, hsz, s1]
        rw [hsz] at hss
        have hroom : ¬ 9223372036854775807 < sz + 1 := by omega
        have hroom2 : ¬ 9223372036854775807 < sz + 1 + 1 := by omega
        go_wp2_with fail
        go_region_both
        all_goals
          go_wp2
          go_roundg (l.length - (i + 1))
          case measure => omega
          case rel => exact ⟨i + 1, _, by go_num, by go_num, by omega, by omega, by rw [← HX.out]; exact HZ.out, HX.out.symm, HS.out.2.trans (Stp.drew _ _)⟩
      · have hltz : ¬ (i : Int) < (l.length : Int) := by omega
        have HE : Aside (s = st (hext l)) := by
          show s = st (hext l)
          rw [HV.out, HS.out.1, List.take_of_length_le (by omega)]
        go_wp2
        go_ret
        exact ⟨by rw [HE.out]; rfl, HS.out.2⟩
end Go.Proofs.YthfiilhbgogoaaaGreatDoor
