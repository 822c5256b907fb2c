/-
  escseq.Next and Begins.
-/
import Derived.Test.YtdaenaoagejgeaaGreatDoorNext
namespace Go.Proofs.YtdaenaoagejgeaaGreatDoor
open Go.RowKit Go.Lib
set_option linter.unusedVariables false

/-- What Next answers. -/
def nxv (x : Nx) : Value := .tuple #[kv x.k 0, .int .i64 (x.n : Int), .int .i64 x.e]
theorem take_bts {W : World} {a : Option Addr} {l : List UInt8} (h : Bts W a l) (n : Nat) (hn : n ≤ l.length) : Bts W a (l.take n) := by
  intro hne
  obtain ⟨b, off, e, hc⟩ := h (by intro e; subst e; simp at hne)
  refine ⟨b, off, e, fun i hi => ?_⟩
  have hi2 : i < n := by simp at hi; omega
  rw [hc i (by omega), getElem!_pos l i (by omega), getElem!_pos _ i hi]
  simp
theorem Stp.keeps {F F' : List Nat} {w w' : World} (h : Stp F w F' w') (hF : F = []) {a : Addr} {v : Value} (hc : w.cell? a = some v) : w'.cell? a = some v := by
  subst hF
  exact (h.cell (block_lt_of_cell hc) (by simp)).trans hc
set_option maxHeartbeats 1000000 in
set_option maxRecDepth 100000 in
theorem next_run (a : Option Addr) (n cap : Nat) (l : List UInt8) (w : World) (hb : Bts w a l) (hn : n = l.length) (hc : n ≤ cap) (hl : l.length ≤ 1000000) :
    Calls Tryz.prog 50 #[.slice a n cap] w (Tells (nxv (nx l)) w) := by
  have hA := At2.new w 0 0
  have hS : Stp [] w [] (w.alloc (.cells #[.int .i64 0, .int .i64 0] 97)) := Stp.alloc [] w _
  rcases nx_cases l with ⟨rfl, e⟩ | ⟨c, r, rfl, hne, e⟩ | ⟨r, rfl, hs, e⟩ | ⟨r, rfl, hs, e⟩
  · rw [e]
    obtain rfl : n = 0 := hn
    unfold nxv kv
    go_enter Tryz.func50, Tryz.ntmps50
    go_wp2
    refine bodyPost_ret (res_key3 rfl _ _ w.heap.size 0 0 rfl (heap_alloc_new _ _)) rfl ?_
    exact ⟨rfl, Stp.alloc _ _ _⟩
  all_goals
    rw [e]
    obtain ⟨b, off, rfl, hcell⟩ := hb (by simp)
    have hx0 := hS.keeps rfl (hcell 0 (by simp))
    rw [Nat.add_zero] at hx0
    have hn1 : ((n : Int) == 0) = false := beq_eq_false_iff_ne.2 (by subst hn; simp only [List.length_cons]; omega)
    have hn2 : (0 : Int) < (n : Int) := by subst hn; simp only [List.length_cons]; omega
    unfold nxv kv
  · have e1 : (c :: r)[0]! = c := rfl
    rw [e1] at hx0
    unfold bval at hx0
    have hz : ¬ ((c.toNat : Nat) : Int) = 27 := u8_ne (n := 27) (by omega) hne
    clear hcell hb e1 e hne hn hA hS
    generalize ((c.toNat : Nat) : Int) = z at *
    go_enter Tryz.func50, Tryz.ntmps50
    go_wp2
    refine bodyPost_ret (res_key3 rfl _ _ w.heap.size 0 0 rfl (heap_alloc_new _ _)) rfl ?_
    exact ⟨rfl, Stp.alloc _ _ _⟩
  · have e1 : ((27 : UInt8) :: r)[0]! = 27 := rfl
    rw [e1] at hx0
    unfold bval at hx0
    rw [show (UInt8.toNat 27 : Int) = 27 from rfl] at hx0
    have K := Lib.hid (length_run (some ⟨b, off, none⟩) n cap (27 :: r) _ (hb.stays hS) hn (by simp) hl)
    have HA : Aside (At2 (w.alloc (.cells #[.int .i64 0, .int .i64 0] 97)) w.heap.size 0 0 ∧ Stp [] w [] (w.alloc (.cells #[.int .i64 0, .int .i64 0] 97))) := ⟨hA, hS⟩
    rw [hs] at K
    generalize (ln (27 :: r)).1 = k at *
    clear hcell hb e1 e hs hn hA hS hl
    go_enter Tryz.func50, Tryz.ntmps50
    go_wp2_with fail
    generalize w.alloc (.cells #[.int .i64 0, .int .i64 0] 97) = w0 at *
    refine K.out.mono ?_
    rintro _ w1 ⟨rfl, rfl⟩
    obtain ⟨c0, c1, f0, f1⟩ := HA.out.1.cells
    have hlt := HA.out.1.lt
    clear K hx0 hn1 hn2
    go_wp2
    refine bodyPost_ret (res_key3 rfl _ _ w.heap.size 0 0 rfl (HA.out.1.set 0 0)) rfl ?_
    exact ⟨rfl, (HA.out.2.fresh (At2.stp _ _ _ _) (by simp)).none⟩
  · have e1 : ((27 : UInt8) :: r)[0]! = 27 := rfl
    rw [e1] at hx0
    unfold bval at hx0
    rw [show (UInt8.toNat 27 : Int) = 27 from rfl] at hx0
    have K := Lib.hid (length_run (some ⟨b, off, none⟩) n cap (27 :: r) _ (hb.stays hS) hn (by simp) hl)
    have HA : Aside (At2 (w.alloc (.cells #[.int .i64 0, .int .i64 0] 97)) w.heap.size 0 0 ∧ Stp [] w [] (w.alloc (.cells #[.int .i64 0, .int .i64 0] 97))) := ⟨hA, hS⟩
    rw [hs] at K
    have hln := ln_le (l := 27 :: r) (by simp)
    have HB : Aside (Bts w (some ⟨b, off, none⟩) ((27 :: r).take (ln (27 :: r)).1) ∧ ((27 :: r).take (ln (27 :: r)).1).length = (ln (27 :: r)).1) := ⟨take_bts hb _ hln.2.1, by rw [List.length_take]; omega⟩
    have hk : (ln (27 :: r)).1 ≤ cap := by omega
    have hk9 : (ln (27 :: r)).1 ≤ 35 := hln.2.2
    generalize (27 :: r).take (ln (27 :: r)).1 = s at *
    generalize (ln (27 :: r)).1 = k at *
    clear hcell hb e1 e hs hn hA hS hl hln
    go_enter Tryz.func50, Tryz.ntmps50
    go_wp2_with fail
    generalize w.alloc (.cells #[.int .i64 0, .int .i64 0] 97) = w0 at *
    refine K.out.mono ?_
    rintro _ w1 ⟨rfl, rfl⟩
    clear K hx0 hn1 hn2
    have KN := Lib.hid known_run
    have hcut := fun W => cut_h (some ⟨b, off, none⟩) n cap k hk W
    have hcv : ∀ W, Stp [] w1 [] W → (convert 27 9 (.slice (some ⟨b, off, none⟩) k cap)).run Tryz.prog W = .ok (.string (st s)) W := fun W h => conv_bts cap k ((HB.out.1.stays HA.out.2).stays h) HB.out.2.symm
    have hcur : Stp [] w1 [] w1.drew := Stp.drew [] w1
    go_wp2_with fail
    go_region_held (fun W => Stp [] w1 [] W) (first | exact hcur | assumption)
      (first | (go_at_call 70; (with_reducible refine (KN.out _).mono ?_); rintro _ w2 ⟨bm, rfl, om, s2⟩; have hlook := om.look s (by rw [HB.out.2]; omega); replace hcur := hcur.trans s2; clear s2 om))
    have HA2 : Aside (At2 w2 w.heap.size 0 0 ∧ Stp [] w [] w2) := ⟨HA.out.1.stays hcur, HA.out.2.trans hcur⟩
    obtain ⟨c0, c1, f0, f1⟩ := HA2.out.1.cells
    have hlt := HA2.out.1.lt
    clear hlook hcur hcut hcv KN HA HB hk
    rcases kk_cases s with ⟨e1, e2⟩ | ⟨z, e1, e2, e3⟩
    · rw [e1]
      simp only [Option.getD_none, Option.isSome_none]
      have HE : Aside (kk s = 15) := e2
      clear e1 e2
      go_wp2
      refine bodyPost_ret (res_key3 rfl _ _ w.heap.size 15 0 rfl (HA2.out.1.set 15 0)) rfl ?_
      exact ⟨by rw [HE.out]; rfl, (HA2.out.2.fresh (At2.stp _ _ _ _) (by simp)).none⟩
    · rw [e1]
      simp only [Option.getD_some, Option.isSome_some]
      have HE : Aside (kk s = z) := e2
      clear e1 e2 e3
      go_wp2
      refine bodyPost_ret (res_key3 rfl _ _ w.heap.size z 0 rfl (HA2.out.1.set z 0)) rfl ?_
      exact ⟨by rw [HE.out]; rfl, (HA2.out.2.fresh (At2.stp _ _ _ _) (by simp)).none⟩
end Go.Proofs.YtdaenaoagejgeaaGreatDoor
