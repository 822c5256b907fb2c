/-
  The walk of EscseqNexts.
-/
import Derived.Test.YtndofkjmbipagaaRefNx
namespace Go.Proofs.Ytndofkjmbipagaa
open Go.RowKit Go.Lib
set_option linter.unusedVariables false

set_option maxHeartbeats 4000000 in
set_option maxRecDepth 100000 in
theorem nexts_walk (a : Option Addr) (cap : Nat) (l : List UInt8) (w : World) (hb : Bts w a l) (hc : l.length ≤ cap) (hm : cap ≤ maxLen) : Calls Try.prog 3 #[.slice a l.length cap] w (Truth w) := by
  have KA := Lib.hid alive_run
  by_cases hl : 3000 < l.length
  · have hz : (3000 : Int) < (l.length : Int) := by omega
    clear hb hc hm hl
    generalize l.length = n at *
    go_enter Try.func3, Try.ntmps3
    go_wp2_with fail
    refine (KA.out _).mono ?_
    rintro _ w1 ⟨rfl, s1⟩
    go_wp2
    go_ret
    exact ⟨rfl, s1.under⟩
  · have hz : ¬ (3000 : Int) < (l.length : Int) := by omega
    have HB : Aside (Bts w a l) := hb
    have KN : Hid (∀ W, Bts W a l → Calls Try.prog 9 #[.slice a l.length cap] W (Tells (nxv (nx l)) W)) := Lib.hid (fun W h => next_run a l.length cap l W h rfl hc (by omega))
    have KR : Hid (∀ W, Bts W a l → Calls Try.prog 10 #[.slice a l.length cap] W (Tells (nxv (nx l)) W)) := Lib.hid (fun W h => rnext_run a l.length cap l W h rfl hc hm (by omega))
    have KB : Hid (∀ W, Bts W a l → Calls Try.prog 11 #[.slice a l.length cap] W (Tells (.bool ((nx l).e == 7)) W)) := Lib.hid (fun W h => begins_run a l.length cap l W h rfl hc (by omega))
    obtain ⟨k, m, e, hx⟩ : ∃ k m e, nx l = ⟨k, m, e⟩ := ⟨_, _, _, rfl⟩
    rw [hx] at KN KR KB
    have KB : Hid (∀ W, Bts W a l → Calls Try.prog 11 #[.slice a l.length cap] W (Tells (.bool (e == 7)) W)) := KB
    unfold nxv kv at KN KR
    simp only at KN KR
    clear hx hb hc hm hl
    generalize l.length = n at *
    go_enter Try.func3, Try.ntmps3
    go_wp2_with fail
    refine (KN.out _ HB.out).mono ?_
    rintro _ w1 ⟨rfl, s1⟩
    have HS1 : Aside (Stp [] w [] w1) := s1
    clear s1
    go_wp2_with fail
    refine (KR.out _ ((HB.out.stays HS1.out).stays (Stp.alloc [] _ _))).mono ?_
    rintro _ w2 ⟨rfl, s2⟩
    have HS2 : Aside (Stp [] w [] w2 ∧ At2 w2 w1.heap.size k 0) := ⟨HS1.out.trans ((Stp.alloc [] w1 _).trans s2), (At2.new w1 k 0).stays s2⟩
    clear s2
    generalize w1.heap.size = g1 at *
    go_wp2_with fail
    refine (KA.out _).mono ?_
    rintro _ w3 ⟨rfl, s3⟩
    have HS3 : Aside (Stp [] w [] w3 ∧ At2 w3 g1 k 0 ∧ At2 w3 w2.heap.size k 0) := ⟨HS2.out.1.trans ((Stp.alloc [] w2 _).trans s3), (HS2.out.2.stays (Stp.alloc [] _ _)).stays s3, (At2.new w2 k 0).stays s3⟩
    clear s3
    generalize w2.heap.size = g2 at *
    obtain ⟨c0, c1, f0, f1⟩ := HS3.out.2.1.cells
    obtain ⟨d0, d1, h0, h1⟩ := HS3.out.2.2.cells
    go_wp2_with fail
    refine (KB.out _ (HB.out.stays HS3.out.1)).mono ?_
    rintro _ w4 ⟨rfl, s4⟩
    go_wp2
    go_ret
    exact ⟨rfl, (HS3.out.1.trans s4).under⟩
end Go.Proofs.Ytndofkjmbipagaa
