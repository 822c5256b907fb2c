/-
  The document's example of layer 3 answers true, and turns nothing that was there.
-/
import Derived.Test.YtjjaaahoophgpaaOps2
namespace Go.Proofs.Ytjjaaahoophgpaa
open Go.RowKit Go.Lib
set_option linter.unusedVariables false

theorem Stp.none {F F' : List Nat} {W W' : World} (h : Stp F W F' W') : Stp F W [] W' := ⟨h.os, h.tape, h.output, h.size, h.block, fun _ h => by cases h⟩
theorem Stp.widen {F F' G : List Nat} {W W' : World} (h : Stp [] W F' W') (hG : ∀ k ∈ G, k ∈ F ∨ k ∈ F') : Stp F W G W' := ⟨h.os, h.tape, h.output, h.size, fun k hk _ => h.block k hk (fun h => by cases h), fun k hk => by
  rcases hG k hk with e | e
  · exact .inl e
  · rcases h.foot k e with e | e
    · cases e
    · exact .inr e⟩

theorem nan_run (w : World) : Calls Try.prog 24 #[] w (Gives (.float .f64 9221120237041090561) w) := by
  have hb : ∀ w, (callFunc 12 #[.int .u64 9221120237041090561]).run Try.prog w = .ok (.value (.float .f64 9221120237041090561)) w := from_run 9221120237041090561
  go_enter Try.func24, Try.ntmps24
  go_wp2
  go_ret
  exact ⟨rfl, rfl⟩

def mo (a : Nat) (h : a < 2 ^ 64) : Mo := ⟨a, h⟩
def e7 : Ent := ⟨⟨9221120237041090561, by omega⟩, 7, 0, by omega⟩
def e8 : Ent := ⟨⟨4611686018427387904, by omega⟩, 8, 1, by omega⟩
def e9 : Ent := ⟨⟨13830554455654793216, by omega⟩, 9, 2, by omega⟩
def e10 : Ent := ⟨⟨4611686018427387904, by omega⟩, 10, 3, by omega⟩
def l4 : List Ent := [e9, e8, e10, e7]
theorem l4_ins : ins e10 (ins e9 (ins e8 (ins e7 []))) = l4 := by
  have k7 : e7.m.key = 18446744073709551615 := by decide
  have k8 : e8.m.key = 13835058055282163712 := by decide
  have k9 : e9.m.key = 4616189618054758399 := by decide
  have k10 : e10.m.key = 13835058055282163712 := by decide
  simp [ins, l4, k7, k8, k9, k10]
theorem l4_drop : ∀ i, i < 4 → ∃ x r, l4.drop i = x :: r ∧ l4.drop (i + 1) = r ∧ r.length < 10 ∧ (#[Value.int .i64 9, .int .i64 8, .int .i64 10, .int .i64 7])[i]? = some (.int .i64 x.n) := by
  intro i hi
  have : i = 0 ∨ i = 1 ∨ i = 2 ∨ i = 3 := by omega
  rcases this with rfl | rfl | rfl | rfl
  · exact ⟨e9, [e8, e10, e7], rfl, rfl, by simp, rfl⟩
  · exact ⟨e8, [e10, e7], rfl, rfl, by simp, rfl⟩
  · exact ⟨e10, [e7], rfl, rfl, by simp, rfl⟩
  · exact ⟨e7, [], rfl, rfl, by simp, rfl⟩

set_option maxHeartbeats 1000000 in
theorem alive_run (w : World) : Calls Try.prog 11 #[] w fun e w' => e = .returned (.bool true) ∧ Stp [] w [] w' := by
  have KN := Lib.hid (new_run w)
  have KA := Lib.hid nan_run
  go_enter Try.func11, Try.ntmps11
  go_wp2_with fail
  refine KN.out.mono ?_
  rintro _ w0 ⟨rfl, q0, s0⟩
  have K1 := Lib.hid (qpush_run q0 (by simp) e7.m 7 (by omega) e7 ⟨rfl, rfl, rfl⟩)
  have H0 := Lib.hid s0
  generalize w.heap.size = b at *
  clear KN q0 s0
  go_wp2_with fail
  refine (KA.out _).mono ?_
  rintro _ _ ⟨rfl, rfl⟩
  clear KA
  go_wp2_with fail
  refine K1.out.mono ?_
  rintro _ w1 ⟨rfl, F1, q1, s1⟩
  have K2 := Lib.hid (qpush_run q1 (by rw [ins_length]; simp) e8.m 8 (by omega) e8 ⟨rfl, rfl, rfl⟩)
  have H1 := Lib.hid (H0.out.trans s1)
  clear K1 q1 s1 H0
  go_wp2_with fail
  refine K2.out.mono ?_
  rintro _ w2 ⟨rfl, F2, q2, s2⟩
  have K3 := Lib.hid (qpush_run q2 (by simp [ins_length]) e9.m 9 (by omega) e9 ⟨rfl, rfl, rfl⟩)
  have H2 := Lib.hid (H1.out.trans s2)
  clear K2 q2 s2 H1
  go_wp2_with fail
  refine K3.out.mono ?_
  rintro _ w3 ⟨rfl, F3, q3, s3⟩
  have K4 := Lib.hid (qpush_run q3 (by simp [ins_length]) e10.m 10 (by omega) e10 ⟨rfl, rfl, rfl⟩)
  have H3 := Lib.hid (H2.out.trans s3)
  clear K3 q3 s3 H2
  go_wp2_with fail
  refine K4.out.mono ?_
  rintro _ w4 ⟨rfl, F4, q4, s4⟩
  rw [l4_ins] at q4
  have H4 := Lib.hid (And.intro q4 (H3.out.trans s4))
  clear K4 q4 s4 H3
  go_wp2
  have HN : Aside (w4.heap.size ∉ F4) := fun e => absurd (H4.out.1.old _ e) (Nat.lt_irrefl _)
  have H5 : Aside (Qs (w4.alloc (.cells #[.int .i64 9, .int .i64 8, .int .i64 10, .int .i64 7] 3)) F4 b l4 4 ∧ Stp [] w F4 (w4.alloc (.cells #[.int .i64 9, .int .i64 8, .int .i64 10, .int .i64 7] 3)) ∧ (w4.alloc (.cells #[.int .i64 9, .int .i64 8, .int .i64 10, .int .i64 7] 3)).heap[w4.heap.size]? = some (.cells #[.int .i64 9, .int .i64 8, .int .i64 10, .int .i64 7] 3 (0, 0))) :=
    ⟨H4.out.1.stays (Stp.alloc [] _ _), H4.out.2.trans (Stp.alloc F4 _ _), heap_alloc_new _ _⟩
  clear H4
  generalize w4.heap.size = B at *
  generalize w4.alloc (.cells #[.int .i64 9, .int .i64 8, .int .i64 10, .int .i64 7] 3) = w5 at *
  go_loopg [21] 4 (fun gk vi wr => ∃ i : Nat, vi = .int .i64 (i : Int) ∧ i ≤ 4 ∧ 4 - i ≤ gk ∧ Aside (Qs wr F4 b (l4.drop i) 4 ∧ Stp [] w F4 wr ∧ wr.heap[B]? = some (.cells #[.int .i64 9, .int .i64 8, .int .i64 10, .int .i64 7] 3 (0, 0))))
  case atStart => exact ⟨0, rfl, by omega, by omega, H5⟩
  case round =>
    clear H5
    obtain ⟨i, rfl, hi, hg, HS⟩ := hrel
    by_cases hlt : i < 4
    · obtain ⟨x, r, hx, hr, hrl, hv⟩ := l4_drop i hlt
      have hltz : (i : Int) < 4 := by omega
      have hc : wr.cell? ⟨B, i, none⟩ = some (.int .i64 x.n) := by rw [cell_of_row wr B i _ _ _ HS.out.2.2]; exact hv
      have hq : Qs wr F4 b (x :: r) 4 := by rw [← hx]; exact HS.out.1
      have K := Lib.hid (qpop_run hq (by omega))
      have HX : Aside (l4.drop (i + 1) = r) := hr
      clear hx hr hv hq hrl
      go_wp2_with fail
      refine K.out.mono ?_
      rintro _ w6 ⟨rfl, q6, s6⟩
      have H6 : Aside (Qs w6 F4 b (l4.drop (i + 1)) 4 ∧ Stp [] w F4 w6 ∧ w6.heap[B]? = some (.cells #[.int .i64 9, .int .i64 8, .int .i64 10, .int .i64 7] 3 (0, 0))) :=
        ⟨by rw [HX.out]; exact q6, HS.out.2.1.trans s6, (s6.block B (Array.getElem?_eq_some_iff.1 HS.out.2.2).1 HN.out).trans HS.out.2.2⟩
      clear K q6 s6
      go_wp2
      go_roundg (4 - (i + 1))
      case measure => omega
      case rel => exact ⟨i + 1, by go_num, by omega, by omega, H6⟩
    · have hltz : ¬ (i : Int) < 4 := by omega
      obtain rfl : i = 4 := by omega
      have K := Lib.hid (qlen_run HS.out.1)
      go_wp2_with fail
      refine K.out.mono ?_
      rintro _ _ ⟨rfl, rfl⟩
      clear K
      go_wp2
      go_ret
      exact ⟨rfl, HS.out.2.1.none⟩
end Go.Proofs.Ytjjaaahoophgpaa
