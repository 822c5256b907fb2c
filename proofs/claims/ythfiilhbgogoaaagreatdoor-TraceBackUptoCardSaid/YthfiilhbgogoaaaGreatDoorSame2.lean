/-
  trace.Same, of two rows of effects that are the same.
-/
import Derived.Test.YthfiilhbgogoaaaGreatDoorBk2
import Derived.Test.YthfiilhbgogoaaaGreatDoorSame
namespace Go.Proofs.YthfiilhbgogoaaaGreatDoor
open Go.RowKit Go.Lib
set_option linter.unusedVariables false

/-- Two effects that are the same. -/
def Alk (x y : Ev) : Prop := y = { x with a := y.a, c := y.c }
def Alks (L M : List Ev) : Prop := M.length = L.length ∧ ∀ (i : Nat) x y, L[i]? = some x → M[i]? = some y → Alk x y
theorem Mts.alks {L M : List Ev} {Y : List (Nat × Ef)} (h : Mts L Y) (k : Mts M Y) : Alks L M := by
  refine ⟨by rw [k.1, h.1], fun i x y hx hy => ?_⟩
  have hi : i < Y.length := by rw [← h.1]; exact (List.getElem?_eq_some_iff.1 hx).1
  have h1 := h.2 i x _ hx (List.getElem?_eq_getElem hi)
  have h2 := k.2 i y _ hy (List.getElem?_eq_getElem hi)
  obtain ⟨k, f, m, t, a, c, l, n, ok⟩ := x
  obtain ⟨k', f', m', t', a', c', l', n', ok'⟩ := y
  obtain ⟨q1, q2, q3, q4, q5, q6, q7⟩ := h1
  obtain ⟨r1, r2, r3, r4, r5, r6, r7⟩ := h2
  dsimp only at q1 q2 q3 q4 q5 q6 q7 r1 r2 r3 r4 r5 r6 r7
  unfold Alk
  simp only [Ev.mk.injEq, true_and]
  exact ⟨r1.trans q1.symm, r2.trans q2.symm, r3.trans q3.symm, r4.trans q4.symm, r5.trans q5.symm, r6.trans q6.symm, r7.trans q7.symm⟩
set_option maxHeartbeats 1000000 in
set_option maxRecDepth 100000 in
theorem eqf2_run (a a' : Option Addr) (cap cap' : Nat) (L M : List Ev) (w : World) (hE : Er w a L) (hM : Er w a' M) (hA : Alks L M) (hl : L.length ≤ 100000) :
    Calls Tryz.prog 25 #[.slice a L.length cap, .slice a' L.length cap', .func (.func 26) #[] #[]] w (Tells (.bool true) w) := by
  have HE : Aside (Er w a L ∧ Er w a' M ∧ Alks L M) := ⟨hE, hM, hA⟩
  clear hE hM hA
  go_enter Tryz.func25, Tryz.ntmps25
  go_wp2
  go_loopg [17] L.length (fun gk v17 wr => ∃ i : Nat, v17 = .int .i64 (i : Int) ∧ i ≤ L.length ∧ L.length - i ≤ gk ∧ Aside (Stp [] w [] wr))
  case atStart => exact ⟨0, rfl, by omega, by omega, Stp.refl _ _⟩
  case round =>
    obtain ⟨i, rfl, hi, hg, HS⟩ := hrel
    by_cases hlt : i < L.length
    · have hltz : (i : Int) < (L.length : Int) := by omega
      obtain ⟨x, hx⟩ : ∃ x, L[i]? = some x := ⟨L[i], List.getElem?_eq_getElem hlt⟩
      have hlM : i < M.length := by rw [HE.out.2.2.1]; exact hlt
      obtain ⟨y, hy⟩ : ∃ y, M[i]? = some y := ⟨M[i], List.getElem?_eq_getElem hlM⟩
      have hxy := HE.out.2.2.2 i x y hx hy
      obtain ⟨b, off, ha, hc⟩ := HE.out.1.2 (fun e => by simp [e] at hlt)
      subst ha
      obtain ⟨b', off', ha', hc'⟩ := HE.out.2.1.2 (fun e => by simp [e] at hlM)
      subst ha'
      obtain ⟨e0, e1, e2, e3, e4, e5, e6⟩ := (hc i x hx).stays HS.out
      obtain ⟨z0, z1, z2, z3, z4, z5, z6⟩ := (hc' i y hy).stays HS.out
      have HD : Aside (Ed wr x ∧ Ed wr y) := ⟨(HE.out.1.1 x (List.mem_of_getElem? hx)).stays HS.out, (HE.out.2.1.1 y (List.mem_of_getElem? hy)).stays HS.out⟩
      unfold Alk at hxy
      obtain ⟨ya, hya⟩ : ∃ ya, ya = y.a := ⟨_, rfl⟩
      obtain ⟨yc, hyc⟩ : ∃ yc, yc = y.c := ⟨_, rfl⟩
      rw [← hya, ← hyc] at hxy
      have hbl : b < wr.heap.size := block_lt_of_cell e0
      have hbn : ¬ b = wr.heap.size := by omega
      have hbl' : b' < wr.heap.size := block_lt_of_cell z0
      have hbn' : ¬ b' = wr.heap.size := by omega
      subst hxy
      clear hya hyc
      dsimp only at z0 z1 z2 z3 z4 z5 z6
      have KS : Hid (∀ W, Stp [] wr [] W → Calls Tryz.prog 26 #[.agg #[.int .i64 x.k, .int .u32 (x.f : Int), .int .u8 (x.m : Int), .int .u8 (x.t : Int), .slice x.a x.l.length x.c, .int .i64 x.n, .bool x.ok], .agg #[.int .i64 x.k, .int .u32 (x.f : Int), .int .u8 (x.m : Int), .int .u8 (x.t : Int), .slice ya x.l.length yc, .int .i64 x.n, .bool x.ok]] W (Tells (.bool true) W)) := Lib.hid fun W hs => same_yes _ _ _ _ _ _ _ _ _ _ _ W (HD.out.1.1.stays hs) (HD.out.2.1.stays hs)
      clear hc hx hc' hy
      go_wp2_with fail
      refine (KS.out _ ((Stp.alloc [] _ _).trans (Stp.alloc [] _ _))).mono ?_
      rintro _ w5 ⟨rfl, h5⟩
      have H5 : Aside (Stp [] w [] w5) := (HS.out.trans ((Stp.alloc [] _ _).trans (Stp.alloc [] _ _))).trans h5
      clear h5 e0 e1 e2 e3 e4 e5 e6 z0 z1 z2 z3 z4 z5 z6
      go_wp2
      go_roundg (L.length - (i + 1))
      case measure => omega
      case rel => exact ⟨i + 1, by go_num, by omega, by omega, H5.out⟩
    · have hltz : ¬ (i : Int) < (L.length : Int) := by omega
      go_wp2
      go_ret
      exact ⟨rfl, HS.out⟩
set_option maxRecDepth 100000 in
theorem same2_run (a a' : Option Addr) (cap cap' : Nat) (L M : List Ev) (w : World) (hE : Er w a L) (hM : Er w a' M) (hA : Alks L M) (hl : L.length ≤ 100000) :
    Calls Tryz.prog 12 #[.slice a L.length cap, .slice a' L.length cap'] w (Tells (.bool true) w) := by
  have K := Lib.hid (eqf2_run a a' cap cap' L M w hE hM hA hl)
  clear hE hM hA
  go_enter Tryz.func12, Tryz.ntmps12
  go_wp2_with fail
  refine K.out.mono ?_
  rintro _ w1 ⟨rfl, h1⟩
  go_wp2
  go_ret
  exact ⟨rfl, h1⟩
end Go.Proofs.YthfiilhbgogoaaaGreatDoor
