/-
  The document's Do: the keys that cut, those that do nothing, and a Rune.
-/
import Derived.Test.YtombkdbojdhodaaDoorRefL
namespace Go.Proofs.YtombkdbojdhodaaDoor
open Go.RowKit Go.Lib
set_option linter.unusedVariables false

/-- What the document's Do answers, and leaves. -/
def RDone (F : List Nat) (m N : Nat) (r : Rs) (A B : List Nat) (W : World) (en : Ending) (w' : World) : Prop :=
  en = .returned (.tuple #[.bool (chg r A B), .int .i64 r.e]) ∧ Rb F w' m N r.A r.B ∧ Stp [m] W [m] w'
abbrev kw (W : World) (k c : Int) : World := W.alloc (.cells #[.int .i64 k, .int .i64 c] 47)
theorem chg_A {r : Rs} {A B : List Nat} (h : r.A.length ≠ A.length) : chg r A B = true := by simp [chg, h]
theorem chg_B {r : Rs} {A B : List Nat} (h : r.B.length ≠ B.length) : chg r A B = true := by simp [chg, h]
theorem chg_no {r : Rs} {A B : List Nat} (h1 : r.A.length = A.length) (h2 : r.B.length = B.length) : chg r A B = false := by simp [chg, h1, h2]
section
variable {F : List Nat} {W : World} {m N ca cb : Nat} {pa pb : Option Addr} {A B : List Nat}
set_option maxHeartbeats 1000000 in
set_option maxRecDepth 100000 in
theorem rdo_2 (h : Rc F W m N pa ca A pb cb B) (hl : (A ++ B).length ≤ 4096) (hp : Pr (A ++ B)) (c : Int) :
    Calls Tryd.prog 22 #[.pointer (some ⟨m, 0, none⟩), .agg #[.int .i64 2, .int .i64 c]] W (RDone F m N ⟨0, A.dropLast, B⟩ A B W) := by
  have h1 : Rc F (kw W 2 c) m N pa ca A pb cb B := h.stays (Stp.alloc [] W _)
  have c0 := h1.c0
  have c1 := h1.c1
  have f0 := h1.f0
  have f1 := h1.f1
  have hla := h.la
  have hlb := h.lb
  have hx4 : A.length ≤ 4096 := by simp at hl; omega
  have hy4 : B.length ≤ 4096 := by simp at hl; omega
  have q : Rc F ((kw W 2 c).setCell ⟨m, 0, none⟩ (.slice pa A.dropLast.length ca)) m N pa ca A.dropLast pb cb B :=
    h1.setA (Its.head (M' := lst A) (by rw [dl_lst]; exact h1.ia)) (by simp; omega) h1.na h1.xa
  have hdl : A.dropLast.length = A.length - 1 := by simp
  have e0 := q.c0
  rw [hdl] at e0
  obtain ⟨x, hx⟩ : ∃ x, x = A.length := ⟨_, rfl⟩
  rw [← hx] at c0 e0 hla hx4
  have HH := Lib.hid (And.intro h (And.intro q (And.intro hp (And.intro hl (And.intro hx hdl)))))
  have hN1 := Rc.lt h1
  have hself : ∀ z : Int, (z != z) = false := fun z => by simp
  have hb1 := hself (B.length : Int)
  clear h h1 q hp hl hdl hx
  by_cases hx0 : x = 0
  · have hA : A = [] := List.length_eq_zero_iff.1 (by have := HH.out.2.2.2.2.1; omega)
    have hR : RDone F m N ⟨0, A, B⟩ A B W = RDone F m N ⟨0, A.dropLast, B⟩ A B W := by rw [hA]; rfl
    rw [← hR]
    have HC := Lib.hid (chg_no (r := ⟨0, A, B⟩) (A := A) (B := B) rfl rfl)
    have HR : Aside (Rb F (kw W 2 c) m N A B) := ⟨⟨_, _, _, _, HH.out.1.stays (Stp.alloc [] W _)⟩, HH.out.2.2.1, HH.out.2.2.2.1⟩
    clear e0 hR HH hA
    subst hx0
    have hb0 := hself ((0 : Nat) : Int)
    generalize B.length = y at *
    go_enter Tryd.func22, Tryd.ntmps22
    go_wp2
    go_ret2
    exact ⟨by rw [HC.out]; rfl, HR.out, Stp.alloc _ _ _⟩
  · have hxz : (0 : Int) < (x : Int) := by omega
    have hw : IntKind.i64.wrap ((x : Int) - 1) = ((x - 1 : Nat) : Int) := by rw [IntKind.wrap_i64]; omega
    have hcut := cutI_h pa x ca (x - 1) (by omega)
    have hb0 : (((x - 1 : Nat) : Int) != (x : Int)) = true := by rw [bne_iff_ne]; omega
    have HC := Lib.hid (chg_A (r := ⟨0, A.dropLast, B⟩) (A := A) (B := B) (by
      have h1 := HH.out.2.2.2.2.1
      have h2 := HH.out.2.2.2.2.2
      show (A.dropLast).length ≠ A.length
      omega))
    obtain ⟨x1, hx1⟩ : ∃ x1, x1 = x - 1 := ⟨_, rfl⟩
    rw [← hx1] at hw hcut hb0 e0
    have HX1 := Lib.hid hx1
    clear hx1 hx0
    go_enter Tryd.func22, Tryd.ntmps22
    go_wp2
    go_ret2
    have q := HH.out.2.1
    rw [HH.out.2.2.2.2.2, ← HH.out.2.2.2.2.1, ← HX1.out] at q
    have hp := HH.out.2.2.1
    have hl := HH.out.2.2.2.1
    exact ⟨by rw [HC.out]; rfl, ⟨⟨_, _, _, _, q⟩, fun x hx => hp x (by rcases List.mem_append.1 hx with g | g; exact List.mem_append_left _ ((List.dropLast_sublist A).subset g); exact List.mem_append_right _ g), by simp only [List.length_append, List.length_dropLast] at hl ⊢; omega⟩, ((Stp.alloc [] W _).more (fun k h => by cases h)).trans (Stp.setCell (F := [m]) (a := ⟨m, 0, none⟩) _ _ (by simp))⟩
set_option maxHeartbeats 1000000 in
set_option maxRecDepth 100000 in
theorem rdo_3 (h : Rc F W m N pa ca A pb cb B) (hl : (A ++ B).length ≤ 4096) (hp : Pr (A ++ B)) (c : Int) :
    Calls Tryd.prog 22 #[.pointer (some ⟨m, 0, none⟩), .agg #[.int .i64 3, .int .i64 c]] W (RDone F m N ⟨0, A, B.drop 1⟩ A B W) := by
  have h1 : Rc F (kw W 3 c) m N pa ca A pb cb B := h.stays (Stp.alloc [] W _)
  have c0 := h1.c0
  have c1 := h1.c1
  have f0 := h1.f0
  have f1 := h1.f1
  have hla := h.la
  have hlb := h.lb
  have hx4 : A.length ≤ 4096 := by simp at hl; omega
  have hy4 : B.length ≤ 4096 := by simp at hl; omega
  have q : Rc F ((kw W 3 c).setCell ⟨m, 1, none⟩ (.slice (cutp pb 1 cb) (B.drop 1).length (cb - 1))) m N pa ca A (cutp pb 1 cb) (cb - 1) (B.drop 1) := by
    by_cases hB : B.length = 0
    · have : B = [] := List.length_eq_zero_iff.1 hB
      subst this
      refine h1.setB (Its.nil _ _) (by simp) (fun e => ?_) (fun ad e => ?_)
      · unfold cutp at e
        split at e
        · omega
        · rcases pb with _ | x
          · rw [h.nb rfl]
          · cases e
      · obtain ⟨ad', e1, e2⟩ := cutp_blk e
        rw [← e2]
        exact h1.xb ad' e1
    · refine h1.setB (h1.ib.tail (by omega) hlb) (by simp; omega) (fun e => ?_) (fun ad e => ?_)
      · unfold cutp at e
        split at e
        · omega
        · rcases pb with _ | x
          · rw [h.nb rfl]
          · cases e
      · obtain ⟨ad', e1, e2⟩ := cutp_blk e
        rw [← e2]
        exact h1.xb ad' e1
  have hdl : (B.drop 1).length = B.length - 1 := by simp
  have e0 := q.c1
  rw [hdl] at e0
  obtain ⟨x, hx⟩ : ∃ x, x = B.length := ⟨_, rfl⟩
  rw [← hx] at c1 e0 hlb hy4
  have HH := Lib.hid (And.intro h (And.intro q (And.intro hp (And.intro hl (And.intro hx hdl)))))
  have hN1 := Rc.lt h1
  have hself : ∀ z : Int, (z != z) = false := fun z => by simp
  have hb2 := hself (A.length : Int)
  clear h h1 q hp hl hdl hx
  by_cases hx0 : x = 0
  · have hA : B = [] := List.length_eq_zero_iff.1 (by have := HH.out.2.2.2.2.1; omega)
    have hR : RDone F m N ⟨0, A, B⟩ A B W = RDone F m N ⟨0, A, B.drop 1⟩ A B W := by rw [hA]; rfl
    rw [← hR]
    have HC := Lib.hid (chg_no (r := ⟨0, A, B⟩) (A := A) (B := B) rfl rfl)
    have HR : Aside (Rb F (kw W 3 c) m N A B) := ⟨⟨_, _, _, _, HH.out.1.stays (Stp.alloc [] W _)⟩, HH.out.2.2.1, HH.out.2.2.2.1⟩
    clear e0 hR HH hA
    subst hx0
    have hb0 := hself ((0 : Nat) : Int)
    generalize A.length = y at *
    go_enter Tryd.func22, Tryd.ntmps22
    go_wp2
    go_ret2
    exact ⟨by rw [HC.out]; rfl, HR.out, Stp.alloc _ _ _⟩
  · have hxz : (0 : Int) < (x : Int) := by omega
    have hw : IntKind.i64.wrap ((x : Int) - 1) = ((x - 1 : Nat) : Int) := by rw [IntKind.wrap_i64]; omega
    have hcut := cutI_l pb x cb 1 (by omega)
    have hw1 : ((1 : Nat) : Int) = 1 := rfl
    rw [hw1] at hcut
    have hb0 : (((x - 1 : Nat) : Int) != (x : Int)) = true := by rw [bne_iff_ne]; omega
    have HC := Lib.hid (chg_B (r := ⟨0, A, B.drop 1⟩) (A := A) (B := B) (by
      have h1 := HH.out.2.2.2.2.1
      have h2 := HH.out.2.2.2.2.2
      show (B.drop 1).length ≠ B.length
      omega))
    obtain ⟨x1, hx1⟩ : ∃ x1, x1 = x - 1 := ⟨_, rfl⟩
    rw [← hx1] at hw hcut hb0 e0
    have HX1 := Lib.hid hx1
    clear hx1 hx0
    go_enter Tryd.func22, Tryd.ntmps22
    go_wp2
    go_ret2
    have q := HH.out.2.1
    rw [HH.out.2.2.2.2.2, ← HH.out.2.2.2.2.1, ← HX1.out] at q
    have hp := HH.out.2.2.1
    have hl := HH.out.2.2.2.1
    exact ⟨by rw [HC.out]; rfl, ⟨⟨_, _, _, _, q⟩, fun x hx => hp x (by rcases List.mem_append.1 hx with g | g; exact List.mem_append_left _ g; exact List.mem_append_right _ (List.mem_of_mem_drop g)), by simp only [List.length_append, List.length_drop] at hl ⊢; omega⟩, ((Stp.alloc [] W _).more (fun k h => by cases h)).trans (Stp.setCell (F := [m]) (a := ⟨m, 1, none⟩) _ _ (by simp))⟩
set_option maxHeartbeats 1000000 in
set_option maxRecDepth 100000 in
theorem rdo_8 (h : Rc F W m N pa ca A pb cb B) (hl : (A ++ B).length ≤ 4096) (hp : Pr (A ++ B)) (c : Int) :
    Calls Tryd.prog 22 #[.pointer (some ⟨m, 0, none⟩), .agg #[.int .i64 8, .int .i64 c]] W (RDone F m N ⟨0, [], B⟩ A B W) := by
  have h1 : Rc F (kw W 8 c) m N pa ca A pb cb B := h.stays (Stp.alloc [] W _)
  have c0 := h1.c0
  have c1 := h1.c1
  have f0 := h1.f0
  have f1 := h1.f1
  have hla := h.la
  have hlb := h.lb
  have hx4 : A.length ≤ 4096 := by simp at hl; omega
  have hy4 : B.length ≤ 4096 := by simp at hl; omega
  have q : Rc F ((kw W 8 c).setCell ⟨m, 0, none⟩ (.slice none ([] : List Nat).length 0)) m N none 0 [] pb cb B :=
    h1.setA (Its.nil _ _) (by simp) (fun _ => rfl) (fun ad e => by cases e)
  have e0 := q.c0
  obtain ⟨x, hx⟩ : ∃ x, x = A.length := ⟨_, rfl⟩
  rw [← hx] at c0
  have HH := Lib.hid (And.intro h (And.intro q (And.intro hp (And.intro hl hx))))
  have hN1 := Rc.lt h1
  have hself : ∀ z : Int, (z != z) = false := fun z => by simp
  have hb1 := hself (B.length : Int)
  rw [List.length_nil] at e0
  clear h h1 q hp hl hx hx4 hy4 hla hlb
  by_cases hx0 : x = 0
  · have HC := Lib.hid (chg_no (r := ⟨0, [], B⟩) (A := A) (B := B) (by have := HH.out.2.2.2.2; simp; omega) rfl)
    subst hx0
    have hb0 := hself ((0 : Nat) : Int)
    go_enter Tryd.func22, Tryd.ntmps22
    go_wp2
    go_ret2
    have hp := HH.out.2.2.1
    have hl := HH.out.2.2.2.1
    exact ⟨by rw [HC.out]; rfl, ⟨⟨_, _, _, _, HH.out.2.1⟩, hp.right, by simp only [List.length_append, List.length_nil] at hl ⊢; omega⟩, ((Stp.alloc [] W _).more (fun k h => by cases h)).trans (Stp.setCell (F := [m]) (a := ⟨m, 0, none⟩) _ _ (by simp))⟩
  · have hb0 : ((0 : Int) != (x : Int)) = true := by rw [bne_iff_ne]; omega
    have HC := Lib.hid (chg_A (r := ⟨0, [], B⟩) (A := A) (B := B) (by have := HH.out.2.2.2.2; simp only [List.length_nil]; omega))
    clear hx0
    go_enter Tryd.func22, Tryd.ntmps22
    go_wp2
    go_ret2
    have hp := HH.out.2.2.1
    have hl := HH.out.2.2.2.1
    exact ⟨by rw [HC.out]; rfl, ⟨⟨_, _, _, _, HH.out.2.1⟩, hp.right, by simp only [List.length_append, List.length_nil] at hl ⊢; omega⟩, ((Stp.alloc [] W _).more (fun k h => by cases h)).trans (Stp.setCell (F := [m]) (a := ⟨m, 0, none⟩) _ _ (by simp))⟩
set_option maxHeartbeats 1000000 in
set_option maxRecDepth 100000 in
theorem rdo_9 (h : Rc F W m N pa ca A pb cb B) (hl : (A ++ B).length ≤ 4096) (hp : Pr (A ++ B)) (c : Int) :
    Calls Tryd.prog 22 #[.pointer (some ⟨m, 0, none⟩), .agg #[.int .i64 9, .int .i64 c]] W (RDone F m N ⟨0, A, []⟩ A B W) := by
  have h1 : Rc F (kw W 9 c) m N pa ca A pb cb B := h.stays (Stp.alloc [] W _)
  have c0 := h1.c0
  have c1 := h1.c1
  have f0 := h1.f0
  have f1 := h1.f1
  have hla := h.la
  have hlb := h.lb
  have hx4 : A.length ≤ 4096 := by simp at hl; omega
  have hy4 : B.length ≤ 4096 := by simp at hl; omega
  have q : Rc F ((kw W 9 c).setCell ⟨m, 1, none⟩ (.slice none ([] : List Nat).length 0)) m N pa ca A none 0 [] :=
    h1.setB (Its.nil _ _) (by simp) (fun _ => rfl) (fun ad e => by cases e)
  have e0 := q.c1
  obtain ⟨x, hx⟩ : ∃ x, x = B.length := ⟨_, rfl⟩
  rw [← hx] at c1
  have HH := Lib.hid (And.intro h (And.intro q (And.intro hp (And.intro hl hx))))
  have hN1 := Rc.lt h1
  have hself : ∀ z : Int, (z != z) = false := fun z => by simp
  have hb2 := hself (A.length : Int)
  rw [List.length_nil] at e0
  clear h h1 q hp hl hx hx4 hy4 hla hlb
  by_cases hx0 : x = 0
  · have HC := Lib.hid (chg_no (r := ⟨0, A, []⟩) (A := A) (B := B) rfl (by have := HH.out.2.2.2.2; simp; omega))
    subst hx0
    have hb0 := hself ((0 : Nat) : Int)
    go_enter Tryd.func22, Tryd.ntmps22
    go_wp2
    go_ret2
    have hp := HH.out.2.2.1
    have hl := HH.out.2.2.2.1
    exact ⟨by rw [HC.out]; rfl, ⟨⟨_, _, _, _, HH.out.2.1⟩, by rw [List.append_nil]; exact hp.left, by simp only [List.length_append, List.length_nil] at hl ⊢; omega⟩, ((Stp.alloc [] W _).more (fun k h => by cases h)).trans (Stp.setCell (F := [m]) (a := ⟨m, 1, none⟩) _ _ (by simp))⟩
  · have hb0 : ((0 : Int) != (x : Int)) = true := by rw [bne_iff_ne]; omega
    have HC := Lib.hid (chg_B (r := ⟨0, A, []⟩) (A := A) (B := B) (by have := HH.out.2.2.2.2; simp only [List.length_nil]; omega))
    clear hx0
    go_enter Tryd.func22, Tryd.ntmps22
    go_wp2
    go_ret2
    have hp := HH.out.2.2.1
    have hl := HH.out.2.2.2.1
    exact ⟨by rw [HC.out]; rfl, ⟨⟨_, _, _, _, HH.out.2.1⟩, by rw [List.append_nil]; exact hp.left, by simp only [List.length_append, List.length_nil] at hl ⊢; omega⟩, ((Stp.alloc [] W _).more (fun k h => by cases h)).trans (Stp.setCell (F := [m]) (a := ⟨m, 1, none⟩) _ _ (by simp))⟩
set_option maxHeartbeats 1000000 in
set_option maxRecDepth 100000 in
theorem rdo_none (h : Rc F W m N pa ca A pb cb B) (hl : (A ++ B).length ≤ 4096) (hp : Pr (A ++ B)) (k c : Int) (hk : k ≠ 0 ∧ k ≠ 2 ∧ k ≠ 3 ∧ k ≠ 4 ∧ k ≠ 5 ∧ k ≠ 6 ∧ k ≠ 7 ∧ k ≠ 8 ∧ k ≠ 9) :
    Calls Tryd.prog 22 #[.pointer (some ⟨m, 0, none⟩), .agg #[.int .i64 k, .int .i64 c]] W (RDone F m N ⟨0, A, B⟩ A B W) := by
  have h1 : Rc F (kw W k c) m N pa ca A pb cb B := h.stays (Stp.alloc [] W _)
  have c0 := h1.c0
  have c1 := h1.c1
  have hself : ∀ z : Int, (z != z) = false := fun z => by simp
  have hb0 := hself (A.length : Int)
  have hb1 := hself (B.length : Int)
  have HC := Lib.hid (chg_no (r := ⟨0, A, B⟩) (A := A) (B := B) rfl rfl)
  have HR : Aside (Rb F (kw W k c) m N A B) := ⟨⟨_, _, _, _, h1⟩, hp, hl⟩
  obtain ⟨k0, k2, k3, k4, k5, k6, k7, k8, k9⟩ := hk
  clear h h1 hl hp
  generalize A.length = x at *
  generalize B.length = y at *
  go_enter Tryd.func22, Tryd.ntmps22
  go_wp2
  go_ret2
  exact ⟨by rw [HC.out]; rfl, HR.out, Stp.alloc _ _ _⟩
theorem put_chg (N : Nat) (c : Int) (A B : List Nat) : chg (putS N c A B) A B = ((putS N c A B).e == 0) := by
  unfold putS layS
  split
  · split
    · exact chg_A (by simp)
    · exact chg_no rfl rfl
  · exact chg_no rfl rfl
set_option maxHeartbeats 1000000 in
set_option maxRecDepth 100000 in
theorem rdo_0 (h : Rc F W m N pa ca A pb cb B) (hl : (A ++ B).length ≤ 4096) (hp : Pr (A ++ B)) (hN : N ≤ 4096) (c : Int) :
    Calls Tryd.prog 22 #[.pointer (some ⟨m, 0, none⟩), .agg #[.int .i64 0, .int .i64 c]] W (RDone F m N (putS N c A B) A B W) := by
  have h1 : Rc F (kw W 0 c) m N pa ca A pb cb B := h.stays (Stp.alloc [] W _)
  have c0 := h1.c0
  have c1 := h1.c1
  have KP := Lib.hid (rbput_run (⟨⟨_, _, _, _, h1⟩, hp, hl⟩ : Rb F (kw W 0 c) m N A B) hN c)
  have HC := Lib.hid (put_chg N c A B)
  clear h h1 hl hp
  generalize putS N c A B = r at *
  generalize A.length = x at *
  generalize B.length = y at *
  go_enter Tryd.func22, Tryd.ntmps22
  go_wp2_with fail
  refine KP.out.mono ?_
  rintro _ w2 ⟨rfl, h2, s2⟩
  have H2 := Lib.hid (And.intro h2 s2)
  clear h2 s2 c0 c1
  go_wp2
  go_ret2
  exact ⟨by rw [HC.out]; rfl, H2.out.1, ((Stp.alloc [] W _).more (fun k h => by cases h)).trans H2.out.2⟩
end
end Go.Proofs.YtombkdbojdhodaaDoor
