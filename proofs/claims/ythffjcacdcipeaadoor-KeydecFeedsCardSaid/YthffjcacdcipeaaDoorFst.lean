/-
  The decoder: next: the key that bytes begin with.
-/
import Derived.Test.YthffjcacdcipeaaDoorDec
import Derived.Test.YthffjcacdcipeaaDoorKStr
import Derived.Test.YthffjcacdcipeaaDoorUNx
import Derived.Test.YthffjcacdcipeaaDoorNx
namespace Go.Proofs.YthffjcacdcipeaaDoor
open Go.RowKit Go.Lib
set_option linter.unusedVariables false

/-- utf.Next at a list of bytes. -/
theorem unext_run (l : List UInt8) (a : Option Addr) (n cap : Nat) (w : World) (hb : Bts w a l) (hn : n = l.length) (hc : n ≤ cap) (hm : cap ≤ maxLen) (hT : U.Tabs w) :
    Calls Tryd.prog 59 #[.slice a n cap] w (Tells (.tuple #[.int .i64 (nx8 l).1, .int .i64 (nx8 l).2.1, .int .i64 (nx8 l).2.2]) w) := by
  subst hn
  have h := U.next_any a cap (l.map UInt8.toNat) w (K.bts_to_U hb) (by rw [List.length_map]; exact hc) hm hT
  rw [List.length_map] at h
  exact h.mono fun e w' ⟨he, hb⟩ => ⟨he, Stp.of_below hb⟩
/-- What next answers. -/
def DNext (d b g N : Nat) (l : List UInt8) (p : Bool) (W : World) : Option Fs → Ending → World → Prop
  | some f, e, w' => e = .returned (.tuple #[kvp f.x, .int .i64 (f.n : Int), .int .i64 0]) ∧ Dc w' d b g N l f.p ∧ Stp [d] W [d] w'
  | none, e, w' => ∃ z q : Int, e = .returned (.tuple #[kv 0 0, .int .i64 z, .int .i64 q]) ∧ q ≠ 0 ∧ Dc w' d b g N l p ∧ Stp [d] W [d] w'
section
variable {W : World} {d b g N : Nat} {l : List UInt8} {p : Bool}
theorem head_cell {a : Option Addr} {c : UInt8} {r : List UInt8} (hb : Bts W a (c :: r)) : ∃ bb off, a = some ⟨bb, off, none⟩ ∧ W.cell? ⟨bb, off, none⟩ = some (.int .u8 (c.toNat : Int)) := by
  obtain ⟨bb, off, rfl, hc⟩ := hb (by simp)
  have h0 := hc 0 (by simp)
  exact ⟨bb, off, rfl, by simpa [bval] using h0⟩
set_option maxHeartbeats 1000000 in
set_option maxRecDepth 100000 in
theorem dnext_seq (h : Dc W d b g N l p) (a : Option Addr) (n cap : Nat) (r : List UInt8) (hb : Bts W a (27 :: r)) (hn : n = (27 :: r).length) (hc : n ≤ cap) (hl : (27 :: r).length ≤ 1000000) :
    Calls Tryd.prog 54 #[.pointer (some ⟨d, 0, none⟩), .slice a n cap] W (DNext d b g N l p W (fst1 p (27 :: r))) := by
  obtain ⟨bb, off, rfl, hx⟩ := head_cell hb
  rw [show ((UInt8.toNat 27 : Nat) : Int) = 27 from rfl] at hx
  have hA := At2.new W 0 0
  have hS : Stp [] W [] (W.alloc (.cells #[.int .i64 0, .int .i64 0] 41)) := Stp.alloc [] W _
  have hx0 := hS.keeps rfl hx
  have K := Lib.hid (next_run (some ⟨bb, off, none⟩) n cap (27 :: r) _ (hb.stays hS) hn hc hl)
  have hn2 : (0 : Int) < (n : Int) := by subst hn; simp only [List.length_cons]; omega
  have HB := Lib.hid h
  have HA : Aside (At2 (W.alloc (.cells #[.int .i64 0, .int .i64 0] 41)) W.heap.size 0 0 ∧ Dc (W.alloc (.cells #[.int .i64 0, .int .i64 0] 41)) d b g N l p ∧ Stp [d] W [d] (W.alloc (.cells #[.int .i64 0, .int .i64 0] 41))) := ⟨hA, h.stays hS, Stp.alloc [d] W _⟩
  rw [fst1_esc]
  by_cases he : (nx (27 :: r)).e = 0
  · rw [if_pos he]
    obtain ⟨k, m, e, hnx⟩ : ∃ k m e, nx (27 :: r) = ⟨k, m, e⟩ := ⟨_, _, _, rfl⟩
    rw [hnx] at he K ⊢
    obtain rfl : e = 0 := he
    unfold nxv kv at K
    clear hx hb hn hnx h hA hS hl hc
    show Calls Tryd.prog _ _ W (DNext d b g N l p W (some ⟨(osk p k).1, m, (osk p k).2⟩))
    go_enter Tryd.func54, Tryd.ntmps54
    go_wp2_with fail
    generalize W.alloc (.cells #[.int .i64 0, .int .i64 0] 41) = w0 at *
    refine K.out.mono ?_
    rintro _ w1 ⟨rfl, s1⟩
    have H1 : Aside (At2 (w1.alloc (.cells #[.int .i64 k, .int .i64 0] 41)) W.heap.size 0 0 ∧ Dc (w1.alloc (.cells #[.int .i64 k, .int .i64 0] 41)) d b g N l p ∧ Stp [d] W [d] (w1.alloc (.cells #[.int .i64 k, .int .i64 0] 41))) :=
      ⟨(HA.out.1.stays s1).stays (Stp.alloc [] w1 _), (HA.out.2.1.stays s1).stays (Stp.alloc [] w1 _), HA.out.2.2.trans ((s1.more (by simp)).trans (Stp.alloc [d] w1 _))⟩
    clear K hx0 hn2 HA s1
    go_wp2_with fail
    generalize w1.alloc (.cells #[.int .i64 k, .int .i64 0] 41) = w2 at *
    refine (ofseq_run H1.out.2.1 k).mono ?_
    rintro _ w3 ⟨rfl, hd3, s3⟩
    have H3 : Aside (At2 w3 W.heap.size 0 0 ∧ Dc w3 d b g N l (osk p k).2 ∧ Stp [d] W [d] w3) := ⟨H1.out.1.other s3 (by have := HB.out.lt; simp; omega), hd3, H1.out.2.2.trans s3⟩
    clear H1 hd3 s3
    generalize (osk p k).1 = x at *
    generalize (osk p k).2 = p' at *
    obtain ⟨c0, c1, f0, f1⟩ := H3.out.1.cells
    have hlt := H3.out.1.lt
    unfold kvp kv
    go_wp2
    refine bodyPost_ret (res_key3 rfl _ _ W.heap.size x.1 x.2 rfl (H3.out.1.set x.1 x.2)) rfl ⟨rfl, ?_⟩
    exact keyP_2 HB.out H3.out.2.1 H3.out.2.2 (Nat.le_refl _) _ _
  · rw [if_neg he]
    obtain ⟨k, m, e, hnx⟩ : ∃ k m e, nx (27 :: r) = ⟨k, m, e⟩ := ⟨_, _, _, rfl⟩
    rw [hnx] at he K
    have he1 : (e != 0) = true := by simpa using he
    have HE := Lib.hid (show e ≠ 0 from he)
    unfold nxv kv at K
    clear hx hb hn hnx h hA hS hl he hc
    go_enter Tryd.func54, Tryd.ntmps54
    go_wp2_with fail
    generalize W.alloc (.cells #[.int .i64 0, .int .i64 0] 41) = w0 at *
    refine K.out.mono ?_
    rintro _ w1 ⟨rfl, s1⟩
    have H1 : Aside (At2 w1 W.heap.size 0 0 ∧ Dc w1 d b g N l p ∧ Stp [d] W [d] w1) :=
      ⟨HA.out.1.stays s1, HA.out.2.1.stays s1, HA.out.2.2.trans (s1.more (by simp))⟩
    clear K hx0 hn2 HA s1
    obtain ⟨c0, c1, f0, f1⟩ := H1.out.1.cells
    have hlt := H1.out.1.lt
    go_wp2
    refine bodyPost_ret (res_key3 rfl _ _ W.heap.size 0 0 rfl ((H1.out.1.set 0 0).stays (Stp.alloc [] _ _))) rfl ⟨(m : Int), e, rfl, HE.out, ?_⟩
    have h2 := keyP_2 HB.out H1.out.2.1 H1.out.2.2 (Nat.le_refl _) (.int .i64 0) (.int .i64 0)
    exact ⟨h2.1.stays (Stp.alloc [] _ _), h2.2.trans (Stp.alloc [d] _ _)⟩
set_option maxHeartbeats 1000000 in
set_option maxRecDepth 100000 in
theorem dnext_chr (h : Dc W d b g N l p) (hT : U.Tabs W) (a : Option Addr) (n cap : Nat) (c : UInt8) (r : List UInt8) (hb : Bts W a (c :: r)) (hn : n = (c :: r).length) (hc : n ≤ cap) (hm : cap ≤ maxLen) (hne : c ≠ 27) :
    Calls Tryd.prog 54 #[.pointer (some ⟨d, 0, none⟩), .slice a n cap] W (DNext d b g N l p W (fst1 p (c :: r))) := by
  obtain ⟨bb, off, rfl, hx⟩ := head_cell hb
  have hA := At2.new W 0 0
  have hS : Stp [] W [] (W.alloc (.cells #[.int .i64 0, .int .i64 0] 41)) := Stp.alloc [] W _
  have hx0 := hS.keeps rfl hx
  have K := Lib.hid (unext_run (c :: r) (some ⟨bb, off, none⟩) n cap _ (hb.stays hS) hn hc hm (utabs_other hT hS (by simp)))
  have hn2 : (0 : Int) < (n : Int) := by subst hn; simp only [List.length_cons]; omega
  have hz : (((c.toNat : Nat) : Int) == 27) = false := beq_eq_false_iff_ne.2 (fun e => hne (UInt8.toNat_inj.1 (by show c.toNat = 27; omega)))
  have HB := Lib.hid h
  have HA : Aside (At2 (W.alloc (.cells #[.int .i64 0, .int .i64 0] 41)) W.heap.size 0 0 ∧ Dc (W.alloc (.cells #[.int .i64 0, .int .i64 0] 41)) d b g N l p ∧ Stp [d] W [d] (W.alloc (.cells #[.int .i64 0, .int .i64 0] 41))) := ⟨hA, h.stays hS, Stp.alloc [d] W _⟩
  rw [fst1_chr p r hne]
  have he3 := nx8_e (l := c :: r) (by simp)
  have hlt0 := nx8_lt (l := c :: r)
  obtain ⟨z, m, e, hnx⟩ : ∃ z m e, nx8 (c :: r) = (z, m, e) := ⟨_, _, _, rfl⟩
  rw [hnx] at he3 K hlt0 ⊢
  generalize ((c.toNat : Nat) : Int) = y at *
  simp only at he3 hlt0
  clear hx hb hn hnx h hA hS hc hm hT hne
  have hwf : (Lit.int .i64 (z : Int)).wf = true := by simp [Lit.wf, IntKind.min, IntKind.max, IntKind.signed, IntKind.bits]; omega
  rcases he3 with rfl | rfl | rfl
  · rw [if_neg (by simp), if_pos rfl]
    show Calls Tryd.prog _ _ W (DNext d b g N l p W (some ⟨ock p (z : Int), m, p⟩))
    have HW := Lib.hid hwf
    clear hwf hlt0
    go_enter Tryd.func54, Tryd.ntmps54
    go_wp2_with fail
    generalize W.alloc (.cells #[.int .i64 0, .int .i64 0] 41) = w0 at *
    refine K.out.mono ?_
    rintro _ w1 ⟨rfl, s1⟩
    have H1 : Aside (At2 w1 W.heap.size 0 0 ∧ Dc w1 d b g N l p ∧ Stp [d] W [d] w1) :=
      ⟨HA.out.1.stays s1, HA.out.2.1.stays s1, HA.out.2.2.trans (s1.more (by simp))⟩
    clear K hx0 hn2 HA s1
    go_wp2_with fail
    refine (ofchr_run H1.out.2.1 z HW.out).mono ?_
    rintro _ w3 ⟨rfl, hd3, s3⟩
    have H3 : Aside (At2 w3 W.heap.size 0 0 ∧ Dc w3 d b g N l p ∧ Stp [d] W [d] w3) := ⟨H1.out.1.other s3 (by have := HB.out.lt; simp; omega), hd3, H1.out.2.2.trans s3⟩
    clear H1 hd3 s3 HW
    generalize ock p (z : Int) = x at *
    obtain ⟨c0, c1, f0, f1⟩ := H3.out.1.cells
    have hlt := H3.out.1.lt
    unfold kvp kv
    go_wp2
    refine bodyPost_ret (res_key3 rfl _ _ W.heap.size x.1 x.2 rfl (H3.out.1.set x.1 x.2)) rfl ⟨rfl, ?_⟩
    exact keyP_2 HB.out H3.out.2.1 H3.out.2.2 (Nat.le_refl _) _ _
  · rw [if_pos rfl]
    clear hwf hlt0
    go_enter Tryd.func54, Tryd.ntmps54
    go_wp2_with fail
    generalize W.alloc (.cells #[.int .i64 0, .int .i64 0] 41) = w0 at *
    refine K.out.mono ?_
    rintro _ w1 ⟨rfl, s1⟩
    have H1 : Aside (At2 w1 W.heap.size 0 0 ∧ Dc w1 d b g N l p ∧ Stp [d] W [d] w1) :=
      ⟨HA.out.1.stays s1, HA.out.2.1.stays s1, HA.out.2.2.trans (s1.more (by simp))⟩
    clear K hx0 hn2 HA s1
    obtain ⟨c0, c1, f0, f1⟩ := H1.out.1.cells
    have hlt := H1.out.1.lt
    go_wp2
    refine bodyPost_ret (res_key3 rfl _ _ W.heap.size 0 0 rfl (H1.out.1.set 0 0)) rfl ⟨(m : Int), 7, rfl, by decide, ?_⟩
    exact keyP_2 HB.out H1.out.2.1 H1.out.2.2 (Nat.le_refl _) (.int .i64 0) (.int .i64 0)
  · rw [if_neg (by simp), if_neg (by simp)]
    show Calls Tryd.prog _ _ W (DNext d b g N l p W (some ⟨ock p 65533, m, p⟩))
    clear hwf hlt0
    go_enter Tryd.func54, Tryd.ntmps54
    go_wp2_with fail
    generalize W.alloc (.cells #[.int .i64 0, .int .i64 0] 41) = w0 at *
    refine K.out.mono ?_
    rintro _ w1 ⟨rfl, s1⟩
    have H1 : Aside (At2 w1 W.heap.size 0 0 ∧ Dc w1 d b g N l p ∧ Stp [d] W [d] w1) :=
      ⟨HA.out.1.stays s1, HA.out.2.1.stays s1, HA.out.2.2.trans (s1.more (by simp))⟩
    clear K hx0 hn2 HA s1
    go_wp2_with fail
    refine (ofchr_run H1.out.2.1 65533 (by decide)).mono ?_
    rintro _ w3 ⟨rfl, hd3, s3⟩
    have H3 : Aside (At2 w3 W.heap.size 0 0 ∧ Dc w3 d b g N l p ∧ Stp [d] W [d] w3) := ⟨H1.out.1.other s3 (by have := HB.out.lt; simp; omega), hd3, H1.out.2.2.trans s3⟩
    clear H1 hd3 s3
    generalize ock p (65533 : Int) = x at *
    obtain ⟨c0, c1, f0, f1⟩ := H3.out.1.cells
    have hlt := H3.out.1.lt
    unfold kvp kv
    go_wp2
    refine bodyPost_ret (res_key3 rfl _ _ W.heap.size x.1 x.2 rfl (H3.out.1.set x.1 x.2)) rfl ⟨rfl, ?_⟩
    exact keyP_2 HB.out H3.out.2.1 H3.out.2.2 (Nat.le_refl _) _ _
theorem dnext_run (h : Dc W d b g N l p) (hT : U.Tabs W) (a : Option Addr) (n cap : Nat) (s : List UInt8) (hb : Bts W a s) (hn : n = s.length) (hc : n ≤ cap) (hm : cap ≤ maxLen) (hl : s.length ≤ 1000000) (hne : s ≠ []) :
    Calls Tryd.prog 54 #[.pointer (some ⟨d, 0, none⟩), .slice a n cap] W (DNext d b g N l p W (fst1 p s)) := by
  rcases s with _ | ⟨c, r⟩
  · exact absurd rfl hne
  · by_cases e : c = 27
    · subst e
      exact dnext_seq h a n cap r hb hn hc hl
    · exact dnext_chr h hT a n cap c r hb hn hc hm e
end
end Go.Proofs.YthffjcacdcipeaaDoor
