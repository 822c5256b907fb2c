import Derived.Test.YtldbfjddlekakaaGreatDoorEr
import Derived.Test.YtldbfjddlekakaaGreatDoorLine
import Derived.Test.YtldbfjddlekakaaGreatDoorRefLok
import Derived.Test.YtldbfjddlekakaaGreatDoorRefRe
import Derived.Test.YtldbfjddlekakaaGreatDoorRefRg
import Derived.Test.YtldbfjddlekakaaGreatDoorTalive
import Derived.Deep.RegionHeld3
import Derived.Deep.DeepCutAuto
import Derived.Deep.CutBlock
/-
  trace.Written.
-/
namespace Go.Proofs.YtldbfjddlekakaaGreatDoor
open Go.RowKit Go.Lib
set_option linter.unusedVariables false

/-- What one effect wrote. -/
def wr1 (x : Ev) : List UInt8 := if x.k = 2 then x.l.take (min (max x.n 0) (x.l.length : Int)).toNat else []
def wrt (L : List Ev) : List UInt8 := L.flatMap wr1
def Wrt (l : List UInt8) (w : World) (e : Ending) (w' : World) : Prop := ∃ v, e = .returned v ∧ Own w' w.heap.size v l ∧ Stp [] w [] w'
theorem wrt_snoc (L : List Ev) (i : Nat) (x : Ev) (h : L[i]? = some x) : wrt (L.take (i + 1)) = wrt (L.take i) ++ wr1 x := by
  obtain ⟨hi, e⟩ := List.getElem?_eq_some_iff.1 h
  rw [List.take_succ_eq_append_getElem hi, e]
  simp [wrt]
theorem wrt_take_le (L : List Ev) (i : Nat) : (wrt (L.take i)).length ≤ (wrt L).length := by
  have h : wrt L = wrt (L.take i) ++ wrt (L.drop i) := by
    have := congrArg wrt (List.take_append_drop i L)
    simp only [wrt, List.flatMap_append] at this
    exact this.symm
  rw [h]
  simp
set_option maxHeartbeats 1000000 in
set_option maxRecDepth 100000 in
theorem written_run (a : Option Addr) (cap : Nat) (L : List Ev) (w : World) (hE : Er w a L) (hl : L.length ≤ 100000) (hb : (wrt L).length ≤ 900000) :
    Calls Tryz.prog 18 #[.slice a L.length cap] w (Wrt (wrt L) w) := by
  have HE : Aside (Er w a L) := hE
  clear hE
  go_enter Tryz.func18, Tryz.ntmps18
  go_wp2
  go_loopg [3, 8] L.length (fun gk v3 v8 wr => ∃ i : Nat, v8 = .int .i64 (i : Int) ∧ i ≤ L.length ∧ L.length - i ≤ gk ∧ Aside (Own wr w.heap.size v3 (wrt (L.take i)) ∧ Stp [] w [] wr))
  case atStart => exact ⟨0, rfl, by omega, by omega, Own.nil _ _, Stp.refl _ _⟩
  case round =>
    obtain ⟨i, rfl, hi, hg, HS⟩ := hrel
    obtain ⟨a3, c3, hv3, _, _, _, _⟩ := HS.out.1.bts
    subst hv3
    by_cases hlt : i < L.length
    · have hltz : (i : Int) < (L.length : Int) := by omega
      obtain ⟨x, hx⟩ : ∃ x, L[i]? = some x := ⟨L[i], List.getElem?_eq_getElem hlt⟩
      obtain ⟨b, off, ha, hc⟩ := HE.out.2 (fun e => by simp [e] at hlt)
      subst ha
      obtain ⟨e0, e1, e2, e3, e4, e5, e6⟩ := (hc i x hx).stays HS.out.2
      have hsn := wrt_snoc L i x hx
      have hle1 := wrt_take_le L (i + 1)
      rw [hsn, List.length_append] at hle1
      have HD : Aside (Ed wr x) := (HE.out.1 x (List.mem_of_getElem? hx)).stays HS.out.2
      clear hc
      by_cases hk : x.k = 2
      · have hkb : (x.k == 2) = true := by rw [hk]; rfl
        obtain ⟨m, hm⟩ := Int.eq_ofNat_of_zero_le (show 0 ≤ min (max x.n 0) (x.l.length : Int) by omega)
        have hml : m ≤ x.l.length := by omega
        have hw1 : wr1 x = x.l.take m := by
          unfold wr1
          rw [if_pos hk, hm]
          rfl
        rw [hw1] at hsn hle1
        have hcut : ∀ W, (Instr.slice 25 (.slice x.a x.l.length x.c) none (some (.int .i64 (m : Int))) none).run Tryz.prog W = .ok (.slice x.a m x.c) W := fun W => cut_h _ _ _ m (by have := HD.out.2.1; omega) W
        have HP : Aside (wrt (L.take (i + 1)) = wrt (L.take i) ++ x.l.take m ∧ (wrt (L.take i)).length + (x.l.take m).length ≤ 900000) := ⟨hsn, by omega⟩
        have HTL : Aside (m = (x.l.take m).length) := by
          show m = (x.l.take m).length
          rw [List.length_take]
          omega
        clear hsn hle1 hw1 hx hk
        have H2 : Aside (∀ o : Obj, Own (wr.alloc o) w.heap.size (.slice a3 (wrt (L.take i)).length c3) (wrt (L.take i)) ∧ Stp [] w [] (wr.alloc o) ∧ Bts (wr.alloc o) x.a (x.l.take m)) := fun o => ⟨HS.out.1.other (Stp.alloc [] _ _) (by simp), HS.out.2.trans (Stp.alloc [] _ _), by
          have := (HD.out.1.stays (Stp.alloc [] wr o)).cut (i := 0) (j := m) (N := x.c) (by omega) hml HD.out.2.1
          have e : cutp x.a 0 x.c = x.a := by
            unfold cutp
            split
            · rfl
            · rcases x.a with _ | ⟨q, r, sp⟩ <;> simp [Addr.add]
          rw [e] at this
          simpa using this⟩
        go_wp2_with (at_builtin
                     refine wpList_app rfl (.tmp 15) (.tmp 25) rfl w.heap.size (.slice a3 (wrt (L.take i)).length c3) (wrt (L.take i)) rfl (H2.out _).1 x.a x.c m (x.l.take m) HTL.out rfl (H2.out _).2.2 HD.out.2.2 (by have := HP.out.2; omega) (by have := (H2.out (.cells #[] 0)).2.1.size; simp at this ⊢; omega) ?_
                     intro v' w' ho' hg'
                     have HQ : Aside (Own w' w.heap.size v' (wrt (L.take i) ++ x.l.take m) ∧ Stp [] w [] w') := ⟨ho', (H2.out _).2.1.app hg' (fun k hk => (HS.out.1.lt k hk).1)⟩
                     clear ho' hg')
        go_roundg (L.length - (i + 1))
        case measure => omega
        case rel => exact ⟨i + 1, by go_num, by omega, by omega, by rw [HP.out.1]; exact HQ.out.1, HQ.out.2⟩
      · have hkb : (x.k == 2) = false := beq_eq_false_iff_ne.2 hk
        have hw1 : wr1 x = [] := by
          unfold wr1
          rw [if_neg hk]
        rw [hw1, List.append_nil] at hsn
        have HP : Aside (wrt (L.take (i + 1)) = wrt (L.take i)) := hsn
        clear hsn hle1 hw1 hx
        go_wp2
        go_roundg (L.length - (i + 1))
        case measure => omega
        case rel => exact ⟨i + 1, by go_num, by omega, by omega, by rw [HP.out]; exact HS.out.1.other (Stp.alloc [] _ _) (by simp), HS.out.2.trans (Stp.alloc [] _ _)⟩
    · have hltz : ¬ (i : Int) < (L.length : Int) := by omega
      obtain rfl : i = L.length := by omega
      have HP : Aside (wrt (L.take L.length) = wrt L) := by
        show wrt (L.take L.length) = wrt L
        rw [List.take_length]
      go_wp2
      go_ret
      exact ⟨_, rfl, by rw [← HP.out]; exact HS.out.1, HS.out.2⟩
end Go.Proofs.YtldbfjddlekakaaGreatDoor
/-
  The document: Same.
-/
namespace Go.Proofs.YtldbfjddlekakaaGreatDoor
open Go.RowKit Go.Lib Go.BigFrame
set_option linter.unusedVariables false

/-- Are two effects the same? -/
def sme (x y : Ev) : Bool := decide (x.k = y.k ∧ (x.f = y.f ∧ x.m = y.m ∧ x.t = y.t) ∧ x.l = y.l ∧ x.n = y.n ∧ x.ok = y.ok)
def smes : List Ev → List Ev → Bool
  | [], [] => true
  | x :: L, y :: M => sme x y && smes L M
  | _, _ => false
theorem smes_len : ∀ {L M : List Ev}, smes L M = true → L.length = M.length
  | [], [], _ => rfl
  | x :: L, y :: M, h => by
    simp only [smes, Bool.and_eq_true] at h
    simp [smes_len h.2]
  | [], _ :: _, h => by cases h
  | _ :: _, [], h => by cases h
theorem smes_ne {L M : List Ev} (h : L.length ≠ M.length) : smes L M = false := by
  cases e : smes L M with
  | false => rfl
  | true => exact absurd (smes_len e) h
/-- How two effects may differ, the first field at which they do. -/
inductive Dif (x y : Ev) : Prop
  | k (h : x.k ≠ y.k)
  | f (h0 : x.k = y.k) (h : x.f ≠ y.f)
  | m (h0 : x.k = y.k) (h1 : x.f = y.f) (h : x.m ≠ y.m)
  | t (h0 : x.k = y.k) (h1 : x.f = y.f) (h2 : x.m = y.m) (h : x.t ≠ y.t)
  | l (h0 : x.k = y.k) (h1 : x.f = y.f) (h2 : x.m = y.m) (h3 : x.t = y.t) (h : x.l ≠ y.l)
  | n (h0 : x.k = y.k) (h1 : x.f = y.f) (h2 : x.m = y.m) (h3 : x.t = y.t) (h4 : x.l = y.l) (h : x.n ≠ y.n)
  | ok (h0 : x.k = y.k) (h1 : x.f = y.f) (h2 : x.m = y.m) (h3 : x.t = y.t) (h4 : x.l = y.l) (h5 : x.n = y.n) (h : x.ok ≠ y.ok)
  | none (h0 : x.k = y.k) (h1 : x.f = y.f) (h2 : x.m = y.m) (h3 : x.t = y.t) (h4 : x.l = y.l) (h5 : x.n = y.n) (h : x.ok = y.ok)
theorem dif (x y : Ev) : Dif x y := by
  by_cases h0 : x.k = y.k
  · by_cases h1 : x.f = y.f
    · by_cases h2 : x.m = y.m
      · by_cases h3 : x.t = y.t
        · by_cases h4 : x.l = y.l
          · by_cases h5 : x.n = y.n
            · by_cases h6 : x.ok = y.ok
              · exact .none h0 h1 h2 h3 h4 h5 h6
              · exact .ok h0 h1 h2 h3 h4 h5 h6
            · exact .n h0 h1 h2 h3 h4 h5
          · exact .l h0 h1 h2 h3 h4
        · exact .t h0 h1 h2 h3
      · exact .m h0 h1 h2
    · exact .f h0 h1
  · exact .k h0
set_option maxHeartbeats 4000000 in
set_option maxRecDepth 100000 in
theorem rsame_run (a a' : Option Addr) (cap cap' : Nat) (L M : List Ev) (w : World) (hE : Er w a L) (hE' : Er w a' M) (hl : L.length ≤ 100000) (hl' : M.length ≤ 100000) :
    Calls Tryz.prog 11 #[.slice a L.length cap, .slice a' M.length cap'] w (Tells (.bool (smes L M)) w) := by
  have HE : Aside (Er w a L ∧ Er w a' M) := ⟨hE, hE'⟩
  clear hE hE'
  by_cases hlen : L.length = M.length
  · have hq : ((L.length : Int) == (M.length : Int)) = true := by rw [beq_iff_eq]; omega
    rw [← hlen]
    have HL : Aside (L.length = M.length) := hlen
    clear hq hl' hlen
    go_enter Tryz.func11, Tryz.ntmps11
    go_wp2
    go_loopg [5] L.length (fun gk v5 wr => ∃ i : Nat, v5 = .int .i64 (i : Int) ∧ i ≤ L.length ∧ L.length - i ≤ gk ∧ Aside (smes L M = smes (L.drop i) (M.drop i) ∧ Stp [] w [] wr))
    case atStart => exact ⟨0, rfl, by omega, by omega, rfl, Stp.refl _ _⟩
    case round =>
      obtain ⟨i, rfl, hi, hgk, HS⟩ := hrel
      by_cases hlt : i < L.length
      · have hltz : (i : Int) < (L.length : Int) := by omega
        obtain ⟨x, hx⟩ : ∃ x, L[i]? = some x := ⟨L[i], List.getElem?_eq_getElem hlt⟩
        obtain ⟨y, hy⟩ : ∃ y, M[i]? = some y := ⟨M[i]'(by rw [← HL.out]; exact hlt), List.getElem?_eq_getElem (by rw [← HL.out]; exact hlt)⟩
        have hdx : L.drop i = x :: L.drop (i + 1) := by rw [List.drop_eq_getElem_cons hlt]; congr 1; rw [List.getElem?_eq_getElem hlt] at hx; exact Option.some.inj hx
        have hdy : M.drop i = y :: M.drop (i + 1) := by
          have h2 : i < M.length := by rw [← HL.out]; exact hlt
          rw [List.drop_eq_getElem_cons h2]; congr 1; rw [List.getElem?_eq_getElem h2] at hy; exact Option.some.inj hy
        obtain ⟨b, off, ha, hc⟩ := HE.out.1.2 (fun e => by simp [e] at hlt)
        obtain ⟨b', off', ha', hc'⟩ := HE.out.2.2 (fun e => by have h9 := HL.out; rw [e, List.length_nil] at h9; omega)
        subst ha ha'
        have hcx := (hc i x hx).stays HS.out.2
        have hcy := (hc' i y hy).stays HS.out.2
        have hdxd := (HE.out.1.1 x (List.mem_of_getElem? hx)).stays HS.out.2
        have hdyd := (HE.out.2.1 y (List.mem_of_getElem? hy)).stays HS.out.2
        have hcv1 := fun W (h : Stp [] wr [] W) => conv_bts x.c x.l.length (hdxd.1.stays h) rfl
        have hcv2 := fun W (h : Stp [] wr [] W) => conv_bts y.c y.l.length (hdyd.1.stays h) rfl
        have hcva := fun q : Nat => hcv1 (wr.drewN q) (Stp.drewN _ _ _)
        have hcvb := fun q : Nat => hcv2 (wr.drewN q) (Stp.drewN _ _ _)
        have hsm : smes L M = (sme x y && smes (L.drop (i + 1)) (M.drop (i + 1))) := by rw [HS.out.1, hdx, hdy]; rfl
        have hd := dif x y
        obtain ⟨k, f, m, t, a1, c1, l, n, ok⟩ := x
        obtain ⟨k', f', m', t', a2, c2, l', n', ok'⟩ := y
        obtain ⟨x0, x1, x2, x3, x4, x5, x6⟩ := hcx
        obtain ⟨y0, y1, y2, y3, y4, y5, y6⟩ := hcy
        have HST : Aside (Stp [] w [] wr) := HS.out.2
        simp only at *
        clear hc hc' hdxd hdyd hcv1 hcv2 hdx hdy hx hy HS
        cases hd with
        | k h =>
          simp only at h
          have HV : Aside (smes L M = false) := by
            show smes L M = false
            rw [hsm]
            simp [sme, h]
          have hb : (k == k') = false := beq_eq_false_iff_ne.2 h
          have hb2 : (k != k') = true := by simp [bne, hb]
          clear hsm h
          generalize st l = sl at *
          generalize st l' = sl' at *
          go_wp2
          refine wp_region_quiet_lit (by kernel_rfl) (by kernel_rfl) ?_
          dsimp only [List.append]
          repeat (go_big_quiet_step (fail))
          refine wpQuiet_nil ?_
          intro _ hw'
          obtain ⟨nq, hw''⟩ := hw'
          subst hw''
          go_wp2
          go_ret
          exact ⟨by rw [HV.out]; rfl, HST.out.trans (Stp.drewN _ _ _)⟩
        | f h0 h =>
          simp only at h0 h
          have HV : Aside (smes L M = false) := by
            show smes L M = false
            rw [hsm]
            simp [sme, h]
          have hb : ((f : Int) == (f' : Int)) = false := beq_eq_false_iff_ne.2 (by omega)
          subst h0
          clear hsm h
          generalize st l = sl at *
          generalize st l' = sl' at *
          go_wp2
          refine wp_region_quiet_lit (by kernel_rfl) (by kernel_rfl) ?_
          dsimp only [List.append]
          repeat (go_big_quiet_step (fail))
          refine wpQuiet_nil ?_
          intro _ hw'
          obtain ⟨nq, hw''⟩ := hw'
          subst hw''
          go_wp2
          go_ret
          exact ⟨by rw [HV.out]; rfl, HST.out.trans (Stp.drewN _ _ _)⟩
        | m h0 h1 h =>
          simp only at h0 h1 h
          have HV : Aside (smes L M = false) := by
            show smes L M = false
            rw [hsm]
            simp [sme, h]
          have hb : ((m : Int) == (m' : Int)) = false := beq_eq_false_iff_ne.2 (by omega)
          subst h0 h1
          clear hsm h
          generalize st l = sl at *
          generalize st l' = sl' at *
          go_wp2
          refine wp_region_quiet_lit (by kernel_rfl) (by kernel_rfl) ?_
          dsimp only [List.append]
          repeat (go_big_quiet_step (fail))
          refine wpQuiet_nil ?_
          intro _ hw'
          obtain ⟨nq, hw''⟩ := hw'
          subst hw''
          go_wp2
          go_ret
          exact ⟨by rw [HV.out]; rfl, HST.out.trans (Stp.drewN _ _ _)⟩
        | t h0 h1 h2 h =>
          simp only at h0 h1 h2 h
          have HV : Aside (smes L M = false) := by
            show smes L M = false
            rw [hsm]
            simp [sme, h]
          have hb : ((t : Int) == (t' : Int)) = false := beq_eq_false_iff_ne.2 (by omega)
          subst h0 h1 h2
          clear hsm h
          generalize st l = sl at *
          generalize st l' = sl' at *
          go_wp2
          refine wp_region_quiet_lit (by kernel_rfl) (by kernel_rfl) ?_
          dsimp only [List.append]
          repeat (go_big_quiet_step (fail))
          refine wpQuiet_nil ?_
          intro _ hw'
          obtain ⟨nq, hw''⟩ := hw'
          subst hw''
          go_wp2
          go_ret
          exact ⟨by rw [HV.out]; rfl, HST.out.trans (Stp.drewN _ _ _)⟩
        | l h0 h1 h2 h3 h =>
          simp only at h0 h1 h2 h3 h
          have HV : Aside (smes L M = false) := by
            show smes L M = false
            rw [hsm]
            simp [sme, h]
          have hb : ((st l).toList == (st l').toList) = false := by rw [st_toList, st_toList]; exact beq_eq_false_iff_ne.2 h
          subst h0 h1 h2 h3
          clear hsm h
          generalize st l = sl at *
          generalize st l' = sl' at *
          go_wp2
          refine wp_region_quiet_lit (by kernel_rfl) (by kernel_rfl) ?_
          dsimp only [List.append]
          repeat (go_big_quiet_step (fail))
          refine wpQuiet_nil ?_
          intro _ hw'
          obtain ⟨nq, hw''⟩ := hw'
          subst hw''
          go_wp2
          go_ret
          exact ⟨by rw [HV.out]; rfl, HST.out.trans (Stp.drewN _ _ _)⟩
        | n h0 h1 h2 h3 h4 h =>
          simp only at h0 h1 h2 h3 h4 h
          have HV : Aside (smes L M = false) := by
            show smes L M = false
            rw [hsm]
            simp [sme, h]
          have hb : (n == n') = false := beq_eq_false_iff_ne.2 h
          have hb2 : (n != n') = true := by simp [bne, hb]
          subst h0 h1 h2 h3 h4
          clear hsm h
          generalize st l = sl at *
          go_wp2
          refine wp_region_quiet_lit (by kernel_rfl) (by kernel_rfl) ?_
          dsimp only [List.append]
          repeat (go_big_quiet_step (fail))
          refine wpQuiet_nil ?_
          intro _ hw'
          obtain ⟨nq, hw''⟩ := hw'
          subst hw''
          go_wp2
          go_ret
          exact ⟨by rw [HV.out]; rfl, HST.out.trans (Stp.drewN _ _ _)⟩
        | ok h0 h1 h2 h3 h4 h5 h =>
          simp only at h0 h1 h2 h3 h4 h5 h
          have HV : Aside (smes L M = false) := by
            show smes L M = false
            rw [hsm]
            simp [sme, h]
          have hb : (ok == ok') = false := beq_eq_false_iff_ne.2 h
          have hb2 : (ok != ok') = true := by simp [bne, hb]
          subst h0 h1 h2 h3 h4 h5
          clear hsm h
          generalize st l = sl at *
          go_wp2
          refine wp_region_quiet_lit (by kernel_rfl) (by kernel_rfl) ?_
          dsimp only [List.append]
          repeat (go_big_quiet_step (fail))
          refine wpQuiet_nil ?_
          intro _ hw'
          obtain ⟨nq, hw''⟩ := hw'
          subst hw''
          go_wp2
          go_ret
          exact ⟨by rw [HV.out]; rfl, HST.out.trans (Stp.drewN _ _ _)⟩
        | none h0 h1 h2 h3 h4 h5 h =>
          simp only at h0 h1 h2 h3 h4 h5 h
          subst h0 h1 h2 h3 h4 h5 h
          have HV : Aside (smes L M = smes (L.drop (i + 1)) (M.drop (i + 1))) := by
            show smes L M = _
            rw [hsm]
            simp [sme]
          clear hsm
          generalize st l = sl at *
          go_wp2
          refine wp_region_quiet_lit (by kernel_rfl) (by kernel_rfl) ?_
          dsimp only [List.append]
          repeat (go_big_quiet_step (fail))
          refine wpQuiet_nil ?_
          intro _ hw'
          obtain ⟨nq, hw''⟩ := hw'
          subst hw''
          go_wp2
          go_roundg (L.length - (i + 1))
          case measure => omega
          case rel => exact ⟨i + 1, by go_num, by omega, by omega, HV.out, HST.out.trans (Stp.drewN _ _ _)⟩
      · have hltz : decide ((i : Int) < (L.length : Int)) = false := decide_eq_false (by omega)
        have hltz2 : ¬ (i : Int) < (L.length : Int) := by omega
        have HV : Aside (smes L M = true) := by
          show smes L M = true
          rw [HS.out.1, List.drop_eq_nil_of_le (by omega), List.drop_eq_nil_of_le (by have := HL.out; omega)]
          rfl
        go_wp2
        go_ret
        exact ⟨by rw [HV.out]; rfl, HS.out.2⟩
  · have HV : Aside (smes L M = false) := smes_ne hlen
    have hq : ((L.length : Int) == (M.length : Int)) = false := beq_eq_false_iff_ne.2 (by omega)
    have hq2 : ((L.length : Int) != (M.length : Int)) = true := by simp [bne, hq]
    clear hl hl' hlen
    go_enter Tryz.func11, Tryz.ntmps11
    go_wp2
    go_ret
    exact ⟨by rw [HV.out]; rfl, Stp.refl _ _⟩
end Go.Proofs.YtldbfjddlekakaaGreatDoor
/-
  trace.Line.
-/
namespace Go.Proofs.YtldbfjddlekakaaGreatDoor
open Go.RowKit Go.Lib
set_option linter.unusedVariables false

set_option maxHeartbeats 1000000 in
set_option maxRecDepth 100000 in
theorem tline_run (x : Ev) (h1 : Ok x.f x.m x.t) (h2 : x.n ≤ 9223372036854775807) (h3 : x.l.length ≤ 100000) (w : World) (hT : Tabs w) (hd : Ed w x) :
    Calls Tryz.prog 7 #[.agg #[.int .i64 x.k, .int .u32 (x.f : Int), .int .u8 (x.m : Int), .int .u8 (x.t : Int), .slice x.a x.l.length x.c, .int .i64 x.n, .bool x.ok]] w (Tells (.tuple #[.string (st (lnE x).1), .int .i64 (lnE x).2]) w) := by
  have KA := Lib.hid all_run
  have HT : Aside (Tabs w ∧ Ed w x) := ⟨hT, hd⟩
  have KE : Hid (∀ X ga W, Stp [] w [] W → AllAt W X → W.heap[ga]? = some (.cells (closures X).toArray 57 (0, 0)) → Calls Tryz.prog 21 #[.pointer (some ⟨ga, 0, none⟩), .agg #[.int .i64 x.k, .int .u32 (x.f : Int), .int .u8 (x.m : Int), .int .u8 (x.t : Int), .slice x.a x.l.length x.c, .int .i64 x.n, .bool x.ok]] W (Tells (.tuple #[.string (st (lnE x).1), .int .i64 (lnE x).2]) W)) := Lib.hid fun X ga W hs2 hx hg => line_run X ga x h1 h2 h3 W (HT.out.1.stays hs2) hx hg (HT.out.2.stays hs2)
  clear hT hd h1 h2 h3
  generalize (lnE x).1 = s1 at *
  generalize (lnE x).2 = s2 at *
  go_enter Tryz.func7, Tryz.ntmps7
  go_wp2_with fail
  refine (KA.out _).mono ?_
  rintro _ w1 ⟨X, rfl, h1, h2⟩
  have hsc := store_all w1 X h1.1
  have hcl : (closures X).length = 14 := by rw [closures_len, h1.1]
  have H1 : Aside (AllAt (w1.alloc (.cells (closures X).toArray 57)) X ∧ (w1.alloc (.cells (closures X).toArray 57)).heap[w1.heap.size]? = some (.cells (closures X).toArray 57 (0, 0)) ∧ Stp [] w [] (w1.alloc (.cells (closures X).toArray 57))) :=
    ⟨h1.stays (Stp.alloc [] _ _), heap_alloc_new _ _, ((Stp.alloc [] w _).trans h2).trans (Stp.alloc [] _ _)⟩
  have R0 : EAt (w.alloc (.cells #[.int .i64 x.k, .int .u32 (x.f : Int), .int .u8 (x.m : Int), .int .u8 (x.t : Int), .slice x.a x.l.length x.c, .int .i64 x.n, .bool x.ok] 27)) w.heap.size x.k x.f x.m x.t (.slice x.a x.l.length x.c) x.n x.ok := heap_alloc_new _ _
  have R1 := (R0.other h2 (by simp)).other (Stp.alloc [] w1 (.cells (closures X).toArray 57)) (by simp)
  have c0 := R1.c0
  have c1 := R1.c1
  have c2 := R1.c2
  have c3 := R1.c3
  have c4 := R1.c4
  have c5 := R1.c5
  have c6 := R1.c6
  clear h1 h2 KA R0 R1
  generalize w1.alloc (.cells (closures X).toArray 57) = w2 at *
  go_wp2_with fail
  refine (KE.out X _ _ H1.out.2.2 H1.out.1 H1.out.2.1).mono ?_
  rintro _ w3 ⟨rfl, h3⟩
  go_wp2
  go_ret2
  exact ⟨rfl, H1.out.2.2.trans h3⟩
end Go.Proofs.YtldbfjddlekakaaGreatDoor
/-
  The document: Line, of any effect.
-/
namespace Go.Proofs.YtldbfjddlekakaaGreatDoor
open Go.RowKit Go.Lib
set_option linter.unusedVariables false

set_option maxHeartbeats 1000000 in
set_option maxRecDepth 100000 in
theorem rline_out (k : Int) (f m t : Nat) (a : Option Addr) (c : Nat) (l : List UInt8) (n : Int) (ok : Bool) (w : World) (h : k < 0 ∨ 7 ≤ k) :
    Calls Tryz.prog 8 #[.agg #[.int .i64 k, .int .u32 (f : Int), .int .u8 (m : Int), .int .u8 (t : Int), .slice a l.length c, .int .i64 n, .bool ok]] w (Tells (.tuple #[.string (st []), .int .i64 9]) w) := by
  by_cases h0 : k < 0
  · clear h
    go_enter Tryz.func8, Tryz.ntmps8
    go_wp2
    go_ret2
    exact ⟨rfl, Stp.alloc _ _ _⟩
  · have h1 : (6 : Int) < k := by omega
    have h2 : decide (k < 0) = false := decide_eq_false h0
    clear h h0
    go_enter Tryz.func8, Tryz.ntmps8
    go_wp2
    go_ret2
    exact ⟨rfl, Stp.alloc _ _ _⟩
theorem rline_run (x : Ev) (h1 : Ok x.f x.m x.t) (h2 : x.n ≤ 9223372036854775807) (h3 : x.l.length ≤ 100000) (w : World) (hb : Bts w x.a x.l) :
    Calls Tryz.prog 8 #[.agg #[.int .i64 x.k, .int .u32 (x.f : Int), .int .u8 (x.m : Int), .int .u8 (x.t : Int), .slice x.a x.l.length x.c, .int .i64 x.n, .bool x.ok]] w (Tells (.tuple #[.string (st (lnE x).1), .int .i64 (lnE x).2]) w) := by
  obtain ⟨k, f, m, t, a, c, l, n, ok⟩ := x
  simp only at h1 h2 h3 hb ⊢
  by_cases hk : k < 0 ∨ 7 ≤ k
  · have e : lnE ⟨k, f, m, t, a, c, l, n, ok⟩ = ([], 9) := by
      unfold lnE
      rw [if_pos hk]
    rw [e]
    exact rline_out k f m t a c l n ok w hk
  · have hc : k = 0 ∨ k = 1 ∨ k = 2 ∨ k = 3 ∨ k = 4 ∨ k = 5 ∨ k = 6 := by omega
    clear hk
    rcases hc with rfl | rfl | rfl | rfl | rfl | rfl | rfl
    · rw [lnE_0]
      by_cases h : n < 0 ∨ bare (offs [.ok, .attrs] ⟨0, f, m, t, a, c, l, n, ok⟩) = false
      · rw [if_pos h]
        exact rline_bad0 f m t a c l n ok w h
      · rw [if_neg h]
        simp only [not_or, Bool.not_eq_false] at h
        obtain ⟨hn, hbr⟩ := h
        simp only [bare, offs, off, decide_eq_true_eq] at hbr
        obtain ⟨_, _, _, e1, e2, _⟩ := hbr
        subst e1 e2
        exact rline_ok0 f m t a c ok h1 w
    · rw [lnE_1]
      by_cases h : n < 0 ∨ bare (offs [.ok, .attrs] ⟨1, f, m, t, a, c, l, n, ok⟩) = false
      · rw [if_pos h]
        exact rline_bad1 f m t a c l n ok w h
      · rw [if_neg h]
        simp only [not_or, Bool.not_eq_false] at h
        obtain ⟨hn, hbr⟩ := h
        simp only [bare, offs, off, decide_eq_true_eq] at hbr
        obtain ⟨_, _, _, e1, e2, _⟩ := hbr
        subst e1 e2
        exact rline_ok1 f m t a c ok h1 w
    · rw [lnE_2]
      by_cases h : n < 0 ∨ bare (offs [.ok, .data, .num] ⟨2, f, m, t, a, c, l, n, ok⟩) = false
      · rw [if_pos h]
        exact rline_bad2 f m t a c l n ok w h
      · rw [if_neg h]
        simp only [not_or, Bool.not_eq_false] at h
        obtain ⟨hn, hbr⟩ := h
        simp only [bare, offs, off, decide_eq_true_eq] at hbr
        obtain ⟨e1, e2, e3, _, _, _⟩ := hbr
        subst e1 e2 e3
        obtain ⟨n, rfl⟩ : ∃ q : Nat, n = (q : Int) := ⟨n.toNat, by omega⟩
        exact rline_ok2 a c l n ok h3 (by omega) w hb
    · rw [lnE_3]
      by_cases h : n < 0 ∨ bare (offs [.ok, .num] ⟨3, f, m, t, a, c, l, n, ok⟩) = false
      · rw [if_pos h]
        exact rline_bad3 f m t a c l n ok w h
      · rw [if_neg h]
        simp only [not_or, Bool.not_eq_false] at h
        obtain ⟨hn, hbr⟩ := h
        simp only [bare, offs, off, decide_eq_true_eq] at hbr
        obtain ⟨e1, e2, e3, e4, _, _⟩ := hbr
        subst e1 e2 e3 e4
        obtain ⟨n, rfl⟩ : ∃ q : Nat, n = (q : Int) := ⟨n.toNat, by omega⟩
        exact rline_ok3 a c n ok (by omega) w
    · rw [lnE_4]
      by_cases h : n < 0 ∨ bare (offs [.num] ⟨4, f, m, t, a, c, l, n, ok⟩) = false
      · rw [if_pos h]
        exact rline_bad4 f m t a c l n ok w h
      · rw [if_neg h]
        simp only [not_or, Bool.not_eq_false] at h
        obtain ⟨hn, hbr⟩ := h
        simp only [bare, offs, off, decide_eq_true_eq] at hbr
        obtain ⟨e1, e2, e3, e4, _, e6⟩ := hbr
        subst e1 e2 e3 e4 e6
        obtain ⟨n, rfl⟩ : ∃ q : Nat, n = (q : Int) := ⟨n.toNat, by omega⟩
        exact rline_ok4 a c n (by omega) w
    · rw [lnE_5]
      by_cases h : n < 0 ∨ bare (offs [] ⟨5, f, m, t, a, c, l, n, ok⟩) = false
      · rw [if_pos h]
        exact rline_bad5 f m t a c l n ok w h
      · rw [if_neg h]
        simp only [not_or, Bool.not_eq_false] at h
        obtain ⟨hn, hbr⟩ := h
        have hbr := of_decide_eq_true (show decide (f = 0 ∧ m = 0 ∧ t = 0 ∧ l = [] ∧ n = 0 ∧ ok = false) = true from hbr)
        obtain ⟨e1, e2, e3, e4, e5, e6⟩ := hbr
        subst e1 e2 e3 e4 e5 e6
        exact rline_ok5 a c w
    · rw [lnE_6]
      by_cases h : n < 0 ∨ bare (offs [] ⟨6, f, m, t, a, c, l, n, ok⟩) = false
      · rw [if_pos h]
        exact rline_bad6 f m t a c l n ok w h
      · rw [if_neg h]
        simp only [not_or, Bool.not_eq_false] at h
        obtain ⟨hn, hbr⟩ := h
        have hbr := of_decide_eq_true (show decide (f = 0 ∧ m = 0 ∧ t = 0 ∧ l = [] ∧ n = 0 ∧ ok = false) = true from hbr)
        obtain ⟨e1, e2, e3, e4, e5, e6⟩ := hbr
        subst e1 e2 e3 e4 e5 e6
        exact rline_ok6 a c w
end Go.Proofs.YtldbfjddlekakaaGreatDoor
/-
  The document's Read of a line: what the program reads.
-/
namespace Go.Proofs.YtldbfjddlekakaaGreatDoor
open Go.RowKit Go.Lib
set_option linter.unusedVariables false

theorem rread7_run (s : List UInt8) (hs : s.length ≤ 1000) (w : World) : Calls Tryz.prog 10 #[.string (st s)] w (EffTo (rdAll s) w) := by
  rw [rdAll_rf]
  by_cases h1 : s = [101, 110, 100]
  · exact rd_end s hs w h1
  by_cases h2 : s = [104, 105, 115, 116, 111, 114, 121]
  · exact rd_his s hs w h2
  by_cases h3 : (spl 32 s).length < 2
  · exact rd_few s hs w h1 h2 h3
  obtain ⟨a, b, R, hL⟩ : ∃ a b R, spl 32 s = a :: b :: R := by
    generalize spl 32 s = L at *
    rcases L with _ | ⟨a, _ | ⟨b, R⟩⟩
    · simp at h3
    · simp at h3
    · exact ⟨a, b, R, rfl⟩
  by_cases hsig : a = [115, 105, 103, 110, 97, 108]
  · by_cases hR : R = []
    · cases hv : rnum 10 18 b with
      | none => exact rd_sig2n s hs w h1 h2 a b R hL hsig hR hv
      | some v => exact rd_sig2 s hs w h1 h2 a b R hL hsig hR v hv
    · exact rd_sigx s hs w h1 h2 a b R hL hsig hR
  by_cases hok : b = [111, 107]
  · by_cases hgot : a = [103, 111, 116]
    · by_cases hR : R.length = 3
      · obtain ⟨c, d, e, hR⟩ := three hR
        by_cases hu : text (rdf (c ++ 32 :: (d ++ 32 :: e))) (rdm (c ++ 32 :: (d ++ 32 :: e))) (rdt (c ++ 32 :: (d ++ 32 :: e))) = c ++ 32 :: (d ++ 32 :: e)
        · exact rd_atgotyt s hs w h1 h2 a b R hL hgot hok c d e hR _ rfl hu _ _ _ rfl rfl rfl
        · exact rd_atgotnt s hs w h1 h2 a b R hL hgot hok c d e hR _ rfl hu
      · exact rd_gotxt s hs w h1 h2 a b R hL hgot hok hR
    by_cases hwas : a = [119, 97, 115]
    · by_cases hR : R.length = 3
      · obtain ⟨c, d, e, hR⟩ := three hR
        by_cases hu : text (rdf (c ++ 32 :: (d ++ 32 :: e))) (rdm (c ++ 32 :: (d ++ 32 :: e))) (rdt (c ++ 32 :: (d ++ 32 :: e))) = c ++ 32 :: (d ++ 32 :: e)
        · exact rd_atwasyt s hs w h1 h2 a b R hL hwas hok c d e hR _ rfl hu _ _ _ rfl rfl rfl
        · exact rd_atwasnt s hs w h1 h2 a b R hL hwas hok c d e hR _ rfl hu
      · exact rd_wasxt s hs w h1 h2 a b R hL hwas hok hR
    by_cases hwr : a = [119, 114, 111, 116, 101]
    · by_cases hR : R.length = 2
      · obtain ⟨c, d, hR⟩ : ∃ c d, R = [c, d] := by
          rcases R with _ | ⟨c, _ | ⟨d, _ | ⟨e, r⟩⟩⟩
          · simp at hR
          · simp at hR
          · exact ⟨c, d, rfl⟩
          · simp at hR
        cases hu : unhex c with
        | none => exact rd_wrote2nt s hs w h1 h2 a b R hL hwr hok c d hR hu
        | some D => cases hv : rnum 10 18 d with
          | none => exact rd_wrote2mt s hs w h1 h2 a b R hL hwr hok c d hR D hu hv
          | some v => exact rd_wrote2yt s hs w h1 h2 a b R hL hwr hok c d hR D hu v hv
      · exact rd_wrotext s hs w h1 h2 a b R hL hwr hok hR
    by_cases hrd : a = [114, 101, 97, 100]
    · by_cases hR : R.length = 1
      · obtain ⟨c, hR⟩ := List.length_eq_one_iff.1 hR
        cases hv : rnum 10 18 c with
        | none => exact rd_read3nt s hs w h1 h2 a b R hL hrd hok c hR hv
        | some v => exact rd_read3t s hs w h1 h2 a b R hL hrd hok c hR v hv
      · exact rd_readxt s hs w h1 h2 a b R hL hrd hok hR
    · exact rd_deft s hs w h1 h2 a b R hL hgot hwas hwr hrd hsig hok
  by_cases hfa : b = [102, 97, 105, 108]
  · by_cases hgot : a = [103, 111, 116]
    · by_cases hR : R.length = 3
      · obtain ⟨c, d, e, hR⟩ := three hR
        by_cases hu : text (rdf (c ++ 32 :: (d ++ 32 :: e))) (rdm (c ++ 32 :: (d ++ 32 :: e))) (rdt (c ++ 32 :: (d ++ 32 :: e))) = c ++ 32 :: (d ++ 32 :: e)
        · exact rd_atgotyf s hs w h1 h2 a b R hL hgot hfa c d e hR _ rfl hu _ _ _ rfl rfl rfl
        · exact rd_atgotnf s hs w h1 h2 a b R hL hgot hfa c d e hR _ rfl hu
      · exact rd_gotxf s hs w h1 h2 a b R hL hgot hfa hR
    by_cases hwas : a = [119, 97, 115]
    · by_cases hR : R.length = 3
      · obtain ⟨c, d, e, hR⟩ := three hR
        by_cases hu : text (rdf (c ++ 32 :: (d ++ 32 :: e))) (rdm (c ++ 32 :: (d ++ 32 :: e))) (rdt (c ++ 32 :: (d ++ 32 :: e))) = c ++ 32 :: (d ++ 32 :: e)
        · exact rd_atwasyf s hs w h1 h2 a b R hL hwas hfa c d e hR _ rfl hu _ _ _ rfl rfl rfl
        · exact rd_atwasnf s hs w h1 h2 a b R hL hwas hfa c d e hR _ rfl hu
      · exact rd_wasxf s hs w h1 h2 a b R hL hwas hfa hR
    by_cases hwr : a = [119, 114, 111, 116, 101]
    · by_cases hR : R.length = 2
      · obtain ⟨c, d, hR⟩ : ∃ c d, R = [c, d] := by
          rcases R with _ | ⟨c, _ | ⟨d, _ | ⟨e, r⟩⟩⟩
          · simp at hR
          · simp at hR
          · exact ⟨c, d, rfl⟩
          · simp at hR
        cases hu : unhex c with
        | none => exact rd_wrote2nf s hs w h1 h2 a b R hL hwr hfa c d hR hu
        | some D => cases hv : rnum 10 18 d with
          | none => exact rd_wrote2mf s hs w h1 h2 a b R hL hwr hfa c d hR D hu hv
          | some v => exact rd_wrote2yf s hs w h1 h2 a b R hL hwr hfa c d hR D hu v hv
      · exact rd_wrotexf s hs w h1 h2 a b R hL hwr hfa hR
    by_cases hrd : a = [114, 101, 97, 100]
    · by_cases hR : R.length = 1
      · obtain ⟨c, hR⟩ := List.length_eq_one_iff.1 hR
        cases hv : rnum 10 18 c with
        | none => exact rd_read3nf s hs w h1 h2 a b R hL hrd hfa c hR hv
        | some v => exact rd_read3f s hs w h1 h2 a b R hL hrd hfa c hR v hv
      · exact rd_readxf s hs w h1 h2 a b R hL hrd hfa hR
    · exact rd_deff s hs w h1 h2 a b R hL hgot hwas hwr hrd hsig hfa
  · exact rd_no s hs w h1 h2 a b R hL hsig hok hfa
end Go.Proofs.YtldbfjddlekakaaGreatDoor
/-
  The walk of TraceLines over what its calls answer.
-/
namespace Go.Proofs.YtldbfjddlekakaaGreatDoor
open Go.RowKit Go.Lib
set_option linter.unusedVariables false
theorem er_one {W : World} {g : Nat} {k : Int} {f m t : Nat} {a : Option Addr} {c : Nat} {l : List UInt8} {n : Int} {ok : Bool} (h : EAt W g k f m t (.slice a l.length c) n ok) (hd : Ed W ⟨k, f, m, t, a, c, l, n, ok⟩) : Er W (some ⟨g, 0, none⟩) [⟨k, f, m, t, a, c, l, n, ok⟩] :=
  ⟨fun x hx => by rw [List.mem_singleton.1 hx]; exact hd, fun _ => ⟨g, 0, rfl, fun i x hx => by
    cases i with
    | zero =>
      simp at hx
      subst hx
      exact ⟨h.c0, h.c1, h.c2, h.c3, h.c4, h.c5, h.c6⟩
    | succ i => simp at hx⟩⟩
set_option maxHeartbeats 2000000 in
set_option maxRecDepth 100000 in
theorem lines_walk0 (x : Ev) (S0 : ByteArray) (w : World) (S : ByteArray) (lc cd : Int) (k : Int) (f m t : Nat) (l : List UInt8) (n : Int) (ok : Bool) (hcd : IntKind.i64.wrap cd = cd) (hlc : IntKind.i64.wrap lc = lc)
    (hx : x.l.length ≤ 1000) (hs : S0.size ≤ 1000)
    (KA : Hid (∀ W, Stp [] w [] W → Calls Tryz.prog 6 #[] W fun en w' => en = .returned (.bool true) ∧ Stp [] W [] w'))
    (KL : Hid (∀ W, Stp [] w [] W → Calls Tryz.prog 7 #[.agg #[.int .i64 x.k, .int .u32 (x.f : Int), .int .u8 (x.m : Int), .int .u8 (x.t : Int), .slice x.a x.l.length x.c, .int .i64 x.n, .bool x.ok]] W fun en w' => en = .returned (.tuple #[.string S, .int .i64 lc]) ∧ Stp [] W [] w'))
    (KL2 : Hid (∀ W, Stp [] w [] W → Calls Tryz.prog 8 #[.agg #[.int .i64 x.k, .int .u32 (x.f : Int), .int .u8 (x.m : Int), .int .u8 (x.t : Int), .slice x.a x.l.length x.c, .int .i64 x.n, .bool x.ok]] W fun en w' => en = .returned (.tuple #[.string S, .int .i64 lc]) ∧ Stp [] W [] w'))
    (KR : Hid (∀ W, Stp [] w [] W → Calls Tryz.prog 9 #[.string S0] W fun en w' => ∃ a c, en = .returned (.tuple #[.agg #[.int .i64 k, .int .u32 (f : Int), .int .u8 (m : Int), .int .u8 (t : Int), .slice a l.length c, .int .i64 n, .bool ok], .int .i64 cd]) ∧ Ed w' ⟨k, f, m, t, a, c, l, n, ok⟩ ∧ Stp [] W [] w'))
    (KR2 : Hid (∀ W, Stp [] w [] W → Calls Tryz.prog 10 #[.string S0] W fun en w' => ∃ a c, en = .returned (.tuple #[.agg #[.int .i64 k, .int .u32 (f : Int), .int .u8 (m : Int), .int .u8 (t : Int), .slice a l.length c, .int .i64 n, .bool ok], .int .i64 cd]) ∧ Ed w' ⟨k, f, m, t, a, c, l, n, ok⟩ ∧ Stp [] W [] w'))
    (KM : Hid (∀ W a c a' c' g g', Stp [] w [] W → Er W (some ⟨g, 0, none⟩) [⟨k, f, m, t, a, c, l, n, ok⟩] → Er W (some ⟨g', 0, none⟩) [⟨k, f, m, t, a', c', l, n, ok⟩] → Calls Tryz.prog 11 #[.slice (some ⟨g, 0, none⟩) 1 1, .slice (some ⟨g', 0, none⟩) 1 1] W fun en w' => en = .returned (.bool true) ∧ Stp [] W [] w')) :
    Calls Tryz.prog 3 #[.agg #[.int .i64 x.k, .int .u32 (x.f : Int), .int .u8 (x.m : Int), .int .u8 (x.t : Int), .slice x.a x.l.length x.c, .int .i64 x.n, .bool x.ok], .string S0] w (Tells (.bool true) w) := by
  have hx1 : ¬ (1000 : Int) < (x.l.length : Int) := by omega
  have hs1 : ¬ (1000 : Int) < (S0.size : Int) := by omega
  have hs2 : ¬ 1000 < S0.size := by omega
  obtain ⟨xk, xf, xm, xt, xa, xc, xl, xn, xok⟩ := x
  dsimp only at hx1 KL KL2
  clear hx hs
  generalize xl.length = ln at *
  go_enter Tryz.func3, Tryz.ntmps3
  have H1 : Aside (EAt (w.alloc (.cells #[.int .i64 xk, .int .u32 (xf : Int), .int .u8 (xm : Int), .int .u8 (xt : Int), .slice xa ln xc, .int .i64 xn, .bool xok] 27)) w.heap.size xk xf xm xt (.slice xa ln xc) xn xok ∧ Stp [] w [] (w.alloc (.cells #[.int .i64 xk, .int .u32 (xf : Int), .int .u8 (xm : Int), .int .u8 (xt : Int), .slice xa ln xc, .int .i64 xn, .bool xok] 27))) := ⟨heap_alloc_new w _, Stp.alloc [] w _⟩
  go_wp2_with fail
  refine (KL.out _ H1.out.2).mono ?_
  rintro _ w2 ⟨rfl, s2⟩
  have H2 : Aside (EAt w2 w.heap.size xk xf xm xt (.slice xa ln xc) xn xok ∧ Stp [] w [] w2) := ⟨H1.out.1.other s2 (by simp), H1.out.2.trans s2⟩
  clear s2 H1 KL
  obtain ⟨ge, hge⟩ : ∃ g, g = w.heap.size := ⟨_, rfl⟩
  rw [← hge] at H2 ⊢
  have c0 := H2.out.1.c0
  have c1 := H2.out.1.c1
  have c2 := H2.out.1.c2
  have c3 := H2.out.1.c3
  have c4 := H2.out.1.c4
  have c5 := H2.out.1.c5
  have c6 := H2.out.1.c6
  clear hge
  go_wp2_with fail
  refine (KL2.out _ H2.out.2).mono ?_
  rintro _ w3 ⟨rfl, s3⟩
  have H3 : Aside (Stp [] w [] w3) := H2.out.2.trans s3
  clear s3 H2 KL2 c0 c1 c2 c3 c4 c5 c6
  go_wp2_with fail
  refine (KR.out _ H3.out).mono ?_
  rintro _ w4 ⟨a1, ca1, rfl, d1, s4⟩
  have H4 : Aside (Ed w4 ⟨k, f, m, t, a1, ca1, l, n, ok⟩ ∧ Stp [] w [] w4) := ⟨d1, H3.out.trans s4⟩
  clear d1 s4 KR H3
  go_wp2_with fail
  obtain ⟨g1, hg1⟩ : ∃ g, g = w4.heap.size := ⟨_, rfl⟩
  have H5 : Aside (EAt (w4.alloc (.cells #[.int .i64 k, .int .u32 (f : Int), .int .u8 (m : Int), .int .u8 (t : Int), .slice a1 l.length ca1, .int .i64 n, .bool ok] 27)) g1 k f m t (.slice a1 l.length ca1) n ok ∧ Ed (w4.alloc (.cells #[.int .i64 k, .int .u32 (f : Int), .int .u8 (m : Int), .int .u8 (t : Int), .slice a1 l.length ca1, .int .i64 n, .bool ok] 27)) ⟨k, f, m, t, a1, ca1, l, n, ok⟩ ∧ Stp [] w [] (w4.alloc (.cells #[.int .i64 k, .int .u32 (f : Int), .int .u8 (m : Int), .int .u8 (t : Int), .slice a1 l.length ca1, .int .i64 n, .bool ok] 27))) := ⟨by rw [hg1]; exact heap_alloc_new w4 _, H4.out.1.stays (Stp.alloc [] w4 _), H4.out.2.trans (Stp.alloc [] w4 _)⟩
  rw [← hg1]
  clear hg1 H4
  generalize w4.alloc (.cells #[.int .i64 k, .int .u32 (f : Int), .int .u8 (m : Int), .int .u8 (t : Int), .slice a1 l.length ca1, .int .i64 n, .bool ok] 27) = w5 at *
  refine (KR2.out _ H5.out.2.2).mono ?_
  rintro _ w6 ⟨a2, ca2, rfl, d2, s6⟩
  have H6 : Aside (EAt w6 g1 k f m t (.slice a1 l.length ca1) n ok ∧ Ed w6 ⟨k, f, m, t, a1, ca1, l, n, ok⟩ ∧ Ed w6 ⟨k, f, m, t, a2, ca2, l, n, ok⟩ ∧ Stp [] w [] w6) := ⟨H5.out.1.other s6 (by simp), H5.out.2.1.stays s6, d2, H5.out.2.2.trans s6⟩
  clear d2 s6 KR2 H5
  go_wp2_with fail
  obtain ⟨g2, hg2⟩ : ∃ g, g = w6.heap.size := ⟨_, rfl⟩
  have H7 : Aside (EAt (w6.alloc (.cells #[.int .i64 k, .int .u32 (f : Int), .int .u8 (m : Int), .int .u8 (t : Int), .slice a2 l.length ca2, .int .i64 n, .bool ok] 27)) g1 k f m t (.slice a1 l.length ca1) n ok ∧ EAt (w6.alloc (.cells #[.int .i64 k, .int .u32 (f : Int), .int .u8 (m : Int), .int .u8 (t : Int), .slice a2 l.length ca2, .int .i64 n, .bool ok] 27)) g2 k f m t (.slice a2 l.length ca2) n ok ∧ Ed (w6.alloc (.cells #[.int .i64 k, .int .u32 (f : Int), .int .u8 (m : Int), .int .u8 (t : Int), .slice a2 l.length ca2, .int .i64 n, .bool ok] 27)) ⟨k, f, m, t, a1, ca1, l, n, ok⟩ ∧ Ed (w6.alloc (.cells #[.int .i64 k, .int .u32 (f : Int), .int .u8 (m : Int), .int .u8 (t : Int), .slice a2 l.length ca2, .int .i64 n, .bool ok] 27)) ⟨k, f, m, t, a2, ca2, l, n, ok⟩ ∧ Stp [] w [] (w6.alloc (.cells #[.int .i64 k, .int .u32 (f : Int), .int .u8 (m : Int), .int .u8 (t : Int), .slice a2 l.length ca2, .int .i64 n, .bool ok] 27))) := ⟨H6.out.1.other (Stp.alloc [] w6 _) (by simp), by rw [hg2]; exact heap_alloc_new w6 _, H6.out.2.1.stays (Stp.alloc [] w6 _), H6.out.2.2.1.stays (Stp.alloc [] w6 _), H6.out.2.2.2.trans (Stp.alloc [] w6 _)⟩
  rw [← hg2]
  clear hg2 H6
  generalize w6.alloc (.cells #[.int .i64 k, .int .u32 (f : Int), .int .u8 (m : Int), .int .u8 (t : Int), .slice a2 l.length ca2, .int .i64 n, .bool ok] 27) = w7 at *
  refine (KA.out _ H7.out.2.2.2.2).mono ?_
  rintro _ w8 ⟨rfl, s8⟩
  have H8 : Aside (EAt w8 g1 k f m t (.slice a1 l.length ca1) n ok ∧ EAt w8 g2 k f m t (.slice a2 l.length ca2) n ok ∧ Ed w8 ⟨k, f, m, t, a1, ca1, l, n, ok⟩ ∧ Ed w8 ⟨k, f, m, t, a2, ca2, l, n, ok⟩ ∧ Stp [] w [] w8) := ⟨H7.out.1.other s8 (by simp), H7.out.2.1.other s8 (by simp), H7.out.2.2.1.stays s8, H7.out.2.2.2.1.stays s8, H7.out.2.2.2.2.trans s8⟩
  clear H7 s8 KA
  have ht2 := beq_self_eq_true S.toList
  have hl1 : (lc == lc) = true := by simp
  have hl2 : (cd == cd) = true := by simp
  have x0 := H8.out.1.c0
  have x1 := H8.out.1.c1
  have x2 := H8.out.1.c2
  have x3 := H8.out.1.c3
  have x4 := H8.out.1.c4
  have x5 := H8.out.1.c5
  have x6 := H8.out.1.c6
  have y0 := H8.out.2.1.c0
  have y1 := H8.out.2.1.c1
  have y2 := H8.out.2.1.c2
  have y3 := H8.out.2.1.c3
  have y4 := H8.out.2.1.c4
  have y5 := H8.out.2.1.c5
  have y6 := H8.out.2.1.c6
  have hne : ¬ g2 = w8.heap.size := by have := H8.out.2.1.lt; omega
  have hne2 : ¬ w8.heap.size = g2 := fun e => hne e.symm
  have HY := H8.out.2.1.other (Stp.alloc [] w8 (.cells #[.int .i64 k, .int .u32 (f : Int), .int .u8 (m : Int), .int .u8 (t : Int), .slice a1 l.length ca1, .int .i64 n, .bool ok] 27)) (by simp)
  have u0 := HY.c0
  have u1 := HY.c1
  have u2 := HY.c2
  have u3 := HY.c3
  have u4 := HY.c4
  have u5 := HY.c5
  have u6 := HY.c6
  clear HY
  go_wp2_with fail
  have HS : Stp [] w8 [] ((w8.alloc (.cells #[.int .i64 k, .int .u32 (f : Int), .int .u8 (m : Int), .int .u8 (t : Int), .slice a1 l.length ca1, .int .i64 n, .bool ok] 27)).alloc (.cells #[.int .i64 k, .int .u32 (f : Int), .int .u8 (m : Int), .int .u8 (t : Int), .slice a2 l.length ca2, .int .i64 n, .bool ok] 27)) := (Stp.alloc [] w8 _).trans (Stp.alloc [] _ _)
  have HE1 : Er ((w8.alloc (.cells #[.int .i64 k, .int .u32 (f : Int), .int .u8 (m : Int), .int .u8 (t : Int), .slice a1 l.length ca1, .int .i64 n, .bool ok] 27)).alloc (.cells #[.int .i64 k, .int .u32 (f : Int), .int .u8 (m : Int), .int .u8 (t : Int), .slice a2 l.length ca2, .int .i64 n, .bool ok] 27)) (some ⟨w8.heap.size, 0, none⟩) [⟨k, f, m, t, a1, ca1, l, n, ok⟩] := er_one ((show EAt (w8.alloc (.cells #[.int .i64 k, .int .u32 (f : Int), .int .u8 (m : Int), .int .u8 (t : Int), .slice a1 l.length ca1, .int .i64 n, .bool ok] 27)) w8.heap.size k f m t (.slice a1 l.length ca1) n ok from heap_alloc_new w8 _).other (Stp.alloc [] _ _) (by simp)) (H8.out.2.2.1.stays HS)
  have HE2 : Er ((w8.alloc (.cells #[.int .i64 k, .int .u32 (f : Int), .int .u8 (m : Int), .int .u8 (t : Int), .slice a1 l.length ca1, .int .i64 n, .bool ok] 27)).alloc (.cells #[.int .i64 k, .int .u32 (f : Int), .int .u8 (m : Int), .int .u8 (t : Int), .slice a2 l.length ca2, .int .i64 n, .bool ok] 27)) (some ⟨w8.heap.size + 1, 0, none⟩) [⟨k, f, m, t, a2, ca2, l, n, ok⟩] := er_one (by have h := heap_alloc_new (w8.alloc (.cells #[.int .i64 k, .int .u32 (f : Int), .int .u8 (m : Int), .int .u8 (t : Int), .slice a1 l.length ca1, .int .i64 n, .bool ok] 27)) (.cells #[.int .i64 k, .int .u32 (f : Int), .int .u8 (m : Int), .int .u8 (t : Int), .slice a2 l.length ca2, .int .i64 n, .bool ok] 27); rw [World.size_alloc] at h; exact h) (H8.out.2.2.2.1.stays HS)
  refine (KM.out _ _ _ _ _ _ _ (H8.out.2.2.2.2.trans HS) HE1 HE2).mono ?_
  rintro _ w9 ⟨rfl, s9⟩
  have H9 : Aside (Stp [] w [] w9) := (H8.out.2.2.2.2.trans HS).trans s9
  clear HS HE1 HE2 s9 KM
  go_wp2
  go_ret
  exact ⟨rfl, H9.out⟩
end Go.Proofs.YtldbfjddlekakaaGreatDoor
/-
  The walk of TraceLines where an argument is too long.
-/
namespace Go.Proofs.YtldbfjddlekakaaGreatDoor
open Go.RowKit Go.Lib
set_option linter.unusedVariables false
set_option maxHeartbeats 2000000 in
set_option maxRecDepth 100000 in
theorem lines_long (x : Ev) (S0 : ByteArray) (w : World) (hx : 1000 < x.l.length ∨ 1000 < S0.size)
    (KA : Hid (∀ W, Stp [] w [] W → Calls Tryz.prog 6 #[] W fun en w' => en = .returned (.bool true) ∧ Stp [] W [] w')) :
    Calls Tryz.prog 3 #[.agg #[.int .i64 x.k, .int .u32 (x.f : Int), .int .u8 (x.m : Int), .int .u8 (x.t : Int), .slice x.a x.l.length x.c, .int .i64 x.n, .bool x.ok], .string S0] w (Tells (.bool true) w) := by
  obtain ⟨xk, xf, xm, xt, xa, xc, xl, xn, xok⟩ := x
  dsimp only at hx ⊢
  by_cases h1 : 1000 < xl.length
  · have hx1 : (1000 : Int) < (xl.length : Int) := by omega
    clear hx
    go_enter Tryz.func3, Tryz.ntmps3
    go_wp2_with fail
    refine (KA.out _ (Stp.alloc [] w _)).mono ?_
    rintro _ w2 ⟨rfl, s2⟩
    have H2 : Aside (Stp [] w [] w2) := (Stp.alloc [] w _).trans s2
    clear s2 KA
    go_wp2
    go_ret
    exact ⟨rfl, H2.out⟩
  · have hx1 : ¬ (1000 : Int) < (xl.length : Int) := by omega
    have hs2 : 1000 < S0.size := by omega
    have hs1 : (1000 : Int) < (S0.size : Int) := by omega
    clear hx
    go_enter Tryz.func3, Tryz.ntmps3
    go_wp2_with fail
    refine (KA.out _ (Stp.alloc [] w _)).mono ?_
    rintro _ w2 ⟨rfl, s2⟩
    have H2 : Aside (Stp [] w [] w2) := (Stp.alloc [] w _).trans s2
    clear s2 KA
    go_wp2
    go_ret
    exact ⟨rfl, H2.out⟩
end Go.Proofs.YtldbfjddlekakaaGreatDoor
/-
  The walk of TraceLines: of any effect the line is the document's, of any text the effect is.
-/
namespace Go.Proofs.YtldbfjddlekakaaGreatDoor
open Go.RowKit Go.Lib
set_option linter.unusedVariables false

/-- What is read, with its parts as letters. -/
theorem eff_any (o : Option (Nat × Ef)) : ∃ (k : Int) (f m t : Nat) (l : List UInt8) (n : Int) (ok : Bool) (cd : Int), IntKind.i64.wrap cd = cd ∧ ∀ en w w', EffTo o w en w' →
    ∃ a c, en = .returned (.tuple #[.agg #[.int .i64 k, .int .u32 (f : Int), .int .u8 (m : Int), .int .u8 (t : Int), .slice a l.length c, .int .i64 n, .bool ok], .int .i64 cd]) ∧ Ed w' ⟨k, f, m, t, a, c, l, n, ok⟩ ∧ Stp [] w [] w' := by
  cases o with
  | none => exact ⟨0, 0, 0, 0, [], 0, false, 8, rfl, fun en w w' h => ⟨none, 0, h.2, ⟨Bts.nil _ _, Nat.le_refl _, fun _ => rfl⟩, h.1⟩⟩
  | some p =>
    obtain ⟨k, z⟩ := p
    refine ⟨k, z.f, z.m, z.t, z.d, z.n, z.ok, 0, rfl, fun en w w' h => ?_⟩
    obtain ⟨h1, d, rfl, a, c, rfl, h2, h3, h4, _⟩ := h
    exact ⟨a, c, rfl, ⟨h2, h3, h4⟩, h1⟩
theorem lnE_code (x : Ev) : IntKind.i64.wrap (lnE x).2 = (lnE x).2 := by
  have h : (lnE x).2 = 0 ∨ (lnE x).2 = 8 ∨ (lnE x).2 = 9 := by
    unfold lnE
    (repeat' split) <;> simp
  rcases h with h | h | h <;> rw [h] <;> rfl
theorem lines_walk (x : Ev) (s : ByteArray) (w : World) (hT : Tabs w) (hd : Ed w x) (hatt : Ok x.f x.m x.t) (htop : x.n ≤ 9223372036854775807) :
    Calls Tryz.prog 3 #[.agg #[.int .i64 x.k, .int .u32 (x.f : Int), .int .u8 (x.m : Int), .int .u8 (x.t : Int), .slice x.a x.l.length x.c, .int .i64 x.n, .bool x.ok], .string s] w (Tells (.bool true) w) := by
  have KA : Hid (∀ W, Stp [] w [] W → Calls Tryz.prog 6 #[] W fun en w' => en = .returned (.bool true) ∧ Stp [] W [] w') := Lib.hid fun W hs => talive_run W (hT.stays hs)
  by_cases hl : x.l.length ≤ 1000
  · by_cases hs : s.size ≤ 1000
    · obtain ⟨k, f, m, t, l, n, ok, cd, hcd, hE⟩ := eff_any (rdAll s.data.toList)
      have hss : st s.data.toList = s := st_of s
      have hsl : s.data.toList.length ≤ 1000 := by rw [← hss, st_size] at hs; exact hs
      have hn : l.length ≤ 100000 ∨ True := .inr trivial
      refine lines_walk0 x s w (st (lnE x).1) (lnE x).2 cd k f m t l n ok hcd (lnE_code x) hl hs KA
        (Lib.hid fun W hW => tline_run x hatt htop (by omega) W (hT.stays hW) (hd.stays hW))
        (Lib.hid fun W hW => rline_run x hatt htop (by omega) W (hd.stays hW).1)
        (Lib.hid fun W hW => ?_) (Lib.hid fun W hW => ?_) (Lib.hid fun W a c a' c' g g' hW h1 h2 => ?_)
      · have h := tread_run s.data.toList (by omega) W (hT.stays hW)
        rw [hss] at h
        exact h.mono fun en w' h => hE en W w' h
      · have h := rread7_run s.data.toList hsl W
        rw [hss] at h
        exact h.mono fun en w' h => hE en W w' h
      · have h := rsame_run (some ⟨g, 0, none⟩) (some ⟨g', 0, none⟩) 1 1 [⟨k, f, m, t, a, c, l, n, ok⟩] [⟨k, f, m, t, a', c', l, n, ok⟩] W h1 h2 (by simp) (by simp)
        have e : smes [(⟨k, f, m, t, a, c, l, n, ok⟩ : Ev)] [⟨k, f, m, t, a', c', l, n, ok⟩] = true := by simp [smes, sme]
        rw [e] at h
        exact h
    · exact lines_long x s w (.inr (by omega)) KA
  · exact lines_long x s w (.inl (by omega)) KA
theorem lines_truth (x : Ev) (s : ByteArray) (w : World) (hT : Tabs w) (hd : Ed w x) (hatt : Ok x.f x.m x.t) (htop : x.n ≤ 9223372036854775807) :
    Calls Tryz.prog 3 #[.agg #[.int .i64 x.k, .int .u32 (x.f : Int), .int .u8 (x.m : Int), .int .u8 (x.t : Int), .slice x.a x.l.length x.c, .int .i64 x.n, .bool x.ok], .string s] w (Truth w) :=
  (lines_walk x s w hT hd hatt htop).mono fun _ _ ⟨h1, h2⟩ => ⟨h1, h2.under⟩
end Go.Proofs.YtldbfjddlekakaaGreatDoor
