/-
  TraceWhole's walk.
-/
import Derived.Test.YtkdpklebddhfeaaGreatDoorWrt
import Derived.Test.YtkdpklebddhfeaaGreatDoorSame
import Derived.Deep.DeepCutAuto
import Derived.Deep.CutBlock
import Derived.Deep.RegionWith
namespace Go.Proofs.YtkdpklebddhfeaaGreatDoor
open Go.RowKit Go.Lib
set_option linter.unusedVariables false

theorem row_cells (V : List Value) (t : TypeId) (w : World) (j : Nat) (u : Value) (h : V[j]? = some u) : (w.alloc (.cells V.toArray t)).cell? ((⟨w.heap.size, 0, none⟩ : Addr).add j) = some u := by
  rw [addr_add, cell_of_row _ w.heap.size _ _ _ _ (heap_alloc_new w _), Nat.zero_add]
  simpa using h
/-- An effect that wrote. -/
def wroteE (a : Option Addr) (c : Nat) (l : List UInt8) (n : Nat) : Ev := ⟨2, 0, 0, 0, a, c, l, n, true⟩
theorem wr1_wrote (a : Option Addr) (c : Nat) (l : List UInt8) (n : Nat) (h : n ≤ l.length) : wr1 (wroteE a c l n) = l.take n := by
  unfold wr1 wroteE
  have : (min (max (n : Int) 0) (l.length : Int)).toNat = n := by omega
  simp only [if_true, this]
theorem wr1_no (y : Ev) (h : ¬ y.k = 2) : wr1 y = [] := by
  unfold wr1
  rw [if_neg h]
theorem wrt_app (L M : List Ev) : wrt (L ++ M) = wrt L ++ wrt M := by simp [wrt]
theorem cutp_none {a : Option Addr} {c k : Nat} (h : a = none → c = 0) : cutp a k c = none → c - k = 0 := by
  unfold cutp
  split
  · intro e
    have := h e
    omega
  · intro e
    rcases a with _ | ad
    · have := h rfl
      omega
    · cases e
theorem EOwn.app {w W W' : World} {v : Value} {L : List Ev} (h : Stp [] w [] W) (ho : EOwn W w.heap.size v L) (hg : W.grownBy W' v.ownBlock) : Stp [] w [] W' := h.app hg (fun k hk => (ho.lt k hk).1)
set_option maxHeartbeats 2000000 in
set_option maxRecDepth 100000 in
theorem whole_walk (a : Option Addr) (cap : Nat) (bl : List UInt8) (a2 : Option Addr) (cap2 : Nat) (cl : List UInt8) (y : Ev) (w : World) (hT : Tabs w) (hb : Bts w a bl) (hbc : bl.length ≤ cap) (hbn : a = none → cap = 0) (hc : Bts w a2 cl) (hy : Ed w y) :
    Calls Tryz.prog 7 #[.slice a bl.length cap, .slice a2 cl.length cap2, .agg #[.int .i64 y.k, .int .u32 (y.f : Int), .int .u8 (y.m : Int), .int .u8 (y.t : Int), .slice y.a y.l.length y.c, .int .i64 y.n, .bool y.ok]] w (Truth w) := by
  have HT : Aside (Tabs w ∧ Bts w a bl ∧ Bts w a2 cl ∧ Ed w y) := ⟨hT, hb, hc, hy⟩
  have KA : Hid (∀ W, Stp [] w [] W → Calls Tryz.prog 8 #[] W (Tells (.bool true) W)) := Lib.hid fun W hs => talive_run W (HT.out.1.stays hs)
  clear hT hb hc hy
  go_enter Tryz.func7, Tryz.ntmps7
  go_wp2_with fail
  refine (KA.out _ (Stp.alloc [] _ _)).mono ?_
  rintro _ w1 ⟨rfl, h1⟩
  have q : EAt (w.alloc (.cells #[.int .i64 y.k, .int .u32 (y.f : Int), .int .u8 (y.m : Int), .int .u8 (y.t : Int), .slice y.a y.l.length y.c, .int .i64 y.n, .bool y.ok] 27)) w.heap.size y.k y.f y.m y.t (.slice y.a y.l.length y.c) y.n y.ok := heap_alloc_new _ _
  have E1 := q.other h1 (by simp)
  have H1 : Aside (EAt w1 w.heap.size y.k y.f y.m y.t (.slice y.a y.l.length y.c) y.n y.ok ∧ Stp [] w [] w1) := ⟨E1, (Stp.alloc [] _ _).trans h1⟩
  have c0 := E1.c0
  clear q E1 h1
  by_cases hA : 1000 < bl.length
  · have hAz : (1000 : Int) < (bl.length : Int) := by omega
    clear c0
    go_wp2_with (go_at_call 8; refine (KA.out _ H1.out.2).mono ?_; rintro _ w2 ⟨rfl, h2⟩)
    go_ret
    exact ⟨rfl, (H1.out.2.trans h2).under⟩
  have hAz : ¬ (1000 : Int) < (bl.length : Int) := by omega
  by_cases hB : 60 < cl.length
  · have hBz : (60 : Int) < (cl.length : Int) := by omega
    clear c0
    go_wp2_with (go_at_call 8; refine (KA.out _ H1.out.2).mono ?_; rintro _ w2 ⟨rfl, h2⟩)
    go_ret
    exact ⟨rfl, (H1.out.2.trans h2).under⟩
  have hBz : ¬ (60 : Int) < (cl.length : Int) := by omega
  by_cases hC : y.k = 2
  · have hCz : (y.k == 2) = true := by rw [hC]; rfl
    go_wp2_with (go_at_call 8; refine (KA.out _ H1.out.2).mono ?_; rintro _ w2 ⟨rfl, h2⟩)
    go_ret
    exact ⟨rfl, (H1.out.2.trans h2).under⟩
  have hCz : (y.k == 2) = false := beq_eq_false_iff_ne.2 hC
  have HB : Aside (Bts w1 a bl ∧ Bts w1 a2 cl ∧ Ed w1 y) := ⟨HT.out.2.1.stays H1.out.2, HT.out.2.2.1.stays H1.out.2, HT.out.2.2.2.stays H1.out.2⟩
  go_wp2
  clear c0
  go_loopg [7, 8, 33] cl.length (fun gk v7 v8 v33 wr => ∃ (i : Nat) (r : List UInt8) (ra : Option Addr) (rc : Nat), v8 = .slice ra r.length rc ∧ v33 = .int .i64 (i : Int) ∧ i ≤ cl.length ∧ cl.length - i ≤ gk ∧ r.length ≤ bl.length ∧ Aside (∃ L, EOwn wr w1.heap.size v7 L ∧ L.length = 2 * i ∧ (∀ x ∈ L, Ed w1 x) ∧ wrt L ++ r = bl ∧ Bts w1 ra r ∧ r.length ≤ rc ∧ (ra = none → rc = 0) ∧ Stp [] w1 [] wr))
  case atStart => exact ⟨0, bl, a, cap, rfl, rfl, by omega, by omega, by omega, [], EOwn.nil _ _, rfl, (fun x hx => by cases hx), rfl, HB.out.1, hbc, hbn, Stp.refl _ _⟩
  case round =>
    obtain ⟨i, r, ra, rc, rfl, rfl, hi, hg, hrl, HS⟩ := hrel
    obtain ⟨L, hO, hL, hd, hw, hr1, hr2, hr3, hSt⟩ := HS.out
    obtain ⟨a7, c7, hv7, _, _, _⟩ := hO.er (fun x hx => (hd x hx).stays hSt)
    subst hv7
    have E1 := H1.out.1.other hSt (by simp)
    by_cases hlt : i < cl.length
    · have hltz : (i : Int) < (cl.length : Int) := by omega
      obtain ⟨b2, o2, ha2, hc2⟩ := HB.out.2.1.at hlt
      subst ha2
      have e0 := hSt.keepsAny hc2
      unfold bval at e0
      generalize hcc : (cl[i]!).toNat = cv at e0
      have hcv : cv < 256 := by rw [← hcc]; exact UInt8.toNat_lt _
      clear hcc hc2
      obtain ⟨k, hk⟩ : ∃ k, cv % (r.length + 1) = k := ⟨_, rfl⟩
      have hkl : k ≤ r.length := by have := Nat.mod_lt cv (show 0 < r.length + 1 by omega); omega
      have m1 : (cv : Int) % ((r.length : Int) + 1) = (k : Int) := by rw [← hk]; exact (Int.natCast_emod cv (r.length + 1)).symm
      have m2 : Int.tmod (cv : Int) ((r.length : Int) + 1) = (k : Int) := by rw [Int.tmod_eq_emod_of_nonneg (by omega)]; exact m1
      have hnz : ¬ (r.length : Int) + 1 = 0 := by omega
      have hcut : ∀ W, (Instr.slice 25 (.slice ra r.length rc) (some (.int .i64 (k : Int))) none none).run Tryz.prog W = .ok (.slice (cutp ra k rc) (r.length - k) (rc - k)) W := fun W => cut_l _ _ _ k hkl W
      have HN : Aside (∀ (v' : Value) (w' : World), EOwn w' w1.heap.size v' (L ++ [wroteE ra rc r k, y]) → Stp [] w1 [] w' → ∃ L', EOwn w' w1.heap.size v' L' ∧ L'.length = 2 * (i + 1) ∧ (∀ x ∈ L', Ed w1 x) ∧ wrt L' ++ r.drop k = bl ∧ Bts w1 (cutp ra k rc) (r.drop k) ∧ (r.drop k).length ≤ rc - k ∧ (cutp ra k rc = none → rc - k = 0) ∧ Stp [] w1 [] w') := fun v' w' h1 h2 => by
        refine ⟨_, h1, by simp [hL]; omega, fun x hx => ?_, ?_, ?_, by rw [List.length_drop]; omega, cutp_none hr3, h2⟩
        · rcases List.mem_append.1 hx with h | h
          · exact hd x h
          · simp at h
            rcases h with rfl | rfl
            · exact ⟨hr1, hr2, hr3⟩
            · exact HB.out.2.2
        · rw [wrt_app, ← hw]
          have : wrt [wroteE ra rc r k, y] = r.take k := by
            show wr1 (wroteE ra rc r k) ++ (wr1 y ++ []) = _
            rw [wr1_wrote _ _ _ _ hkl, wr1_no y hC]
            simp
          rw [this]
          simp
        · have := hr1.cut (i := k) (j := r.length) (N := rc) hkl (Nat.le_refl _) hr2
          rwa [List.take_of_length_le (by simp)] at this
      have HO : Aside (EOwn wr w1.heap.size (.slice a7 L.length c7) L ∧ Stp [] w1 [] wr ∧ L.length ≤ 120) := ⟨hO, hSt, by omega⟩
      have d1 : r.length - k = (r.drop k).length := by rw [List.length_drop]
      have d2 : (r.drop k).length ≤ bl.length := by rw [List.length_drop]; omega
      have c0 := E1.c0
      have c1 := E1.c1
      have c2 := E1.c2
      have c3 := E1.c3
      have c4 := E1.c4
      have c5 := E1.c5
      have c6 := E1.c6
      rw [d1] at hcut
      generalize r.drop k = r' at *
      clear HS hO hd hw hr1 hr2 hr3 hSt E1 hL hk d1
      go_wp2_with (at_builtin
                   refine wpList_appE rfl (.tmp 43) (.tmp 48) rfl w1.heap.size (.slice a7 L.length c7) L rfl (HO.out.1.other (Stp.alloc [] _ _) (by simp)) ⟨wr.heap.size, 0, none⟩ 2 2 [wroteE ra rc r k, y] rfl rfl (fun j u hj => row_cells (evs [wroteE ra rc r k, y]) _ wr j u hj) (by have := HO.out.2.2; simp; omega) (by have := HO.out.2.1.size; rw [World.size_alloc]; omega) ?_
                   intro v' w' ho' hg'
                   have HQ : Aside (EOwn w' w1.heap.size v' (L ++ [wroteE ra rc r k, y]) ∧ Stp [] w1 [] w') := ⟨ho', EOwn.app (HO.out.2.1.trans (Stp.alloc [] _ _)) (HO.out.1.other (Stp.alloc [] _ _) (by simp)) hg'⟩
                   clear ho' hg')
      go_roundg (cl.length - (i + 1))
      case measure => omega
      case rel => exact ⟨i + 1, r', cutp ra k rc, rc - k, rfl, by go_num, by omega, by omega, d2, HN.out _ _ HQ.out.1 HQ.out.2⟩
    · have hltz : ¬ (i : Int) < (cl.length : Int) := by omega
      have HM : Aside (∀ (v' : Value) (w' : World), EOwn w' w1.heap.size v' (L ++ [wroteE ra rc r r.length]) → Stp [] w1 [] w' → ∃ M a9 c9, v' = .slice a9 M.length c9 ∧ Er w' a9 M ∧ wrt M = bl ∧ M.length ≤ 121 ∧ Stp [] w1 [] w') := fun v' w' h1 h2 => by
        have hd2 : ∀ x ∈ L ++ [wroteE ra rc r r.length], Ed w' x := fun x hx => by
          rcases List.mem_append.1 hx with h | h
          · exact (hd x h).stays h2
          · simp at h
            subst h
            exact Ed.stays ⟨hr1, hr2, hr3⟩ h2
        obtain ⟨a9, c9, e, q, _, _⟩ := h1.er hd2
        refine ⟨_, a9, c9, e, q, ?_, by simp [hL]; omega, h2⟩
        rw [wrt_app]
        have : wrt [wroteE ra rc r r.length] = r := by
          show wr1 (wroteE ra rc r r.length) ++ [] = r
          rw [wr1_wrote _ _ _ _ (Nat.le_refl _)]
          simp
        rw [this, hw]
      have HO : Aside (EOwn wr w1.heap.size (.slice a7 L.length c7) L ∧ Stp [] w1 [] wr ∧ L.length ≤ 120) := ⟨hO, hSt, by omega⟩
      clear E1 HS hO hd hw hr1 hr2 hr3 hSt hL
      go_wp2_with (at_builtin
                   refine wpList_appE rfl (.tmp 54) (.tmp 59) rfl w1.heap.size (.slice a7 L.length c7) L rfl (HO.out.1.other (Stp.alloc [] _ _) (by simp)) ⟨wr.heap.size, 0, none⟩ 1 1 [wroteE ra rc r r.length] rfl rfl (fun j u hj => row_cells (evs [wroteE ra rc r r.length]) _ wr j u hj) (by have := HO.out.2.2; simp; omega) (by have := HO.out.2.1.size; rw [World.size_alloc]; omega) ?_
                   intro v' w' ho' hg'
                   obtain ⟨M, a9, c9, hv9, HQ⟩ : ∃ M a9 c9, v' = .slice a9 M.length c9 ∧ Aside (Er w' a9 M ∧ wrt M = bl ∧ M.length ≤ 121 ∧ Stp [] w1 [] w') := HM.out v' w' ho' (EOwn.app (HO.out.2.1.trans (Stp.alloc [] _ _)) (HO.out.1.other (Stp.alloc [] _ _) (by simp)) hg')
                   subst hv9
                   clear ho' hg')
      have KW : Hid (∀ W, Stp [] w' [] W → Calls Tryz.prog 20 #[.slice a9 M.length c9] W fun e w5 => ∃ a5 c5, e = .returned (.slice a5 bl.length c5) ∧ Bts w5 a5 bl ∧ Stp [] W [] w5) := Lib.hid fun W hs => (written_run a9 c9 M W (HQ.out.1.stays hs) (by have := HQ.out.2.2.1; omega) (by rw [HQ.out.2.1]; omega)).mono fun e w5 h => by
        obtain ⟨v, he, ho, h5⟩ := h
        rw [HQ.out.2.1] at ho
        obtain ⟨a5, c5, hv, hb5, _⟩ := ho.bts
        exact ⟨a5, c5, by rw [he, hv], hb5, h5⟩
      have KS : Hid (∀ W, Stp [] w' [] W → Calls Tryz.prog 19 #[.slice a9 M.length c9, .slice a9 M.length c9] W (Tells (.bool true) W)) := Lib.hid fun W hs => sameL_run a9 c9 M W (HQ.out.1.stays hs) (by have := HQ.out.2.2.1; omega)
      have hk0 : Aside (∀ W, Stp [] w' [] W → (convert 25 9 (.slice a bl.length cap)).run Tryz.prog W = .ok (.string (st bl)) W) := fun W hs => conv_bts cap _ ((HB.out.1.stays HQ.out.2.2.2).stays hs) rfl
      have hcur : Stp [] w' [] w'.drew := Stp.drew _ _
      have hqq : ((st bl).toList == (st bl).toList) = true := st_yes rfl
      clear HM HO KA
      have cvb := hk0.out _ hcur
      have cvb2 := hk0.out _ (Stp.refl _ _)
      go_region_with
        (first
          | (go_at_call 20; refine (KW.out _ hcur).mono ?_; rintro _ w5 ⟨a5, c5, rfl, hb5, h5⟩; have cv5 := conv_bts c5 _ hb5 rfl; replace hcur := hcur.trans h5; have cvb5 := hk0.out _ hcur; clear h5 hb5)
          | (go_at_call 19; refine (KS.out _ hcur).mono ?_; rintro _ w6 ⟨rfl, h6⟩; replace hcur := hcur.trans h6; clear h6))
      all_goals
        go_wp2
        go_ret
        exact ⟨rfl, ((H1.out.2.trans HQ.out.2.2.2).trans hcur).under⟩
end Go.Proofs.YtkdpklebddhfeaaGreatDoor
