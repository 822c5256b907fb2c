/-
  put.
-/
import Derived.Test.YtdaenaoagejgeaaGreatDoorRow2
namespace Go.Proofs.YtdaenaoagejgeaaGreatDoor
open Go.RowKit Go.Lib
set_option linter.unusedVariables false

theorem laid_in (k : Nat) (cs : List Nat) (n c : Nat) (h1 : k ≤ n) (h2 : n < k + cs.length) : laid (txt k cs) n c = txt k (cs.set (n - k) c) := by
  unfold laid
  rw [if_pos (by rw [txt_len]; exact h2)]
  unfold txt
  rw [List.set_append, if_neg (by simp; omega), List.length_replicate]
theorem laid_end (k : Nat) (cs : List Nat) (n c : Nat) (h1 : n = k + cs.length) : laid (txt k cs) n c = txt k (cs ++ [c]) := by
  unfold laid
  rw [if_neg (by rw [txt_len]; omega), txt_len, show n - (k + cs.length) = 0 by omega]
  unfold txt
  simp
theorem laid_gap (k n c : Nat) (h1 : k ≤ n) : laid (txt k []) n c = txt n [c] := by
  unfold laid
  rw [if_neg (by rw [txt_len]; simp; omega), txt_len]
  unfold txt
  rw [List.append_nil, ← List.append_assoc, List.replicate_append_replicate, show k + (n - (k + ([] : List Nat).length)) = n by simp; omega]
theorem laid_mid (k : Nat) (cs : List Nat) (n c : Nat) (h1 : n < k) : laid (txt k cs) n c = txt n ((List.replicate (k - n) 32 ++ cs).set 0 c) := by
  have e : txt k cs = txt n (List.replicate (k - n) 32 ++ cs) := by
    unfold txt
    rw [← List.append_assoc, List.replicate_append_replicate, show n + (k - n) = k by omega]
  rw [e, laid_in n _ n c (Nat.le_refl _) (by simp; omega), Nat.sub_self]
/-- What put leaves. -/
def PutQ (k : Nat) (cs : List Nat) (n c : Nat) (k' : Nat) (v' : Value) (cs' : List Nat) : Prop := txt k' cs' = laid (txt k cs) n c ∧ n + 1 ≤ k' + cs'.length
section
variable {W W' : World} {R : Nat} {A D : List Value} {k : Nat} {v : Value} {cs : List Nat}
theorem RowAt.setIn {g cap i L : Nat} (h : RowAt W R A D k (.slice (some ⟨g, 0, none⟩) L cap) cs) (hL : L = cs.length) (hi : i < cs.length) (c : Nat) :
    RowAt (W.setCell ⟨g, i, none⟩ (rv c)) R A D k (.slice (some ⟨g, 0, none⟩) L cap) (cs.set i c) ∧ Stp [g] W [g] (W.setCell ⟨g, i, none⟩ (rv c)) := by
  subst hL
  have hs : Stp [g] W [g] (W.setCell ⟨g, i, none⟩ (rv c)) := Stp.setCell (F := [g]) (a := ⟨g, i, none⟩) W _ (List.mem_singleton.2 rfl)
  have hne : R ∉ [g] := fun e => h.ne (by rw [List.mem_singleton.1 e]; rfl)
  exact ⟨⟨(hs.block R h.lt hne).trans h.rb, h.cs.set hi c⟩, hs⟩
theorem RowAt.app_f {W3 : World} {O : Obj} {F' : List Nat} (h : RowAt W R A D k v cs) (s3 : Stp v.ownBlock.toList (W.alloc O) F' W3) :
    W3.cell? ⟨R, A.length + 1, none⟩ = some v ∧ W3.frozen? ⟨R, A.length + 1, none⟩ = false ∧ R < W3.heap.size := by
  have hR : R ∉ v.ownBlock.toList := fun e => h.ne (by simpa using e)
  have sA : Stp v.ownBlock.toList W F' W3 := (Stp.alloc v.ownBlock.toList W O).trans s3
  have hrb : W3.heap[R]? = some (.cells (A ++ (.int .i64 (k : Int) :: v :: D)).toArray 86 (0, 0)) := (sA.block R h.lt hR).trans h.rb
  exact ⟨by rw [cell_of_row W3 R _ _ _ _ hrb]; simp, frozen_of_row W3 R _ _ _ hrb, (Array.getElem?_eq_some_iff.1 hrb).1⟩
/-- What an append and the store of its slice leave. -/
theorem RowAt.app2 {W3 : World} {O : Obj} {v' : Value} {cs' : List Nat} (h : RowAt W R A D k v cs) (hv : Rn W3 v' cs') (s3 : Stp v.ownBlock.toList (W.alloc O) v'.ownBlock.toList W3) :
    RowAt (W3.setCell ⟨R, A.length + 1, none⟩ v') R A D k v' cs' ∧ Stp (R :: v.ownBlock.toList) W (R :: v'.ownBlock.toList) (W3.setCell ⟨R, A.length + 1, none⟩ v') := by
  have hR : R ∉ v.ownBlock.toList := fun e => h.ne (by simpa using e)
  have sA : Stp v.ownBlock.toList W v'.ownBlock.toList W3 := (Stp.alloc v.ownBlock.toList W O).trans s3
  have hrb : W3.heap[R]? = some (.cells (A ++ (.int .i64 (k : Int) :: v :: D)).toArray 86 (0, 0)) := (sA.block R h.lt hR).trans h.rb
  have hne : ∀ j, v'.ownBlock = some j → j ∉ [R] := fun j hj => by
    rw [List.mem_singleton]
    rintro rfl
    obtain ⟨C, hC⟩ := hv.obj hj
    rw [hrb] at hC
    injection hC with hC
    injection hC with _ h2
    exact absurd h2 (by decide)
  have hs : Stp [R] W3 [R] (W3.setCell ⟨R, A.length + 1, none⟩ v') := Stp.setCell (F := [R]) (a := ⟨R, A.length + 1, none⟩) W3 _ (List.mem_singleton.2 rfl)
  refine ⟨⟨?_, hv.other hs hne⟩, ?_⟩
  · have := heap_setCell_same W3 R (A.length + 1) _ _ v' hrb
    rw [this]
    simp
  · exact ⟨hs.os.trans sA.os, hs.tape.trans sA.tape, hs.output.trans sA.output, Nat.le_trans sA.size hs.size,
      fun j hj hF => (hs.block j (Nat.lt_of_lt_of_le hj sA.size) (fun e => hF (by rw [List.mem_singleton.1 e]; exact List.mem_cons_self))).trans (sA.block j hj (fun e => hF (List.mem_cons_of_mem _ e))),
      fun j hj => by
        rcases List.mem_cons.1 hj with rfl | e
        · exact .inl List.mem_cons_self
        · rcases sA.foot j e with g | g
          · exact .inl (List.mem_cons_of_mem _ g)
          · exact .inr g⟩
set_option maxHeartbeats 1000000 in
set_option maxRecDepth 100000 in
/-- In the place of another. -/
theorem put_in (h : RowAt W R A D k v cs) (n c : Nat) (hk : k ≤ 1000000) (hcs : cs.length ≤ 1000000) (h1 : k ≤ n) (h2 : n < k + cs.length) :
    Calls Tryz.prog 55 #[.pointer (some ⟨R, A.length, none⟩), .int .i64 (n : Int), .int .i32 (c : Int)] W (RTo R A D v (PutQ k cs n c) W) := by
  have c0 := h.c0
  have c1 := h.c1
  have f0 := h.fz A.length
  have f1 := h.fz (A.length + 1)
  have hlt := h.lt
  obtain ⟨g, cap, rfl, hg, hob, hcell, hfz⟩ := h.cs.at (by intro e; subst e; simp at h2; omega)
  obtain ⟨i, hi⟩ : ∃ i, n = k + i := ⟨n - k, by omega⟩
  have ei : (n : Int) - (k : Int) = (i : Int) := by omega
  have HI := Lib.hid hi
  obtain ⟨L, hL⟩ : ∃ L, L = cs.length := ⟨_, rfl⟩
  have HL := Lib.hid hL
  have hil : i < L := by omega
  have e0 : (((L : Nat) : Int) == 0) = false := beq_eq_false_iff_ne.2 (by omega)
  have e1 : ¬ (n : Int) < (k : Int) := by omega
  have e2 : (i : Int) < (L : Int) := by omega
  have hw : wrap64 (i : Int) = (i : Int) := by unfold wrap64; omega
  have hiz : (i : Int) ≤ 1000000 := by omega
  have cg := hcell i (by omega)
  have fg := hfz i
  have HT := Lib.hid (laid_in k cs n c h1 h2)
  have HH := Lib.hid h2
  have H := Lib.hid h
  rw [← hL] at c1
  generalize ho : A.length = o at *
  have HO := Lib.hid ho
  clear h ho hi hL hcell hfz hob h2
  unfold rv at cg
  go_enter Tryz.func55, Tryz.ntmps55
  go_wp2_with fail
  go_end0
  have HS := H.out.setIn rfl (i := i) (by rw [← HL.out]; omega) c
  refine ⟨rfl, k, _, _, HS.1, ⟨?_, ?_⟩, HS.2.more (by simp [Value.ownBlock]), .inl rfl⟩
  · rw [HT.out, HI.out, Nat.add_sub_cancel_left]
  · rw [List.length_set]
    have := HH.out
    omega
set_option maxHeartbeats 1000000 in
set_option maxRecDepth 100000 in
/-- Behind all others. -/
theorem put_end (h : RowAt W R A D k v cs) (hc : cs ≠ []) (n c : Nat) (hk : k ≤ 1000000) (hcs : cs.length ≤ 1000000) (h1 : n = k + cs.length) :
    Calls Tryz.prog 55 #[.pointer (some ⟨R, A.length, none⟩), .int .i64 (n : Int), .int .i32 (c : Int)] W (RTo R A D v (PutQ k cs n c) W) := by
  have c0 := h.c0
  have c1 := h.c1
  have f0 := h.fz A.length
  have f1 := h.fz (A.length + 1)
  have hlt := h.lt
  obtain ⟨a, cap, rfl, _⟩ := h.cs.slice
  obtain ⟨L, hL⟩ : ∃ L, L = cs.length := ⟨_, rfl⟩
  have hpos : 0 < cs.length := List.length_pos_iff.2 hc
  have HL := Lib.hid hL
  have ei : (n : Int) - (k : Int) = (L : Int) := by omega
  have e0 : (((L : Nat) : Int) == 0) = false := beq_eq_false_iff_ne.2 (by omega)
  have e1 : ¬ (n : Int) < (k : Int) := by omega
  have e2 : ¬ (L : Int) < (L : Int) := by omega
  have hw : wrap64 (L : Int) = (L : Int) := by unfold wrap64; omega
  have hiz : (L : Int) ≤ 1000000 := by omega
  have HT := Lib.hid (laid_end k cs n c h1)
  have HH := Lib.hid h1
  have HC := Lib.hid hcs
  have H := Lib.hid h
  rw [← hL] at c1
  generalize ho : A.length = o at *
  have HO := Lib.hid ho
  clear h ho hL h1 hcs hpos hc
  go_enter Tryz.func55, Tryz.ntmps55
  go_wp2_with (at_builtin; go_loud (refine wpList_appR (v := .slice a L cap) (u := .slice (some ⟨W.heap.size, 0, none⟩) 1 1) (ys := [c]) rfl (.tmp 55) (.tmp 57) rfl rfl (HL.out ▸ H.out.cs.stays (Stp.alloc [] W _)) rfl (newR (l := [c]) (by simp) _ rfl) (by have := HC.out; simp; omega) ?_; intro v' w3 hv s3 hb; obtain ⟨a', cap', rfl, _⟩ := hv.slice; obtain ⟨q1, q2, q3⟩ := H.out.app_f (HL.out ▸ s3); rw [HO.out] at q1 q2))
  go_end0
  have eL : (cs ++ [c]).length = cs.length + 1 := by simp
  rw [eL] at hv s3 hb
  have HB := H.out.app2 hv (HL.out ▸ s3)
  rw [HO.out] at HB
  refine ⟨rfl, k, _, _, HB.1, ⟨HT.out.symm, by rw [eL, HH.out]; omega⟩, HB.2, blk_cases _ (HL.out ▸ hb) _ (by simp)⟩
set_option maxHeartbeats 1000000 in
set_option maxRecDepth 100000 in
/-- Behind blanks alone. -/
theorem put_gap (h : RowAt W R A D k v []) (n c : Nat) (hk : k ≤ 1000000) (hn : n ≤ 1000000) (h1 : k ≤ n) :
    Calls Tryz.prog 55 #[.pointer (some ⟨R, A.length, none⟩), .int .i64 (n : Int), .int .i32 (c : Int)] W (RTo R A D v (PutQ k [] n c) W) := by
  have c0 := h.c0
  have c1 := h.c1
  have f0 := h.fz A.length
  have f1 := h.fz (A.length + 1)
  have hlt := h.lt
  obtain ⟨a, cap, rfl, _⟩ := h.cs.slice
  have HB := Lib.hid (h.setB n)
  have e1 : ¬ (n : Int) < (n : Int) := by omega
  have e3 : ¬ (n : Int) < (k : Int) := by omega
  have e4 : max (k : Int) (n : Int) = (n : Int) := by omega
  have e5 : (n : Int) - (n : Int) = 0 := by omega
  have HT := Lib.hid (laid_gap k n c h1)
  have H := Lib.hid h
  generalize ho : A.length = o at *
  have HO := Lib.hid ho
  clear h ho h1
  have c2 := HB.out.1.c1
  have hs2 : R < (W.setCell ⟨R, o, none⟩ (.int .i64 (n : Int))).heap.size := HB.out.1.lt
  rw [HO.out] at c2
  have hu := newR (W := W.setCell ⟨R, o, none⟩ (.int .i64 (n : Int))) (l := [c]) (by simp) _ rfl
  rw [World.size_setCell] at hu
  have HU := Lib.hid hu
  clear hu
  go_enter Tryz.func55, Tryz.ntmps55
  go_wp2_with (at_builtin; go_loud (refine wpList_appR (v := .slice a 0 cap) (u := .slice (some ⟨W.heap.size, 0, none⟩) 1 1) (ys := [c]) rfl (.tmp 55) (.tmp 57) rfl rfl (HB.out.1.cs.stays (Stp.alloc [] _ _)) rfl HU.out (by simp) ?_; intro v' w3 hv s3 hb; obtain ⟨a', cap', rfl, _⟩ := hv.slice; obtain ⟨q1, q2, q3⟩ := HB.out.1.app_f s3; rw [HO.out] at q1 q2))
  go_end0
  have HC := HB.out.1.app2 hv s3
  rw [HO.out] at HC
  exact ⟨rfl, n, _, _, HC.1, ⟨HT.out.symm, by simp⟩, (HB.out.2.more (G := R :: (Value.slice a 0 cap).ownBlock.toList) (by simp)).trans HC.2, blk_cases _ hb _ (by simp)⟩
set_option maxHeartbeats 1000000 in
set_option maxRecDepth 100000 in
/-- Among the blanks ahead, which are laid out: a row that has characters. -/
theorem put_mid (h : RowAt W R A D k v cs) (hc : cs ≠ []) (n c : Nat) (hk : k ≤ 1000000) (hcs : cs.length ≤ 1000000) (h1 : n < k) :
    Calls Tryz.prog 55 #[.pointer (some ⟨R, A.length, none⟩), .int .i64 (n : Int), .int .i32 (c : Int)] W (RTo R A D v (PutQ k cs n c) W) := by
  have c0 := h.c0
  have c1 := h.c1
  have f0 := h.fz A.length
  have f1 := h.fz (A.length + 1)
  have hlt := h.lt
  have KL := Lib.hid (layOut_run h n hk hcs h1)
  obtain ⟨a, cap, rfl, _⟩ := h.cs.slice
  have hpos : 0 < cs.length := List.length_pos_iff.2 hc
  have e0 : (((cs.length : Nat) : Int) == 0) = false := beq_eq_false_iff_ne.2 (by omega)
  have e1 : (n : Int) < (k : Int) := by omega
  have HT := Lib.hid (laid_mid k cs n c h1)
  have HH := Lib.hid h1
  have H := Lib.hid h
  generalize ho : A.length = o at *
  have HO := Lib.hid ho
  clear h ho h1
  go_enter Tryz.func55, Tryz.ntmps55
  go_wp2_with fail
  refine KL.out.mono ?_
  rintro _ w1 ⟨rfl, k', v', cs', H1, ⟨rfl, rfl, g, cap', rfl⟩, s1, hb⟩
  have L2 : 0 < (List.replicate (k - k') 32 ++ cs).length := by simp; have := HH.out; omega
  have cc0 := H1.c0
  have cc1 := H1.c1
  have ff := H1.fz A.length
  have ff1 := H1.fz (A.length + 1)
  have hlt1 := H1.lt
  obtain ⟨g', cap2, e5, hg1, hob, hcell, hfz⟩ := H1.cs.at (by intro e; rw [e] at L2; simp at L2)
  cases e5
  have cg := hcell 0 L2
  have fg := hfz 0
  rw [HO.out] at cc0 cc1 ff ff1
  obtain ⟨L, hL⟩ : ∃ L, L = (List.replicate (k - k') 32 ++ cs).length := ⟨_, rfl⟩
  rw [← hL] at cc1 L2
  have HL := Lib.hid hL
  have e6 : (0 : Int) < (L : Int) := by omega
  have e7 : (k' : Int) - (k' : Int) = 0 := by omega
  have e8 : ¬ (k' : Int) < (k' : Int) := by omega
  have H1' := Lib.hid H1
  have S1 := Lib.hid (And.intro s1 hb)
  unfold rv at cg
  clear KL c0 c1 f0 f1 hlt hL H1 s1 hb hcell hfz hob e0 e1 hpos
  go_wp2_with fail
  go_end0
  have HS := H1'.out.setIn rfl (i := 0) (by rw [← HL.out]; exact L2) c
  refine ⟨rfl, k', _, _, HS.1, ⟨HT.out.symm, by rw [List.length_set, ← HL.out]; omega⟩, S1.out.1.trans (HS.2.more (by simp [Value.ownBlock])), S1.out.2⟩
set_option maxHeartbeats 1000000 in
set_option maxRecDepth 100000 in
/-- Among the blanks ahead: a row that has none else. -/
theorem put_low (h : RowAt W R A D k v []) (n c : Nat) (hk : k ≤ 1000000) (h1 : n < k) :
    Calls Tryz.prog 55 #[.pointer (some ⟨R, A.length, none⟩), .int .i64 (n : Int), .int .i32 (c : Int)] W (RTo R A D v (PutQ k [] n c) W) := by
  obtain ⟨cs, hcs0⟩ : ∃ cs : List Nat, cs = [] := ⟨_, rfl⟩
  have c0 := h.c0
  have c1 := h.c1
  have f0 := h.fz A.length
  have f1 := h.fz (A.length + 1)
  have hlt := h.lt
  have hB := h.setB k
  have KL := Lib.hid (layOut_run hB.1 n hk (by simp) h1)
  have SB := Lib.hid hB.2
  obtain ⟨a, cap, rfl, _⟩ := h.cs.slice
  have e1 : (n : Int) < (k : Int) := by omega
  have e4 : max (k : Int) (n : Int) = (k : Int) := by omega
  have HT := Lib.hid (laid_mid k [] n c h1)
  have HH := Lib.hid h1
  have H := Lib.hid h
  have cb0 := hB.1.c0
  have hltb := hB.1.lt
  generalize ho : A.length = o at *
  have HO := Lib.hid ho
  clear h ho h1 hB hcs0
  go_enter Tryz.func55, Tryz.ntmps55
  go_wp2_with fail
  refine KL.out.mono ?_
  rintro _ w1 ⟨rfl, k', v', cs', H1, ⟨rfl, rfl, g, cap', rfl⟩, s1, hb⟩
  have L2 : 0 < (List.replicate (k - k') 32 ++ []).length := by simp; have := HH.out; omega
  have cc0 := H1.c0
  have cc1 := H1.c1
  have ff := H1.fz A.length
  have ff1 := H1.fz (A.length + 1)
  have hlt1 := H1.lt
  obtain ⟨g', cap2, e5, hg1, hob, hcell, hfz⟩ := H1.cs.at (by intro e; rw [e] at L2; simp at L2)
  cases e5
  have cg := hcell 0 L2
  have fg := hfz 0
  rw [HO.out] at cc0 cc1 ff ff1
  obtain ⟨L, hL⟩ : ∃ L, L = (List.replicate (k - k') 32 ++ []).length := ⟨_, rfl⟩
  rw [← hL] at cc1 L2
  have HL := Lib.hid hL
  have e6 : (0 : Int) < (L : Int) := by omega
  have e7 : (k' : Int) - (k' : Int) = 0 := by omega
  have e8 : ¬ (k' : Int) < (k' : Int) := by omega
  have H1' := Lib.hid H1
  have S1 := Lib.hid (And.intro s1 hb)
  unfold rv at cg
  clear KL c0 c1 f0 f1 hlt hL H1 s1 hb hcell hfz hob e1 cb0 hltb
  go_wp2_with fail
  go_end0
  have HS := H1'.out.setIn rfl (i := 0) (by rw [← HL.out]; exact L2) c
  refine ⟨rfl, k', _, _, HS.1, ⟨HT.out.symm, by rw [List.length_set, ← HL.out]; omega⟩, ((SB.out.more (G := R :: (Value.slice a ([] : List Nat).length cap).ownBlock.toList) (by simp)).trans S1.out.1).trans (HS.2.more (by simp [Value.ownBlock])), S1.out.2.imp id (fun q j hj => by have := q j hj; rw [World.size_setCell] at this; exact this)⟩
theorem put_run (h : RowAt W R A D k v cs) (n c : Nat) (hk : k ≤ 1000000) (hcs : cs.length ≤ 1000000) (hn : n ≤ 1000000) (hi : cs ≠ [] → n ≤ k + cs.length) :
    Calls Tryz.prog 55 #[.pointer (some ⟨R, A.length, none⟩), .int .i64 (n : Int), .int .i32 (c : Int)] W (RTo R A D v (PutQ k cs n c) W) := by
  by_cases hc : cs = []
  · subst hc
    by_cases h1 : n < k
    · exact put_low h n c hk h1
    · exact put_gap h n c hk hn (by omega)
  · by_cases h1 : n < k
    · exact put_mid h hc n c hk hcs h1
    · by_cases h2 : n < k + cs.length
      · exact put_in h n c hk hcs (by omega) h2
      · exact put_end h hc n c hk hcs (by have := hi hc; omega)
end
end Go.Proofs.YtdaenaoagejgeaaGreatDoor
