/-
  Rows of runes in memory: append, a store, a cut, and what they are as a text.
-/
import Derived.Test.YtdaenaoagejgeaaGreatDoorEdp
import Derived.Laws.Cover4
import Derived.Laws.IdiomStrings
import Derived.Laws.Append
namespace Go.Proofs.YtdaenaoagejgeaaGreatDoor
open Go.RowKit Go.Lib
set_option linter.unusedVariables false

def rv (c : Nat) : Value := .int .i32 (c : Int)
theorem rune_info : (Tryz.prog.info? 21).map (fun i => (i.zero, i.size, i.bytes)) = some (some (.int .i32 0), 1, 4) := by kernel_rfl
theorem rv_one (l : List Nat) : ∀ v ∈ l.map rv, v.oneCell' = true := by
  intro u hu
  simp only [List.mem_map] at hu
  obtain ⟨x, _, rfl⟩ := hu
  rfl
/-- A slice reads as these runes; they lie at the head of a block. -/
def Rn (W : World) (v : Value) (cs : List Nat) : Prop := (v = .slice none 0 0 ∧ cs = []) ∨
  ∃ g cap C, v = .slice (some ⟨g, 0, none⟩) cs.length cap ∧ W.heap[g]? = some (.cells (cs.map rv ++ C).toArray 21 (0, 0)) ∧ cs.length ≤ cap ∧ cap ≤ cs.length + C.length ∧ cap ≤ maxLen
section
variable {W W' : World} {v : Value} {cs : List Nat}
theorem Rn.nil (W : World) : Rn W (.slice none 0 0) [] := .inl ⟨rfl, rfl⟩
theorem Rn.lt (h : Rn W v cs) : ∀ k, v.ownBlock = some k → k < W.heap.size := fun k hk => by
  rcases h with ⟨rfl, _⟩ | ⟨g, cap, C, rfl, hh, _⟩
  · cases hk
  · cases hk
    exact (Array.getElem?_eq_some_iff.1 hh).1
theorem Rn.other {F F' : List Nat} (h : Rn W v cs) (hs : Stp F W F' W') (hF : ∀ k, v.ownBlock = some k → k ∉ F) : Rn W' v cs := by
  rcases h with ⟨rfl, rfl⟩ | ⟨g, cap, C, rfl, hh, r⟩
  · exact .inl ⟨rfl, rfl⟩
  · exact .inr ⟨g, cap, C, rfl, (hs.block g (Array.getElem?_eq_some_iff.1 hh).1 (hF g rfl)).trans hh, r⟩
theorem Rn.stays {F : List Nat} (h : Rn W v cs) (hs : Stp [] W F W') : Rn W' v cs := h.other hs (fun _ _ h => by cases h)
/-- The block is one of runes. -/
theorem Rn.obj (h : Rn W v cs) {k : Nat} (hk : v.ownBlock = some k) : ∃ C, W.heap[k]? = some (.cells C 21 (0, 0)) := by
  rcases h with ⟨rfl, _⟩ | ⟨g, cap, C, rfl, hh, _⟩
  · cases hk
  · cases hk
    exact ⟨_, hh⟩
theorem Rn.slice (h : Rn W v cs) : ∃ a cap, v = .slice a cs.length cap ∧ (a = none → cap = 0 ∧ cs = []) ∧ cs.length ≤ cap ∧ cap ≤ maxLen := by
  rcases h with ⟨rfl, rfl⟩ | ⟨g, cap, C, rfl, _, h1, h2, h3⟩
  · exact ⟨none, 0, rfl, fun _ => ⟨rfl, rfl⟩, Nat.le_refl _, by unfold maxLen; omega⟩
  · exact ⟨_, cap, rfl, (fun h => by cases h), h1, h3⟩
theorem Rn.at (h : Rn W v cs) (hc : cs ≠ []) : ∃ g cap, v = .slice (some ⟨g, 0, none⟩) cs.length cap ∧ g < W.heap.size ∧ v.ownBlock = some g ∧ (∀ i, i < cs.length → W.cell? ⟨g, i, none⟩ = some (rv (cs.getD i 0))) ∧ ∀ i, W.frozen? ⟨g, i, none⟩ = false := by
  rcases h with ⟨rfl, rfl⟩ | ⟨g, cap, C, rfl, hh, h1, h2, h3⟩
  · exact absurd rfl hc
  · refine ⟨g, cap, rfl, (Array.getElem?_eq_some_iff.1 hh).1, rfl, fun i hi => ?_, fun i => frozen_of_row W g i _ _ hh⟩
    rw [cell_of_row W g i _ _ _ hh]
    simp only [List.getElem?_toArray]
    rw [List.getElem?_append_left (by simpa using hi), List.getElem?_map, List.getElem?_eq_getElem hi]
    simp [List.getD, hi]
/-- A store into a row. -/
theorem Rn.set {g cap : Nat} (h : Rn W (.slice (some ⟨g, 0, none⟩) cs.length cap) cs) {i : Nat} (hi : i < cs.length) (c : Nat) : Rn (W.setCell ⟨g, i, none⟩ (rv c)) (.slice (some ⟨g, 0, none⟩) cs.length cap) (cs.set i c) := by
  rcases h with ⟨e, _⟩ | ⟨g', cap', C, e, hh, h1, h2, h3⟩
  · cases e
  · cases e
    refine .inr ⟨g, cap, C, by rw [List.length_set], ?_, by rw [List.length_set]; exact h1, by rw [List.length_set]; exact h2, h3⟩
    have := heap_setCell_same W g i _ _ (rv c) hh
    rw [this, List.map_set]
    simp [hi]
/-- What stands beyond is cut. -/
theorem Rn.cut {g cap : Nat} (h : Rn W (.slice (some ⟨g, 0, none⟩) cs.length cap) cs) {n : Nat} (hn : n ≤ cs.length) : Rn W (.slice (some ⟨g, 0, none⟩) n n) (cs.take n) := by
  rcases h with ⟨e, _⟩ | ⟨g', cap', C, e, hh, h1, h2, h3⟩
  · cases e
  · cases e
    have hl : (cs.take n).length = n := by rw [List.length_take]; omega
    refine .inr ⟨g, n, (cs.drop n).map rv ++ C, by rw [hl], ?_, by omega, by simp; omega, by omega⟩
    rw [← List.append_assoc, ← List.map_append, List.take_append_drop]
    exact hh
theorem undR : Tryz.prog.underlying 84 = some (.slice (Tryz.prog.elem 84)) := by kernel_rfl
theorem elemR : Tryz.prog.elem 84 = 21 := by kernel_rfl
theorem sizeR (w : World) : (sizeOf 21).run Tryz.prog w = .ok 1 w := by kernel_rfl
theorem cutR (a : Option Addr) (n N i : Nat) (hi : i ≤ N) (w : World) :
    (Instr.slice 84 (.slice a n N) none (some (.int .i64 (i : Int))) (some (.int .i64 (i : Int)))).run Tryz.prog w = .ok (.slice a i i) w := by
  rcases a with _ | ⟨b, off, sp⟩ <;>
  simp [Instr.slice, Instr.sliceBounds, Instr.sliceBound, asIntOf, run_underlying undR, elemR, hi, Result.andThen, Addr.add]

/-! ### append -/
theorem stp_newR (W : World) (o : Obj) (F : List Nat) : Stp F W [W.heap.size] (W.drew.alloc o) :=
  ⟨rfl, rfl, rfl, by simp, fun k hk _ => Below.heap_alloc W.drew o k hk, fun k hk => .inr (by rw [List.mem_singleton.1 hk]; exact Nat.le_refl _)⟩
theorem appR {xs ys : List Nat} {u : Value} (ty : TypeId) (h : Rn W v xs) (k : Rn W u ys) (hl : xs.length + ys.length ≤ 10000000) :
    ∃ v' w', (Builtin.append_ #[84, 84] ty #[v, u]).run Tryz.prog W = .ok v' w' ∧ Rn w' v' (xs ++ ys) ∧ Stp v.ownBlock.toList W v'.ownBlock.toList w' ∧ (v'.ownBlock = v.ownBlock ∨ v'.ownBlock = some W.heap.size) := by
  obtain ⟨i0, hi0, hz0, hz1, hz2⟩ := info_parts rune_info
  rcases k with ⟨rfl, rfl⟩ | ⟨g', cap', C', rfl, hh', h1', h2', h3'⟩
  · refine ⟨v, W, ?_, by simpa using h, Stp.refl _ _, .inl rfl⟩
    rcases h with ⟨rfl, rfl⟩ | ⟨g, cap, C, rfl, hh, hnc, _⟩
    · simp [Builtin.append_, run_underlying (P := Tryz.prog) Tryz.underlying84, sizeOf, typeInfo, hi0, Builtin.lenOf, Builtin.firstCells]
    · simp [Builtin.append_, run_underlying (P := Tryz.prog) Tryz.underlying84, sizeOf, typeInfo, hi0, Builtin.lenOf, Builtin.firstCells, hnc, storeCells]
  · have hnews : ∀ j x, (ys.map rv)[j]? = some x → W.cell? ((⟨g', 0, none⟩ : Addr).add j) = some x := by
      intro j x hx
      have hj : j < ys.length := by
        have := (List.getElem?_eq_some_iff.1 hx).1
        simpa using this
      rw [addr_add, Nat.zero_add, cell_of_row W g' j _ _ _ hh']
      simp only [List.getElem?_toArray]
      rw [List.getElem?_append_left (by simpa using hj)]
      exact hx
    rcases h with ⟨rfl, rfl⟩ | ⟨g, cap, C, rfl, hh, hnc, hcC, hcm⟩
    · rcases Nat.eq_zero_or_pos ys.length with e | e
      · obtain rfl := List.length_eq_zero_iff.1 e
        refine ⟨.slice none 0 0, W, ?_, Rn.nil W, Stp.refl _ _, .inl rfl⟩
        have h0 : (loadCells ⟨g', 0, none⟩ 0).run Tryz.prog W = .ok #[] W := by simpa using run_loadCells_list (P := Tryz.prog) W ⟨g', 0, none⟩ [] (by simp)
        simp [Builtin.append_, run_underlying (P := Tryz.prog) Tryz.underlying84, sizeOf, typeInfo, hi0, Builtin.lenOf, Builtin.firstCells, h0]
      · have hr := run_append_nil (P := Tryz.prog) W 84 ty 21 i0 _ Tryz.underlying84 hi0 hz0 ⟨g', 0, none⟩ ys.length cap' (ys.map rv) (by rw [hz1]; simp) hnews e (by omega) (by rw [hz2]; simp at hl; omega)
        have hg := grownCap_ge W ys.length 0 21
        have hm : grownCap W ys.length 0 21 ≤ maxLen := grownCap_le_maxLen _ _ _ _ (by unfold maxLen; simp at hl; omega)
        refine ⟨_, _, hr, .inr ⟨W.heap.size, _, (Builtin.zeroCells (Value.int .i32 0).cells (grownCap W ys.length 0 21 - ys.length)).toList, by rw [List.nil_append], ?_, hg, ?_, hm⟩, stp_newR W _ _, .inr rfl⟩
        · rw [show W.heap.size = W.drew.heap.size from rfl, heap_alloc_new]
          simp
        · simp [size_zeroCells, Value.cells]
          omega
    · by_cases hroom : xs.length + ys.length ≤ cap
      · have hr := run_append_room (P := Tryz.prog) W 84 ty 21 i0 Tryz.underlying84 hi0 g xs.length cap _ hh ⟨g', 0, none⟩ ys.length cap' (ys.map rv) (by rw [hz1]; simp) hnews (rv_one ys) hroom (by rw [hz1]; simp; omega)
        refine ⟨_, _, hr, .inr ⟨g, cap, C.drop ys.length, by rw [List.length_append], ?_, by rw [List.length_append]; exact hroom, by simp; omega, hcm⟩, ⟨rfl, rfl, rfl, by simp, fun k hk hF => setRow_other W g k _ (by simpa [Value.ownBlock] using hF), fun k hk => .inl hk⟩, .inl rfl⟩
        rw [setRow_heap W g _ _ _ _ hh]
        simp [hz1, List.drop_append]
      · have hr := run_append_grow (P := Tryz.prog) W 84 ty 21 i0 _ Tryz.underlying84 hi0 hz0 ⟨g, 0, none⟩ xs.length cap (xs.map rv) (by rw [hz1]; simp) (by
          intro j x hx
          have hj : j < xs.length := by
            have := (List.getElem?_eq_some_iff.1 hx).1
            simpa using this
          rw [addr_add, Nat.zero_add, cell_of_row W g j _ _ _ hh]
          simp only [List.getElem?_toArray]
          rw [List.getElem?_append_left (by simpa using hj)]
          exact hx) ⟨g', 0, none⟩ ys.length cap' (ys.map rv) (by rw [hz1]; simp) hnews (by omega) (by omega) (growslice_fits (by omega) (by rw [hz2]; omega))
        have hg := grownCap_ge W (xs.length + ys.length) cap 21
        have hm : grownCap W (xs.length + ys.length) cap 21 ≤ maxLen := grownCap_le_maxLen _ _ _ _ (by unfold maxLen; omega)
        refine ⟨_, _, hr, .inr ⟨W.heap.size, _, (Builtin.zeroCells (Value.int .i32 0).cells (grownCap W (xs.length + ys.length) cap 21 - (xs.length + ys.length))).toList, by rw [List.length_append], ?_, by rw [List.length_append]; exact hg, ?_, hm⟩, stp_newR W _ _, .inr rfl⟩
        · rw [show W.heap.size = W.drew.heap.size from rfl, heap_alloc_new]
          simp
        · simp [size_zeroCells, Value.cells]
          omega
theorem wpList_appR {ops : Array Oper} {rest : List Oper} {o : Oper} {a : Act} {Q : Exit → Act → World → Prop} (hgd : o.guard = none) (s x : Operand)
    (ho : o.op = .call { callee := .builtin .append, args := #[s, x], argTypes := #[84, 84] }) {u : Value} {xs ys : List Nat} (hs : a.eval s = v) (h : Rn W v xs) (hx : a.eval x = u) (k : Rn W u ys) (hl : xs.length + ys.length ≤ 10000000)
    (hQ : ∀ v' w', Rn w' v' (xs ++ ys) → Stp v.ownBlock.toList W v'.ownBlock.toList w' → (v'.ownBlock = v.ownBlock ∨ v'.ownBlock = some W.heap.size) → wpList Tryz.prog ops Q rest (a.put o.dst v') w') : wpList Tryz.prog ops Q (o :: rest) a W := by
  refine wpList_plain hgd fun K hK => ?_
  obtain ⟨v', w', hrun, h2, h3, h4⟩ := appR o.type h k hl
  unfold Oper.wp execOp
  simp only [ho, resolve, invoke, builtin, Sem.run_bind, Sem.run_pure, Result.andThen_ok, List.map_toArray, List.map_cons, List.map_nil, hs, hx, hrun]
  exact hK _ _ (hQ v' w' h2 h3 h4)
/-- A slice that lies in new memory. -/
theorem newR {W : World} {l : List Nat} (hl : l.length ≤ 1000000) (C : Array Value) (hC : C = (l.map rv).toArray) : Rn (W.alloc (.cells C 21)) (.slice (some ⟨W.heap.size, 0, none⟩) l.length l.length) l :=
  .inr ⟨W.heap.size, l.length, [], rfl, by rw [heap_alloc_new, hC, List.append_nil], Nat.le_refl _, by simp, by unfold maxLen; omega⟩

/-! ### Texts and runes -/
theorem enc_utf {c : Nat} (h : U.isCh (c : Int) = true) : Utf8.encode (c : Int) = st (enc8 c) := by
  have h1 := of_decide_eq_true h
  have hv : Utf8.valid (c : Int) = true := by rw [validRune_eq]; exact decide_eq_true (by omega)
  unfold Utf8.encode enc8 U.enc
  simp only [hv, if_true, Int.toNat_natCast]
  (repeat' split) <;> rfl
theorem runesBytes_st (cs : List Nat) (h : ∀ c ∈ cs, U.isCh (c : Int) = true) : runesBytes (cs.map fun c : Nat => (c : Int)) = st (fl cs) := by
  have key : ∀ (cs : List Nat) (p : List UInt8), (∀ c ∈ cs, U.isCh (c : Int) = true) → (cs.map fun c : Nat => (c : Int)).foldl (fun r n => r ++ Utf8.encode n) (st p) = st (p ++ fl cs) := by
    intro cs
    induction cs with
    | nil => intro p _; simp [fl]
    | cons c cs ih =>
      intro p hc
      rw [List.map_cons, List.foldl_cons, enc_utf (hc c (by simp)), st_append, ih _ (fun d hd => hc d (by simp [hd])), fl_cons, List.append_assoc]
  have := key cs [] h
  exact this
theorem convR {W : World} {v : Value} {cs : List Nat} (h : Rn W v cs) (hp : Pr cs) : (convert 84 9 v).run Tryz.prog W = .ok (.string (st (fl cs))) W := by
  rcases h with ⟨rfl, rfl⟩ | ⟨g, cap, C, rfl, hh, h1, h2, h3⟩
  · exact run_convert_runes_nil W _ _ 21 0 0 Tryz.underlying84 Tryz.underlying21 Tryz.underlying9
  · have hr := run_convert_runes (P := Tryz.prog) W 84 9 21 ⟨g, 0, none⟩ cs.length cap (cs.map fun c : Nat => (c : Int)) (by simp) Tryz.underlying84 Tryz.underlying21 Tryz.underlying9 (by
      intro j hj
      rw [List.length_map] at hj
      rw [addr_add, Nat.zero_add, cell_of_row W g j _ _ _ hh]
      simp only [List.getElem?_toArray]
      rw [List.getElem?_append_left (by simpa using hj), List.getElem?_map, List.getElem?_eq_getElem hj]
      simp [List.getD, hj, rv])
    rw [hr, List.take_of_length_le (by simp), runesBytes_st cs (fun c hc => (pr_ch (hp c hc)).1)]
theorem runes_blank : ∀ (b i k : Nat) (acc : Array Value), i + b = k → Conv.runesFrom (st (List.replicate k 32)) b i acc = acc ++ ((List.replicate b 32).map rv).toArray
  | 0, i, k, acc, h => by simp [Conv.runesFrom]
  | b + 1, i, k, acc, h => by
    have hd : Utf8.decode (st (List.replicate k 32)) i = (32, 1) := by
      have hg : (st (List.replicate k 32)).get! i = 32 := by
        show (st (List.replicate k 32)).data[i]! = 32
        have : i < (st (List.replicate k 32)).data.size := by simp [st]; omega
        rw [getElem!_pos (st (List.replicate k 32)).data i this]
        simp [st]
      unfold Utf8.decode
      simp [hg]
    have hs : i < (st (List.replicate k 32)).size := by rw [st_size, List.length_replicate]; omega
    unfold Conv.runesFrom
    rw [if_pos hs, hd]
    simp only
    rw [runes_blank b (i + 1) k _ (by omega), List.replicate_succ]
    apply Array.ext'
    simp [rv]
theorem blankR (W : World) (k : Nat) (hk : k ≤ 1000000) : ∃ v w', (convert 9 84 (.string (st (List.replicate k 32)))).run Tryz.prog W = .ok v w' ∧ Rn w' v (List.replicate k 32) ∧ Stp [] W [] w' ∧ ∀ g, v.ownBlock = some g → W.heap.size ≤ g := by
  have e := runes_blank k 0 k #[] (by omega)
  have hs : (Conv.runesFrom (st (List.replicate k 32)) (st (List.replicate k 32)).size 0 #[]).size = k := by rw [st_size, List.length_replicate, e]; simp
  have hr := run_runes_of_string (P := Tryz.prog) W 9 84 21 (st (List.replicate k 32)) Tryz.underlying9 Tryz.underlying84 Tryz.underlying21 (by rw [hs]; omega)
  rw [hs] at hr
  have hg := grownCap_ge W k 0 21
  refine ⟨_, _, hr, .inr ⟨W.heap.size, _, List.replicate (grownCap W k 0 21 - k) (.int .i32 0), by rw [List.length_replicate], ?_, by rw [List.length_replicate]; exact hg, by simp; omega, grownCap_le_maxLen _ _ _ _ (by unfold maxLen; omega)⟩, (Stp.drew [] W).trans (Stp.alloc [] _ _), fun g h => by cases h; exact Nat.le_refl _⟩
  rw [show W.heap.size = W.drew.heap.size from rfl, heap_alloc_new, st_size, List.length_replicate, e]
  simp
end
end Go.Proofs.YtdaenaoagejgeaaGreatDoor
