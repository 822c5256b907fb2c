/-
  The document's buffer in memory: two lists of characters.
-/
import Derived.Test.YtombkdbojdhodaaDoorRefF
import Derived.Deep.RegionLaw
import Derived.Deep.DrawnRows
namespace Go.Proofs.YtombkdbojdhodaaDoor
open Go.RowKit Go.Lib
set_option linter.unusedVariables false

/-! ### Numbers in a slice -/
/-- A slice's cells, as far as it is long, are these characters. -/
def Its (w : World) (a : Option Addr) (l : List Nat) : Prop := l ≠ [] → ∃ b off, a = some ⟨b, off, none⟩ ∧ ∀ i, i < l.length → w.cell? ⟨b, off + i, none⟩ = some (U.ival (l[i]!))
theorem Its.nil (w : World) (a : Option Addr) : Its w a [] := fun h => absurd rfl h
theorem Its.at {w : World} {a : Option Addr} {l : List Nat} (h : Its w a l) {i : Nat} (hi : i < l.length) : ∃ b off, a = some ⟨b, off, none⟩ ∧ w.cell? ⟨b, off + i, none⟩ = some (U.ival (l[i]!)) := by
  obtain ⟨b, off, h1, h2⟩ := h (by intro e; subst e; simp at hi)
  exact ⟨b, off, h1, h2 i hi⟩
theorem Its.other {w w' : World} {a : Option Addr} {l : List Nat} {F F' : List Nat} (h : Its w a l) (hs : Stp F w F' w') (hF : l ≠ [] → ∀ ad, a = some ad → ad.block ∉ F) : Its w' a l := fun hl => by
  obtain ⟨b, off, h1, h2⟩ := h hl
  have hb : b < w.heap.size := block_lt_of_cell (h2 0 (List.length_pos_iff.2 hl))
  exact ⟨b, off, h1, fun i hi => (hs.cell (a := ⟨b, off + i, none⟩) hb (hF hl ⟨b, off, none⟩ h1)).trans (h2 i hi)⟩
theorem Its.stays {w w' : World} {a : Option Addr} {l : List Nat} {F' : List Nat} (h : Its w a l) (hs : Stp [] w F' w') : Its w' a l := h.other hs (fun _ _ _ h => by cases h)
theorem Its.head {w : World} {a : Option Addr} {M M' : List Nat} (h : Its w a (M ++ M')) : Its w a M := fun hne => by
  obtain ⟨b, off, rfl, h2⟩ := h (by simp [hne])
  refine ⟨b, off, rfl, fun i hi => ?_⟩
  rw [h2 i (by simp; omega), getElem!_pos _ _ (by simp; omega), getElem!_pos M i hi, List.getElem_append_left hi]
theorem Its.tail {w : World} {a : Option Addr} {l : List Nat} (h : Its w a l) {i N : Nat} (hi : i ≤ l.length) (hN : l.length ≤ N) : Its w (cutp a i N) (l.drop i) := fun hl => by
  have h0 : 0 < (l.drop i).length := List.length_pos_iff.2 hl
  rw [List.length_drop] at h0
  obtain ⟨b, off, rfl, h2⟩ := h (by intro e; subst e; simp at h0)
  refine ⟨b, off + i, cutp_of (by omega), fun k hk => ?_⟩
  rw [List.length_drop] at hk
  rw [Nat.add_assoc, h2 (i + k) (by omega), getElem!_pos l (i + k) (by omega), getElem!_pos _ k (by rw [List.length_drop]; exact hk)]
  simp
theorem Its.cells {w : World} {ad : Addr} {l : List Nat} (h : Its w (some ad) l) : ∀ j u, (l.map U.ival)[j]? = some u → w.cell? (ad.add j) = some u := by
  intro j u hu
  have hj : j < l.length := by
    rcases Nat.lt_or_ge j l.length with e | e
    · exact e
    · rw [List.getElem?_eq_none (by simpa using e)] at hu
      cases hu
  have hne : l ≠ [] := by intro e; subst e; simp at hj
  obtain ⟨b, off, e, hc⟩ := h hne
  cases e
  rw [addr_add, hc j hj, getElem!_pos l j hj]
  rw [List.getElem?_map, List.getElem?_eq_getElem hj] at hu
  exact hu
theorem elemI : Tryd.prog.elem 31 = 3 := by kernel_rfl
theorem sizeI (w : World) : (sizeOf 3).run Tryd.prog w = .ok 1 w := by kernel_rfl
theorem undI : Tryd.prog.underlying 31 = some (.slice (Tryd.prog.elem 31)) := by kernel_rfl
theorem cutI_l (a : Option Addr) (n N i : Nat) (hi : i ≤ n) (w : World) :
    (Instr.slice 31 (.slice a n N) (some (.int .i64 (i : Int))) none none).run Tryd.prog w = .ok (.slice (cutp a i N) (n - i) (N - i)) w := by
  rw [run_slice_l (P := Tryd.prog) w _ a n N undI .i64 i (by omega) (by omega), elemI, sizeI]
  simp [Result.andThen, sliced, cutp]
theorem cutI_h (a : Option Addr) (n N j : Nat) (hj : j ≤ N) (w : World) :
    (Instr.slice 31 (.slice a n N) none (some (.int .i64 (j : Int))) none).run Tryd.prog w = .ok (.slice a j N) w := by
  rw [run_slice_h (P := Tryd.prog) w _ a n N undI .i64 j (by omega) (by omega), elemI, sizeI]
  rcases a with _ | ⟨b, off, sp⟩ <;> simp [Result.andThen, sliced, Addr.add]
theorem ival_one (l : List Nat) : ∀ v ∈ l.map U.ival, v.oneCell' = true := by
  intro u hu
  simp only [List.mem_map] at hu
  obtain ⟨x, _, rfl⟩ := hu
  rfl
theorem run_appN {w : World} {base : Nat} {v : Value} {xs : List Nat} (ty : TypeId) (hown : U.OwnI w base v xs) {A : Option Addr} {c : Nat} {l : List Nat} (hl : Its w A l) (hA : A = none → c = 0)
    (h63 : xs.length + l.length ≤ 1000000) (hbase : base ≤ w.heap.size) :
    ∃ v' w', (Builtin.append_ #[31, 31] ty #[v, .slice A l.length c]).run Tryd.prog w = .ok v' w' ∧ U.OwnI w' base v' (xs ++ l) ∧ w.grownBy w' v.ownBlock ∧ (v'.ownBlock = v.ownBlock ∨ v'.ownBlock = some w.heap.size) := by
  obtain ⟨i0, hi0, hz0, hz1, hz2⟩ := info_parts U.int_info
  rcases A with _ | ad
  · obtain rfl := hA rfl
    have : l = [] := by
      rcases Classical.em (l = []) with e | e
      · exact e
      · obtain ⟨b, off, h, _⟩ := hl e
        cases h
    subst this
    refine ⟨v, w, run_append_owned_none (P := Tryd.prog) (w := w) base _ ty _ i0 1 Tryd.underlying31 hi0 v _ _ hown, ?_, World.grownBy.refl w _, .inl rfl⟩
    simpa [U.OwnI] using hown
  · obtain ⟨v', w', hrun, h2, h3, _, h5⟩ := run_append_own_at (P := Tryd.prog) w base _ ty _ i0 _ 1 8 Tryd.underlying31 hi0 hz0 hz1 hz2 rfl (by omega) v _ _ hown ad l.length c (l.map U.ival) (by simp) hl.cells
      (ival_one l) (by unfold maxLen; omega) (by omega) hbase
    refine ⟨v', w', hrun, ?_, h3, h5⟩
    unfold U.OwnI
    rw [List.map_append, List.length_append]
    exact h2
/-- An append at a step of a region that draws its order. -/
theorem step_appN {w : World} {ops : Array Oper} {o : Oper} {a : Act} {K : Act → World → Prop} {Q : Exit → Act → World → Prop} {E : Prop} (hgd : o.guard = none) (s x : Operand)
    (ho : o.op = .call { callee := .builtin .append, args := #[s, x], argTypes := #[31, 31] }) (base : Nat) (v : Value) (xs : List Nat) (hs : a.eval s = v) (hown : U.OwnI w base v xs)
    (A : Option Addr) (c n : Nat) (l : List Nat) (hn : n = l.length) (hx : a.eval x = .slice A n c) (hl : Its w A l) (hA : A = none → c = 0) (h63 : xs.length + l.length ≤ 1000000) (hbase : base ≤ w.heap.size)
    (h : ∀ v' w', U.OwnI w' base v' (xs ++ l) → w.grownBy w' v.ownBlock → K (a.put o.dst v') w') :
    if Region.wanted o (yielded ops a.tmps) = true then Oper.wp Tryd.prog o a w K Q else E := by
  have hw : Region.wanted o (yielded ops a.tmps) = true := by simp [Region.wanted, hgd]
  rw [if_pos hw]
  subst hn
  obtain ⟨v', w', hrun, h2, h3, h4⟩ := run_appN o.type hown hl hA h63 hbase
  unfold Oper.wp execOp
  simp only [ho, resolve, invoke, builtin, Sem.run_bind, Sem.run_pure, Result.andThen_ok, List.map_toArray, List.map_cons, List.map_nil, hs, hx, hrun]
  exact h v' w' h2 h3
theorem wpList_appN {w : World} {ops : Array Oper} {rest : List Oper} {o : Oper} {a : Act} {Q : Exit → Act → World → Prop} (hgd : o.guard = none) (s x : Operand)
    (ho : o.op = .call { callee := .builtin .append, args := #[s, x], argTypes := #[31, 31] }) (base : Nat) (v : Value) (xs : List Nat) (hs : a.eval s = v) (hown : U.OwnI w base v xs)
    (A : Option Addr) (c n : Nat) (l : List Nat) (hn : n = l.length) (hx : a.eval x = .slice A n c) (hl : Its w A l) (hA : A = none → c = 0) (h63 : xs.length + l.length ≤ 1000000) (hbase : base ≤ w.heap.size)
    (h : ∀ v' w', U.OwnI w' base v' (xs ++ l) → w.grownBy w' v.ownBlock → wpList Tryd.prog ops Q rest (a.put o.dst v') w') : wpList Tryd.prog ops Q (o :: rest) a w := by
  subst hn
  refine wpList_plain hgd fun K hK => ?_
  obtain ⟨v', w', hrun, h2, h3, h4⟩ := run_appN o.type hown hl hA h63 hbase
  unfold Oper.wp execOp
  simp only [ho, resolve, invoke, builtin, Sem.run_bind, Sem.run_pure, Result.andThen_ok, List.map_toArray, List.map_cons, List.map_nil, hs, hx, hrun]
  exact hK _ _ (h v' w' h2 h3)
theorem OwnI.new (w : World) : U.OwnI (w.alloc (.cells #[] 3)) w.heap.size (.slice (some ⟨w.heap.size, 0, none⟩) 0 0) [] :=
  ⟨by simp, .inr ⟨w.heap.size, 0, #[], rfl, Nat.le_refl _, heap_alloc_new w _, by simp, by simp [maxLen], by simp, by simp⟩⟩
theorem OwnI.one (w : World) (c : Nat) : U.OwnI (w.alloc (.cells #[.int .i64 (c : Int)] 3)) w.heap.size (.slice (some ⟨w.heap.size, 0, none⟩) 1 1) [c] :=
  ⟨by simp, .inr ⟨w.heap.size, 1, #[.int .i64 (c : Int)], rfl, Nat.le_refl _, heap_alloc_new w _, by simp, by simp [maxLen], by simp, by simp [U.ival]⟩⟩
theorem OwnI.its {w : World} {base : Nat} {v : Value} {l : List Nat} (h : U.OwnI w base v l) : ∃ a cap, v = .slice a l.length cap ∧ Its w a l ∧ (a = none → cap = 0) ∧ l.length ≤ cap ∧ ∀ ad, a = some ad → base ≤ ad.block ∧ ad.block < w.heap.size := by
  rcases h.2 with ⟨rfl, h0⟩ | ⟨g, cap, cur, rfl, hg, hh, hnc, hm, hcur, htake⟩
  · have : l = [] := List.length_eq_zero_iff.1 h0
    subst this
    exact ⟨none, 0, rfl, Its.nil _ _, fun _ => rfl, Nat.le_refl _, fun ad h => by cases h⟩
  · refine ⟨some ⟨g, 0, none⟩, cap, rfl, fun _ => ⟨g, 0, rfl, fun i hi => ?_⟩, (fun h => by cases h), hnc, fun ad h => by cases h; exact ⟨hg, (Array.getElem?_eq_some_iff.1 hh).1⟩⟩
    have h1 := cell_of_row w g (0 + i) cur _ _ hh
    rw [h1]
    have h2 := congrArg (·[i]?) htake
    simp only [Nat.mul_one, List.getElem?_take, hi, if_true, List.getElem?_map] at h2
    rw [Nat.zero_add, ← Array.getElem?_toList, h2, getElem!_pos l i hi]
    simp [hi]
theorem OwnI.other {w w' : World} {base : Nat} {v : Value} {l : List Nat} {G G' : List Nat} (h : U.OwnI w base v l) (hs : Stp G w G' w') (hG : ∀ k, v.ownBlock = some k → k ∉ G) : U.OwnI w' base v l := by
  refine ⟨h.1, ?_⟩
  rcases h.2 with hn | ⟨g, cap, cur, rfl, hb, hgg, rest⟩
  · exact .inl hn
  · exact .inr ⟨g, cap, cur, rfl, hb, (hs.block g (Array.getElem?_eq_some_iff.1 hgg).1 (hG g rfl)).trans hgg, rest⟩
theorem OwnI.mono {w : World} {base base' : Nat} {v : Value} {l : List Nat} (h : U.OwnI w base v l) (hb : base' ≤ base) : U.OwnI w base' v l := by
  refine ⟨h.1, ?_⟩
  rcases h.2 with hn | ⟨g, cap, cur, rfl, hg, rest⟩
  · exact .inl hn
  · exact .inr ⟨g, cap, cur, rfl, by omega, rest⟩

/-! ### The buffer -/
/-- The document's buffer at m: two slices; their cells lie in no block of F. -/
structure Rc (F : List Nat) (W : World) (m N : Nat) (pa : Option Addr) (ca : Nat) (A : List Nat) (pb : Option Addr) (cb : Nat) (B : List Nat) : Prop where
  obj : W.heap[m]? = some (.cells #[.slice pa A.length ca, .slice pb B.length cb, .int .i64 (N : Int)] 36 (0, 0))
  ia : Its W pa A
  ib : Its W pb B
  la : A.length ≤ ca
  lb : B.length ≤ cb
  na : pa = none → ca = 0
  nb : pb = none → cb = 0
  xa : ∀ ad, pa = some ad → ad.block ∉ F ∧ ad.block < W.heap.size
  xb : ∀ ad, pb = some ad → ad.block ∉ F ∧ ad.block < W.heap.size
  mF : m ∈ F
  lo : ∀ k ∈ F, k < W.heap.size
section
variable {F G G' : List Nat} {W W' : World} {m N ca cb : Nat} {pa pb : Option Addr} {A B : List Nat}
theorem Rc.lt (h : Rc F W m N pa ca A pb cb B) : m < W.heap.size := h.lo m h.mF
theorem Rc.c0 (h : Rc F W m N pa ca A pb cb B) : W.cell? ⟨m, 0, none⟩ = some (.slice pa A.length ca) := by rw [cell_of_row W m 0 _ _ _ h.obj]; rfl
theorem Rc.c1 (h : Rc F W m N pa ca A pb cb B) : W.cell? ⟨m, 1, none⟩ = some (.slice pb B.length cb) := by rw [cell_of_row W m 1 _ _ _ h.obj]; rfl
theorem Rc.c2 (h : Rc F W m N pa ca A pb cb B) : W.cell? ⟨m, 2, none⟩ = some (.int .i64 (N : Int)) := by rw [cell_of_row W m 2 _ _ _ h.obj]; rfl
theorem Rc.f0 (h : Rc F W m N pa ca A pb cb B) : W.frozen? ⟨m, 0, none⟩ = false := frozen_of_row W m 0 _ _ h.obj
theorem Rc.f1 (h : Rc F W m N pa ca A pb cb B) : W.frozen? ⟨m, 1, none⟩ = false := frozen_of_row W m 1 _ _ h.obj
theorem Rc.other (h : Rc F W m N pa ca A pb cb B) (hs : Stp G W G' W') (hG : ∀ k ∈ G, k ∈ F) (hm : m ∉ G) : Rc F W' m N pa ca A pb cb B :=
  ⟨(hs.block m h.lt hm).trans h.obj, h.ia.other hs (fun _ ad e g => (h.xa ad e).1 (hG _ g)), h.ib.other hs (fun _ ad e g => (h.xb ad e).1 (hG _ g)), h.la, h.lb, h.na, h.nb,
    (fun ad e => ⟨(h.xa ad e).1, Nat.lt_of_lt_of_le (h.xa ad e).2 hs.size⟩), (fun ad e => ⟨(h.xb ad e).1, Nat.lt_of_lt_of_le (h.xb ad e).2 hs.size⟩), h.mF, fun k hk => Nat.lt_of_lt_of_le (h.lo k hk) hs.size⟩
theorem Rc.stays (h : Rc F W m N pa ca A pb cb B) (hs : Stp [] W G' W') : Rc F W' m N pa ca A pb cb B := h.other hs (fun k h => by cases h) (fun h => by cases h)
/-- Its first list is another one. -/
theorem Rc.setA {a : Option Addr} {c : Nat} {X : List Nat} (h : Rc F W m N pa ca A pb cb B) (hi : Its W a X) (hl : X.length ≤ c) (hn : a = none → c = 0) (hx : ∀ ad, a = some ad → ad.block ∉ F ∧ ad.block < W.heap.size) :
    Rc F (W.setCell ⟨m, 0, none⟩ (.slice a X.length c)) m N a c X pb cb B := by
  have hs : Stp [m] W [m] (W.setCell ⟨m, 0, none⟩ (.slice a X.length c)) := Stp.setCell (F := [m]) (a := ⟨m, 0, none⟩) W _ (by simp)
  have hz : (W.setCell ⟨m, 0, none⟩ (.slice a X.length c)).heap.size = W.heap.size := World.size_setCell _ _ _
  exact ⟨heap_setCell_same W m 0 _ _ _ h.obj, hi.other hs (fun _ ad e g => (hx ad e).1 (by rw [List.mem_singleton.1 g]; exact h.mF)), h.ib.other hs (fun _ ad e g => (h.xb ad e).1 (by rw [List.mem_singleton.1 g]; exact h.mF)), hl, h.lb, hn, h.nb,
    (fun ad e => ⟨(hx ad e).1, by rw [hz]; exact (hx ad e).2⟩), (fun ad e => ⟨(h.xb ad e).1, by rw [hz]; exact (h.xb ad e).2⟩), h.mF, fun k hk => by rw [hz]; exact h.lo k hk⟩
/-- Its second list is another one. -/
theorem Rc.setB {a : Option Addr} {c : Nat} {X : List Nat} (h : Rc F W m N pa ca A pb cb B) (hi : Its W a X) (hl : X.length ≤ c) (hn : a = none → c = 0) (hx : ∀ ad, a = some ad → ad.block ∉ F ∧ ad.block < W.heap.size) :
    Rc F (W.setCell ⟨m, 1, none⟩ (.slice a X.length c)) m N pa ca A a c X := by
  have hs : Stp [m] W [m] (W.setCell ⟨m, 1, none⟩ (.slice a X.length c)) := Stp.setCell (F := [m]) (a := ⟨m, 1, none⟩) W _ (by simp)
  have hz : (W.setCell ⟨m, 1, none⟩ (.slice a X.length c)).heap.size = W.heap.size := World.size_setCell _ _ _
  exact ⟨heap_setCell_same W m 1 _ _ _ h.obj, h.ia.other hs (fun _ ad e g => (h.xa ad e).1 (by rw [List.mem_singleton.1 g]; exact h.mF)), hi.other hs (fun _ ad e g => (hx ad e).1 (by rw [List.mem_singleton.1 g]; exact h.mF)), h.la, hl, h.na, hn,
    (fun ad e => ⟨(h.xa ad e).1, by rw [hz]; exact (h.xa ad e).2⟩), (fun ad e => ⟨(hx ad e).1, by rw [hz]; exact (hx ad e).2⟩), h.mF, fun k hk => by rw [hz]; exact h.lo k hk⟩
/-- A row of the call's own lies in no block of F. -/
theorem Rc.fresh (h : Rc F W m N pa ca A pb cb B) {a : Option Addr} (hx : ∀ ad, a = some ad → W.heap.size ≤ ad.block ∧ ad.block < W'.heap.size) : ∀ ad, a = some ad → ad.block ∉ F ∧ ad.block < W'.heap.size := fun ad e => ⟨fun g => by have := h.lo _ g; have := (hx ad e).1; omega, (hx ad e).2⟩
end
/-- The document's buffer. -/
structure Rb (F : List Nat) (W : World) (m N : Nat) (A B : List Nat) : Prop where
  ex : ∃ pa ca pb cb, Rc F W m N pa ca A pb cb B
  pr : Pr (A ++ B)
  le : (A ++ B).length ≤ 4096
theorem Rb.other {F G G' : List Nat} {W W' : World} {m N : Nat} {A B : List Nat} (h : Rb F W m N A B) (hs : Stp G W G' W') (hG : ∀ k ∈ G, k ∈ F) (hm : m ∉ G) : Rb F W' m N A B := by
  obtain ⟨pa, ca, pb, cb, h1⟩ := h.ex
  exact ⟨⟨pa, ca, pb, cb, h1.other hs hG hm⟩, h.pr, h.le⟩
theorem Rb.stays {F G' : List Nat} {W W' : World} {m N : Nat} {A B : List Nat} (h : Rb F W m N A B) (hs : Stp [] W G' W') : Rb F W' m N A B := h.other hs (fun k h => by cases h) (fun h => by cases h)
theorem fl_len_le4 (A : List Nat) : (fl A).length ≤ 4 * A.length := by
  induction A with
  | nil => simp [fl]
  | cons c A ih =>
    rw [fl_cons, List.length_append, List.length_cons]
    have := (enc8_len c).2
    omega
set_option maxHeartbeats 1000000 in
set_option maxRecDepth 100000 in
theorem rbytes_run (a : Option Addr) (n c : Nat) (l : List Nat) (w : World) (h : Its w a l) (hn : n = l.length) (hl : n ≤ 4096) (hp : Pr l) :
    Calls Tryd.prog 23 #[.slice a n c] w fun e w' => ∃ v, e = .returned v ∧ Own w' w.heap.size v (fl l) ∧ Stp [] w [] w' := by
  have H := Lib.hid (And.intro h (And.intro hn hp))
  clear h hn hp
  go_enter Tryd.func23, Tryd.ntmps23
  go_wp2_with fail
  go_loopg [3, 4] n (fun gk v3 vi wr => ∃ (i : Nat) (ao : Option Addr) (no co : Nat), vi = .int .i64 (i : Int) ∧ v3 = .slice ao no co ∧ i ≤ n ∧ n - i ≤ gk ∧ Aside (Stp [] w [] wr ∧ Own wr w.heap.size (.slice ao no co) (fl (l.take i))))
  case atStart => exact ⟨0, none, 0, 0, rfl, rfl, Nat.zero_le _, by omega, Stp.refl _ _, Own.nil _ _⟩
  case round =>
    obtain ⟨i, ao, no, co, rfl, rfl, hi, hg, HS⟩ := hrel
    by_cases hlt : i < n
    · have hltz : (i : Int) < (n : Int) := by omega
      have hil : i < l.length := by rw [← H.out.2.1]; exact hlt
      obtain ⟨lb, off, rfl, c0⟩ := (H.out.1.stays HS.out.1).at hil
      unfold U.ival at c0
      have hst : fl (l.take (i + 1)) = fl (l.take i) ++ enc8 (l[i]!) := by
        rw [List.take_succ_eq_append_getElem hil, getElem!_pos l i hil, fl_app, fl_one]
      have hpr : U.prB ((l[i]! : Nat) : Int) = true := H.out.2.2 _ (by rw [getElem!_pos l i hil]; exact List.getElem_mem hil)
      have hlen : (fl (l.take i)).length ≤ 4 * 4096 := by
        have h1 := fl_len_le4 (l.take i)
        have h2 := H.out.2.1
        simp at h1
        omega
      have HX := Lib.hid (And.intro hst (And.intro hpr (And.intro hlen hlt)))
      generalize l[i]! = x at *
      clear hst hpr hlen hlt hil
      have hx1 := (pr_ch HX.out.2.1).2
      have KU := Lib.hid (fun W => U.rput_any x W hx1)
      clear hx1
      go_wp2_with (first
        | (go_at_call 37
           refine (KU.out _).mono ?_
           rintro _ w1 ⟨v1, rfl, ho1, hb1⟩
           have ho1 := own_of_U ho1 (U.enc_lt x (pr_ch HX.out.2.1).2)
           rw [show (U.enc x).map UInt8.ofNat = enc8 x from rfl] at ho1
           obtain ⟨a5, c5, rfl, hbt5, hz5, _, _⟩ := ho1.bts
           have s1 := Stp.of_below hb1
           have H1 := Lib.hid (And.intro (HS.out.1.trans s1) (And.intro (HS.out.2.other s1 (fun k _ h => by cases h)) (And.intro hbt5 hz5)))
           clear ho1 hb1 hbt5 hz5 s1)
        | (at_builtin
           refine wpList_app rfl (.tmp 11) (.tmp 16) rfl w.heap.size (.slice ao no co) (fl (l.take i)) rfl H1.out.2.1 a5 c5 (enc8 x).length (enc8 x) rfl rfl H1.out.2.2.1 H1.out.2.2.2 (by have h1 := HX.out.2.2.1; have h2 := (enc8_len x).2; omega) H1.out.1.size ?_
           intro v6 w6 ho6 hg6
           have H6 : Aside (Stp [] w [] w6 ∧ Own w6 w.heap.size v6 (fl (l.take i) ++ enc8 x)) := ⟨H1.out.1.app hg6 (fun k hk => (H1.out.2.1.lt k hk).1), ho6⟩
           clear ho6 hg6))
      go_roundg (n - (i + 1))
      case measure => have := HX.out.2.2.2; omega
      case rel =>
        obtain ⟨a7, c7, e7, _⟩ := H6.out.2.bts
        refine ⟨i + 1, a7, _, c7, by go_num, e7, by have := HX.out.2.2.2; omega, by omega, H6.out.1, ?_⟩
        rw [HX.out.1, ← e7]
        exact H6.out.2
    · have hltz : ¬ (i : Int) < (n : Int) := by omega
      have hl2 : l.take i = l := List.take_of_length_le (by have := H.out.2.1; omega)
      have HS2 : Aside (Stp [] w [] wr ∧ Own wr w.heap.size (.slice ao no co) (fl l)) := by
        have := HS.out
        rw [hl2] at this
        exact this
      clear HS hl2
      go_wp2
      go_ret
      exact ⟨_, rfl, HS2.out.2, HS2.out.1⟩
theorem Own.mono {w : World} {base base' : Nat} {v : Value} {l : List UInt8} (h : Own w base v l) (hb : base' ≤ base) : Own w base' v l := by
  refine ⟨h.1, ?_⟩
  rcases h.2 with hn | ⟨g, cap, cur, rfl, hg, rest⟩
  · exact .inl hn
  · exact .inr ⟨g, cap, cur, rfl, by omega, rest⟩
/-- An append at a step of a region that draws its order. -/
theorem step_app {w : World} {ops : Array Oper} {o : Oper} {a : Act} {K : Act → World → Prop} {Q : Exit → Act → World → Prop} {E : Prop} (hgd : o.guard = none) (s x : Operand)
    (ho : o.op = .call { callee := .builtin .append, args := #[s, x], argTypes := #[50, 50] }) (base : Nat) (v : Value) (xs : List UInt8) (hs : a.eval s = v) (hown : Own w base v xs)
    (A : Option Addr) (c n : Nat) (l : List UInt8) (hn : n = l.length) (hx : a.eval x = .slice A n c) (hl : Bts w A l) (hA : A = none → c = 0) (h63 : xs.length + l.length ≤ 1000000) (hbase : base ≤ w.heap.size)
    (h : ∀ v' w', Own w' base v' (xs ++ l) → w.grownBy w' v.ownBlock → K (a.put o.dst v') w') :
    if Region.wanted o (yielded ops a.tmps) = true then Oper.wp Tryd.prog o a w K Q else E := by
  have hw : Region.wanted o (yielded ops a.tmps) = true := by simp [Region.wanted, hgd]
  rw [if_pos hw]
  subst hn
  obtain ⟨v', w', hrun, h2, h3, h4⟩ := run_app o.type hown hl hA h63 hbase
  unfold Oper.wp execOp
  simp only [ho, resolve, invoke, builtin, Sem.run_bind, Sem.run_pure, Result.andThen_ok, List.map_toArray, List.map_cons, List.map_nil, hs, hx, hrun]
  exact h v' w' h2 h3
attribute [local go_sem ↓] Go.wp_at_zero Go.wp_at_succ in
set_option maxHeartbeats 3200000 in
set_option maxRecDepth 100000 in
theorem rtext_run {F : List Nat} {W : World} {m N : Nat} {A B : List Nat} (h : Rb F W m N A B) :
    Calls Tryd.prog 29 #[.pointer (some ⟨m, 0, none⟩)] W fun e w' => ∃ v, e = .returned v ∧ Own w' W.heap.size v (fl (A ++ B)) ∧ Stp [] W [] w' := by
  obtain ⟨pa, ca, pb, cb, h1⟩ := h.ex
  have c0 := h1.c0
  have c1 := h1.c1
  have h2 := h1.ia
  have h3 := h1.ib
  have hlen := h.le
  rw [List.length_append] at hlen
  have KA : ∀ W', Stp [] W [] W' → Calls Tryd.prog 23 #[.slice pa A.length ca] W' fun e w' => ∃ v, e = .returned v ∧ Own w' W.heap.size v (fl A) ∧ Stp [] W [] w' := fun W' hs =>
    (rbytes_run pa A.length ca A W' (h2.stays hs) rfl (by omega) h.pr.left).mono fun _ _ ⟨v, q1, q2, q3⟩ => ⟨v, q1, q2.mono hs.size, hs.trans q3⟩
  have KB : ∀ W', Stp [] W [] W' → Calls Tryd.prog 23 #[.slice pb B.length cb] W' fun e w' => ∃ v, e = .returned v ∧ Own w' W'.heap.size v (fl B) ∧ Stp [] W' [] w' := fun W' hs =>
    rbytes_run pb B.length cb B W' (h3.stays hs) rfl (by omega) h.pr.right
  have hm := h1.lt
  have KA := Lib.hid KA
  have KB := Lib.hid KB
  have HA4 : Aside ((fl A).length + (fl B).length ≤ 40000) := by
    have q1 := fl_len_le4 A
    have q2 := fl_len_le4 B
    show _ ≤ _
    omega
  clear h1 h2 h3 h hlen
  rw [fl_app]
  obtain ⟨X, eX⟩ : ∃ X, X = fl A := ⟨_, rfl⟩
  obtain ⟨Y, eY⟩ : ∃ Y, Y = fl B := ⟨_, rfl⟩
  rw [← eX, ← eY]
  rw [← eX] at KA
  rw [← eY] at KB
  rw [← eX, ← eY] at HA4
  clear eX eY
  generalize A.length = na at *
  generalize B.length = nb at *
  have HS0 : Aside (Stp [] W [] W.drew) := Stp.drew [] _
  go_enter Tryd.func29, Tryd.ntmps29
  go_wp2_with fail
  go_region_law
    (first
      | (go_simp
         go_at_call 23
         refine (KA.out _ HS0.out).mono ?_
         rintro _ w1 ⟨v1, rfl, ho1, s1⟩
         have HS1 : Aside (Stp [] W [] w1 ∧ Own w1 W.heap.size v1 X) := ⟨s1, ho1⟩
         have d1 : w1.cell? ⟨m, 1, none⟩ = some (.slice pb nb cb) := (s1.cell (a := ⟨m, 1, none⟩) hm (fun h => by cases h)).trans c1
         have KB1 := Lib.hid (KB.out w1 s1)
         clear ho1 s1 HS0 KA)
      | (go_simp
         go_at_call 23
         refine KB1.out.mono ?_
         rintro _ w2 ⟨v2, rfl, ho2, s2⟩
         obtain ⟨a2, k2, rfl, hb2, hn2, hc2, hbb2⟩ := ho2.bts
         have HS2 : Aside (Stp [] W [] w2 ∧ Own w2 W.heap.size v1 X ∧ Bts w2 a2 Y ∧ (a2 = none → k2 = 0)) := ⟨HS1.out.1.trans s2, HS1.out.2.other s2 (fun k _ h => by cases h), hb2, hn2⟩
         clear ho2 s2 hb2 hn2 hc2 hbb2 KB1)
      | (refine step_app (by rfl) (.tmp 7) (.tmp 12) (by rfl) W.heap.size v1 X (by rfl) HS2.out.2.1 a2 k2 Y.length Y (by rfl) (by rfl) HS2.out.2.2.1 HS2.out.2.2.2 (by have := HA4.out; omega) (HS2.out.1.size) ?_
         intro v3 w3 ho3 hg3
         have HS3 : Aside (Stp [] W [] w3 ∧ Own w3 W.heap.size v3 (X ++ Y)) := ⟨HS2.out.1.app hg3 (fun k hk => (HS2.out.2.1.lt k hk).1), ho3⟩
         clear ho3 hg3))
  all_goals
    go_wp2
    go_ret
    exact ⟨_, rfl, HS3.out.2, HS3.out.1⟩
end Go.Proofs.YtombkdbojdhodaaDoor
