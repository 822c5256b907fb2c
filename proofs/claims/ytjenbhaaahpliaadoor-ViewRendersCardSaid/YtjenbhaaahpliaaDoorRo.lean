/-
  The rows of all modes: their closures, and the row of a mode; whether numbers may be.
-/
import Derived.Test.YtjenbhaaahpliaaDoorOwn
import Derived.Laws.ResultCell
import Derived.Laws.Rows
namespace Go.Proofs.YtjenbhaaahpliaaDoor
open Go.RowKit Go.Lib
set_option linter.unusedVariables false

/-! ### Values laid into cells, one by one -/
theorem all_set {W : World} {g : Nat} {t : TypeId} {C : Array Value} (h : W.heap[g]? = some (.cells C t (0, 0))) {V : List Value} (hV : V.length = C.size) : (W.setCells g 0 V).heap[g]? = some (.cells V.toArray t (0, 0)) := by
  have := heap_setCells g V 0 W C.toList t (by simpa using h) (by simp; omega)
  rw [this]
  simp [hV]
theorem store_at {W : World} {g : Nat} {t : TypeId} {C : Array Value} (hb : W.heap[g]? = some (.cells C t (0, 0))) (o : Nat) (ho : o < C.size) (v : Value) (hv : v.oneCell' = true) : (store ⟨g, o, none⟩ v).run Tryd.prog W = .ok () (W.setCell ⟨g, o, none⟩ v) := by
  have hc : W.cell? ⟨g, o, none⟩ = some C[o] := by
    rw [cell_of_row W g o _ _ _ hb]
    simp [ho]
  have hz := frozen_of_row W g o _ _ hb
  rw [run_store _ _ _ _ _ hv]
  simp [hc, hz]
/-- Values that are laid into cells, one by one. -/
noncomputable def chain (g : Nat) : Nat → Value → List Value → World → Result Unit
  | o, v, [], w => (store ⟨g, o, none⟩ v).run Tryd.prog w
  | o, v, v' :: r, w => ((store ⟨g, o, none⟩ v).run Tryd.prog w).andThen fun _ w' => chain g (o + 1) v' r w'
theorem chain_ok (g : Nat) (t : TypeId) : ∀ (r : List Value) (o : Nat) (v : Value) (w : World) (C : Array Value), w.heap[g]? = some (.cells C t (0, 0)) → o + r.length < C.size → (∀ x ∈ v :: r, x.oneCell' = true) → chain g o v r w = .ok () (w.setCells g o (v :: r))
  | [], o, v, w, C, hb, ho, h1 => store_at hb o (by simpa using ho) v (h1 v (by simp))
  | v' :: r, o, v, w, C, hb, ho, h1 => by
    simp only [List.length_cons] at ho
    unfold chain
    rw [store_at hb o (by omega) v (h1 v (by simp)), Result.andThen_ok]
    have hb2 := heap_setCell_same w g o _ _ v hb
    exact chain_ok g t r (o + 1) v' _ _ hb2 (by rw [Array.size_setIfInBounds]; omega) (fun x hx => h1 x (List.mem_cons_of_mem _ hx))

/-! ### The rows -/
theorem row_info : (Tryd.prog.info? 55).map (·.size) = some 2 := by kernel_rfl
theorem rows_info : (Tryd.prog.info? 74).map (·.size) = some 6 := by kernel_rfl
theorem chain6 {W : World} {g : Nat} {t : TypeId} (hb : W.heap[g]? = some (.cells #[.nilFunc, .nilFunc, .nilFunc, .nilFunc, .nilFunc, .nilFunc] t (0, 0))) (a b c d e f : Value)
    (ha : a.oneCell' = true) (hb' : b.oneCell' = true) (hc : c.oneCell' = true) (hd : d.oneCell' = true) (he : e.oneCell' = true) (hf : f.oneCell' = true) :
    ((store ⟨g, 0, none⟩ a).run Tryd.prog W).andThen (fun _ w => ((store ⟨g, 1, none⟩ b).run Tryd.prog w).andThen fun _ w => ((store ⟨g, 2, none⟩ c).run Tryd.prog w).andThen fun _ w => ((store ⟨g, 3, none⟩ d).run Tryd.prog w).andThen fun _ w => ((store ⟨g, 4, none⟩ e).run Tryd.prog w).andThen fun _ w => (store ⟨g, 5, none⟩ f).run Tryd.prog w) = .ok () (W.setCells g 0 [a, b, c, d, e, f]) :=
  chain_ok g t [b, c, d, e, f] 0 a W _ hb (by simp) (by simp [ha, hb', hc, hd, he, hf])
theorem set6 {W : World} {g : Nat} {t : TypeId} (hb : W.heap[g]? = some (.cells #[.nilFunc, .nilFunc, .nilFunc, .nilFunc, .nilFunc, .nilFunc] t (0, 0))) (a b c d e f : Value) : (W.setCells g 0 [a, b, c, d, e, f]).heap[g]? = some (.cells #[a, b, c, d, e, f] t (0, 0)) := all_set hb rfl
def fn0 : Value := .func (.func 47) #[] #[]
def fn1 : Value := .func (.func 48) #[] #[]
def fn2 : Value := .func (.func 49) #[] #[]
def fn3 : Value := .func (.func 50) #[] #[]
def fn4 : Value := .func (.func 51) #[] #[]
def fn5 : Value := .func (.func 52) #[] #[]
set_option maxRecDepth 100000 in
theorem all_run (w : World) : Calls Tryd.prog 36 #[] w (Tells (.agg #[fn0, fn1, fn2, fn3, fn4, fn5]) w) := by
  have hb := heap_alloc_new w (.cells #[.nilFunc, .nilFunc, .nilFunc, .nilFunc, .nilFunc, .nilFunc] 74)
  have hch := chain6 hb fn0 fn1 fn2 fn3 fn4 fn5 rfl rfl rfl rfl rfl rfl
  have hs := set6 hb fn0 fn1 fn2 fn3 fn4 fn5
  have hz : Aside (Stp [] w [] ((w.alloc (.cells #[.nilFunc, .nilFunc, .nilFunc, .nilFunc, .nilFunc, .nilFunc] 74)).setCells w.heap.size 0 [fn0, fn1, fn2, fn3, fn4, fn5])) := ((Stp.alloc [] _ _).fresh (setCells_other w.heap.size _ _ _) (by simp)).none
  clear hb
  go_enter Tryd.func36, Tryd.ntmps36
  go_wp2
  generalize (w.alloc (.cells #[.nilFunc, .nilFunc, .nilFunc, .nilFunc, .nilFunc, .nilFunc] 74)).setCells w.heap.size 0 [fn0, fn1, fn2, fn3, fn4, fn5] = wz at *
  unfold fn0 fn1 fn2 fn3 fn4 fn5 at *
  rw [hch, Result.andThen_ok]
  clear hch
  generalize w.heap.size = g at *
  go_wp2
  refine bodyPost_ret (results_cell_row rfl _ _ g 74 _ _ _ rfl hs Tryd.underlying74 rfl rows_info) rfl ?_
  exact ⟨rfl, hz⟩

/-- A mode's row. -/
def rowA (m : Int) : Value := if m = 0 then fn0 else if m = 1 then fn2 else if m = 2 then fn4 else .nilFunc
def rowB (m : Int) : Value := if m = 0 then fn1 else if m = 1 then fn3 else if m = 2 then fn5 else .nilFunc
/-- Is there such a mode? -/
def mok (m : Int) : Bool := decide (0 ≤ m ∧ m ≤ 2)
theorem rowA_one (m : Int) : (rowA m).oneCell' = true := by unfold rowA; (repeat' split) <;> rfl
theorem rowB_one (m : Int) : (rowB m).oneCell' = true := by unfold rowB; (repeat' split) <;> rfl
/-- A row's two cells. -/
theorem row_laid {W : World} {g : Nat} (hb : W.heap[g]? = some (.cells #[.nilFunc, .nilFunc] 55 (0, 0))) (x y : Value) (hx : x.oneCell' = true) (hy : y.oneCell' = true) :
    ((store ⟨g, 0, none⟩ x).run Tryd.prog W).andThen (fun _ w' => (store ⟨g, 1, none⟩ y).run Tryd.prog w') = .ok () (W.setCells g 0 [x, y]) ∧
    (W.setCells g 0 [x, y]).heap[g]? = some (.cells #[x, y] 55 (0, 0)) ∧ Stp [g] W [g] (W.setCells g 0 [x, y]) := by
  refine ⟨?_, all_set hb rfl, setCells_other _ _ _ _⟩
  exact chain_ok g _ [y] 0 x _ _ hb (by simp) (by simp [hx, hy])
theorem res_row2 {fn : Func} {p u : Tmp} (h : fn.results = #[.cell p 55, .tmp u]) (tmps : Array Value) (w : World) (g : Nat) (x y : Value) (hp : tmps.getD p undef = .pointer (some ⟨g, 0, none⟩))
    (hg : w.heap[g]? = some (.cells #[x, y] 55 (0, 0))) : (results fn tmps).run Tryd.prog w = .ok (.tuple #[.agg #[x, y], tmps.getD u undef]) w := by
  rw [results_cell_tmp h, hp]
  have h1 := run_loadVar_row (P := Tryd.prog) w g _ _ _ _ _ hg Tryd.underlying55 rfl row_info
  simp only [asAddr, Sem.run_pure, Result.andThen_ok, h1]
end Go.Proofs.YtjenbhaaahpliaaDoor
