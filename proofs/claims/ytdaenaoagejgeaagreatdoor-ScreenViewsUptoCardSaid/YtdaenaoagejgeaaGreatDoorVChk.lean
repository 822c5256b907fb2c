import Derived.Test.YtdaenaoagejgeaaGreatDoorOwn
import Derived.Laws.ResultCell
import Derived.Laws.Rows
import Derived.Test.YtdaenaoagejgeaaGreatDoorUText
import Derived.Test.YtdaenaoagejgeaaGreatDoorFine
/-
  The rows of all modes: their closures, and the row of a mode; whether numbers may be.
-/
namespace Go.Proofs.YtdaenaoagejgeaaGreatDoor
open Go.RowKit Go.Lib
set_option linter.unusedVariables false

/-! ### Values laid into cells, one by one -/
theorem all_set {W : World} {g : Nat} {t : TypeId} {C : Array Value} (h : W.heap[g]? = some (.cells C t (0, 0))) {V : List Value} (hV : V.length = C.size) : (W.setCells g 0 V).heap[g]? = some (.cells V.toArray t (0, 0)) := by
  have := heap_setCells g V 0 W C.toList t (by simpa using h) (by simp; omega)
  rw [this]
  simp [hV]
theorem store_at {W : World} {g : Nat} {t : TypeId} {C : Array Value} (hb : W.heap[g]? = some (.cells C t (0, 0))) (o : Nat) (ho : o < C.size) (v : Value) (hv : v.oneCell' = true) : (store ⟨g, o, none⟩ v).run Tryz.prog W = .ok () (W.setCell ⟨g, o, none⟩ v) := by
  have hc : W.cell? ⟨g, o, none⟩ = some C[o] := by
    rw [cell_of_row W g o _ _ _ hb]
    simp [ho]
  have hz := frozen_of_row W g o _ _ hb
  rw [run_store _ _ _ _ _ hv]
  simp [hc, hz]
/-- Values that are laid into cells, one by one. -/
noncomputable def chain (g : Nat) : Nat → Value → List Value → World → Result Unit
  | o, v, [], w => (store ⟨g, o, none⟩ v).run Tryz.prog w
  | o, v, v' :: r, w => ((store ⟨g, o, none⟩ v).run Tryz.prog w).andThen fun _ w' => chain g (o + 1) v' r w'
theorem chain_ok (g : Nat) (t : TypeId) : ∀ (r : List Value) (o : Nat) (v : Value) (w : World) (C : Array Value), w.heap[g]? = some (.cells C t (0, 0)) → o + r.length < C.size → (∀ x ∈ v :: r, x.oneCell' = true) → chain g o v r w = .ok () (w.setCells g o (v :: r))
  | [], o, v, w, C, hb, ho, h1 => store_at hb o (by simpa using ho) v (h1 v (by simp))
  | v' :: r, o, v, w, C, hb, ho, h1 => by
    simp only [List.length_cons] at ho
    unfold chain
    rw [store_at hb o (by omega) v (h1 v (by simp)), Result.andThen_ok]
    have hb2 := heap_setCell_same w g o _ _ v hb
    exact chain_ok g t r (o + 1) v' _ _ hb2 (by rw [Array.size_setIfInBounds]; omega) (fun x hx => h1 x (List.mem_cons_of_mem _ hx))

/-! ### The rows -/
theorem vrow_info : (Tryz.prog.info? 57).map (·.size) = some 2 := by kernel_rfl
theorem rows_info : (Tryz.prog.info? 82).map (·.size) = some 6 := by kernel_rfl
theorem chain6 {W : World} {g : Nat} {t : TypeId} (hb : W.heap[g]? = some (.cells #[.nilFunc, .nilFunc, .nilFunc, .nilFunc, .nilFunc, .nilFunc] t (0, 0))) (a b c d e f : Value)
    (ha : a.oneCell' = true) (hb' : b.oneCell' = true) (hc : c.oneCell' = true) (hd : d.oneCell' = true) (he : e.oneCell' = true) (hf : f.oneCell' = true) :
    ((store ⟨g, 0, none⟩ a).run Tryz.prog W).andThen (fun _ w => ((store ⟨g, 1, none⟩ b).run Tryz.prog w).andThen fun _ w => ((store ⟨g, 2, none⟩ c).run Tryz.prog w).andThen fun _ w => ((store ⟨g, 3, none⟩ d).run Tryz.prog w).andThen fun _ w => ((store ⟨g, 4, none⟩ e).run Tryz.prog w).andThen fun _ w => (store ⟨g, 5, none⟩ f).run Tryz.prog w) = .ok () (W.setCells g 0 [a, b, c, d, e, f]) :=
  chain_ok g t [b, c, d, e, f] 0 a W _ hb (by simp) (by simp [ha, hb', hc, hd, he, hf])
theorem set6 {W : World} {g : Nat} {t : TypeId} (hb : W.heap[g]? = some (.cells #[.nilFunc, .nilFunc, .nilFunc, .nilFunc, .nilFunc, .nilFunc] t (0, 0))) (a b c d e f : Value) : (W.setCells g 0 [a, b, c, d, e, f]).heap[g]? = some (.cells #[a, b, c, d, e, f] t (0, 0)) := all_set hb rfl
def fn0 : Value := .func (.func 56) #[] #[]
def fn1 : Value := .func (.func 57) #[] #[]
def fn2 : Value := .func (.func 58) #[] #[]
def fn3 : Value := .func (.func 59) #[] #[]
def fn4 : Value := .func (.func 60) #[] #[]
def fn5 : Value := .func (.func 61) #[] #[]
set_option maxRecDepth 100000 in
theorem all_run (w : World) : Calls Tryz.prog 40 #[] w (Tells (.agg #[fn0, fn1, fn2, fn3, fn4, fn5]) w) := by
  have hb := heap_alloc_new w (.cells #[.nilFunc, .nilFunc, .nilFunc, .nilFunc, .nilFunc, .nilFunc] 82)
  have hch := chain6 hb fn0 fn1 fn2 fn3 fn4 fn5 rfl rfl rfl rfl rfl rfl
  have hs := set6 hb fn0 fn1 fn2 fn3 fn4 fn5
  have hz : Aside (Stp [] w [] ((w.alloc (.cells #[.nilFunc, .nilFunc, .nilFunc, .nilFunc, .nilFunc, .nilFunc] 82)).setCells w.heap.size 0 [fn0, fn1, fn2, fn3, fn4, fn5])) := ((Stp.alloc [] _ _).fresh (setCells_other w.heap.size _ _ _) (by simp)).none
  clear hb
  go_enter Tryz.func40, Tryz.ntmps40
  go_wp2
  generalize (w.alloc (.cells #[.nilFunc, .nilFunc, .nilFunc, .nilFunc, .nilFunc, .nilFunc] 82)).setCells w.heap.size 0 [fn0, fn1, fn2, fn3, fn4, fn5] = wz at *
  unfold fn0 fn1 fn2 fn3 fn4 fn5 at *
  rw [hch, Result.andThen_ok]
  clear hch
  generalize w.heap.size = g at *
  go_wp2
  refine bodyPost_ret (results_cell_row rfl _ _ g 82 _ _ _ rfl hs Tryz.underlying82 rfl rows_info) rfl ?_
  exact ⟨rfl, hz⟩

/-- A mode's row. -/
def rowA (m : Int) : Value := if m = 0 then fn0 else if m = 1 then fn2 else if m = 2 then fn4 else .nilFunc
def rowB (m : Int) : Value := if m = 0 then fn1 else if m = 1 then fn3 else if m = 2 then fn5 else .nilFunc
/-- Is there such a mode? -/
def mok (m : Int) : Bool := decide (0 ≤ m ∧ m ≤ 2)
theorem rowA_one (m : Int) : (rowA m).oneCell' = true := by unfold rowA; (repeat' split) <;> rfl
theorem rowB_one (m : Int) : (rowB m).oneCell' = true := by unfold rowB; (repeat' split) <;> rfl
/-- A row's two cells. -/
theorem row_laid {W : World} {g : Nat} (hb : W.heap[g]? = some (.cells #[.nilFunc, .nilFunc] 57 (0, 0))) (x y : Value) (hx : x.oneCell' = true) (hy : y.oneCell' = true) :
    ((store ⟨g, 0, none⟩ x).run Tryz.prog W).andThen (fun _ w' => (store ⟨g, 1, none⟩ y).run Tryz.prog w') = .ok () (W.setCells g 0 [x, y]) ∧
    (W.setCells g 0 [x, y]).heap[g]? = some (.cells #[x, y] 57 (0, 0)) ∧ Stp [g] W [g] (W.setCells g 0 [x, y]) := by
  refine ⟨?_, all_set hb rfl, setCells_other _ _ _ _⟩
  exact chain_ok g _ [y] 0 x _ _ hb (by simp) (by simp [hx, hy])
theorem res_row2 {fn : Func} {p u : Tmp} (h : fn.results = #[.cell p 57, .tmp u]) (tmps : Array Value) (w : World) (g : Nat) (x y : Value) (hp : tmps.getD p undef = .pointer (some ⟨g, 0, none⟩))
    (hg : w.heap[g]? = some (.cells #[x, y] 57 (0, 0))) : (results fn tmps).run Tryz.prog w = .ok (.tuple #[.agg #[x, y], tmps.getD u undef]) w := by
  rw [results_cell_tmp h, hp]
  have h1 := run_loadVar_row (P := Tryz.prog) w g _ _ _ _ _ hg Tryz.underlying57 rfl vrow_info
  simp only [asAddr, Sem.run_pure, Result.andThen_ok, h1]
end Go.Proofs.YtdaenaoagejgeaaGreatDoor
/-
  The row of a mode; whether numbers may be; how many stars there are, and how many ahead of the place.
-/
namespace Go.Proofs.YtdaenaoagejgeaaGreatDoor
open Go.RowKit Go.Lib
set_option linter.unusedVariables false

theorem vrow_no {m : Int} (h : mok m = false) : rowA m = .nilFunc ∧ rowB m = .nilFunc := by
  have h := of_decide_eq_false h
  unfold rowA rowB
  constructor <;> rw [if_neg (by omega), if_neg (by omega), if_neg (by omega)]
set_option maxHeartbeats 1000000 in
set_option maxRecDepth 100000 in
theorem rowOf_run (m : Int) (w : World) : Calls Tryz.prog 25 #[.int .i64 m] w (Tells (.tuple #[.agg #[rowA m, rowB m], .bool (mok m)]) w) := by
  have KA := Lib.hid all_run
  have hb := heap_alloc_new w (.cells #[.nilFunc, .nilFunc] 57)
  have s0 : Stp [] w [] (w.alloc (.cells #[.nilFunc, .nilFunc] 57)) := Stp.alloc _ _ _
  have hg : w.heap.size < (w.alloc (.cells #[.nilFunc, .nilFunc] 57)).heap.size := by simp
  have hg0 : w.heap.size ≤ w.heap.size := Nat.le_refl _
  go_enter Tryz.func25, Tryz.ntmps25
  go_wp2_with fail
  generalize w.alloc (.cells #[.nilFunc, .nilFunc] 57) = wa at *
  generalize hgg : w.heap.size = g at *
  have HG : Aside (w.heap.size = g) := hgg
  clear hgg hg0
  refine (KA.out wa).mono ?_
  rintro _ w1 ⟨rfl, s1⟩
  have hb1 := (s1.block g hg (by simp)).trans hb
  have hl1 : g < w1.heap.size := Nat.lt_of_lt_of_le hg s1.size
  clear hb KA
  go_wp2
  have hB := heap_alloc_new w1 (.cells #[.nilFunc, .nilFunc, .nilFunc, .nilFunc, .nilFunc, .nilFunc] 82)
  have hch := chain6 hB fn0 fn1 fn2 fn3 fn4 fn5 rfl rfl rfl rfl rfl rfl
  have hs := set6 hB fn0 fn1 fn2 fn3 fn4 fn5
  have hq : Stp [] w1 [] ((w1.alloc (.cells #[.nilFunc, .nilFunc, .nilFunc, .nilFunc, .nilFunc, .nilFunc] 82)).setCells w1.heap.size 0 [fn0, fn1, fn2, fn3, fn4, fn5]) := ((Stp.alloc [] _ _).fresh (setCells_other w1.heap.size _ _ _) (by simp)).none
  clear hB
  rw [hch, Result.andThen_ok]
  clear hch
  generalize (w1.alloc (.cells #[.nilFunc, .nilFunc, .nilFunc, .nilFunc, .nilFunc, .nilFunc] 82)).setCells w1.heap.size 0 [fn0, fn1, fn2, fn3, fn4, fn5] = w2 at *
  have hb2 := (hq.block g hl1 (by simp)).trans hb1
  have S2 : Aside (Stp [] w [] w2) := (s0.trans s1).trans hq
  clear hb1 s0 s1 hq hl1 hg
  generalize w1.heap.size = r at *
  have c0 : w2.cell? ⟨r, 0, none⟩ = some fn0 := by rw [cell_of_row w2 r 0 _ _ _ hs]; rfl
  have c1 : w2.cell? ⟨r, 1, none⟩ = some fn1 := by rw [cell_of_row w2 r 1 _ _ _ hs]; rfl
  have c2 : w2.cell? ⟨r, 2, none⟩ = some fn2 := by rw [cell_of_row w2 r 2 _ _ _ hs]; rfl
  have c3 : w2.cell? ⟨r, 3, none⟩ = some fn3 := by rw [cell_of_row w2 r 3 _ _ _ hs]; rfl
  have c4 : w2.cell? ⟨r, 4, none⟩ = some fn4 := by rw [cell_of_row w2 r 4 _ _ _ hs]; rfl
  have c5 : w2.cell? ⟨r, 5, none⟩ = some fn5 := by rw [cell_of_row w2 r 5 _ _ _ hs]; rfl
  have HS := Lib.hid hs
  clear hs
  have HL := Lib.hid (fun x y hx hy => row_laid hb2 x y hx hy)
  rcases (by omega : m < 0 ∨ 2 < m ∨ m = 0 ∨ m = 1 ∨ m = 2) with h | h | rfl | rfl | rfl
  · obtain ⟨h1, h2, h3⟩ := HL.out .nilFunc .nilFunc rfl rfl
    have H3 := Lib.hid h3
    clear h3 HL hb2
    go_wp2
    refine bodyPost_ret (res_row2 rfl _ _ g _ _ rfl h2) rfl ?_
    have hk : mok m = false := by unfold mok; simp; omega
    refine ⟨by rw [(vrow_no hk).1, (vrow_no hk).2, hk]; rfl, (S2.out.fresh H3.out (by simp [HG.out])).none⟩
  · obtain ⟨h1, h2, h3⟩ := HL.out .nilFunc .nilFunc rfl rfl
    have H3 := Lib.hid h3
    clear h3 HL hb2
    have hm0 : ¬ m < 0 := by omega
    have hm3 : 3 ≤ m := by omega
    go_wp2
    refine bodyPost_ret (res_row2 rfl _ _ g _ _ rfl h2) rfl ?_
    have hk : mok m = false := by unfold mok; simp; omega
    refine ⟨by rw [(vrow_no hk).1, (vrow_no hk).2, hk]; rfl, (S2.out.fresh H3.out (by simp [HG.out])).none⟩
  · obtain ⟨h1, h2, h3⟩ := HL.out fn0 fn1 rfl rfl
    have H3 := Lib.hid h3
    clear h3 HL hb2
    go_wp2
    refine bodyPost_ret (res_row2 rfl _ _ g _ _ rfl h2) rfl ?_
    refine ⟨rfl, (S2.out.fresh H3.out (by simp [HG.out])).none⟩
  · obtain ⟨h1, h2, h3⟩ := HL.out fn2 fn3 rfl rfl
    have H3 := Lib.hid h3
    clear h3 HL hb2
    go_wp2
    refine bodyPost_ret (res_row2 rfl _ _ g _ _ rfl h2) rfl ?_
    refine ⟨rfl, (S2.out.fresh H3.out (by simp [HG.out])).none⟩
  · obtain ⟨h1, h2, h3⟩ := HL.out fn4 fn5 rfl rfl
    have H3 := Lib.hid h3
    clear h3 HL hb2
    go_wp2
    refine bodyPost_ret (res_row2 rfl _ _ g _ _ rfl h2) rfl ?_
    refine ⟨rfl, (S2.out.fresh H3.out (by simp [HG.out])).none⟩

end Go.Proofs.YtdaenaoagejgeaaGreatDoor
/-
  Whether numbers may be; how many stars there are, and how many stand ahead of the place: the program's and the document's.
-/
namespace Go.Proofs.YtdaenaoagejgeaaGreatDoor
open Go.RowKit Go.Lib
set_option linter.unusedVariables false

/-- May these numbers be? -/
def rng (c a : Int) : Bool := decide (0 ≤ a ∧ a ≤ c ∧ c ≤ 1024)
/-- How many stars. -/
def stN (m c : Int) : Int := if (mok m && rng c 0) = true then (if m = 0 then 0 else if m = 1 then c else if 0 < c then 8 else 0) else 0
/-- How many ahead of the place. -/
def plN (m c a : Int) : Int := if (mok m && rng c a) = true then (if m = 0 then 0 else if m = 1 then a else if 0 < c then 8 else 0) else 0
theorem stN_bd (m c : Int) : 0 ≤ stN m c ∧ stN m c ≤ 1024 := by
  unfold stN
  split
  · rename_i h
    have h := of_decide_eq_true (Bool.and_eq_true _ _ ▸ h : mok m = true ∧ rng c 0 = true).2
    (repeat' split) <;> omega
  · omega
theorem plN_bd (m c a : Int) (h : rng c a = true) : 0 ≤ plN m c a ∧ plN m c a ≤ stN m c := by
  have h1 := of_decide_eq_true h
  have h2 : rng c 0 = true := decide_eq_true (by omega)
  unfold plN stN
  rw [h, h2]
  cases mok m
  · simp
  · simp only [Bool.and_true, if_true]
    (repeat' split) <;> omega
set_option maxRecDepth 100000 in
theorem inr_run (c a : Int) (w : World) : Calls Tryz.prog 18 #[.int .i64 c, .int .i64 a] w (Gives (.bool (rng c a)) w) := by
  by_cases h0 : 0 ≤ a
  · by_cases h1 : a ≤ c
    · by_cases h2 : c ≤ 1024
      · have e : rng c a = true := decide_eq_true ⟨h0, h1, h2⟩
        rw [e]
        clear e
        go_enter Tryz.func18, Tryz.ntmps18
        go_wp2
        go_ret
        first | exact ⟨rfl, rfl⟩ | exact ⟨by simp <;> omega, rfl⟩
      · have e : rng c a = false := decide_eq_false (by omega)
        rw [e]
        clear e
        go_enter Tryz.func18, Tryz.ntmps18
        go_wp2
        go_ret
        first | exact ⟨rfl, rfl⟩ | exact ⟨by simp <;> omega, rfl⟩
    · have e : rng c a = false := decide_eq_false (by omega)
      rw [e]
      clear e
      go_enter Tryz.func18, Tryz.ntmps18
      go_wp2
      go_ret
      first | exact ⟨rfl, rfl⟩ | exact ⟨by simp <;> omega, rfl⟩
  · have e : rng c a = false := decide_eq_false (by omega)
    rw [e]
    clear e
    go_enter Tryz.func18, Tryz.ntmps18
    go_wp2
    go_ret
    first | exact ⟨rfl, rfl⟩ | exact ⟨by simp <;> omega, rfl⟩

/-! ### The closures -/
theorem off_stars (c : Int) (w : World) : Calls Tryz.prog 56 #[.int .i64 c] w (Gives (.int .i64 0) w) := by
  go_enter Tryz.func56, Tryz.ntmps56
  go_wp2
  go_ret
  exact ⟨rfl, rfl⟩
theorem off_place (c a : Int) (w : World) : Calls Tryz.prog 57 #[.int .i64 c, .int .i64 a] w (Gives (.int .i64 0) w) := by
  go_enter Tryz.func57, Tryz.ntmps57
  go_wp2
  go_ret
  exact ⟨rfl, rfl⟩
theorem mask_stars (c : Int) (w : World) : Calls Tryz.prog 58 #[.int .i64 c] w (Gives (.int .i64 c) w) := by
  go_enter Tryz.func58, Tryz.ntmps58
  go_wp2
  go_ret
  exact ⟨rfl, rfl⟩
theorem mask_place (c a : Int) (w : World) : Calls Tryz.prog 59 #[.int .i64 c, .int .i64 a] w (Gives (.int .i64 a) w) := by
  go_enter Tryz.func59, Tryz.ntmps59
  go_wp2
  go_ret
  exact ⟨rfl, rfl⟩
theorem fixed_run (c : Int) (w : World) : Calls Tryz.prog 60 #[.int .i64 c] w (Gives (.int .i64 (if 0 < c then 8 else 0)) w) := by
  by_cases h : 0 < c
  · rw [if_pos h]
    go_enter Tryz.func60, Tryz.ntmps60
    go_wp2
    go_ret
    exact ⟨rfl, rfl⟩
  · rw [if_neg h]
    go_enter Tryz.func60, Tryz.ntmps60
    go_wp2
    go_ret
    exact ⟨rfl, rfl⟩
theorem fixed_place (c a : Int) (w : World) : Calls Tryz.prog 61 #[.int .i64 c, .int .i64 a] w (Gives (.int .i64 (if 0 < c then 8 else 0)) w) := by
  have K := Lib.hid (fixed_run c w)
  generalize (if 0 < c then (8 : Int) else 0) = z at *
  go_enter Tryz.func61, Tryz.ntmps61
  go_wp2_with fail
  refine K.out.mono ?_
  rintro _ w1 ⟨rfl, rfl⟩
  go_wp2
  go_ret
  exact ⟨rfl, rfl⟩
/-- A closure that is called with a count. -/
theorem fnA_run {m : Int} (hm : mok m = true) {c : Int} (hc : rng c 0 = true) (w : World) : ∃ f, rowA m = .func (.func f) #[] #[] ∧ (f = 56 ∨ f = 58 ∨ f = 60) ∧ Calls Tryz.prog f #[.int .i64 c] w (Gives (.int .i64 (stN m c)) w) := by
  have h := of_decide_eq_true hm
  have e : stN m c = (if m = 0 then 0 else if m = 1 then c else if 0 < c then 8 else 0) := by unfold stN; rw [hm, hc]; rfl
  rw [e]
  rcases (by omega : m = 0 ∨ m = 1 ∨ m = 2) with rfl | rfl | rfl
  · exact ⟨_, rfl, .inl rfl, off_stars c w⟩
  · exact ⟨_, rfl, .inr (.inl rfl), mask_stars c w⟩
  · exact ⟨_, rfl, .inr (.inr rfl), fixed_run c w⟩
end Go.Proofs.YtdaenaoagejgeaaGreatDoor
/-
  Stars and Place of the program.
-/
namespace Go.Proofs.YtdaenaoagejgeaaGreatDoor
open Go.RowKit Go.Lib
set_option linter.unusedVariables false

set_option maxHeartbeats 1000000 in
set_option maxRecDepth 100000 in
theorem stars_run (m c : Int) (w : World) : Calls Tryz.prog 10 #[.int .i64 m, .int .i64 c] w (Tells (.int .i64 (stN m c)) w) := by
  have KR := Lib.hid (rowOf_run m w)
  have KI := Lib.hid (fun W => inr_run c 0 W)
  have hx := rowA_one m
  have hy := rowB_one m
  cases hm : mok m with
  | false =>
    have e : stN m c = 0 := by unfold stN; rw [hm]; rfl
    rw [e]
    rw [hm, (vrow_no hm).1, (vrow_no hm).2] at KR
    clear e hm hx hy
    go_enter Tryz.func10, Tryz.ntmps10
    go_wp2_with fail
    refine KR.out.mono ?_
    rintro _ w1 ⟨rfl, s1⟩
    have hb := heap_alloc_new w1 (.cells #[.nilFunc, .nilFunc] 57)
    obtain ⟨h1, h2, h3⟩ := row_laid hb .nilFunc .nilFunc rfl rfl
    have H3 := Lib.hid (And.intro s1 h3)
    clear hb h3 s1 h2
    go_wp2_with fail
    go_ret
    exact ⟨rfl, (H3.out.1.trans ((Stp.alloc [] _ _).fresh H3.out.2 (by simp)).none)⟩
  | true =>
    rw [hm] at KR
    cases hr : rng c 0 with
    | false =>
      have e : stN m c = 0 := by unfold stN; rw [hr]; simp
      rw [e]
      rw [hr] at KI
      generalize rowA m = x at *
      generalize rowB m = y at *
      clear e hm hr
      go_enter Tryz.func10, Tryz.ntmps10
      go_wp2_with fail
      refine KR.out.mono ?_
      rintro _ w1 ⟨rfl, s1⟩
      have hb := heap_alloc_new w1 (.cells #[.nilFunc, .nilFunc] 57)
      obtain ⟨h1, h2, h3⟩ := row_laid hb x y hx hy
      have H3 := Lib.hid (And.intro s1 h3)
      clear hb h3 s1 h2
      go_wp2_with fail
      refine (KI.out _).mono ?_
      rintro _ _ ⟨rfl, rfl⟩
      go_wp2_with fail
      go_ret
      exact ⟨rfl, (H3.out.1.trans ((Stp.alloc [] _ _).fresh H3.out.2 (by simp)).none)⟩
    | true =>
      rw [hr] at KI
      have h := of_decide_eq_true hm
      rcases (by omega : m = 0 ∨ m = 1 ∨ m = 2) with rfl | rfl | rfl
      · have e : stN 0 c = 0 := by unfold stN; rw [hr]; rfl
        rw [e]
        clear e hm hr
        have KC := Lib.hid (fun W => off_stars c W)
        rw [show rowA 0 = fn0 from rfl, show rowB 0 = fn1 from rfl] at KR
        go_enter Tryz.func10, Tryz.ntmps10
        go_wp2_with fail
        refine KR.out.mono ?_
        rintro _ w1 ⟨rfl, s1⟩
        have hb := heap_alloc_new w1 (.cells #[.nilFunc, .nilFunc] 57)
        obtain ⟨h1, h2, h3⟩ := row_laid hb fn0 fn1 rfl rfl
        have H3 := Lib.hid (And.intro s1 h3)
        have c0 := cell_of_row _ w1.heap.size 0 _ _ _ h2
        simp only [List.getElem?_toArray, List.getElem?_cons_zero] at c0
        clear hb h3 s1 h2
        unfold fn0 fn1 at *
        go_wp2_with fail
        refine (KI.out _).mono ?_
        rintro _ _ ⟨rfl, rfl⟩
        go_wp2_with fail
        refine (KC.out _).mono ?_
        rintro _ _ ⟨rfl, rfl⟩
        go_wp2
        go_ret
        exact ⟨rfl, (H3.out.1.trans ((Stp.alloc [] _ _).fresh H3.out.2 (by simp)).none)⟩
      · have e : stN 1 c = c := by unfold stN; rw [hr]; rfl
        rw [e]
        clear e hm hr
        have KC := Lib.hid (fun W => mask_stars c W)
        rw [show rowA 1 = fn2 from rfl, show rowB 1 = fn3 from rfl] at KR
        go_enter Tryz.func10, Tryz.ntmps10
        go_wp2_with fail
        refine KR.out.mono ?_
        rintro _ w1 ⟨rfl, s1⟩
        have hb := heap_alloc_new w1 (.cells #[.nilFunc, .nilFunc] 57)
        obtain ⟨h1, h2, h3⟩ := row_laid hb fn2 fn3 rfl rfl
        have H3 := Lib.hid (And.intro s1 h3)
        have c0 := cell_of_row _ w1.heap.size 0 _ _ _ h2
        simp only [List.getElem?_toArray, List.getElem?_cons_zero] at c0
        clear hb h3 s1 h2
        unfold fn2 fn3 at *
        go_wp2_with fail
        refine (KI.out _).mono ?_
        rintro _ _ ⟨rfl, rfl⟩
        go_wp2_with fail
        refine (KC.out _).mono ?_
        rintro _ _ ⟨rfl, rfl⟩
        go_wp2
        go_ret
        exact ⟨rfl, (H3.out.1.trans ((Stp.alloc [] _ _).fresh H3.out.2 (by simp)).none)⟩
      · have e : stN 2 c = (if 0 < c then 8 else 0) := by unfold stN; rw [hr]; rfl
        rw [e]
        clear e hm hr
        have KC := Lib.hid (fun W => fixed_run c W)
        generalize (if 0 < c then (8 : Int) else 0) = z at *
        rw [show rowA 2 = fn4 from rfl, show rowB 2 = fn5 from rfl] at KR
        go_enter Tryz.func10, Tryz.ntmps10
        go_wp2_with fail
        refine KR.out.mono ?_
        rintro _ w1 ⟨rfl, s1⟩
        have hb := heap_alloc_new w1 (.cells #[.nilFunc, .nilFunc] 57)
        obtain ⟨h1, h2, h3⟩ := row_laid hb fn4 fn5 rfl rfl
        have H3 := Lib.hid (And.intro s1 h3)
        have c0 := cell_of_row _ w1.heap.size 0 _ _ _ h2
        simp only [List.getElem?_toArray, List.getElem?_cons_zero] at c0
        clear hb h3 s1 h2
        unfold fn4 fn5 at *
        go_wp2_with fail
        refine (KI.out _).mono ?_
        rintro _ _ ⟨rfl, rfl⟩
        go_wp2_with fail
        refine (KC.out _).mono ?_
        rintro _ _ ⟨rfl, rfl⟩
        go_wp2
        go_ret
        exact ⟨rfl, (H3.out.1.trans ((Stp.alloc [] _ _).fresh H3.out.2 (by simp)).none)⟩
end Go.Proofs.YtdaenaoagejgeaaGreatDoor
/-
  Place of the program; the document's numbers.
-/
namespace Go.Proofs.YtdaenaoagejgeaaGreatDoor
open Go.RowKit Go.Lib
set_option linter.unusedVariables false

set_option maxHeartbeats 1000000 in
set_option maxRecDepth 100000 in
theorem vplace_run (m c a : Int) (w : World) : Calls Tryz.prog 15 #[.int .i64 m, .int .i64 c, .int .i64 a] w (Tells (.int .i64 (plN m c a)) w) := by
  have KR := Lib.hid (rowOf_run m w)
  have KI := Lib.hid (fun W => inr_run c a W)
  have hx := rowA_one m
  have hy := rowB_one m
  cases hm : mok m with
  | false =>
    have e : plN m c a = 0 := by unfold plN; rw [hm]; rfl
    rw [e]
    rw [hm, (vrow_no hm).1, (vrow_no hm).2] at KR
    clear e hm hx hy
    go_enter Tryz.func15, Tryz.ntmps15
    go_wp2_with fail
    refine KR.out.mono ?_
    rintro _ w1 ⟨rfl, s1⟩
    have hb := heap_alloc_new w1 (.cells #[.nilFunc, .nilFunc] 57)
    obtain ⟨h1, h2, h3⟩ := row_laid hb .nilFunc .nilFunc rfl rfl
    have H3 := Lib.hid (And.intro s1 h3)
    clear hb h3 s1 h2
    go_wp2_with fail
    go_ret
    exact ⟨rfl, (H3.out.1.trans ((Stp.alloc [] _ _).fresh H3.out.2 (by simp)).none)⟩
  | true =>
    rw [hm] at KR
    cases hr : rng c a with
    | false =>
      have e : plN m c a = 0 := by unfold plN; rw [hr]; simp
      rw [e]
      rw [hr] at KI
      generalize rowA m = x at *
      generalize rowB m = y at *
      clear e hm hr
      go_enter Tryz.func15, Tryz.ntmps15
      go_wp2_with fail
      refine KR.out.mono ?_
      rintro _ w1 ⟨rfl, s1⟩
      have hb := heap_alloc_new w1 (.cells #[.nilFunc, .nilFunc] 57)
      obtain ⟨h1, h2, h3⟩ := row_laid hb x y hx hy
      have H3 := Lib.hid (And.intro s1 h3)
      clear hb h3 s1 h2
      go_wp2_with fail
      refine (KI.out _).mono ?_
      rintro _ _ ⟨rfl, rfl⟩
      go_wp2_with fail
      go_ret
      exact ⟨rfl, (H3.out.1.trans ((Stp.alloc [] _ _).fresh H3.out.2 (by simp)).none)⟩
    | true =>
      rw [hr] at KI
      have h := of_decide_eq_true hm
      rcases (by omega : m = 0 ∨ m = 1 ∨ m = 2) with rfl | rfl | rfl
      · have e : plN 0 c a = 0 := by unfold plN; rw [hr]; rfl
        rw [e]
        clear e hm hr
        have KC := Lib.hid (fun W => off_place c a W)
        rw [show rowA 0 = fn0 from rfl, show rowB 0 = fn1 from rfl] at KR
        go_enter Tryz.func15, Tryz.ntmps15
        go_wp2_with fail
        refine KR.out.mono ?_
        rintro _ w1 ⟨rfl, s1⟩
        have hb := heap_alloc_new w1 (.cells #[.nilFunc, .nilFunc] 57)
        obtain ⟨h1, h2, h3⟩ := row_laid hb fn0 fn1 rfl rfl
        have H3 := Lib.hid (And.intro s1 h3)
        have c0 := cell_of_row _ w1.heap.size 1 _ _ _ h2
        simp only [List.getElem?_toArray, List.getElem?_cons_zero, List.getElem?_cons_succ] at c0
        clear hb h3 s1 h2
        unfold fn0 fn1 at *
        go_wp2_with fail
        refine (KI.out _).mono ?_
        rintro _ _ ⟨rfl, rfl⟩
        go_wp2_with fail
        refine (KC.out _).mono ?_
        rintro _ _ ⟨rfl, rfl⟩
        go_wp2
        go_ret
        exact ⟨rfl, (H3.out.1.trans ((Stp.alloc [] _ _).fresh H3.out.2 (by simp)).none)⟩
      · have e : plN 1 c a = a := by unfold plN; rw [hr]; rfl
        rw [e]
        clear e hm hr
        have KC := Lib.hid (fun W => mask_place c a W)
        rw [show rowA 1 = fn2 from rfl, show rowB 1 = fn3 from rfl] at KR
        go_enter Tryz.func15, Tryz.ntmps15
        go_wp2_with fail
        refine KR.out.mono ?_
        rintro _ w1 ⟨rfl, s1⟩
        have hb := heap_alloc_new w1 (.cells #[.nilFunc, .nilFunc] 57)
        obtain ⟨h1, h2, h3⟩ := row_laid hb fn2 fn3 rfl rfl
        have H3 := Lib.hid (And.intro s1 h3)
        have c0 := cell_of_row _ w1.heap.size 1 _ _ _ h2
        simp only [List.getElem?_toArray, List.getElem?_cons_zero, List.getElem?_cons_succ] at c0
        clear hb h3 s1 h2
        unfold fn2 fn3 at *
        go_wp2_with fail
        refine (KI.out _).mono ?_
        rintro _ _ ⟨rfl, rfl⟩
        go_wp2_with fail
        refine (KC.out _).mono ?_
        rintro _ _ ⟨rfl, rfl⟩
        go_wp2
        go_ret
        exact ⟨rfl, (H3.out.1.trans ((Stp.alloc [] _ _).fresh H3.out.2 (by simp)).none)⟩
      · have e : plN 2 c a = (if 0 < c then 8 else 0) := by unfold plN; rw [hr]; rfl
        rw [e]
        clear e hm hr
        have KC := Lib.hid (fun W => fixed_place c a W)
        generalize (if 0 < c then (8 : Int) else 0) = z at *
        rw [show rowA 2 = fn4 from rfl, show rowB 2 = fn5 from rfl] at KR
        go_enter Tryz.func15, Tryz.ntmps15
        go_wp2_with fail
        refine KR.out.mono ?_
        rintro _ w1 ⟨rfl, s1⟩
        have hb := heap_alloc_new w1 (.cells #[.nilFunc, .nilFunc] 57)
        obtain ⟨h1, h2, h3⟩ := row_laid hb fn4 fn5 rfl rfl
        have H3 := Lib.hid (And.intro s1 h3)
        have c0 := cell_of_row _ w1.heap.size 1 _ _ _ h2
        simp only [List.getElem?_toArray, List.getElem?_cons_zero, List.getElem?_cons_succ] at c0
        clear hb h3 s1 h2
        unfold fn4 fn5 at *
        go_wp2_with fail
        refine (KI.out _).mono ?_
        rintro _ _ ⟨rfl, rfl⟩
        go_wp2_with fail
        refine (KC.out _).mono ?_
        rintro _ _ ⟨rfl, rfl⟩
        go_wp2
        go_ret
        exact ⟨rfl, (H3.out.1.trans ((Stp.alloc [] _ _).fresh H3.out.2 (by simp)).none)⟩
end Go.Proofs.YtdaenaoagejgeaaGreatDoor
/-
  The program's mayBeShown: whether a text is the bytes of characters that may be shown.
-/
namespace Go.Proofs.YtdaenaoagejgeaaGreatDoor
open Go.RowKit Go.Shelf Go.Lib
set_option linter.unusedVariables false

theorem vown_of_U {w : World} {base : Nat} {v : Value} {l : List Nat} (h : U.Own w base v l) (hl : ∀ x ∈ l, x < 256) : Own w base v (l.map UInt8.ofNat) := by
  have e1 : (l.map UInt8.ofNat).map bval = l.map U.bval := by
    rw [List.map_map]
    refine List.map_congr_left (fun x hx => ?_)
    show Value.int .u8 (((UInt8.ofNat x).toNat : Nat) : Int) = Value.int .u8 (x : Int)
    rw [UInt8.toNat_ofNat', Nat.mod_eq_of_lt (hl x hx)]
  unfold Own
  rw [e1, List.length_map]
  exact h
theorem ustr_st (l : List UInt8) : U.str (l.map UInt8.toNat) = st l := by
  rw [← str_st]
  unfold U.str str
  rw [List.map_map]
  rfl
theorem textL8 (l : List UInt8) : (U.textL (l.map UInt8.toNat)).map UInt8.ofNat = fl (chs l) := by
  unfold U.textL fl chs enc8
  rw [List.map_flatMap]
theorem textL_lt (l : List UInt8) : ∀ x ∈ U.textL (l.map UInt8.toNat), x < 256 := U.flat_lt (U.chars_all (nat_lt l))
/-- Is it its own text? -/
def Rt (l : List UInt8) : Prop := fl (chs l) = l
theorem rt_fi {l : List UInt8} (h : Fi l) : Rt l := h.of.2
theorem rt_step {m : List UInt8} (hm : m ≠ []) (h : Rt m) : (nx8 m).2.2 = 0 ∧ Rt (m.drop (nx8 m).2.1) := by
  have hne : m.map UInt8.toNat ≠ [] := by simpa using hm
  have e : chs m = U.chr (m.map UInt8.toNat) :: chs (m.drop (nx8 m).2.1) := by
    unfold chs
    rw [U.chars_cons hne (nat_lt m), List.map_drop]
    rfl
  have hc : U.isCh (U.chr (m.map UInt8.toNat) : Int) = true := U.chr_isCh (nat_lt m)
  have h2 : enc8 (U.chr (m.map UInt8.toNat)) ++ fl (chs (m.drop (nx8 m).2.1)) = m := by
    rw [← fl_cons, ← e]
    exact h
  generalize U.chr (m.map UInt8.toNat) = c at *
  have e3 := nx8_enc hc (fl (chs (m.drop (nx8 m).2.1)))
  rw [h2] at e3
  refine ⟨by rw [e3], ?_⟩
  unfold Rt
  have e4 : (nx8 m).2.1 = (enc8 c).length := by rw [e3]
  have h5 := congrArg (List.drop (nx8 m).2.1) h2
  rw [e4] at h5 ⊢
  rw [List.drop_left' rfl] at h5
  exact h5
theorem cmp_fi {l : List UInt8} (h : Rt l → (Fi l ↔ Fi [])) : ((st (fl (chs l))).toList == (st l).toList) = fiB l := by
  by_cases hr : Rt l
  · have e : fl (chs l) = l := hr
    rw [e, (fi_iff l).2 ((h hr).2 Fi.nil)]
    simp
  · have h1 : fiB l = false := by
      cases hb : fiB l
      · rfl
      · exact absurd (rt_fi ((fi_iff l).1 hb)) hr
    rw [h1]
    exact st_no (fun e => hr (st_inj e))
theorem conv_stU (W : World) (l : List UInt8) (hl : l.length ≤ 2000000) : ∃ a c w', (convert 9 27 (.string (st l))).run Tryz.prog W = .ok (.slice a l.length c) w' ∧ Bts w' a l ∧ l.length ≤ c ∧ c ≤ maxLen ∧ Stp [] W [] w' := by
  have h := Go.Lib.run_convert_string_bytes (P := Tryz.prog) W 9 27 5 (st l) Tryz.underlying9 Tryz.underlying27 Tryz.underlying5
  rw [st_size] at h
  refine ⟨_, _, _, h, ?_, ?_, ?_, ?_⟩
  · intro _
    refine ⟨W.heap.size, 0, rfl, fun i hi => ?_⟩
    rw [Nat.zero_add, bytesWorld_cell W _ _ i (by rw [st_size]; exact hi), st_data, getElem!_pos l i hi]
    simp [bval, List.getD, hi]
  · exact grownCap_ge _ _ _ _
  · exact grownCap_le_maxLen _ _ _ _ (by unfold maxLen; omega)
  · exact ⟨rfl, rfl, rfl, by rw [bytesWorld_size]; omega, fun k hk _ => bytesWorld_at_old W _ _ k hk, fun _ h => .inl h⟩
theorem iter_stp (w : World) (k : Nat) (s : ByteArray) (p : Nat) (B : Nat) (hB : B ≤ k) : Below B w (w.iterAt k s p) :=
  ⟨rfl, rfl, rfl, by rw [iterAt_size]; exact Nat.le_refl _, fun i hi => iterAt_other w k i s p (by omega)⟩
set_option maxHeartbeats 1000000 in
set_option maxRecDepth 100000 in
theorem may_run (l : List UInt8) (w : World) (hl : l.length ≤ 1048576) (hT : U.Tabs w) : Calls Tryz.prog 28 #[.string (st l)] w (Tells (.bool (fiB l)) w) := by
  have HT := Lib.hid hT
  clear hT
  have hsz := st_size l
  go_enter Tryz.func28, Tryz.ntmps28
  go_wp2
  go_loopg [4] (l.length + 1) (fun gk v4 wr => ∃ p : Nat, p ≤ l.length ∧ l.length - p < gk ∧ wr.heap[w.heap.size]? = some (.stringIter (st l) p) ∧ Aside (Below w.heap.size w wr ∧ (Rt l → Rt (l.drop p) ∧ (Fi l ↔ Fi (l.drop p)))))
  case atStart => exact ⟨0, Nat.zero_le _, by omega, World.iter_heap w _ _, (Below.refl _ _).alloc (Nat.le_refl _) _, fun h => ⟨h, Iff.rfl⟩⟩
  case round =>
    obtain ⟨p, hp, hg, hit, HS⟩ := hrel
    have Hit := Lib.hid hit
    by_cases hpl : p < l.length
    · have hnx := fun ty => run_next_any_at (P := Tryz.prog) wr w.heap.size (st l) p ty hit (by rw [st_size]; exact hpl)
      rw [← ustr_st, U.decode_str _ (nat_lt l), ustr_st, ← List.map_drop] at hnx
      obtain ⟨m, hm⟩ : ∃ m, m = l.drop p := ⟨_, rfl⟩
      rw [← hm] at hnx
      have hml : l.length - p = m.length := by rw [hm, List.length_drop]
      have hne : m ≠ [] := by intro e; rw [e] at hml; simp at hml; omega
      have hmn : m.map UInt8.toNat ≠ [] := by simpa using hne
      obtain ⟨hd1, hd2, hd3⟩ := U.decL_chr hmn (nat_lt m)
      have hk := nx8_pos hne
      have hic := U.chr_isCh (nat_lt m)
      have hRT := rt_step hne
      obtain ⟨D, hD⟩ : ∃ D, U.decL (m.map UInt8.toNat) = D := ⟨_, rfl⟩
      rw [hD] at hnx hd1 hd2 hd3
      obtain ⟨c, wd⟩ := D
      simp only at hd1 hd2 hd3 hnx
      rw [← hd1] at hic
      have hcb : c ≤ 1114111 := by have := of_decide_eq_true hic; omega
      have hwd : 1 ≤ wd ∧ wd ≤ l.length - p := by
        by_cases h0 : (nx8 m).2.2 = 0
        · have := hd2 h0
          unfold nx8 at hk
          omega
        · have := hd3 h0
          omega
      have HF : Aside (Rt l → c = (nx8 m).1 ∧ wd = (nx8 m).2.1 ∧ (nx8 m).2.2 = 0 ∧ Rt (m.drop wd) ∧ (Fi l ↔ Fi m)) := fun hr => by
        have h1 := HS.out.2 hr
        rw [← hm] at h1
        obtain ⟨h2, h3⟩ := hRT h1.1
        have h4 : wd = (nx8 m).2.1 := hd2 h2
        refine ⟨?_, h4, h2, by rw [h4]; exact h3, h1.2⟩
        rw [hd1]
        unfold U.chr
        exact if_pos h2
      have HM := Lib.hid (And.intro hm hne)
      have KP := Lib.hid (fun W => U.pr_any (c : Int) W)
      clear hd1 hd2 hd3 hk hic hRT hD hmn hml hm hne hit
      cases hp : U.prB (c : Int) with
      | true =>
        rw [hp] at KP
        have HP := Lib.hid hp
        clear hp
        go_wp2_with fail
        refine (KP.out _).mono ?_
        rintro _ _ ⟨rfl, rfl⟩
        go_wp2
        go_roundg (l.length - (p + wd) + 1)
        case measure => omega
        case rel =>
          refine ⟨p + wd, by omega, by omega, iterAt_heap wr _ _ p _ Hit.out, HS.out.1.trans (iter_stp wr _ _ _ _ (Nat.le_refl _)), fun hr => ?_⟩
          obtain ⟨h1, h2, h3, h4, h5⟩ := HF.out hr
          have hs := Fi.step HM.out.2 h3 (by rw [← h1]; exact HP.out)
          rw [← List.drop_drop, ← HM.out.1]
          refine ⟨h4, h5.trans ?_⟩
          rw [← h2] at hs
          exact ⟨fun h => by rw [hs.1] at h; exact Fi.cancel hs.2 h, fun h => by rw [hs.1]; exact Fi.app hs.2 h⟩
      | false =>
        rw [hp] at KP
        have HP := Lib.hid hp
        clear hp
        go_wp2_with fail
        refine (KP.out _).mono ?_
        rintro _ _ ⟨rfl, rfl⟩
        go_wp2
        go_ret
        have hf : fiB l = false := by
          cases hb : fiB l
          · rfl
          · have hfi := (fi_iff l).1 hb
            obtain ⟨h1, h2, h3, h4, h5⟩ := HF.out (rt_fi hfi)
            exact absurd (h5.1 hfi) (Fi.no HM.out.2 (.inr (by rw [← h1]; exact HP.out)))
        rw [hf]
        exact ⟨rfl, Stp.of_below (HS.out.1.trans (iter_stp wr _ _ _ _ (Nat.le_refl _)))⟩
    · obtain rfl : p = l.length := by omega
      have hnx := fun ty => run_next_end_at (P := Tryz.prog) wr w.heap.size (st l) l.length ty hit (by rw [st_size]; omega)
      have hcmp := cmp_fi (l := l) (fun hr => by have := (HS.out.2 hr).2; simpa using this)
      obtain ⟨a, cc, wa, hcv, hbt, hcc, hcm, hs⟩ := conv_stU wr l (by omega)
      have hta : U.Tabs wa := (HT.out.below HS.out.1).below hs.under
      have KT := U.text_any a cc (l.map UInt8.toNat) wa (bts_to_U hbt) (by simpa using hcc) hcm (by simpa using hl) hta
      rw [List.length_map] at KT
      have KT := Lib.hid KT
      have HB := Lib.hid (HS.out.1.trans (hs.under.mono HS.out.1.size))
      clear hit hbt hs hta
      go_wp2_with fail
      refine KT.out.mono ?_
      rintro _ w1 ⟨v, rfl, ho, hb⟩
      have ho2 := vown_of_U ho (textL_lt l)
      rw [textL8] at ho2
      obtain ⟨a1, c1, rfl, hbt1, _, _, _⟩ := ho2.bts
      have hc1 := conv_bts c1 _ hbt1 rfl
      go_wp2
      go_ret
      exact ⟨rfl, Stp.of_below (HB.out.trans (hb.mono HB.out.size))⟩
end Go.Proofs.YtdaenaoagejgeaaGreatDoor
/-
  Check of the program: what is wrong with what is asked.
-/
namespace Go.Proofs.YtdaenaoagejgeaaGreatDoor
open Go.RowKit Go.Lib
set_option linter.unusedVariables false

/-- What is wrong. -/
def chkN (l : List UInt8) (m r : Int) : Nat := if fiB l = false then 8 else if 256 < l.length then 10 else if mok m = false then 9 else if r < 0 then 3 else 0
/-- What is asked, as a value. -/
def askv (l : List UInt8) (m r : Int) : Value := .agg #[.string (st l), .int .i64 m, .int .i64 r]
theorem rowOf_ok (m : Int) : ∃ x y, x.oneCell' = true ∧ y.oneCell' = true ∧ ∀ w, Calls Tryz.prog 25 #[.int .i64 m] w (Tells (.tuple #[.agg #[x, y], .bool (mok m)]) w) := ⟨_, _, rowA_one m, rowB_one m, rowOf_run m⟩
set_option maxHeartbeats 1000000 in
set_option maxRecDepth 100000 in
theorem check_run (l : List UInt8) (m r : Int) (w : World) (hl : l.length ≤ 1048576) (hT : U.Tabs w) : Calls Tryz.prog 17 #[askv l m r] w (Tells (.int .i64 (chkN l m r : Int)) w) := by
  obtain ⟨x, y, hx, hy, KR⟩ := rowOf_ok m
  have KR := Lib.hid KR
  have KM : Hid (∀ W, Below w.heap.size w W → Calls Tryz.prog 28 #[.string (st l)] W (Tells (.bool (fiB l)) W)) := Lib.hid fun W hb => may_run l W hl (hT.below hb)
  clear hT
  have hsz := st_size l
  have hb := heap_alloc_new w (.cells #[.string (st l), .int .i64 m, .int .i64 r] 23)
  have s0 : Stp [] w [] (w.alloc (.cells #[.string (st l), .int .i64 m, .int .i64 r] 23)) := Stp.alloc _ _ _
  have c1 : (w.alloc (.cells #[.string (st l), .int .i64 m, .int .i64 r] 23)).cell? ⟨w.heap.size, 1, none⟩ = some (.int .i64 m) := by rw [cell_of_row _ _ 1 _ _ _ hb]; rfl
  have HB := Lib.hid (And.intro hb s0)
  clear hb s0
  obtain ⟨k, hk⟩ : ∃ k, k = chkN l m r := ⟨_, rfl⟩
  rw [← hk]
  have HK := Lib.hid hk
  clear hk
  unfold askv
  go_enter Tryz.func17, Tryz.ntmps17
  go_wp2_with fail
  refine (KR.out _).mono ?_
  rintro _ w1 ⟨rfl, s1⟩
  have hb := heap_alloc_new w1 (.cells #[.nilFunc, .nilFunc] 57)
  obtain ⟨h1, h2, h3⟩ := row_laid hb x y hx hy
  have s3 : Stp [] w [] ((w1.alloc (.cells #[.nilFunc, .nilFunc] 57)).setCells w1.heap.size 0 [x, y]) := (HB.out.2.trans s1).trans ((Stp.alloc [] _ _).fresh h3 (by simp)).none
  have hbx : ((w1.alloc (.cells #[.nilFunc, .nilFunc] 57)).setCells w1.heap.size 0 [x, y]).heap[w.heap.size]? = some (.cells #[.string (st l), .int .i64 m, .int .i64 r] 23 (0, 0)) := by
    have e1 := (s1.block w.heap.size (by simp) (by simp)).trans HB.out.1
    have e2 : w.heap.size < w1.heap.size := (Array.getElem?_eq_some_iff.1 e1).1
    exact ((((Stp.alloc [] w1 _).fresh h3 (by simp)).none).block w.heap.size e2 (by simp)).trans e1
  clear hb h3 h2 s1 c1
  generalize (w1.alloc (.cells #[.nilFunc, .nilFunc] 57)).setCells w1.heap.size 0 [x, y] = w2 at *
  have c0 : w2.cell? ⟨w.heap.size, 0, none⟩ = some (.string (st l)) := by rw [cell_of_row w2 _ 0 _ _ _ hbx]; rfl
  have H3 := Lib.hid (And.intro s3 hbx)
  clear s3 hbx HB
  go_wp2_with fail
  refine (KM.out _ H3.out.1.under).mono ?_
  rintro _ w3 ⟨rfl, s4⟩
  have hbx := (s4.block w.heap.size (Array.getElem?_eq_some_iff.1 H3.out.2).1 (by simp)).trans H3.out.2
  have c0' : w3.cell? ⟨w.heap.size, 0, none⟩ = some (.string (st l)) := by rw [cell_of_row w3 _ 0 _ _ _ hbx]; rfl
  have c2' : w3.cell? ⟨w.heap.size, 2, none⟩ = some (.int .i64 r) := by rw [cell_of_row w3 _ 2 _ _ _ hbx]; rfl
  have H4 := Lib.hid (H3.out.1.trans s4)
  clear s4 hbx H3 KM KR c0
  cases hf : fiB l with
  | false =>
    have e : k = 8 := by rw [HK.out]; simp [chkN, hf]
    clear hf
    go_wp2
    go_ret
    rw [e]
    exact ⟨rfl, H4.out⟩
  | true =>
    by_cases h256 : 256 < l.length
    · have e : k = 10 := by rw [HK.out]; simp [chkN, hf, h256]
      clear hf
      have hz : (256 : Int) < (l.length : Int) := by omega
      go_wp2
      go_ret
      rw [e]
      exact ⟨rfl, H4.out⟩
    · have hz : ¬ (256 : Int) < (l.length : Int) := by omega
      cases hm : mok m with
      | false =>
        have e : k = 9 := by rw [HK.out]; simp [chkN, hf, h256, hm]
        clear hf hm
        go_wp2
        go_ret
        rw [e]
        exact ⟨rfl, H4.out⟩
      | true =>
        by_cases hr : r < 0
        · have e : k = 3 := by rw [HK.out]; simp [chkN, hf, h256, hm, hr]
          clear hf hm
          go_wp2
          go_ret
          rw [e]
          exact ⟨rfl, H4.out⟩
        · have e : k = 0 := by rw [HK.out]; simp [chkN, hf, h256, hm, hr]
          clear hf hm
          go_wp2
          go_ret
          rw [e]
          exact ⟨rfl, H4.out⟩
end Go.Proofs.YtdaenaoagejgeaaGreatDoor
