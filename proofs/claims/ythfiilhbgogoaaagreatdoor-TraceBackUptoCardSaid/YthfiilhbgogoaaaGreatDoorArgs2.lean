/-
  From a row's reading of a slice of effects to the list of them, and how great it is.
-/
import Derived.Test.YthfiilhbgogoaaaGreatDoorArgs
import Derived.Test.YthfiilhbgogoaaaGreatDoorJn
namespace Go.Proofs.YthfiilhbgogoaaaGreatDoor
open Go.ChangeShapes Go.WideShapes Go.ChangeAt Go.RowKit Go.Lib Go.Deep
set_option linter.unusedVariables false

section
variable {H : Type} {enc : TypeId × Value → H}
theorem bulk_one (d : DataW H) : 1 ≤ Rows.uptoBulk d := by
  cases d with
  | lit l => cases l <;> simp [Rows.uptoBulk]
  | nil => simp [Rows.uptoBulk]
  | ptr d => simp [Rows.uptoBulk]
  | slice elems spare => simp [Rows.uptoBulk]
  | agg parts => simp [Rows.uptoBulk]
  | iface t d => simp [Rows.uptoBulk]
  | map entries => simp [Rows.uptoBulk]
  | held h => simp [Rows.uptoBulk]
theorem bulk_length : ∀ l : List (DataW H), l.length ≤ Rows.uptoBulkAll l
  | [] => by simp
  | x :: r => by
    have h1 := bulk_one x
    have h2 := bulk_length r
    simp only [Rows.uptoBulkAll, List.length_cons]
    omega
theorem bulk_bytes {W : World} {fuel : Nat} {a : Option Addr} {len cap : Nat} {y : DataW H × List MemPlace} (hf : DataW.trod enc Tryz.prog W 0 (fun _ => true) true fuel 35 [.slice a len cap] = some y) : len ≤ Rows.uptoBulk y.1 := by
  rcases open_ints Tryz.underlying35 Tryz.underlying5 cByte hf with ⟨hcs, rfl⟩ | ⟨x, l, c, zs, hcs, _, hl, hm, hz, rfl, hcell, hwz⟩
  · simp at hcs
    omega
  · simp at hcs
    obtain ⟨rfl, rfl, rfl⟩ := hcs
    have hz' : zs.length = cap := by simpa using hz
    have h1 := bulk_length (lits (H := H) .u8 (zs.take len))
    have h2 : (lits (H := H) .u8 (zs.take len)).length = len := by simp [lits]; omega
    show len ≤ Rows.uptoBulk (.slice _ _)
    simp only [Rows.uptoBulk]
    omega
theorem trod_third {P : Program} {w : World} {base : Nat} {spare : Nat → Bool} {held : Bool} {t : TypeId} {f0 f1 f2 f3 f4 : Field} {fuel : Nat} {cs : List Value} {x : DataW H × List MemPlace} (ht : P.underlying t = some (.struct #[f0, f1, f2, f3, f4])) (h : DataW.trod enc P w base spare held fuel t cs = some x) :
    ∃ y0 y1 y2 y3 y4 n, x.1 = .agg [y0, y1, y2.1, y3, y4] ∧ DataW.trod enc P w base spare held n f2.type ((cs.drop f2.offset).take (P.cellsOf f2.type)) = some y2 := by
  obtain ⟨xs, n, _, rfl, hl, hlen, hf⟩ := DataW.trod_struct ht h
  match xs, hlen with
  | [y0, y1, y2, y3, y4], _ => exact ⟨y0.1, y1.1, y2, y3.1, y4.1, n, rfl, by simpa using hf 2 f2 rfl⟩
theorem bulk_effect {W : World} {fuel : Nat} {x : Ev} {y : DataW H × List MemPlace} (hf : DataW.trod enc Tryz.prog W 0 (fun _ => true) true fuel 43 (ev7 x) = some y) : 1 + x.l.length ≤ Rows.uptoBulk y.1 := by
  obtain ⟨y0, y1, y2, y3, y4, n, e, t2⟩ := trod_third Tryz.underlying43 hf
  simp only [ev7, cSl, List.drop_succ_cons, List.drop_zero, List.take_succ_cons, List.take_zero] at t2
  have h2 := bulk_bytes t2
  rw [e]
  simp only [Rows.uptoBulk, Rows.uptoBulkAll]
  omega
theorem bulk_map (f : Nat → Ev) (D : Nat → DataW H) : ∀ n, (∀ i, i < n → 1 + (f i).l.length ≤ Rows.uptoBulk (D i)) → bulk ((List.range n).map f) ≤ Rows.uptoBulkAll ((List.range n).map D)
  | 0, _ => by simp [bulk]
  | n + 1, h => by
    have h1 := bulk_map f D n (fun i hi => h i (by omega))
    have h2 := h n (by omega)
    have app : ∀ l r : List (DataW H), Rows.uptoBulkAll (l ++ r) = Rows.uptoBulkAll l + Rows.uptoBulkAll r := by
      intro l r
      induction l with
      | nil => simp [Rows.uptoBulkAll]
      | cons x l ih => simp only [List.cons_append, Rows.uptoBulkAll, ih]; omega
    rw [List.range_succ, List.map_append, List.map_append, bulk_app, app]
    have e1 : bulk ([n].map f) = 1 + (f n).l.length := by simp [bulk]
    have e2 : Rows.uptoBulkAll ([n].map D) = Rows.uptoBulk (D n) := by simp [Rows.uptoBulkAll]
    omega
set_option maxRecDepth 100000 in
theorem open_effects {W : World} {base : Nat} {v : Value} {d : DataW H} {p : List MemPlace} (hval : Value.okWide Tryz.prog W .any base 22 v)
    (h0 : DataW.Trod enc Tryz.prog W 0 (fun _ => true) true 22 v d p) : ∃ (a : Option Addr) (cap : Nat) (L : List Ev), v = .slice a L.length cap ∧ Er W a L ∧ (∀ x ∈ L, Ek W x) ∧ (a = none → cap = 0) ∧ bulk L ≤ Rows.uptoBulk d := by
  obtain ⟨a, len, cap, rfl⟩ := okWide_slice Tryz.underlying22 hval
  obtain ⟨fuel, hf⟩ := h0
  rcases open_slice Tryz.underlying22 hf with ⟨hcs, _⟩ | ⟨x, l, c, m, n, D, Pl, hcs, _, hl, hm, hmm, hx, hi⟩
  · simp [Value.cells] at hcs
    obtain ⟨rfl, rfl, rfl⟩ := hcs
    exact ⟨none, 0, [], rfl, ⟨fun x h => (by cases h), fun h => absurd rfl h⟩, fun x h => (by cases h), fun _ => rfl, by simp [bulk]⟩
  · simp [Value.cells] at hcs
    obtain ⟨rfl, rfl, rfl⟩ := hcs
    simp only [if_true] at hmm
    subst hmm
    have one : ∀ i, i < len → ∃ y : Ev, (∀ j u, (ev7 y)[j]? = some u → W.cell? ((x.add (i * 7)).add j) = some u) ∧ Ek W y ∧ 1 + y.l.length ≤ Rows.uptoBulk (D i) := by
      intro i hil
      obtain ⟨cs', hc, ht⟩ := hi i (by omega)
      rw [cEff] at hc
      obtain ⟨_, hcl, hat⟩ := World.cells?_some hc
      obtain ⟨y, rfl, hk⟩ := open_cells hcl ht
      refine ⟨y, fun j u hu => ?_, hk, bulk_effect ht⟩
      have hj : j < 7 := by
        have := (List.getElem?_eq_some_iff.1 hu).1
        simpa [ev7] using this
      rw [hat j hj]
      exact hu
    obtain ⟨f, hf'⟩ : ∃ f : Nat → Ev, ∀ i, i < len → (∀ j u, (ev7 (f i))[j]? = some u → W.cell? ((x.add (i * 7)).add j) = some u) ∧ Ek W (f i) ∧ 1 + (f i).l.length ≤ Rows.uptoBulk (D i) := by
      refine ⟨fun i => if h : i < len then Classical.choose (one i h) else ⟨0, 0, 0, 0, none, 0, [], 0, false⟩, fun i hi => ?_⟩
      simp only [dif_pos hi]
      exact Classical.choose_spec (one i hi)
    have hlen : ((List.range len).map f).length = len := by simp
    have hmem : ∀ y ∈ (List.range len).map f, Ek W y := fun y hy => by
      obtain ⟨i, hi, rfl⟩ := List.mem_map.1 hy
      exact (hf' i (List.mem_range.1 hi)).2.1
    refine ⟨some x, m, (List.range len).map f, by rw [hlen], ⟨fun y hy => (hmem y hy).ed, fun hne => ?_⟩, hmem, (fun h => by cases h), ?_⟩
    · have hlen0 : 0 < len := by
        rcases Nat.eq_zero_or_pos len with e | e
        · subst e
          simp at hne
        · exact e
      obtain ⟨b, off, spot⟩ := x
      have hc0 := (hf' 0 hlen0).1 0 _ rfl
      have hspot : spot = none := by simpa [Addr.add] using World.cell?_spot hc0
      subst hspot
      refine ⟨b, off, rfl, fun i y hy => ?_⟩
      have hil : i < len := by
        have := (List.getElem?_eq_some_iff.1 hy).1
        rwa [hlen] at this
      have hyf : y = f i := by
        simp [hil] at hy
        exact hy.symm
      subst hyf
      have hc := (hf' i hil).1
      simp only [addr_add] at hc
      exact ⟨hc 0 _ rfl, hc 1 _ rfl, hc 2 _ rfl, hc 3 _ rfl, hc 4 _ rfl, hc 5 _ rfl, hc 6 _ rfl⟩
    · have h1 := bulk_map f D len (fun i hi => (hf' i hi).2.2)
      have hd : Rows.uptoBulkAll ((List.range len).map D) ≤ Rows.uptoBulk d := by
        have := congrArg Prod.fst hx
        simp only at this
        rw [this]
        simp only [Rows.uptoBulk]
        omega
      omega
end
end Go.Proofs.YthfiilhbgogoaaaGreatDoor
