/-
  From a row's reading of slices of bytes to the list of them, and how long each is.
-/
import Derived.Test.YtdaenaoagejgeaaDoorSArgs
namespace Go.Proofs.YtdaenaoagejgeaaDoor
open Go.ChangeShapes Go.WideShapes Go.ChangeAt Go.RowKit Go.Lib Go.Deep
set_option linter.unusedVariables false
section
variable {H : Type} {enc : TypeId × Value → H}
theorem weightsAll_mem {P : Program} {e : TypeId} : ∀ {ds : List (DataW H)} {d : DataW H}, d ∈ ds → ∀ n ∈ d.weights P e, n ∈ DataW.weightsAll P e ds
  | d0 :: r, d, hd, n, hn => by
    rw [DataW.weightsAll]
    rcases List.mem_cons.1 hd with e | e
    · subst e
      exact List.mem_append_left _ hn
    · exact List.mem_append_right _ (weightsAll_mem e n hn)
set_option maxRecDepth 100000 in
theorem open_rows2 {W : World} {base : Nat} {v : Value} {d : DataW H} {p : List MemPlace} (hval : Value.okWide Tryd.prog W .any base 22 v)
    (h0 : DataW.Trod enc Tryd.prog W 0 (fun _ => true) true 22 v d p) (hw : ∀ n ∈ d.weights Tryd.prog 22, n ≤ reachBytes) : ∃ (a : Option Addr) (cap : Nat) (l : List Sb), v = .slice a l.length cap ∧ Ss W a l ∧ l.length ≤ 9223372036854775807 ∧ (∀ y ∈ l, y.x.length ≤ 140737488355328 ∧ (y.p = none → y.cap = 0)) := by
  obtain ⟨a, len, cap, rfl⟩ := okWide_slice Tryd.underlying22 hval
  obtain ⟨fuel, hf⟩ := h0
  rcases open_slice Tryd.underlying22 hf with ⟨hcs, _⟩ | ⟨x, l, c, m, n, D, Pl, hcs, _, hl, hm, hmm, hx, hi⟩
  · simp [Value.cells] at hcs
    obtain ⟨rfl, rfl, rfl⟩ := hcs
    exact ⟨none, 0, [], rfl, fun g => absurd rfl g, by simp, by simp⟩
  · simp [Value.cells] at hcs
    obtain ⟨rfl, rfl, rfl⟩ := hcs
    simp only [if_true] at hmm
    subst hmm
    have one : ∀ i, i < len → ∃ y : Sb, W.cell? (x.add i) = some (.slice y.p y.x.length y.cap) ∧ Bts W y.p y.x ∧ y.x.length ≤ y.cap ∧ y.cap ≤ maxLen ∧ y.x.length ≤ 140737488355328 ∧ (y.p = none → y.cap = 0) := by
      intro i hil
      obtain ⟨cs', hc, ht⟩ := hi i (by omega)
      rw [cSl] at hc
      obtain ⟨_, hcl, hat⟩ := World.cells?_some hc
      match cs', hcl with
      | [u0], _ =>
          have hs : ∃ aa ll cc, u0 = .slice aa ll cc := by
            rcases open_ints Tryd.underlying25 Tryd.underlying5 cByte ht with ⟨hcs, _⟩ | ⟨x, l, c, zs, hcs, _⟩
            · simp only [List.cons.injEq, and_true] at hcs
              exact ⟨_, _, _, hcs⟩
            · simp only [List.cons.injEq, and_true] at hcs
              exact ⟨_, _, _, hcs⟩
          obtain ⟨aa, ll, cc, rfl⟩ := hs
          obtain ⟨bl, rfl, hb, hbc, hbm, hbn, hbw⟩ := open_bytes_at ht
          have hbl : bl.length ≤ 140737488355328 := by
            rcases Classical.em (bl = []) with e | e
            · rw [e]; simp
            · have h1 := hw cc (by
                rw [(Prod.mk.inj hx).1]
                simp only [DataW.weights, Tryd.underlying22]
                exact List.mem_cons_of_mem _ (List.mem_append_left _ (weightsAll_mem (d := D i) (List.mem_map.2 ⟨i, List.mem_range.2 hil, rfl⟩) cc (hbw e))))
              unfold reachBytes at h1
              omega
          have h0 := hat 0 (by omega)
          refine ⟨⟨aa, cc, bl⟩, ?_, hb, hbc, hbm, hbl, hbn⟩
          have ez : (x.add (i * 1)).add 0 = x.add i := by
            obtain ⟨b, off, spot⟩ := x
            unfold Addr.add
            split <;> simp_all
          rw [ez] at h0
          exact h0
    obtain ⟨f, hf'⟩ : ∃ f : Nat → Sb, ∀ i, i < len → W.cell? (x.add i) = some (.slice (f i).p (f i).x.length (f i).cap) ∧ Bts W (f i).p (f i).x ∧ (f i).x.length ≤ (f i).cap ∧ (f i).cap ≤ maxLen ∧ (f i).x.length ≤ 140737488355328 ∧ ((f i).p = none → (f i).cap = 0) := by
      refine ⟨fun i => if h : i < len then Classical.choose (one i h) else default, fun i hi => ?_⟩
      simp only [dif_pos hi]
      exact Classical.choose_spec (one i hi)
    have hlen : ((List.range len).map f).length = len := by simp
    refine ⟨some x, _, (List.range len).map f, by rw [hlen], ?_, by rw [hlen]; unfold maxLen at hm; omega, fun y hy => ?_⟩
    rotate_left
    · obtain ⟨i, hi, rfl⟩ := List.mem_map.1 hy
      exact (hf' i (by simpa using hi)).2.2.2.2
    intro hne
    have hlen0 : 0 < len := by
      rcases Nat.eq_zero_or_pos len with e | e
      · subst e
        simp at hne
      · exact e
    obtain ⟨b, off, spot⟩ := x
    have hc0 := (hf' 0 hlen0).1
    have hspot : spot = none := by simpa [Addr.add] using World.cell?_spot hc0
    subst hspot
    rw [addr_add] at hc0
    refine ⟨b, off, rfl, block_lt_of_cell hc0, fun i hi => ?_⟩
    rw [hlen] at hi
    have := hf' i hi
    simp only [addr_add] at this
    have e : ((List.range len).map f)[i]! = f i := by
      rw [getElem!_pos _ i (by rw [hlen]; exact hi)]
      simp
    rw [e]
    exact ⟨this.1, this.2.1, this.2.2.1, this.2.2.2.1⟩
end
end Go.Proofs.YtdaenaoagejgeaaDoor
