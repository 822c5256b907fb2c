/-
  From a row's reading of a slice of calls to the list of them.
-/
import Derived.Test.YtblmpaplggnajaaDoorArgs
namespace Go.Proofs.YtblmpaplggnajaaDoor
open Go.ChangeShapes Go.WideShapes Go.ChangeAt Go.RowKit Go.Lib Go.Deep
set_option linter.unusedVariables false

theorem cAct : Tryd.prog.cellsOf 38 = 4 := by kernel_rfl
/-- A call. -/
structure Ac where
  k : Int
  a : Int
  b : Int
  p : Option Addr
  cap : Nat
  x : List UInt8
instance : Inhabited Ac := ⟨⟨0, 0, 0, none, 0, []⟩⟩
/-- A slice's calls. -/
def As (w : World) (a : Option Addr) (l : List Ac) : Prop := l ≠ [] → ∃ b off, a = some ⟨b, off, none⟩ ∧ b < w.heap.size ∧ ∀ i, i < l.length →
  w.cell? ⟨b, off + i * 4, none⟩ = some (.int .i64 (l[i]!).k) ∧ w.cell? ⟨b, off + i * 4 + 1, none⟩ = some (.int .i64 (l[i]!).a) ∧ w.cell? ⟨b, off + i * 4 + 2, none⟩ = some (.int .i64 (l[i]!).b) ∧
  w.cell? ⟨b, off + i * 4 + 3, none⟩ = some (.slice (l[i]!).p (l[i]!).x.length (l[i]!).cap) ∧ Bts w (l[i]!).p (l[i]!).x ∧ (l[i]!).x.length ≤ reachBytes ∧ (l[i]!).x.length ≤ (l[i]!).cap ∧ (l[i]!).cap ≤ maxLen ∧ (Lit.int .i64 (l[i]!).a).wf = true

section
variable {H : Type} {enc : TypeId × Value → H}
theorem trod_struct3' {P : Program} {w : World} {base : Nat} {spare : Nat → Bool} {held : Bool} {t : TypeId} {f0 f1 f2 : Field} {fuel : Nat} {cs : List Value} {x : DataW H × List MemPlace} (ht : P.underlying t = some (.struct #[f0, f1, f2])) (h : DataW.trod enc P w base spare held fuel t cs = some x) :
    ∃ y0 y1 y2 n, x.1 = .agg [y0.1, y1.1, y2.1] ∧ DataW.trod enc P w base spare held n f0.type ((cs.drop f0.offset).take (P.cellsOf f0.type)) = some y0 ∧ DataW.trod enc P w base spare held n f1.type ((cs.drop f1.offset).take (P.cellsOf f1.type)) = some y1 ∧
      DataW.trod enc P w base spare held n f2.type ((cs.drop f2.offset).take (P.cellsOf f2.type)) = some y2 := by
  obtain ⟨xs, n, _, rfl, hl, hlen, hf⟩ := DataW.trod_struct ht h
  match xs, hlen with
  | [y0, y1, y2], _ => exact ⟨y0, y1, y2, n, by simp, by simpa using hf 0 f0 rfl, by simpa using hf 1 f1 rfl, by simpa using hf 2 f2 rfl⟩
theorem weightsAll_mem {P : Program} {e : TypeId} : ∀ {ds : List (DataW H)} {d : DataW H}, d ∈ ds → ∀ n ∈ d.weights P e, n ∈ DataW.weightsAll P e ds
  | d0 :: r, d, hd, n, hn => by
    rw [DataW.weightsAll]
    rcases List.mem_cons.1 hd with e | e
    · subst e
      exact List.mem_append_left _ hn
    · exact List.mem_append_right _ (weightsAll_mem e n hn)
set_option maxRecDepth 100000 in
theorem open_acts {W : World} {base : Nat} {v : Value} {d : DataW H} {p : List MemPlace} (hval : Value.okWide Tryd.prog W .any base 22 v)
    (h0 : DataW.Trod enc Tryd.prog W 0 (fun _ => true) true 22 v d p) (hw : ∀ n ∈ d.weights Tryd.prog 22, n ≤ reachBytes) : ∃ (a : Option Addr) (cap : Nat) (l : List Ac), v = .slice a l.length cap ∧ As W a l ∧ l.length ≤ 9223372036854775807 := by
  obtain ⟨a, len, cap, rfl⟩ := okWide_slice Tryd.underlying22 hval
  obtain ⟨fuel, hf⟩ := h0
  rcases open_slice Tryd.underlying22 hf with ⟨hcs, _⟩ | ⟨x, l, c, m, n, D, Pl, hcs, _, hl, hm, hmm, hx, hi⟩
  · simp [Value.cells] at hcs
    obtain ⟨rfl, rfl, rfl⟩ := hcs
    exact ⟨none, 0, [], rfl, fun g => absurd rfl g, by simp⟩
  · simp [Value.cells] at hcs
    obtain ⟨rfl, rfl, rfl⟩ := hcs
    simp only [if_true] at hmm
    subst hmm
    -- each call by its own five cells
    have one : ∀ i, i < len → ∃ y : Ac, W.cell? (x.add (i * 4)) = some (.int .i64 y.k) ∧ W.cell? ((x.add (i * 4)).add 1) = some (.int .i64 y.a) ∧ W.cell? ((x.add (i * 4)).add 2) = some (.int .i64 y.b) ∧ W.cell? ((x.add (i * 4)).add 3) = some (.slice y.p y.x.length y.cap) ∧ Bts W y.p y.x ∧ y.x.length ≤ reachBytes ∧ y.x.length ≤ y.cap ∧ y.cap ≤ maxLen ∧ (Lit.int .i64 y.a).wf = true := by
      intro i hil
      obtain ⟨cs', hc, ht⟩ := hi i (by omega)
      rw [cAct] at hc
      obtain ⟨_, hcl, hat⟩ := World.cells?_some hc
      obtain ⟨y0, y1, y4, n', hD, t0, tk, t4⟩ := trod_struct3' Tryd.underlying38 ht
      match cs', hcl with
      | [u0, u1, u2, u4], _ =>
          simp only [cInt, cSl, cKey, List.drop_zero, List.drop_succ_cons, List.take_succ_cons, List.take_zero] at t0 tk t4
          obtain ⟨z0, z1, n2', _, _, t1, t2⟩ := trod_struct2 Tryd.underlying35 tk
          simp only [cInt, List.drop_zero, List.drop_succ_cons, List.take_succ_cons, List.take_zero] at t1 t2
          obtain ⟨n0, e0, _, _⟩ := DataW.trod_int Tryd.underlying3 t0
          obtain ⟨n1, e1, _, w1⟩ := DataW.trod_int Tryd.underlying3 t1
          obtain ⟨n2, e2, _, _⟩ := DataW.trod_int Tryd.underlying3 t2
          simp only [List.cons.injEq, and_true] at e0 e1 e2
          have hs : ∃ aa ll cc, u4 = .slice aa ll cc := by
            rcases open_ints Tryd.underlying36 Tryd.underlying5 cByte t4 with ⟨hcs, _⟩ | ⟨x, l, c, zs, hcs, _⟩
            · simp only [List.cons.injEq, and_true] at hcs
              exact ⟨_, _, _, hcs⟩
            · simp only [List.cons.injEq, and_true] at hcs
              exact ⟨_, _, _, hcs⟩
          obtain ⟨aa, ll, cc, rfl⟩ := hs
          obtain ⟨bl, rfl, hb, hbc, hbm, hbn, hbw⟩ := open_bytes_at t4
          have hbl : bl.length ≤ reachBytes := by
            rcases Classical.em (bl = []) with e | e
            · rw [e]; simp
            · refine Nat.le_trans hbc (hw cc ?_)
              rw [(Prod.mk.inj hx).1]
              simp only [DataW.weights, Tryd.underlying22]
              refine List.mem_cons_of_mem _ (List.mem_append_left _ (weightsAll_mem (d := D i) (List.mem_map.2 ⟨i, List.mem_range.2 hil, rfl⟩) cc ?_))
              have hD' : D i = .agg [y0.1, y1.1, y4.1] := hD
              rw [hD']
              simp only [DataW.weights, Tryd.underlying38]
              exact DataW.weights_mem_each (j := 2) (t := 36) (d := y4.1) rfl rfl cc (hbw e)
          subst e0 e1 e2
          have h0 := hat 0 (by omega)
          have h1 := hat 1 (by omega)
          have h2 := hat 2 (by omega)
          have h3 := hat 3 (by omega)
          refine ⟨⟨n0, n1, n2, aa, cc, bl⟩, ?_, h1, h2, h3, hb, hbl, hbc, hbm, w1⟩
          have ez : (x.add (i * 4)).add 0 = x.add (i * 4) := by
            obtain ⟨b, off, spot⟩ := x
            unfold Addr.add
            split <;> simp_all
          rw [ez] at h0
          exact h0
    obtain ⟨f, hf'⟩ : ∃ f : Nat → Ac, ∀ i, i < len → W.cell? (x.add (i * 4)) = some (.int .i64 (f i).k) ∧ W.cell? ((x.add (i * 4)).add 1) = some (.int .i64 (f i).a) ∧ W.cell? ((x.add (i * 4)).add 2) = some (.int .i64 (f i).b) ∧ W.cell? ((x.add (i * 4)).add 3) = some (.slice (f i).p (f i).x.length (f i).cap) ∧ Bts W (f i).p (f i).x ∧ (f i).x.length ≤ reachBytes ∧ (f i).x.length ≤ (f i).cap ∧ (f i).cap ≤ maxLen ∧ (Lit.int .i64 (f i).a).wf = true := by
      refine ⟨fun i => if h : i < len then Classical.choose (one i h) else default, fun i hi => ?_⟩
      simp only [dif_pos hi]
      exact Classical.choose_spec (one i hi)
    have hlen : ((List.range len).map f).length = len := by simp
    refine ⟨some x, _, (List.range len).map f, by rw [hlen], ?_, by rw [hlen]; unfold maxLen at hm; omega⟩
    intro hne
    have hlen0 : 0 < len := by
      rcases Nat.eq_zero_or_pos len with e | e
      · subst e
        simp at hne
      · exact e
    obtain ⟨b, off, spot⟩ := x
    have hc0 := (hf' 0 hlen0).1
    have hspot : spot = none := by simpa [Addr.add] using World.cell?_spot hc0
    subst hspot
    rw [addr_add] at hc0
    refine ⟨b, off, rfl, block_lt_of_cell hc0, fun i hi => ?_⟩
    rw [hlen] at hi
    have := hf' i hi
    simp only [addr_add] at this
    have e : ((List.range len).map f)[i]! = f i := by
      rw [getElem!_pos _ i (by rw [hlen]; exact hi)]
      simp
    rw [e]
    exact this
end
end Go.Proofs.YtblmpaplggnajaaDoor
