/-
  From a row's reading of a slice of words, or of a slice of calls, to the list of them.
-/
import Derived.Test.YtjjaaahoophgpaaWQueueNone
import Derived.Test.YtjjaaahoophgpaaRows
import Derived.ProofKit
import Derived.OpenShut
import Derived.ChangeOld
import Derived.ChangeSlices
import Derived.Carry
import Derived.Deep.Slices
import Derived.Deep.Strs
namespace Go.Proofs.Ytjjaaahoophgpaa
open Go.ChangeShapes Go.WideShapes Go.ChangeAt Go.RowKit Go.Lib Go.Deep
set_option linter.unusedVariables false

theorem u64_nat {z : Int} (h : (Lit.int .u64 z).wf = true) : ∃ n : Nat, z = (n : Int) ∧ n < 2 ^ 64 := by
  simp [Lit.wf, IntKind.min, IntKind.max, IntKind.signed, IntKind.bits] at h
  exact ⟨z.toNat, by omega, by omega⟩
theorem u8_nat {z : Int} (h : (Lit.int .u8 z).wf = true) : ∃ n : Nat, z = (n : Int) ∧ n < 256 := by
  simp [Lit.wf, IntKind.min, IntKind.max, IntKind.signed, IntKind.bits] at h
  exact ⟨z.toNat, by omega, by omega⟩

/-- A slice's words, as a list of moments. -/
def Us (w : World) (a : Option Addr) (l : List Mo) : Prop := l ≠ [] → ∃ b off, a = some ⟨b, off, none⟩ ∧ b < w.heap.size ∧ ∀ i, i < l.length → w.cell? ⟨b, off + i, none⟩ = some (.int .u64 ((l[i]!).v : Int))
def toMo (z : Int) : Mo := if h : z.toNat < 2 ^ 64 then ⟨z.toNat, h⟩ else default
/-- A call. -/
structure Ac where
  k : Int
  n : Int
  m : Mo
instance : Inhabited Ac := ⟨⟨0, 0, default⟩⟩
/-- A slice's calls. -/
def As (w : World) (a : Option Addr) (l : List Ac) : Prop := l ≠ [] → ∃ b off, a = some ⟨b, off, none⟩ ∧ b < w.heap.size ∧ ∀ i, i < l.length →
  w.cell? ⟨b, off + i * 3, none⟩ = some (.int .i64 (l[i]!).k) ∧ w.cell? ⟨b, off + i * 3 + 1, none⟩ = some (.int .i64 (l[i]!).n) ∧ w.cell? ⟨b, off + i * 3 + 2, none⟩ = some (.int .u64 ((l[i]!).m.v : Int))

theorem cWord : Try.prog.cellsOf 30 = 1 := by kernel_rfl
theorem cInt : Try.prog.cellsOf 3 = 1 := by kernel_rfl
theorem cAct : Try.prog.cellsOf 32 = 3 := by kernel_rfl
theorem laidOut : laidOutB Try.prog = true := by kernel_rfl
theorem addr_add (b off i : Nat) : (⟨b, off, none⟩ : Addr).add i = ⟨b, off + i, none⟩ := by
  unfold Addr.add
  split <;> simp_all

section
variable {H : Type} {enc : TypeId × Value → H}

theorem open_words {W : World} {base : Nat} {v : Value} {d : DataW H} {p : List MemPlace} (hval : Value.okWide Try.prog W .any base 50 v)
    (h0 : DataW.Trod enc Try.prog W 0 (fun _ => true) true 50 v d p) : ∃ (a : Option Addr) (cap : Nat) (l : List Mo), v = .slice a l.length cap ∧ Us W a l ∧ l.length ≤ 9223372036854775807 := by
  obtain ⟨a, len, cap, rfl⟩ := okWide_slice Try.underlying50 hval
  obtain ⟨fuel, hf⟩ := h0
  rcases open_ints Try.underlying50 Try.underlying30 cWord hf with ⟨hcs, _⟩ | ⟨x, l, c, zs, hcs, _, hl, hm, hz, _, hcell, hwz⟩
  · simp [Value.cells] at hcs
    obtain ⟨rfl, rfl, rfl⟩ := hcs
    exact ⟨none, 0, [], rfl, fun g => absurd rfl g, by simp⟩
  · simp [Value.cells] at hcs
    obtain ⟨rfl, rfl, rfl⟩ := hcs
    have hz' : zs.length = cap := by simpa using hz
    have hlen : ((zs.take len).map toMo).length = len := by
      simp
      omega
    refine ⟨some x, cap, (zs.take len).map toMo, by rw [hlen], ?_, by rw [hlen]; unfold maxLen at hm; omega⟩
    intro hne
    have hlen0 : 0 < len := by
      rcases Nat.eq_zero_or_pos len with e | e
      · subst e
        simp at hne
      · exact e
    obtain ⟨b, off, spot⟩ := x
    have hc0 := hcell 0 (by omega)
    have hspot : spot = none := by simpa [Addr.add] using World.cell?_spot hc0
    subst hspot
    rw [addr_add] at hc0
    refine ⟨b, off, rfl, block_lt_of_cell hc0, fun i hi => ?_⟩
    rw [hlen] at hi
    have hc := hcell i (by omega)
    rw [addr_add] at hc
    rw [hc]
    have hzi : i < zs.length := by omega
    obtain ⟨m, hm1, hm2⟩ := u64_nat (hwz zs[i] (List.getElem_mem hzi))
    have e2 : zs.getD i 0 = zs[i] := by simp [hzi]
    have e3 : (((zs.take len).map toMo)[i]!).v = m := by
      rw [getElem!_pos _ i (by rw [hlen]; exact hi)]
      simp only [List.getElem_map, List.getElem_take, toMo]
      rw [dif_pos (by rw [hm1]; simpa using hm2)]
      simp [hm1]
    rw [e2, e3, hm1]

theorem open_acts {W : World} {base : Nat} {v : Value} {d : DataW H} {p : List MemPlace} (hval : Value.okWide Try.prog W .any base 22 v)
    (h0 : DataW.Trod enc Try.prog W 0 (fun _ => true) true 22 v d p) : ∃ (a : Option Addr) (cap : Nat) (l : List Ac), v = .slice a l.length cap ∧ As W a l ∧ l.length ≤ 9223372036854775807 := by
  obtain ⟨a, len, cap, rfl⟩ := okWide_slice Try.underlying22 hval
  obtain ⟨fuel, hf⟩ := h0
  rcases open_slice Try.underlying22 hf with ⟨hcs, _⟩ | ⟨x, l, c, m, n, D, Pl, hcs, _, hl, hm, hmm, _, hi⟩
  · simp [Value.cells] at hcs
    obtain ⟨rfl, rfl, rfl⟩ := hcs
    exact ⟨none, 0, [], rfl, fun g => absurd rfl g, by simp⟩
  · simp [Value.cells] at hcs
    obtain ⟨rfl, rfl, rfl⟩ := hcs
    simp only [if_true] at hmm
    subst hmm
    -- each call by its own three cells
    have one : ∀ i, i < len → ∃ y : Ac, W.cell? (x.add (i * 3)) = some (.int .i64 y.k) ∧ W.cell? ((x.add (i * 3)).add 1) = some (.int .i64 y.n) ∧ W.cell? ((x.add (i * 3)).add 2) = some (.int .u64 (y.m.v : Int)) := by
      intro i hil
      obtain ⟨cs', hc, ht⟩ := hi i (by omega)
      rw [cAct] at hc
      obtain ⟨_, hcl, hat⟩ := World.cells?_some hc
      obtain ⟨y0, y1, y2, k, _, _, t0, t1, t2⟩ := trod_struct3 Try.underlying32 ht
      match cs', hcl with
      | [u0, u1, u2], _ =>
        simp only [cInt, cWord, List.drop_zero, List.drop_succ_cons, List.take_succ_cons, List.take_zero] at t0 t1 t2
        obtain ⟨n0, e0, _, _⟩ := DataW.trod_int Try.underlying3 t0
        obtain ⟨n1, e1, _, _⟩ := DataW.trod_int Try.underlying3 t1
        obtain ⟨n2, e2, _, w2⟩ := DataW.trod_int Try.underlying30 t2
        obtain ⟨m, rfl, hm⟩ := u64_nat w2
        simp only [List.cons.injEq, and_true] at e0 e1 e2
        subst e0 e1 e2
        have h0 := hat 0 (by omega)
        have h1 := hat 1 (by omega)
        have h2 := hat 2 (by omega)
        refine ⟨⟨n0, n1, ⟨m, hm⟩⟩, ?_, h1, h2⟩
        have ez : (x.add (i * 3)).add 0 = x.add (i * 3) := by
          obtain ⟨b, off, spot⟩ := x
          unfold Addr.add
          split <;> simp_all
        rw [ez] at h0
        exact h0
    obtain ⟨f, hf'⟩ : ∃ f : Nat → Ac, ∀ i, i < len → W.cell? (x.add (i * 3)) = some (.int .i64 (f i).k) ∧ W.cell? ((x.add (i * 3)).add 1) = some (.int .i64 (f i).n) ∧ W.cell? ((x.add (i * 3)).add 2) = some (.int .u64 ((f i).m.v : Int)) := by
      refine ⟨fun i => if h : i < len then Classical.choose (one i h) else default, fun i hi => ?_⟩
      simp only [dif_pos hi]
      exact Classical.choose_spec (one i hi)
    have hlen : ((List.range len).map f).length = len := by simp
    refine ⟨some x, _, (List.range len).map f, by rw [hlen], ?_, by rw [hlen]; unfold maxLen at hm; omega⟩
    intro hne
    have hlen0 : 0 < len := by
      rcases Nat.eq_zero_or_pos len with e | e
      · subst e
        simp at hne
      · exact e
    obtain ⟨b, off, spot⟩ := x
    have hc0 := (hf' 0 hlen0).1
    have hspot : spot = none := by simpa [Addr.add] using World.cell?_spot hc0
    subst hspot
    rw [addr_add] at hc0
    refine ⟨b, off, rfl, block_lt_of_cell hc0, fun i hi => ?_⟩
    rw [hlen] at hi
    have := hf' i hi
    simp only [addr_add] at this
    have e : ((List.range len).map f)[i]! = f i := by
      rw [getElem!_pos _ i (by rw [hlen]; exact hi)]
      simp
    rw [e]
    exact this
end

theorem Us.below {w w' : World} {a : Option Addr} {l : List Mo} (h : Us w a l) (hb : Below w.heap.size w w') : Us w' a l := fun g => by
  obtain ⟨b, off, h1, h3, h2⟩ := h g
  exact ⟨b, off, h1, Nat.lt_of_lt_of_le h3 hb.size, fun i hi => (hb.cell (p := ⟨b, off + i, none⟩) h3).trans (h2 i hi)⟩
theorem Us.at {w : World} {a : Option Addr} {l : List Mo} (h : Us w a l) {i : Nat} (hi : i < l.length) : ∃ b off, a = some ⟨b, off, none⟩ ∧ b < w.heap.size ∧ w.cell? ⟨b, off + i, none⟩ = some (.int .u64 ((l[i]!).v : Int)) := by
  obtain ⟨b, off, h1, h2, h3⟩ := h (by intro e; rw [e] at hi; simp at hi)
  exact ⟨b, off, h1, h2, h3 i hi⟩
theorem As.below {w w' : World} {a : Option Addr} {l : List Ac} (h : As w a l) (hb : Below w.heap.size w w') : As w' a l := fun g => by
  obtain ⟨b, off, h1, h3, h2⟩ := h g
  refine ⟨b, off, h1, Nat.lt_of_lt_of_le h3 hb.size, fun i hi => ?_⟩
  obtain ⟨c0, c1, c2⟩ := h2 i hi
  exact ⟨(hb.cell (p := ⟨b, off + i * 3, none⟩) h3).trans c0, (hb.cell (p := ⟨b, off + i * 3 + 1, none⟩) h3).trans c1, (hb.cell (p := ⟨b, off + i * 3 + 2, none⟩) h3).trans c2⟩
theorem As.at {w : World} {a : Option Addr} {l : List Ac} (h : As w a l) {i : Nat} (hi : i < l.length) : ∃ b off, a = some ⟨b, off, none⟩ ∧ b < w.heap.size ∧
    w.cell? ⟨b, off + i * 3, none⟩ = some (.int .i64 (l[i]!).k) ∧ w.cell? ⟨b, off + i * 3 + 1, none⟩ = some (.int .i64 (l[i]!).n) ∧ w.cell? ⟨b, off + i * 3 + 2, none⟩ = some (.int .u64 ((l[i]!).m.v : Int)) := by
  obtain ⟨b, off, h1, h2, h3⟩ := h (by intro e; rw [e] at hi; simp at hi)
  exact ⟨b, off, h1, h2, h3 i hi⟩
end Go.Proofs.Ytjjaaahoophgpaa
