/-
  From a row's reading of a text, of a slice of bytes, of numbers, of slices of bytes, or of calls, to the lists of them.
-/
import Derived.Test.YtmhecgidhdbcgaaAliveR
import Derived.Test.YtmhecgidhdbcgaaRows
import Derived.ProofKit
import Derived.OpenShut
import Derived.ChangeOld
import Derived.ChangeSlices
import Derived.ChangeMaps5
import Derived.Carry
import Derived.Deep.Slices
import Derived.Deep.Strs
import Derived.SizedLaws
namespace Go.Proofs.Ytmhecgidhdbcgaa
open Go.ChangeShapes Go.WideShapes Go.ChangeAt Go.RowKit Go.Lib Go.Deep
set_option linter.unusedVariables false

theorem u8_nat {z : Int} (h : (Lit.int .u8 z).wf = true) : ∃ n : Nat, z = (n : Int) ∧ n < 256 := by
  simp [Lit.wf, IntKind.min, IntKind.max, IntKind.signed, IntKind.bits] at h
  exact ⟨z.toNat, by omega, by omega⟩
theorem cByte : Try.prog.cellsOf 5 = 1 := by kernel_rfl
theorem cInt : Try.prog.cellsOf 3 = 1 := by kernel_rfl
theorem cStr : Try.prog.cellsOf 9 = 1 := by kernel_rfl
theorem cSl : Try.prog.cellsOf 47 = 1 := by kernel_rfl
theorem cAct : Try.prog.cellsOf 28 = 3 := by kernel_rfl
theorem laidOut : laidOutB Try.prog = true := by kernel_rfl
/-- A slice's numbers. -/
def Is (w : World) (a : Option Addr) (l : List Int) : Prop := l ≠ [] → ∃ b off, a = some ⟨b, off, none⟩ ∧ b < w.heap.size ∧ ∀ i, i < l.length → w.cell? ⟨b, off + i, none⟩ = some (.int .i64 (l[i]!))
/-- Bytes in a slice. -/
structure Sb where
  p : Option Addr
  cap : Nat
  x : List UInt8
instance : Inhabited Sb := ⟨⟨none, 0, []⟩⟩
/-- A slice's slices of bytes. -/
def Ss (w : World) (a : Option Addr) (l : List Sb) : Prop := l ≠ [] → ∃ b off, a = some ⟨b, off, none⟩ ∧ b < w.heap.size ∧ ∀ i, i < l.length →
  w.cell? ⟨b, off + i, none⟩ = some (.slice (l[i]!).p (l[i]!).x.length (l[i]!).cap) ∧ Bts w (l[i]!).p (l[i]!).x ∧ (l[i]!).x.length ≤ (l[i]!).cap ∧ (l[i]!).cap ≤ maxLen
/-- A call. -/
structure Ac where
  k : Int
  n : Int
  s : ByteArray
instance : Inhabited Ac := ⟨⟨0, 0, ⟨#[]⟩⟩⟩
/-- A slice's calls. -/
def As (w : World) (a : Option Addr) (l : List Ac) : Prop := l ≠ [] → ∃ b off, a = some ⟨b, off, none⟩ ∧ b < w.heap.size ∧ ∀ i, i < l.length →
  w.cell? ⟨b, off + i * 3, none⟩ = some (.int .i64 (l[i]!).k) ∧ w.cell? ⟨b, off + i * 3 + 1, none⟩ = some (.int .i64 (l[i]!).n) ∧ w.cell? ⟨b, off + i * 3 + 2, none⟩ = some (.string (l[i]!).s) ∧ (l[i]!).s.size ≤ maxLen

section
variable {H : Type} {enc : TypeId × Value → H}

theorem open_bytes_at {W : World} {fuel : Nat} {a : Option Addr} {len cap : Nat} {y : DataW H × List MemPlace} (hf : DataW.trod enc Try.prog W 0 (fun _ => true) true fuel 47 [.slice a len cap] = some y) :
    ∃ l : List UInt8, len = l.length ∧ Bts W a l ∧ l.length ≤ cap ∧ cap ≤ maxLen ∧ (a = none → cap = 0) ∧ (l ≠ [] → cap ∈ y.1.weights Try.prog 47) := by
  rcases open_ints Try.underlying47 Try.underlying5 cByte hf with ⟨hcs, _⟩ | ⟨x, l, c, zs, hcs, _, hl, hm, hz, hy, hcell, hwz⟩
  · simp at hcs
    obtain ⟨rfl, rfl, rfl⟩ := hcs
    exact ⟨[], rfl, Bts.nil _ _, by simp, by simp, fun _ => rfl, fun h => absurd rfl h⟩
  · simp at hcs
    obtain ⟨rfl, rfl, rfl⟩ := hcs
    have hz' : zs.length = cap := by simpa using hz
    have hlen : ((zs.take len).map fun z => UInt8.ofNat z.toNat).length = len := by simp; omega
    refine ⟨(zs.take len).map fun z => UInt8.ofNat z.toNat, hlen.symm, ?_, by omega, hm, (fun h => by cases h), fun _ => ?_⟩
    rotate_left
    · subst hy
      simp only [DataW.weights, Try.underlying47]
      refine List.mem_cons.2 (.inl ?_)
      have e : Try.prog.bytesOf 5 = 1 := by kernel_rfl
      rw [e]
      simp [lits]
      omega
    intro hne
    have hlen0 : 0 < len := by
      rcases Nat.eq_zero_or_pos len with e | e
      · subst e
        simp at hne
      · exact e
    obtain ⟨b, off, spot⟩ := x
    have hc0 := hcell 0 (by omega)
    have hspot : spot = none := by simpa [Addr.add] using World.cell?_spot hc0
    subst hspot
    refine ⟨b, off, rfl, fun i hi => ?_⟩
    rw [hlen] at hi
    have hc := hcell i (by omega)
    rw [addr_add] at hc
    rw [hc]
    have hzi : i < zs.length := by omega
    obtain ⟨m, hm1, hm2⟩ := u8_nat (hwz zs[i] (List.getElem_mem hzi))
    have e2 : zs.getD i 0 = zs[i] := by simp [hzi]
    rw [e2, getElem!_pos _ i (by rw [hlen]; exact hi)]
    simp only [List.getElem_map, List.getElem_take, bval, hm1, Int.toNat_natCast, UInt8.toNat_ofNat']
    rw [Nat.mod_eq_of_lt hm2]
theorem open_bytes {W : World} {base : Nat} {v : Value} {d : DataW H} {p : List MemPlace} (hval : Value.okWide Try.prog W .any base 47 v)
    (h0 : DataW.Trod enc Try.prog W 0 (fun _ => true) true 47 v d p) : ∃ (a : Option Addr) (cap : Nat) (l : List UInt8), v = .slice a l.length cap ∧ Bts W a l ∧ l.length ≤ cap ∧ cap ≤ maxLen ∧ (a = none → cap = 0) := by
  obtain ⟨a, len, cap, rfl⟩ := okWide_slice Try.underlying47 hval
  obtain ⟨fuel, hf⟩ := h0
  obtain ⟨l, rfl, h1, h2, h3, h4, _⟩ := open_bytes_at hf
  exact ⟨a, cap, l, rfl, h1, h2, h3, h4⟩
theorem open_nums {W : World} {base : Nat} {v : Value} {d : DataW H} {p : List MemPlace} (hval : Value.okWide Try.prog W .any base 54 v)
    (h0 : DataW.Trod enc Try.prog W 0 (fun _ => true) true 54 v d p) : ∃ (a : Option Addr) (cap : Nat) (l : List Int), v = .slice a l.length cap ∧ Is W a l ∧ l.length ≤ 9223372036854775807 := by
  obtain ⟨a, len, cap, rfl⟩ := okWide_slice Try.underlying54 hval
  obtain ⟨fuel, hf⟩ := h0
  rcases open_ints Try.underlying54 Try.underlying3 cInt hf with ⟨hcs, _⟩ | ⟨x, l, c, zs, hcs, _, hl, hm, hz, hy, hcell, hwz⟩
  · simp [Value.cells] at hcs
    obtain ⟨rfl, rfl, rfl⟩ := hcs
    exact ⟨none, 0, [], rfl, fun h => absurd rfl h, by simp⟩
  · simp [Value.cells] at hcs
    obtain ⟨rfl, rfl, rfl⟩ := hcs
    have hz' : zs.length = cap := by simpa using hz
    have hlen : (zs.take len).length = len := by simp; omega
    refine ⟨some x, cap, zs.take len, by rw [hlen], fun hne => ?_, by rw [hlen]; unfold maxLen at hm; omega⟩
    have hlen0 : 0 < len := by
      rcases Nat.eq_zero_or_pos len with e | e
      · subst e
        simp at hne
      · exact e
    obtain ⟨b, off, spot⟩ := x
    have hc0 := hcell 0 (by omega)
    have hspot : spot = none := by simpa [Addr.add] using World.cell?_spot hc0
    subst hspot
    rw [addr_add] at hc0
    refine ⟨b, off, rfl, block_lt_of_cell hc0, fun i hi => ?_⟩
    rw [hlen] at hi
    have hc := hcell i (by omega)
    rw [addr_add] at hc
    rw [hc, getElem!_pos _ i (by rw [hlen]; exact hi)]
    have hzi : i < zs.length := by omega
    simp [hzi]
theorem open_rows {W : World} {base : Nat} {v : Value} {d : DataW H} {p : List MemPlace} (hval : Value.okWide Try.prog W .any base 46 v)
    (h0 : DataW.Trod enc Try.prog W 0 (fun _ => true) true 46 v d p) : ∃ (a : Option Addr) (cap : Nat) (l : List Sb), v = .slice a l.length cap ∧ Ss W a l ∧ l.length ≤ 9223372036854775807 := by
  obtain ⟨a, len, cap, rfl⟩ := okWide_slice Try.underlying46 hval
  obtain ⟨fuel, hf⟩ := h0
  rcases open_slice Try.underlying46 hf with ⟨hcs, _⟩ | ⟨x, l, c, m, n, D, Pl, hcs, _, hl, hm, hmm, hx, hi⟩
  · simp [Value.cells] at hcs
    obtain ⟨rfl, rfl, rfl⟩ := hcs
    exact ⟨none, 0, [], rfl, fun g => absurd rfl g, by simp⟩
  · simp [Value.cells] at hcs
    obtain ⟨rfl, rfl, rfl⟩ := hcs
    simp only [if_true] at hmm
    subst hmm
    have one : ∀ i, i < len → ∃ y : Sb, W.cell? (x.add i) = some (.slice y.p y.x.length y.cap) ∧ Bts W y.p y.x ∧ y.x.length ≤ y.cap ∧ y.cap ≤ maxLen := by
      intro i hil
      obtain ⟨cs', hc, ht⟩ := hi i (by omega)
      rw [cSl] at hc
      obtain ⟨_, hcl, hat⟩ := World.cells?_some hc
      match cs', hcl with
      | [u0], _ =>
          have hs : ∃ aa ll cc, u0 = .slice aa ll cc := by
            rcases open_ints Try.underlying47 Try.underlying5 cByte ht with ⟨hcs, _⟩ | ⟨x, l, c, zs, hcs, _⟩
            · simp only [List.cons.injEq, and_true] at hcs
              exact ⟨_, _, _, hcs⟩
            · simp only [List.cons.injEq, and_true] at hcs
              exact ⟨_, _, _, hcs⟩
          obtain ⟨aa, ll, cc, rfl⟩ := hs
          obtain ⟨bl, rfl, hb, hbc, hbm, hbn, hbw⟩ := open_bytes_at ht
          have h0 := hat 0 (by omega)
          refine ⟨⟨aa, cc, bl⟩, ?_, hb, hbc, hbm⟩
          have ez : (x.add (i * 1)).add 0 = x.add i := by
            obtain ⟨b, off, spot⟩ := x
            unfold Addr.add
            split <;> simp_all
          rw [ez] at h0
          exact h0
    obtain ⟨f, hf'⟩ : ∃ f : Nat → Sb, ∀ i, i < len → W.cell? (x.add i) = some (.slice (f i).p (f i).x.length (f i).cap) ∧ Bts W (f i).p (f i).x ∧ (f i).x.length ≤ (f i).cap ∧ (f i).cap ≤ maxLen := by
      refine ⟨fun i => if h : i < len then Classical.choose (one i h) else default, fun i hi => ?_⟩
      simp only [dif_pos hi]
      exact Classical.choose_spec (one i hi)
    have hlen : ((List.range len).map f).length = len := by simp
    refine ⟨some x, _, (List.range len).map f, by rw [hlen], ?_, by rw [hlen]; unfold maxLen at hm; omega⟩
    intro hne
    have hlen0 : 0 < len := by
      rcases Nat.eq_zero_or_pos len with e | e
      · subst e
        simp at hne
      · exact e
    obtain ⟨b, off, spot⟩ := x
    have hc0 := (hf' 0 hlen0).1
    have hspot : spot = none := by simpa [Addr.add] using World.cell?_spot hc0
    subst hspot
    rw [addr_add] at hc0
    refine ⟨b, off, rfl, block_lt_of_cell hc0, fun i hi => ?_⟩
    rw [hlen] at hi
    have := hf' i hi
    simp only [addr_add] at this
    have e : ((List.range len).map f)[i]! = f i := by
      rw [getElem!_pos _ i (by rw [hlen]; exact hi)]
      simp
    rw [e]
    exact this
theorem trod_struct3' {P : Program} {w : World} {base : Nat} {spare : Nat → Bool} {held : Bool} {t : TypeId} {f0 f1 f2 : Field} {fuel : Nat} {cs : List Value} {x : DataW H × List MemPlace} (ht : P.underlying t = some (.struct #[f0, f1, f2])) (h : DataW.trod enc P w base spare held fuel t cs = some x) :
    ∃ y0 y1 y2 n, DataW.trod enc P w base spare held n f0.type ((cs.drop f0.offset).take (P.cellsOf f0.type)) = some y0 ∧ DataW.trod enc P w base spare held n f1.type ((cs.drop f1.offset).take (P.cellsOf f1.type)) = some y1 ∧
      DataW.trod enc P w base spare held n f2.type ((cs.drop f2.offset).take (P.cellsOf f2.type)) = some y2 := by
  obtain ⟨xs, n, _, rfl, hl, hlen, hf⟩ := DataW.trod_struct ht h
  match xs, hlen with
  | [y0, y1, y2], _ => exact ⟨y0, y1, y2, n, by simpa using hf 0 f0 rfl, by simpa using hf 1 f1 rfl, by simpa using hf 2 f2 rfl⟩
theorem open_acts {W : World} {base : Nat} {v : Value} {d : DataW H} {p : List MemPlace} (hval : Value.okWide Try.prog W .any base 22 v)
    (h0 : DataW.Trod enc Try.prog W 0 (fun _ => true) true 22 v d p) : ∃ (a : Option Addr) (cap : Nat) (l : List Ac), v = .slice a l.length cap ∧ As W a l ∧ l.length ≤ 9223372036854775807 := by
  obtain ⟨a, len, cap, rfl⟩ := okWide_slice Try.underlying22 hval
  obtain ⟨fuel, hf⟩ := h0
  rcases open_slice Try.underlying22 hf with ⟨hcs, _⟩ | ⟨x, l, c, m, n, D, Pl, hcs, _, hl, hm, hmm, hx, hi⟩
  · simp [Value.cells] at hcs
    obtain ⟨rfl, rfl, rfl⟩ := hcs
    exact ⟨none, 0, [], rfl, fun g => absurd rfl g, by simp⟩
  · simp [Value.cells] at hcs
    obtain ⟨rfl, rfl, rfl⟩ := hcs
    simp only [if_true] at hmm
    subst hmm
    have one : ∀ i, i < len → ∃ y : Ac, W.cell? (x.add (i * 3)) = some (.int .i64 y.k) ∧ W.cell? ((x.add (i * 3)).add 1) = some (.int .i64 y.n) ∧ W.cell? ((x.add (i * 3)).add 2) = some (.string y.s) ∧ y.s.size ≤ maxLen := by
      intro i hil
      obtain ⟨cs', hc, ht⟩ := hi i (by omega)
      rw [cAct] at hc
      obtain ⟨_, hcl, hat⟩ := World.cells?_some hc
      obtain ⟨y0, y1, y2, n', t0, t1, t2⟩ := trod_struct3' Try.underlying28 ht
      match cs', hcl with
      | [u0, u1, u2], _ =>
          simp only [cInt, cStr, List.drop_zero, List.drop_succ_cons, List.take_succ_cons, List.take_zero] at t0 t1 t2
          obtain ⟨n0, e0, _, _⟩ := DataW.trod_int Try.underlying3 t0
          obtain ⟨n1, e1, _, _⟩ := DataW.trod_int Try.underlying3 t1
          obtain ⟨s2, e2, _, hs2⟩ := DataW.trod_string Try.underlying9 t2
          simp only [List.cons.injEq, and_true] at e0 e1 e2
          subst e0 e1 e2
          have h0 := hat 0 (by omega)
          have h1 := hat 1 (by omega)
          have h2 := hat 2 (by omega)
          refine ⟨⟨n0, n1, s2⟩, ?_, h1, h2, hs2⟩
          have ez : (x.add (i * 3)).add 0 = x.add (i * 3) := by
            obtain ⟨b, off, spot⟩ := x
            unfold Addr.add
            split <;> simp_all
          rw [ez] at h0
          exact h0
    obtain ⟨f, hf'⟩ : ∃ f : Nat → Ac, ∀ i, i < len → W.cell? (x.add (i * 3)) = some (.int .i64 (f i).k) ∧ W.cell? ((x.add (i * 3)).add 1) = some (.int .i64 (f i).n) ∧ W.cell? ((x.add (i * 3)).add 2) = some (.string (f i).s) ∧ (f i).s.size ≤ maxLen := by
      refine ⟨fun i => if h : i < len then Classical.choose (one i h) else default, fun i hi => ?_⟩
      simp only [dif_pos hi]
      exact Classical.choose_spec (one i hi)
    have hlen : ((List.range len).map f).length = len := by simp
    refine ⟨some x, _, (List.range len).map f, by rw [hlen], ?_, by rw [hlen]; unfold maxLen at hm; omega⟩
    intro hne
    have hlen0 : 0 < len := by
      rcases Nat.eq_zero_or_pos len with e | e
      · subst e
        simp at hne
      · exact e
    obtain ⟨b, off, spot⟩ := x
    have hc0 := (hf' 0 hlen0).1
    have hspot : spot = none := by simpa [Addr.add] using World.cell?_spot hc0
    subst hspot
    rw [addr_add] at hc0
    refine ⟨b, off, rfl, block_lt_of_cell hc0, fun i hi => ?_⟩
    rw [hlen] at hi
    have := hf' i hi
    simp only [addr_add] at this
    have e : ((List.range len).map f)[i]! = f i := by
      rw [getElem!_pos _ i (by rw [hlen]; exact hi)]
      simp
    rw [e]
    exact this
end
end Go.Proofs.Ytmhecgidhdbcgaa
