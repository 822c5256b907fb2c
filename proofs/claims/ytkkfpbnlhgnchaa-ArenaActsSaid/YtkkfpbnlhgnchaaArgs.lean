/-
  From a row's reading of a slice of bytes, of an array of numbers, or of a slice of calls, to the lists of them.
-/
import Derived.Test.YtkkfpbnlhgnchaaCells
import Derived.Test.YtkkfpbnlhgnchaaRows
import Derived.ProofKit
import Derived.OpenShut
import Derived.ChangeOld
import Derived.ChangeSlices
import Derived.Carry
import Derived.Deep.Slices
import Derived.Deep.Strs
import Derived.SizedLaws
namespace Go.Proofs.Ytkkfpbnlhgnchaa
open Go.ChangeShapes Go.WideShapes Go.ChangeAt Go.RowKit Go.Lib Go.Deep
set_option linter.unusedVariables false

theorem u8_nat {z : Int} (h : (Lit.int .u8 z).wf = true) : ∃ n : Nat, z = (n : Int) ∧ n < 256 := by
  simp [Lit.wf, IntKind.min, IntKind.max, IntKind.signed, IntKind.bits] at h
  exact ⟨z.toNat, by omega, by omega⟩
theorem cByte : Try.prog.cellsOf 5 = 1 := by kernel_rfl
theorem cInt : Try.prog.cellsOf 3 = 1 := by kernel_rfl
theorem cSl : Try.prog.cellsOf 31 = 1 := by kernel_rfl
theorem cAct : Try.prog.cellsOf 35 = 5 := by kernel_rfl
theorem c2 : Try.prog.cellsOf 51 = 2 := by kernel_rfl
theorem c3 : Try.prog.cellsOf 55 = 3 := by kernel_rfl
theorem laidOut : laidOutB Try.prog = true := by kernel_rfl
/-- A call. -/
structure Ac where
  k : Int
  a : Int
  b : Int
  c : Int
  p : Option Addr
  cap : Nat
  x : List UInt8
instance : Inhabited Ac := ⟨⟨0, 0, 0, 0, none, 0, []⟩⟩
/-- A slice's calls. -/
def As (w : World) (a : Option Addr) (l : List Ac) : Prop := l ≠ [] → ∃ b off, a = some ⟨b, off, none⟩ ∧ b < w.heap.size ∧ ∀ i, i < l.length →
  w.cell? ⟨b, off + i * 5, none⟩ = some (.int .i64 (l[i]!).k) ∧ w.cell? ⟨b, off + i * 5 + 1, none⟩ = some (.int .i64 (l[i]!).a) ∧ w.cell? ⟨b, off + i * 5 + 2, none⟩ = some (.int .i64 (l[i]!).b) ∧ w.cell? ⟨b, off + i * 5 + 3, none⟩ = some (.int .i64 (l[i]!).c) ∧
  w.cell? ⟨b, off + i * 5 + 4, none⟩ = some (.slice (l[i]!).p (l[i]!).x.length (l[i]!).cap) ∧ Bts w (l[i]!).p (l[i]!).x ∧ (l[i]!).x.length ≤ reachBytes ∧ ((l[i]!).p = none → (l[i]!).cap = 0)

section
variable {H : Type} {enc : TypeId × Value → H}

theorem open_bytes_at {W : World} {fuel : Nat} {a : Option Addr} {len cap : Nat} {y : DataW H × List MemPlace} (hf : DataW.trod enc Try.prog W 0 (fun _ => true) true fuel 31 [.slice a len cap] = some y) :
    ∃ l : List UInt8, len = l.length ∧ Bts W a l ∧ l.length ≤ cap ∧ cap ≤ maxLen ∧ (a = none → cap = 0) ∧ (l ≠ [] → cap ∈ y.1.weights Try.prog 31) := by
  rcases open_ints Try.underlying31 Try.underlying5 cByte hf with ⟨hcs, _⟩ | ⟨x, l, c, zs, hcs, _, hl, hm, hz, hy, hcell, hwz⟩
  · simp at hcs
    obtain ⟨rfl, rfl, rfl⟩ := hcs
    exact ⟨[], rfl, Bts.nil _ _, by simp, by simp, fun _ => rfl, fun h => absurd rfl h⟩
  · simp at hcs
    obtain ⟨rfl, rfl, rfl⟩ := hcs
    have hz' : zs.length = cap := by simpa using hz
    have hlen : ((zs.take len).map fun z => UInt8.ofNat z.toNat).length = len := by simp; omega
    refine ⟨(zs.take len).map fun z => UInt8.ofNat z.toNat, hlen.symm, ?_, by omega, hm, (fun h => by cases h), fun _ => ?_⟩
    rotate_left
    · subst hy
      simp only [DataW.weights, Try.underlying31]
      refine List.mem_cons.2 (.inl ?_)
      have e : Try.prog.bytesOf 5 = 1 := by kernel_rfl
      rw [e]
      simp [lits]
      omega
    intro hne
    have hlen0 : 0 < len := by
      rcases Nat.eq_zero_or_pos len with e | e
      · subst e
        simp at hne
      · exact e
    obtain ⟨b, off, spot⟩ := x
    have hc0 := hcell 0 (by omega)
    have hspot : spot = none := by simpa [Addr.add] using World.cell?_spot hc0
    subst hspot
    refine ⟨b, off, rfl, fun i hi => ?_⟩
    rw [hlen] at hi
    have hc := hcell i (by omega)
    rw [addr_add] at hc
    rw [hc]
    have hzi : i < zs.length := by omega
    obtain ⟨m, hm1, hm2⟩ := u8_nat (hwz zs[i] (List.getElem_mem hzi))
    have e2 : zs.getD i 0 = zs[i] := by simp [hzi]
    rw [e2, getElem!_pos _ i (by rw [hlen]; exact hi)]
    simp only [List.getElem_map, List.getElem_take, bval, hm1, Int.toNat_natCast, UInt8.toNat_ofNat']
    rw [Nat.mod_eq_of_lt hm2]
theorem open_bytes {W : World} {base : Nat} {v : Value} {d : DataW H} {p : List MemPlace} (hval : Value.okWide Try.prog W .any base 31 v)
    (h0 : DataW.Trod enc Try.prog W 0 (fun _ => true) true 31 v d p) : ∃ (a : Option Addr) (cap : Nat) (l : List UInt8), v = .slice a l.length cap ∧ Bts W a l ∧ l.length ≤ cap ∧ cap ≤ maxLen ∧ (a = none → cap = 0) := by
  obtain ⟨a, len, cap, rfl⟩ := okWide_slice Try.underlying31 hval
  obtain ⟨fuel, hf⟩ := h0
  obtain ⟨l, rfl, h1, h2, h3, h4, _⟩ := open_bytes_at hf
  exact ⟨a, cap, l, rfl, h1, h2, h3, h4⟩
theorem open_two {W : World} {base : Nat} {v : Value} {d : DataW H} {p : List MemPlace} (hval : Value.okWide Try.prog W .any base 51 v)
    (h0 : DataW.Trod enc Try.prog W 0 (fun _ => true) true 51 v d p) : ∃ x y : Int, v = .agg #[.int .i64 x, .int .i64 y] := by
  simp only [Value.okWide, Try.underlying51] at hval
  obtain ⟨cs, rfl, hsz, _⟩ := hval
  obtain ⟨l⟩ := cs
  match l, hsz.trans c2 with
  | [u0, u1], _ =>
    obtain ⟨fuel, hf⟩ := h0
    obtain ⟨xs, m, _, _, _, hl, hg⟩ := DataW.trod_array Try.underlying51 hf
    match xs, hl with
    | [y0, y1], _ =>
      have g0 := hg 0 (by omega)
      have g1 := hg 1 (by omega)
      simp only [cInt, Value.cells, Nat.zero_mul, Nat.one_mul, List.drop_zero, List.drop_succ_cons, List.take_succ_cons, List.take_zero, List.getElem?_cons_zero, List.getElem?_cons_succ] at g0 g1
      obtain ⟨n0, e0, _, _⟩ := DataW.trod_int Try.underlying3 g0
      obtain ⟨n1, e1, _, _⟩ := DataW.trod_int Try.underlying3 g1
      simp only [List.cons.injEq, and_true] at e0 e1
      exact ⟨n0, n1, by rw [e0, e1]⟩
theorem open_three {W : World} {base : Nat} {v : Value} {d : DataW H} {p : List MemPlace} (hval : Value.okWide Try.prog W .any base 55 v)
    (h0 : DataW.Trod enc Try.prog W 0 (fun _ => true) true 55 v d p) : ∃ x y z : Int, v = .agg #[.int .i64 x, .int .i64 y, .int .i64 z] := by
  simp only [Value.okWide, Try.underlying55] at hval
  obtain ⟨cs, rfl, hsz, _⟩ := hval
  obtain ⟨l⟩ := cs
  match l, hsz.trans c3 with
  | [u0, u1, u2], _ =>
    obtain ⟨fuel, hf⟩ := h0
    obtain ⟨xs, m, _, _, _, hl, hg⟩ := DataW.trod_array Try.underlying55 hf
    match xs, hl with
    | [y0, y1, y2], _ =>
      have g0 := hg 0 (by omega)
      have g1 := hg 1 (by omega)
      have g2 := hg 2 (by omega)
      simp only [cInt, Value.cells, Nat.mul_one, List.drop_zero, List.drop_succ_cons, List.take_succ_cons, List.take_zero, List.getElem?_cons_zero, List.getElem?_cons_succ] at g0 g1 g2
      obtain ⟨n0, e0, _, _⟩ := DataW.trod_int Try.underlying3 g0
      obtain ⟨n1, e1, _, _⟩ := DataW.trod_int Try.underlying3 g1
      obtain ⟨n2, e2, _, _⟩ := DataW.trod_int Try.underlying3 g2
      simp only [List.cons.injEq, and_true] at e0 e1 e2
      exact ⟨n0, n1, n2, by rw [e0, e1, e2]⟩

theorem trod_struct5 {P : Program} {w : World} {base : Nat} {spare : Nat → Bool} {held : Bool} {t : TypeId} {f0 f1 f2 f3 f4 : Field} {fuel : Nat} {cs : List Value} {x : DataW H × List MemPlace} (ht : P.underlying t = some (.struct #[f0, f1, f2, f3, f4])) (h : DataW.trod enc P w base spare held fuel t cs = some x) :
    ∃ y0 y1 y2 y3 y4 n, x.1 = .agg [y0.1, y1.1, y2.1, y3.1, y4.1] ∧ DataW.trod enc P w base spare held n f0.type ((cs.drop f0.offset).take (P.cellsOf f0.type)) = some y0 ∧ DataW.trod enc P w base spare held n f1.type ((cs.drop f1.offset).take (P.cellsOf f1.type)) = some y1 ∧
      DataW.trod enc P w base spare held n f2.type ((cs.drop f2.offset).take (P.cellsOf f2.type)) = some y2 ∧ DataW.trod enc P w base spare held n f3.type ((cs.drop f3.offset).take (P.cellsOf f3.type)) = some y3 ∧ DataW.trod enc P w base spare held n f4.type ((cs.drop f4.offset).take (P.cellsOf f4.type)) = some y4 := by
  obtain ⟨xs, n, _, rfl, hl, hlen, hf⟩ := DataW.trod_struct ht h
  match xs, hlen with
  | [y0, y1, y2, y3, y4], _ => exact ⟨y0, y1, y2, y3, y4, n, by simp, by simpa using hf 0 f0 rfl, by simpa using hf 1 f1 rfl, by simpa using hf 2 f2 rfl, by simpa using hf 3 f3 rfl, by simpa using hf 4 f4 rfl⟩
theorem weightsAll_mem {P : Program} {e : TypeId} : ∀ {ds : List (DataW H)} {d : DataW H}, d ∈ ds → ∀ n ∈ d.weights P e, n ∈ DataW.weightsAll P e ds
  | d0 :: r, d, hd, n, hn => by
    rw [DataW.weightsAll]
    rcases List.mem_cons.1 hd with e | e
    · subst e
      exact List.mem_append_left _ hn
    · exact List.mem_append_right _ (weightsAll_mem e n hn)
theorem open_acts {W : World} {base : Nat} {v : Value} {d : DataW H} {p : List MemPlace} (hval : Value.okWide Try.prog W .any base 22 v)
    (h0 : DataW.Trod enc Try.prog W 0 (fun _ => true) true 22 v d p) (hw : ∀ n ∈ d.weights Try.prog 22, n ≤ reachBytes) : ∃ (a : Option Addr) (cap : Nat) (l : List Ac), v = .slice a l.length cap ∧ As W a l ∧ l.length ≤ 9223372036854775807 := by
  obtain ⟨a, len, cap, rfl⟩ := okWide_slice Try.underlying22 hval
  obtain ⟨fuel, hf⟩ := h0
  rcases open_slice Try.underlying22 hf with ⟨hcs, _⟩ | ⟨x, l, c, m, n, D, Pl, hcs, _, hl, hm, hmm, hx, hi⟩
  · simp [Value.cells] at hcs
    obtain ⟨rfl, rfl, rfl⟩ := hcs
    exact ⟨none, 0, [], rfl, fun g => absurd rfl g, by simp⟩
  · simp [Value.cells] at hcs
    obtain ⟨rfl, rfl, rfl⟩ := hcs
    simp only [if_true] at hmm
    subst hmm
    -- each call by its own five cells
    have one : ∀ i, i < len → ∃ y : Ac, W.cell? (x.add (i * 5)) = some (.int .i64 y.k) ∧ W.cell? ((x.add (i * 5)).add 1) = some (.int .i64 y.a) ∧ W.cell? ((x.add (i * 5)).add 2) = some (.int .i64 y.b) ∧ W.cell? ((x.add (i * 5)).add 3) = some (.int .i64 y.c) ∧
        W.cell? ((x.add (i * 5)).add 4) = some (.slice y.p y.x.length y.cap) ∧ Bts W y.p y.x ∧ y.x.length ≤ reachBytes ∧ (y.p = none → y.cap = 0) := by
      intro i hil
      obtain ⟨cs', hc, ht⟩ := hi i (by omega)
      rw [cAct] at hc
      obtain ⟨_, hcl, hat⟩ := World.cells?_some hc
      obtain ⟨y0, y1, y2, y3, y4, n', hD, t0, t1, t2, t3, t4⟩ := trod_struct5 Try.underlying35 ht
      match cs', hcl with
      | [u0, u1, u2, u3, u4], _ =>
          simp only [cInt, cSl, List.drop_zero, List.drop_succ_cons, List.take_succ_cons, List.take_zero] at t0 t1 t2 t3 t4
          obtain ⟨n0, e0, _, _⟩ := DataW.trod_int Try.underlying3 t0
          obtain ⟨n1, e1, _, _⟩ := DataW.trod_int Try.underlying3 t1
          obtain ⟨n2, e2, _, _⟩ := DataW.trod_int Try.underlying3 t2
          obtain ⟨n3, e3, _, _⟩ := DataW.trod_int Try.underlying3 t3
          simp only [List.cons.injEq, and_true] at e0 e1 e2 e3
          have hs : ∃ aa ll cc, u4 = .slice aa ll cc := by
            rcases open_ints Try.underlying31 Try.underlying5 cByte t4 with ⟨hcs, _⟩ | ⟨x, l, c, zs, hcs, _⟩
            · simp only [List.cons.injEq, and_true] at hcs
              exact ⟨_, _, _, hcs⟩
            · simp only [List.cons.injEq, and_true] at hcs
              exact ⟨_, _, _, hcs⟩
          obtain ⟨aa, ll, cc, rfl⟩ := hs
          obtain ⟨bl, rfl, hb, hbc, hbm, hbn, hbw⟩ := open_bytes_at t4
          have hbl : bl.length ≤ reachBytes := by
            rcases Classical.em (bl = []) with e | e
            · rw [e]; simp
            · refine Nat.le_trans hbc (hw cc ?_)
              rw [(Prod.mk.inj hx).1]
              simp only [DataW.weights, Try.underlying22]
              refine List.mem_cons_of_mem _ (List.mem_append_left _ (weightsAll_mem (d := D i) (List.mem_map.2 ⟨i, List.mem_range.2 hil, rfl⟩) cc ?_))
              have hD' : D i = .agg [y0.1, y1.1, y2.1, y3.1, y4.1] := hD
              rw [hD']
              simp only [DataW.weights, Try.underlying35]
              exact DataW.weights_mem_each (j := 4) (t := 31) (d := y4.1) rfl rfl cc (hbw e)
          subst e0 e1 e2 e3
          have h0 := hat 0 (by omega)
          have h1 := hat 1 (by omega)
          have h2 := hat 2 (by omega)
          have h3 := hat 3 (by omega)
          have h4 := hat 4 (by omega)
          refine ⟨⟨n0, n1, n2, n3, aa, cc, bl⟩, ?_, h1, h2, h3, h4, hb, hbl, hbn⟩
          have ez : (x.add (i * 5)).add 0 = x.add (i * 5) := by
            obtain ⟨b, off, spot⟩ := x
            unfold Addr.add
            split <;> simp_all
          rw [ez] at h0
          exact h0
    obtain ⟨f, hf'⟩ : ∃ f : Nat → Ac, ∀ i, i < len → W.cell? (x.add (i * 5)) = some (.int .i64 (f i).k) ∧ W.cell? ((x.add (i * 5)).add 1) = some (.int .i64 (f i).a) ∧ W.cell? ((x.add (i * 5)).add 2) = some (.int .i64 (f i).b) ∧ W.cell? ((x.add (i * 5)).add 3) = some (.int .i64 (f i).c) ∧
        W.cell? ((x.add (i * 5)).add 4) = some (.slice (f i).p (f i).x.length (f i).cap) ∧ Bts W (f i).p (f i).x ∧ (f i).x.length ≤ reachBytes ∧ ((f i).p = none → (f i).cap = 0) := by
      refine ⟨fun i => if h : i < len then Classical.choose (one i h) else default, fun i hi => ?_⟩
      simp only [dif_pos hi]
      exact Classical.choose_spec (one i hi)
    have hlen : ((List.range len).map f).length = len := by simp
    refine ⟨some x, _, (List.range len).map f, by rw [hlen], ?_, by rw [hlen]; unfold maxLen at hm; omega⟩
    intro hne
    have hlen0 : 0 < len := by
      rcases Nat.eq_zero_or_pos len with e | e
      · subst e
        simp at hne
      · exact e
    obtain ⟨b, off, spot⟩ := x
    have hc0 := (hf' 0 hlen0).1
    have hspot : spot = none := by simpa [Addr.add] using World.cell?_spot hc0
    subst hspot
    rw [addr_add] at hc0
    refine ⟨b, off, rfl, block_lt_of_cell hc0, fun i hi => ?_⟩
    rw [hlen] at hi
    have := hf' i hi
    simp only [addr_add] at this
    have e : ((List.range len).map f)[i]! = f i := by
      rw [getElem!_pos _ i (by rw [hlen]; exact hi)]
      simp
    rw [e]
    exact this
end
end Go.Proofs.Ytkkfpbnlhgnchaa
