/-
  Memory for the arena: steps of memory, bytes in a slice, a block of bytes known whole; copy, clear, make and the cuts of a slice.
-/
import Derived.Test.YtcailmgincafcaaDoorChecked
import Derived.WalkKit
import Derived.WalkLawsBesides
import Derived.WalkSpells
import Derived.Laws.Externs
import Derived.Laws.CopyOwn
import Derived.Laws.BytesArg
import Derived.Laws.MakeOwn
import Derived.Laws.OwnMore
import Derived.Laws.AppendOwnNone
import Derived.Lib.SliceRun
import Derived.Lib.Hide
import Derived.Maps.AppendAt
import Derived.Deep.LoopGhost
import Derived.Deep.MidRow
import Derived.Deep.QuietTactic
import Derived.BigQuiet
import Derived.BigRegion
import Derived.Below
import Derived.OwnWalk
import Derived.Handy
import Derived.StillTailTactics
namespace Go.Proofs.YtcailmgincafcaaDoor
open Go.RowKit Go.Lib
set_option linter.unusedVariables false

/-- What a call that turns nothing answers. -/
def Gives (v : Value) (w : World) (e : Ending) (w' : World) : Prop := e = .returned v ∧ w' = w
/-- What a statement's call answers. -/
def Truth (w : World) (e : Ending) (w' : World) : Prop := e = .returned (.bool true) ∧ Below w.heap.size w w'

/-! ### Steps of memory -/
/-- From W to W' nothing has turned but in the blocks F; the blocks F' are among them, or new. -/
structure Stp (F : List Nat) (W : World) (F' : List Nat) (W' : World) : Prop where
  os : W'.os = W.os
  tape : W'.tape = W.tape
  output : W'.output = W.output
  size : W.heap.size ≤ W'.heap.size
  block : ∀ k, k < W.heap.size → k ∉ F → W'.heap[k]? = W.heap[k]?
  foot : ∀ k ∈ F', k ∈ F ∨ W.heap.size ≤ k

theorem Stp.refl (F : List Nat) (W : World) : Stp F W F W := ⟨rfl, rfl, rfl, Nat.le_refl _, fun _ _ _ => rfl, fun _ h => .inl h⟩
theorem Stp.trans {F F' F'' : List Nat} {W W' W'' : World} (h : Stp F W F' W') (k : Stp F' W' F'' W'') : Stp F W F'' W'' :=
  ⟨k.os.trans h.os, k.tape.trans h.tape, k.output.trans h.output, Nat.le_trans h.size k.size,
    fun i hi hF => (k.block i (Nat.lt_of_lt_of_le hi h.size) (fun hF' => by rcases h.foot i hF' with g | g; exact hF g; omega)).trans (h.block i hi hF),
    fun i hi => by
      rcases k.foot i hi with g | g
      · exact h.foot i g
      · exact .inr (Nat.le_trans h.size g)⟩
theorem Stp.below {F F' : List Nat} {W W' : World} {B : Nat} (h : Stp F W F' W') (hF : ∀ k ∈ F, B ≤ k) (hB : B ≤ W.heap.size) : Below B W W' :=
  ⟨h.os, h.tape, h.output, h.size, fun k hk => h.block k (by omega) (fun g => by have := hF k g; omega)⟩
theorem Stp.under {F : List Nat} {w w' : World} (h : Stp [] w F w') : Below w.heap.size w w' := h.below (fun k h => by cases h) (Nat.le_refl _)
theorem Stp.alloc (F : List Nat) (W : World) (o : Obj) : Stp F W F (W.alloc o) := ⟨rfl, rfl, rfl, by simp, fun k hk _ => Below.heap_alloc W o k hk, fun _ h => .inl h⟩
theorem Stp.drew (F : List Nat) (W : World) : Stp F W F W.drew := ⟨rfl, rfl, rfl, Nat.le_refl _, fun _ _ _ => rfl, fun _ h => .inl h⟩
theorem Stp.drewN (F : List Nat) (W : World) (q : Nat) : Stp F W F (W.drewN q) := ⟨rfl, rfl, rfl, Nat.le_refl _, fun _ _ _ => rfl, fun _ h => .inl h⟩
theorem Stp.setCell {F : List Nat} (W : World) {a : Addr} (v : Value) (h : a.block ∈ F) : Stp F W F (W.setCell a v) :=
  ⟨rfl, rfl, rfl, by simp [World.setCell], fun k hk hF => Below.heap_setCell _ _ _ _ (fun e => hF (e ▸ h)), fun _ h => .inl h⟩
theorem Stp.cell {F F' : List Nat} {W W' : World} (h : Stp F W F' W') {a : Addr} (hb : a.block < W.heap.size) (hF : a.block ∉ F) : W'.cell? a = W.cell? a := World.cell?_of_block (h.block _ hb hF)
theorem Stp.none {F F' : List Nat} {W W' : World} (h : Stp F W F' W') : Stp F W [] W' := ⟨h.os, h.tape, h.output, h.size, h.block, fun _ h => by cases h⟩
theorem Stp.widen {F F' G : List Nat} {W W' : World} (h : Stp [] W F' W') (hG : ∀ k ∈ G, k ∈ F ∨ k ∈ F') : Stp F W G W' := ⟨h.os, h.tape, h.output, h.size, fun k hk _ => h.block k hk (fun h => by cases h), fun k hk => by
  rcases hG k hk with e | e
  · exact .inl e
  · rcases h.foot k e with e | e
    · cases e
    · exact .inr e⟩
/-- A step in fewer blocks is a step in more. -/
theorem Stp.more {F F' G : List Nat} {W W' : World} (h : Stp F W F' W') (hG : ∀ k ∈ F, k ∈ G) : Stp G W G W' :=
  ⟨h.os, h.tape, h.output, h.size, fun k hk hF => h.block k hk (fun g => hF (hG k g)), fun _ h => .inl h⟩
/-- A step in blocks that are new since w is a step from w. -/
theorem Stp.fresh {F G : List Nat} {w W W' : World} (h : Stp [] w F W) (k : Stp G W G W') (hG : ∀ i ∈ G, w.heap.size ≤ i) : Stp [] w G W' :=
  ⟨k.os.trans h.os, k.tape.trans h.tape, k.output.trans h.output, Nat.le_trans h.size k.size,
    fun i hi hF => (k.block i (Nat.lt_of_lt_of_le hi h.size) (fun g => by have := hG i g; omega)).trans (h.block i hi hF), fun i hi => .inr (hG i hi)⟩

/-! ### Bytes -/
def bval (x : UInt8) : Value := .int .u8 (x.toNat : Int)
theorem bval_inj {x y : UInt8} (h : bval x = bval y) : x = y := by
  unfold bval at h
  injection h with _ h
  exact UInt8.toNat_inj.1 (by omega)
/-- A slice's cells, as far as it is long, are these bytes. -/
def Bts (w : World) (a : Option Addr) (l : List UInt8) : Prop := l ≠ [] → ∃ b off, a = some ⟨b, off, none⟩ ∧ ∀ i, i < l.length → w.cell? ⟨b, off + i, none⟩ = some (bval (l[i]!))
/-- A block of bytes known whole. -/
def Blk (w : World) (g : Nat) (C : List UInt8) : Prop := w.heap[g]? = some (.cells (C.map bval).toArray 5 (0, 0))
theorem addr_add (b off i : Nat) : (⟨b, off, none⟩ : Addr).add i = ⟨b, off + i, none⟩ := by
  unfold Addr.add
  split <;> simp_all
theorem Blk.lt {w : World} {g : Nat} {C : List UInt8} (h : Blk w g C) : g < w.heap.size := (Array.getElem?_eq_some_iff.1 h).1
theorem Blk.cell {w : World} {g : Nat} {C : List UInt8} (h : Blk w g C) {i : Nat} (hi : i < C.length) : w.cell? ⟨g, i, none⟩ = some (bval (C[i]!)) := by
  rw [cell_of_row w g i _ _ _ h]
  simp [hi]
theorem Blk.fz {w : World} {g : Nat} {C : List UInt8} (h : Blk w g C) (i : Nat) : w.frozen? ⟨g, i, none⟩ = false := frozen_of_row w g i _ _ h
theorem Blk.bts {w : World} {g : Nat} {C : List UInt8} (h : Blk w g C) : Bts w (some ⟨g, 0, none⟩) C := fun _ => ⟨g, 0, rfl, fun i hi => by rw [Nat.zero_add]; exact h.cell hi⟩
theorem Blk.other {w w' : World} {g : Nat} {C : List UInt8} {F F' : List Nat} (h : Blk w g C) (hs : Stp F w F' w') (hF : g ∉ F) : Blk w' g C := (hs.block g h.lt hF).trans h
theorem Blk.set {w : World} {g : Nat} {C : List UInt8} (h : Blk w g C) (i : Nat) (x : UInt8) : Blk (w.setCell ⟨g, i, none⟩ (bval x)) g (C.set i x) := by
  have := heap_setCell_same w g i _ _ (bval x) h
  unfold Blk
  rw [this, List.map_set]
  simp
theorem Bts.nil (w : World) (a : Option Addr) : Bts w a [] := fun h => absurd rfl h
theorem Bts.blk {w : World} {a : Option Addr} {l : List UInt8} (h : Bts w a l) (hl : l ≠ []) : ∃ b off, a = some ⟨b, off, none⟩ ∧ b < w.heap.size := by
  obtain ⟨b, off, h1, h2⟩ := h hl
  exact ⟨b, off, h1, block_lt_of_cell (h2 0 (List.length_pos_iff.2 hl))⟩
theorem Bts.at {w : World} {a : Option Addr} {l : List UInt8} (h : Bts w a l) {i : Nat} (hi : i < l.length) : ∃ b off, a = some ⟨b, off, none⟩ ∧ w.cell? ⟨b, off + i, none⟩ = some (bval (l[i]!)) := by
  obtain ⟨b, off, h1, h2⟩ := h (by intro e; subst e; simp at hi)
  exact ⟨b, off, h1, h2 i hi⟩
/-- What happens in other blocks. -/
theorem Bts.other {w w' : World} {a : Option Addr} {l : List UInt8} {F F' : List Nat} (h : Bts w a l) (hs : Stp F w F' w') (hF : l ≠ [] → ∀ ad, a = some ad → ad.block ∉ F) : Bts w' a l := fun hl => by
  obtain ⟨b, off, h1, h2⟩ := h hl
  have hb : b < w.heap.size := block_lt_of_cell (h2 0 (List.length_pos_iff.2 hl))
  exact ⟨b, off, h1, fun i hi => (hs.cell (a := ⟨b, off + i, none⟩) hb (hF hl ⟨b, off, none⟩ h1)).trans (h2 i hi)⟩
theorem Bts.stays {w w' : World} {a : Option Addr} {l : List UInt8} {F' : List Nat} (h : Bts w a l) (hs : Stp [] w F' w') : Bts w' a l := h.other hs (fun _ _ _ h => by cases h)
/-- Bytes that were there lie in no new block. -/
theorem Bts.apart {w : World} {a : Option Addr} {l : List UInt8} {g : Nat} (h : Bts w a l) (hg : w.heap.size ≤ g) : l ≠ [] → ∀ ad, a = some ad → ad.block ≠ g := fun hl ad e => by
  obtain ⟨b, off, h1, h2⟩ := h.blk hl
  rw [h1] at e
  cases e
  show b ≠ g
  omega

/-- Where a cut begins. -/
def cutp (a : Option Addr) (i N : Nat) : Option Addr := if N = i then a else a.map (·.add i)
theorem cutp_of {g off i N : Nat} (h : i < N) : cutp (some ⟨g, off, none⟩) i N = some ⟨g, off + i, none⟩ := by
  unfold cutp
  rw [if_neg (by omega)]
  simp [addr_add]
theorem cutp_blk {a : Option Addr} {i N : Nat} {ad : Addr} (h : cutp a i N = some ad) : ∃ ad', a = some ad' ∧ ad'.block = ad.block := by
  unfold cutp at h
  split at h
  · exact ⟨ad, h, rfl⟩
  · rcases a with _ | x
    · cases h
    · simp only [Option.map_some, Option.some.injEq] at h
      refine ⟨x, rfl, ?_⟩
      subst h
      unfold Addr.add
      split <;> rfl
theorem Bts.cut {w : World} {a : Option Addr} {l : List UInt8} (h : Bts w a l) {i j N : Nat} (hij : i ≤ j) (hj : j ≤ l.length) (hN : l.length ≤ N) : Bts w (cutp a i N) ((l.drop i).take (j - i)) := fun hl => by
  have h0 : 0 < ((l.drop i).take (j - i)).length := List.length_pos_iff.2 hl
  have hlen : ((l.drop i).take (j - i)).length = j - i := by simp; omega
  obtain ⟨b, off, rfl, h2⟩ := h (by intro e; subst e; simp at h0)
  refine ⟨b, off + i, cutp_of (by omega), fun k hk => ?_⟩
  rw [hlen] at hk
  rw [Nat.add_assoc, h2 (i + k) (by omega), getElem!_pos l (i + k) (by omega), getElem!_pos _ k (by rw [hlen]; exact hk)]
  simp

theorem elem8 : Tryd.prog.elem 22 = 5 := by kernel_rfl
theorem size8 (w : World) : (sizeOf 5).run Tryd.prog w = .ok 1 w := by kernel_rfl
theorem und8 : Tryd.prog.underlying 22 = some (.slice (Tryd.prog.elem 22)) := by kernel_rfl
theorem cut_lh (a : Option Addr) (n N i j : Nat) (hij : i ≤ j) (hj : j ≤ N) (w : World) :
    (Instr.slice 22 (.slice a n N) (some (.int .i64 (i : Int))) (some (.int .i64 (j : Int))) none).run Tryd.prog w = .ok (.slice (cutp a i N) (j - i) (N - i)) w := by
  rw [run_slice_lh (P := Tryd.prog) w _ a n N und8 .i64 .i64 i j (by omega) (by omega) (by omega), elem8, size8]
  simp [Result.andThen, sliced, cutp]
theorem cut_l (a : Option Addr) (n N i : Nat) (hi : i ≤ n) (w : World) :
    (Instr.slice 22 (.slice a n N) (some (.int .i64 (i : Int))) none none).run Tryd.prog w = .ok (.slice (cutp a i N) (n - i) (N - i)) w := by
  rw [run_slice_l (P := Tryd.prog) w _ a n N und8 .i64 i (by omega) (by omega), elem8, size8]
  simp [Result.andThen, sliced, cutp]
theorem cut_h (a : Option Addr) (n N j : Nat) (hj : j ≤ N) (w : World) :
    (Instr.slice 22 (.slice a n N) none (some (.int .i64 (j : Int))) none).run Tryd.prog w = .ok (.slice a j N) w := by
  rw [run_slice_h (P := Tryd.prog) w _ a n N und8 .i64 j (by omega) (by omega), elem8, size8]
  rcases a with _ | ⟨b, off, sp⟩ <;> simp [Result.andThen, sliced, Addr.add]

theorem info8 : (Tryd.prog.info? 5).map (·.size) = some 1 := by kernel_rfl
theorem byte_info : (Tryd.prog.info? 5).map (fun i => (i.zero, i.size, i.bytes)) = some (some (.int .u8 0), 1, 1) := by kernel_rfl
theorem map_bval_one (l : List UInt8) : ∀ v ∈ l.map bval, v.oneCell' = true := by
  intro u hu
  simp only [List.mem_map] at hu
  obtain ⟨x, _, rfl⟩ := hu
  rfl
theorem Bts.cells {w : World} {ad : Addr} {l : List UInt8} (h : Bts w (some ad) l) : ∀ j u, (l.map bval)[j]? = some u → w.cell? (ad.add j) = some u := by
  intro j u hu
  have hj : j < l.length := by
    rcases Nat.lt_or_ge j l.length with e | e
    · exact e
    · rw [List.getElem?_eq_none (by simpa using e)] at hu
      cases hu
  obtain ⟨b, off, h1, h2⟩ := h.at hj
  cases h1
  rw [addr_add, h2, ← hu, getElem!_pos l j hj]
  simp [hj]

/-- The bytes l laid over C from off on. -/
def lay (C : List UInt8) (off : Nat) (l : List UInt8) : List UInt8 := C.take off ++ (l ++ C.drop (off + l.length))
theorem lay_nil (C : List UInt8) (off : Nat) : lay C off [] = C := by simp [lay]
theorem lay_length {C : List UInt8} {off : Nat} {l : List UInt8} (h : off + l.length ≤ C.length) : (lay C off l).length = C.length := by simp [lay]; omega

theorem copy_any {w : World} {g off dL dC sL sC : Nat} {dp sp : Option Addr} {C l : List UInt8} (ty : TypeId) (hB : Blk w g C) (hs : Bts w sp l) (hn : l.length = min sL dL) (hp : l ≠ [] → dp = some ⟨g, off, none⟩) (hf : off + l.length ≤ C.length) :
    ∃ w', (Builtin.copy_ #[22, 22] ty #[.slice dp dL dC, .slice sp sL sC]).run Tryd.prog w = .ok (.int .i64 (l.length : Int)) w' ∧ Blk w' g (lay C off l) ∧ Stp [g] w [g] w' := by
  by_cases hl : l = []
  · subst hl
    refine ⟨w, ?_, by rw [lay_nil]; exact hB, Stp.refl _ _⟩
    exact run_copy_none (P := Tryd.prog) w _ _ ty _ dp sp dL dC sL sC Tryd.underlying22 info8 (show min sL dL = 0 by simpa using hn.symm)
  · obtain rfl := hp hl
    obtain ⟨b, o, rfl, _⟩ := hs hl
    have hrun := run_copy_row (P := Tryd.prog) w 22 22 ty 5 g off dL dC ⟨b, o, none⟩ sL sC _ _ (l.map bval) Tryd.underlying22 info8 hB (by rw [List.length_map]; exact hn) hs.cells (by simpa using hf) (map_bval_one l)
    rw [List.length_map] at hrun
    refine ⟨_, hrun, ?_, ?_⟩
    · unfold Blk
      rw [setRow_heap w g _ _ _ _ hB]
      simp [lay]
    · exact ⟨rfl, rfl, rfl, by simp [World.setRow], fun k hk hF => setRow_other w g k _ (by simpa using hF), fun _ h => .inl h⟩

theorem zero8 (w : World) : (zeroValue 5).run Tryd.prog w = .ok (.int .u8 0) w := by kernel_rfl
theorem heap_setCells (g : Nat) : ∀ (vs : List Value) (o : Nat) (w : World) (L : List Value) (t : TypeId), w.heap[g]? = some (.cells L.toArray t (0, 0)) → o + vs.length ≤ L.length →
    (w.setCells g o vs).heap[g]? = some (.cells (L.take o ++ (vs ++ L.drop (o + vs.length))).toArray t (0, 0))
  | [], o, w, L, t, h, _ => by simpa [World.setCells] using h
  | v :: r, o, w, L, t, h, hf => by
    have h1 := heap_setCell_same w g o _ _ v h
    simp only [List.length_cons] at hf
    have h2 := heap_setCells g r (o + 1) (w.setCell ⟨g, o, none⟩ v) (L.set o v) t (by rw [h1]; simp) (by rw [List.length_set]; omega)
    unfold World.setCells
    rw [h2]
    congr 3
    rw [List.take_succ_eq_append_getElem (by rw [List.length_set]; omega)]
    simp only [List.getElem_set_self, List.append_assoc, List.cons_append, List.nil_append, List.length_cons]
    rw [List.take_set_of_le (Nat.le_refl _), List.drop_set_of_lt (by omega), show o + 1 + r.length = o + (r.length + 1) by omega]
theorem setCells_other (g : Nat) : ∀ (vs : List Value) (o : Nat) (w : World), Stp [g] w [g] (w.setCells g o vs)
  | [], o, w => Stp.refl _ _
  | v :: r, o, w => (Stp.setCell (F := [g]) (a := ⟨g, o, none⟩) w v (List.mem_singleton.2 rfl)).trans (setCells_other g r (o + 1) _)
theorem clear_any {w : World} {g off n c : Nat} {p : Option Addr} {C : List UInt8} (ty : TypeId) (hB : Blk w g C) (hp : 0 < n → p = some ⟨g, off, none⟩) (hf : off + n ≤ C.length) :
    ∃ w', (Builtin.clear_ #[22] ty #[.slice p n c]).run Tryd.prog w = .ok (.tuple #[]) w' ∧ Blk w' g (lay C off (List.replicate n 0)) ∧ Stp [g] w [g] w' := by
  rcases Nat.eq_zero_or_pos n with e | e
  · subst e
    refine ⟨w, ?_, by simpa [lay] using hB, Stp.refl _ _⟩
    rcases p with _ | p
    · simp [Builtin.clear_, run_underlying (P := Tryd.prog) Tryd.underlying22]
    · simp [Builtin.clear_, run_underlying (P := Tryd.prog) Tryd.underlying22]
  · obtain rfl := hp e
    have hrun := run_clear_slice (P := Tryd.prog) w 22 5 ty (.int .u8 0) Tryd.underlying22 zero8 rfl rfl g off n c e (fun j hj => by rw [hB.cell (by omega)]; rfl) (fun j hj => hB.fz _)
    refine ⟨_, hrun, ?_, setCells_other g _ off w⟩
    unfold Blk
    rw [heap_setCells g _ off w _ _ hB (by simpa using hf)]
    simp [lay, bval]

theorem make_any (w : World) (kl kc : IntKind) (n : Nat) (hn : n ≤ 1000000) :
    (Instr.makeSlice 22 (.int kl (n : Int)) (.int kc (n : Int))).run Tryd.prog w = .ok (.slice (some ⟨w.heap.size, 0, none⟩) n n) (w.alloc (.cells ((List.replicate n (0 : UInt8)).map bval).toArray 5)) := by
  obtain ⟨i0, hi0, hz0, hz1, hz2⟩ := info_parts byte_info
  have hr := run_make (P := Tryd.prog) w 22 5 i0 _ Tryd.underlying22 hi0 hz0 kl kc n n (by omega) (by omega) (by rw [hz2]; omega) (by omega)
  rw [hr]
  simp only [Int.toNat_natCast, hz1, Nat.mul_one]
  refine congrArg (fun a => Result.ok (Value.slice (some ⟨w.heap.size, 0, none⟩) n n) (w.alloc (.cells a 5))) ?_
  apply Array.ext
  · simp [madeCells]
  · intro i h1 h2
    simp [madeCells, Value.cells, bval, Nat.mod_one]
end Go.Proofs.YtcailmgincafcaaDoor
