/-
  Texts as lists of bytes; rows of bytes of the call's own; what a call tells that turns nothing of what was there.
-/
import Derived.Test.YtcailmgincafcaaDoorZero
import Derived.Lib.ConvBytes
import Derived.Lib.IndexLaws
import Derived.Laws.ResultCell
import Derived.Laws.Rows
import Derived.ArgAppend
namespace Go.Proofs.YtcailmgincafcaaDoor
open Go.RowKit Go.Lib
set_option linter.unusedVariables false

/-! ### Texts -/
def st (l : List UInt8) : ByteArray := ⟨l.toArray⟩
theorem st_data (l : List UInt8) : (st l).data.toList = l := by simp [st]
theorem st_size (l : List UInt8) : (st l).size = l.length := by simp [st, ByteArray.size]
theorem st_of (s : ByteArray) : st s.data.toList = s := by simp [st]
theorem st_inj {l m : List UInt8} (h : st l = st m) : l = m := by rw [← st_data l, ← st_data m, h]
theorem st_append (a b : List UInt8) : st a ++ st b = st (a ++ b) := by
  apply ByteArray.ext
  simp [st]
theorem st_toList (l : List UInt8) : (st l).toList = l := by rw [toList_data, st_data]
theorem st_yes {a b : ByteArray} (h : a = b) : (a.toList == b.toList) = true := by rw [h]; simp
theorem st_no {a b : ByteArray} (h : a ≠ b) : (a.toList == b.toList) = false := by
  rw [toList_data, toList_data]
  exact beq_eq_false_iff_ne.2 (fun e => h (ByteArray.ext (Array.toList_inj.1 e)))
theorem st_extract (l : List UInt8) (a b : Nat) : (st l).extract a b = st ((l.drop a).take (b - a)) := by
  rw [extract_eq, st_data]
  rfl

/-- What a call answers that turns nothing of what was there. -/
def Tells (v : Value) (w : World) (e : Ending) (w' : World) : Prop := e = .returned v ∧ Stp [] w [] w'
theorem Stp.of_below {w w' : World} (h : Below w.heap.size w w') : Stp [] w [] w' := ⟨h.os, h.tape, h.output, h.size, fun k hk _ => h.block k hk, fun _ h => by cases h⟩

def str (l : List UInt8) : ByteArray := strOfNums (l.map fun x => (x.toNat : Int))
theorem str_data (l : List UInt8) : (str l).data.toList = l := by
  simp only [str, strOfNums_data, List.map_map]
  have : ∀ x ∈ l, ((fun n : Int => UInt8.ofNat n.toNat) ∘ fun x : UInt8 => (x.toNat : Int)) x = x := by
    intro x _
    simp
  rw [List.map_congr_left this]
  simp
theorem str_inj {l m : List UInt8} (h : str l = str m) : l = m := by
  rw [← str_data l, ← str_data m, h]
theorem str_st (l : List UInt8) : str l = st l := by
  rw [← st_of (str l), str_data]
theorem conv_bts {W : World} {a : Option Addr} {l : List UInt8} (cap n : Nat) (h : Bts W a l) (hn : n = l.length) : (convert 22 9 (.slice a n cap)).run Tryd.prog W = .ok (.string (st l)) W := by
  subst hn
  by_cases hl : l = []
  · subst hl
    have e0 : st [] = ByteArray.empty := rfl
    rw [e0, List.length_nil]
    rcases a with _ | ⟨b, off, spot⟩
    · exact run_convert_bytes_nil W _ _ Tryd.underlying22 Tryd.underlying5 0 cap _ Tryd.underlying9
    · rw [run_convert_bytes_string W _ _ _ _ _ cap Tryd.underlying22 Tryd.underlying5 Tryd.underlying9]
      have h0 := run_loadCells_list (P := Tryd.prog) W ⟨b, off, spot⟩ [] (by simp)
      rw [run_bytesToString W _ 0 cap [] (by simpa using h0)]
      rfl
  · obtain ⟨b, off, rfl, hc⟩ := h hl
    have hr := run_convert_bytes_arg W _ _ Tryd.underlying22 Tryd.underlying5 b off l.length cap (l.map fun x => (x.toNat : Int)) (by simp) (fun i hi => by
      rw [hc i hi]
      simp [bval, hi]) _ Tryd.underlying9
    rw [hr, ← str_st]
    rfl
/-- A text's bytes in memory of their own. -/
theorem conv_st (W : World) (l : List UInt8) (hl : l.length ≤ 1000000) : ∃ a c w', (convert 9 22 (.string (st l))).run Tryd.prog W = .ok (.slice a l.length c) w' ∧ Bts w' a l ∧ l.length ≤ c ∧ c ≤ maxLen ∧ Stp [] W [] w' := by
  have h := Go.Lib.run_convert_string_bytes (P := Tryd.prog) W 9 22 5 (st l) Tryd.underlying9 Tryd.underlying22 Tryd.underlying5
  rw [st_size] at h
  refine ⟨_, _, _, h, ?_, ?_, ?_, ?_⟩
  · intro _
    refine ⟨W.heap.size, 0, rfl, fun i hi => ?_⟩
    rw [Nat.zero_add, bytesWorld_cell W _ _ i (by rw [st_size]; exact hi), st_data, getElem!_pos l i hi]
    simp [bval, List.getD, hi]
  · exact grownCap_ge _ _ _ _
  · exact grownCap_le_maxLen _ _ _ _ (by unfold maxLen; omega)
  · exact ⟨rfl, rfl, rfl, by rw [bytesWorld_size]; omega, fun k hk _ => bytesWorld_at_old W _ _ k hk, fun _ h => .inl h⟩

/-! ### Rows of bytes -/
/-- A row of bytes that the call itself has made from block number 'base' on. -/
def Own (w : World) (base : Nat) (v : Value) (l : List UInt8) : Prop := w.ownsRow base 5 1 v l.length (l.map bval)
theorem Own.bts {w : World} {base : Nat} {v : Value} {l : List UInt8} (h : Own w base v l) : ∃ a cap, v = .slice a l.length cap ∧ Bts w a l ∧ (a = none → cap = 0) ∧ l.length ≤ cap ∧ ∀ ad, a = some ad → base ≤ ad.block ∧ ad.block < w.heap.size := by
  rcases h.2 with ⟨rfl, h0⟩ | ⟨g, cap, cur, rfl, hg, hh, hnc, hm, hcur, htake⟩
  · have : l = [] := List.length_eq_zero_iff.1 h0
    subst this
    exact ⟨none, 0, rfl, Bts.nil _ _, fun _ => rfl, Nat.le_refl _, fun ad h => by cases h⟩
  · refine ⟨some ⟨g, 0, none⟩, cap, rfl, fun _ => ⟨g, 0, rfl, fun i hi => ?_⟩, (fun h => by cases h), hnc, fun ad h => by cases h; exact ⟨hg, (Array.getElem?_eq_some_iff.1 hh).1⟩⟩
    have h1 := cell_of_row w g (0 + i) cur _ _ hh
    rw [h1]
    have h2 := congrArg (·[i]?) htake
    simp only [Nat.mul_one, List.getElem?_take, hi, if_true, List.getElem?_map] at h2
    rw [Nat.zero_add, ← Array.getElem?_toList, h2, getElem!_pos l i hi]
    simp [hi]
theorem Own.nil (w : World) (base : Nat) : Own w base (.slice none 0 0) [] := World.ownsRow_nil _ _ _ _
theorem Own.new (w : World) : Own (w.alloc (.cells #[] 5)) w.heap.size (.slice (some ⟨w.heap.size, 0, none⟩) 0 0) [] :=
  ⟨by simp, .inr ⟨w.heap.size, 0, #[], rfl, Nat.le_refl _, heap_alloc_new w _, by simp, by simp, by simp, by simp⟩⟩
theorem Own.lt {w : World} {base : Nat} {v : Value} {l : List UInt8} (h : Own w base v l) : ∀ k, v.ownBlock = some k → base ≤ k ∧ k < w.heap.size := World.ownsRow.lt h
theorem Own.other {w w' : World} {base : Nat} {v : Value} {l : List UInt8} {G G' : List Nat} (h : Own w base v l) (hs : Stp G w G' w') (hG : ∀ k, v.ownBlock = some k → k ∉ G) : Own w' base v l := by
  refine ⟨h.1, ?_⟩
  rcases h.2 with hn | ⟨g, cap, cur, rfl, hb, hgg, rest⟩
  · exact .inl hn
  · exact .inr ⟨g, cap, cur, rfl, hb, (hs.block g (Array.getElem?_eq_some_iff.1 hgg).1 (hG g rfl)).trans hgg, rest⟩
theorem run_app {w : World} {base : Nat} {v : Value} {xs : List UInt8} (ty : TypeId) (hown : Own w base v xs) {A : Option Addr} {c : Nat} {l : List UInt8} (hl : Bts w A l) (hA : A = none → c = 0)
    (h63 : xs.length + l.length ≤ 1000000) (hbase : base ≤ w.heap.size) :
    ∃ v' w', (Builtin.append_ #[22, 22] ty #[v, .slice A l.length c]).run Tryd.prog w = .ok v' w' ∧ Own w' base v' (xs ++ l) ∧ w.grownBy w' v.ownBlock ∧ (v'.ownBlock = v.ownBlock ∨ v'.ownBlock = some w.heap.size) := by
  obtain ⟨i0, hi0, hz0, hz1, hz2⟩ := info_parts byte_info
  rcases A with _ | ad
  · obtain rfl := hA rfl
    have : l = [] := by
      rcases Classical.em (l = []) with e | e
      · exact e
      · obtain ⟨b, off, h, _⟩ := hl e
        cases h
    subst this
    refine ⟨v, w, run_append_owned_none (P := Tryd.prog) (w := w) base _ ty _ i0 1 Tryd.underlying22 hi0 v _ _ hown, ?_, World.grownBy.refl w _, .inl rfl⟩
    simpa [Own] using hown
  · obtain ⟨v', w', hrun, h2, h3, _, h5⟩ := run_append_own_at (P := Tryd.prog) w base _ ty _ i0 _ 1 1 Tryd.underlying22 hi0 hz0 hz1 hz2 rfl (by omega) v _ _ hown ad l.length c (l.map bval) (by simp) hl.cells
      (map_bval_one l) (by unfold maxLen; omega) (by omega) hbase
    refine ⟨v', w', hrun, ?_, h3, h5⟩
    unfold Own
    rw [List.map_append, List.length_append]
    exact h2
theorem wpList_app {w : World} {ops : Array Oper} {rest : List Oper} {o : Oper} {a : Act} {Q : Exit → Act → World → Prop} (hgd : o.guard = none) (s x : Operand)
    (ho : o.op = .call { callee := .builtin .append, args := #[s, x], argTypes := #[22, 22] }) (base : Nat) (v : Value) (xs : List UInt8) (hs : a.eval s = v) (hown : Own w base v xs)
    (A : Option Addr) (c n : Nat) (l : List UInt8) (hn : n = l.length) (hx : a.eval x = .slice A n c) (hl : Bts w A l) (hA : A = none → c = 0) (h63 : xs.length + l.length ≤ 1000000) (hbase : base ≤ w.heap.size)
    (h : ∀ v' w', Own w' base v' (xs ++ l) → w.grownBy w' v.ownBlock → wpList Tryd.prog ops Q rest (a.put o.dst v') w') : wpList Tryd.prog ops Q (o :: rest) a w := by
  subst hn
  refine wpList_plain hgd fun K hK => ?_
  obtain ⟨v', w', hrun, h2, h3, h4⟩ := run_app o.type hown hl hA h63 hbase
  unfold Oper.wp execOp
  simp only [ho, resolve, invoke, builtin, Sem.run_bind, Sem.run_pure, Result.andThen_ok, List.map_toArray, List.map_cons, List.map_nil, hs, hx, hrun]
  exact hK _ _ (h v' w' h2 h3)
/-- What an append to a row that is new since w leaves. -/
theorem Stp.app {w W W' : World} {F : List Nat} {v : Value} (h : Stp [] w F W) (hg : W.grownBy W' v.ownBlock) (hv : ∀ k, v.ownBlock = some k → w.heap.size ≤ k) : Stp [] w F W' :=
  ⟨hg.os.trans h.os, hg.tape.trans h.tape, hg.output.trans h.output, Nat.le_trans h.size hg.size, fun k hk hF => (hg.block k (Nat.lt_of_lt_of_le hk h.size) (fun e => by have := hv k e.symm; omega)).trans (h.block k hk hF), h.foot⟩
theorem one_new (w : World) (x : UInt8) : Bts (w.alloc (.cells #[bval x] 5)) (some ⟨w.heap.size, 0, none⟩) [x] :=
  Blk.bts (C := [x]) (by unfold Blk; rw [heap_alloc_new]; rfl)

end Go.Proofs.YtcailmgincafcaaDoor
