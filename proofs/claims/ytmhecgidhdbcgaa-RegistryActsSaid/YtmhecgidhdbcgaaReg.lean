/-
  The registry in memory: a row of names, a map of names to arenas, and the arenas themselves, as one list.
-/
import Derived.Test.YtmhecgidhdbcgaaStr
import Derived.Maps.OwnSet
import Derived.Maps.OwnOps
namespace Go.Proofs.Ytmhecgidhdbcgaa
open Go.RowKit Go.Lib Go.Maps
set_option linter.unusedVariables false

/-! ### Rows of texts of the call's own -/
def SOwn (w : World) (base : Nat) (v : Value) (l : List ByteArray) : Prop := w.ownsRow base 9 1 v l.length (l.map Value.string)
theorem SOwn.nil (w : World) (base : Nat) : SOwn w base (.slice none 0 0) [] := World.ownsRow_nil _ _ _ _
theorem SOwn.lt {w : World} {base : Nat} {v : Value} {l : List ByteArray} (h : SOwn w base v l) : ∀ k, v.ownBlock = some k → base ≤ k ∧ k < w.heap.size := World.ownsRow.lt h
theorem SOwn.other {w w' : World} {base : Nat} {v : Value} {l : List ByteArray} {G G' : List Nat} (h : SOwn w base v l) (hs : Stp G w G' w') (hG : ∀ k, v.ownBlock = some k → k ∉ G) : SOwn w' base v l := by
  refine ⟨h.1, ?_⟩
  rcases h.2 with hn | ⟨g, cap, cur, rfl, hb, hgg, rest⟩
  · exact .inl hn
  · exact .inr ⟨g, cap, cur, rfl, hb, (hs.block g (Array.getElem?_eq_some_iff.1 hgg).1 (hG g rfl)).trans hgg, rest⟩
/-- The row's form. -/
theorem SOwn.form {w : World} {base : Nat} {v : Value} {l : List ByteArray} (h : SOwn w base v l) : ∃ a cap, v = .slice a l.length cap ∧ (a = none → cap = 0 ∧ l = []) ∧ l.length ≤ cap ∧ cap ≤ maxLen ∧
    ∀ ad, a = some ad → ∃ g, ad = ⟨g, 0, none⟩ ∧ base ≤ g ∧ g < w.heap.size ∧ (∃ cur, w.heap[g]? = some (.cells cur 9 (0, 0))) ∧ ∀ i, i < l.length → w.cell? ⟨g, i, none⟩ = some (.string (l[i]!)) := by
  rcases h.2 with ⟨rfl, h0⟩ | ⟨g, cap, cur, rfl, hg, hh, hnc, hm, hcur, htake⟩
  · refine ⟨none, 0, by rw [h0], fun _ => ⟨rfl, List.length_eq_zero_iff.1 h0⟩, by omega, by simp [maxLen], fun ad h => by cases h⟩
  · refine ⟨some ⟨g, 0, none⟩, cap, rfl, (fun h => by cases h), hnc, hm, fun ad h => ?_⟩
    cases h
    refine ⟨g, rfl, hg, (Array.getElem?_eq_some_iff.1 hh).1, ⟨cur, hh⟩, fun i hi => ?_⟩
    rw [cell_of_row w g i cur _ _ hh]
    have h2 := congrArg (·[i]?) htake
    simp only [Nat.mul_one, List.getElem?_take, hi, if_true, List.getElem?_map] at h2
    rw [← Array.getElem?_toList, h2, getElem!_pos l i hi]
    simp [hi]
theorem str_info : (Try.prog.info? 9).map (fun i => (i.zero, i.size, i.bytes)) = some (some (.string ⟨#[]⟩), 1, 16) := by kernel_rfl
theorem map_str_one (l : List ByteArray) : ∀ v ∈ l.map Value.string, v.oneCell' = true := by
  intro u hu
  simp only [List.mem_map] at hu
  obtain ⟨x, _, rfl⟩ := hu
  rfl
theorem run_appS {w : World} {base : Nat} {v : Value} {xs : List ByteArray} (ty : TypeId) (hown : SOwn w base v xs) {ad : Addr} {c : Nat} {l : List ByteArray} (hl : ∀ j u, (l.map Value.string)[j]? = some u → w.cell? (ad.add j) = some u)
    (h63 : xs.length + l.length ≤ 1000000) (hbase : base ≤ w.heap.size) :
    ∃ v' w', (Builtin.append_ #[39, 39] ty #[v, .slice (some ad) l.length c]).run Try.prog w = .ok v' w' ∧ SOwn w' base v' (xs ++ l) ∧ w.grownBy w' v.ownBlock ∧ (v'.ownBlock = v.ownBlock ∨ v'.ownBlock = some w.heap.size) := by
  obtain ⟨i0, hi0, hz0, hz1, hz2⟩ := info_parts str_info
  obtain ⟨v', w', hrun, h2, h3, _, h5⟩ := run_append_own_at (P := Try.prog) w base _ ty _ i0 _ 1 16 Try.underlying39 hi0 hz0 hz1 hz2 rfl (by omega) v _ _ hown ad l.length c (l.map Value.string) (by simp) hl
    (map_str_one l) (by unfold maxLen; omega) (by omega) hbase
  refine ⟨v', w', hrun, ?_, h3, h5⟩
  unfold SOwn
  rw [List.map_append, List.length_append]
  exact h2
theorem wpList_appS {w : World} {ops : Array Oper} {rest : List Oper} {o : Oper} {a : Act} {Q : Exit → Act → World → Prop} (hgd : o.guard = none) (s x : Operand)
    (ho : o.op = .call { callee := .builtin .append, args := #[s, x], argTypes := #[39, 39] }) (base : Nat) (v : Value) (xs : List ByteArray) (hs : a.eval s = v) (hown : SOwn w base v xs)
    (ad : Addr) (c n : Nat) (l : List ByteArray) (hn : n = l.length) (hx : a.eval x = .slice (some ad) n c) (hl : ∀ j u, (l.map Value.string)[j]? = some u → w.cell? (ad.add j) = some u) (h63 : xs.length + l.length ≤ 1000000) (hbase : base ≤ w.heap.size)
    (h : ∀ v' w', SOwn w' base v' (xs ++ l) → w.grownBy w' v.ownBlock → (v'.ownBlock = v.ownBlock ∨ v'.ownBlock = some w.heap.size) → wpList Try.prog ops Q rest (a.put o.dst v') w') : wpList Try.prog ops Q (o :: rest) a w := by
  subst hn
  refine wpList_plain hgd fun K hK => ?_
  obtain ⟨v', w', hrun, h2, h3, h4⟩ := run_appS (c := c) o.type hown hl h63 hbase
  unfold Oper.wp execOp
  simp only [ho, resolve, invoke, builtin, Sem.run_bind, Sem.run_pure, Result.andThen_ok, List.map_toArray, List.map_cons, List.map_nil, hs, hx, hrun]
  exact hK _ _ (h v' w' h2 h3 h4)
theorem Stp.of_grown {W W' : World} {row : Option Nat} (hg : W.grownBy W' row) {F F' : List Nat} (hF : ∀ k, row = some k → k ∈ F) (hF' : ∀ k ∈ F', k ∈ F ∨ W.heap.size ≤ k) : Stp F W F' W' :=
  ⟨hg.os, hg.tape, hg.output, hg.size, fun k hk h => hg.block k hk (fun e => h (hF k e.symm)), hF'⟩

theorem Stp.remake {W W' : World} {G G' F F' : List Nat} (h : Stp G W G' W') (hG : ∀ k ∈ G, k ∈ F) (hF' : ∀ k ∈ F', k ∈ F ∨ W.heap.size ≤ k) : Stp F W F' W' :=
  ⟨h.os, h.tape, h.output, h.size, fun k hk hF => h.block k hk (fun e => hF (hG k e)), hF'⟩

/-! ### The map -/
/-- One arena of a registry: its name, where it lies, how many cells it has, and its bytes. -/
structure Ent where
  name : ByteArray
  b : Nat
  g : Nat
  N : Nat
  l : List UInt8
/-- How a pointer to an arena in a map reads: by its block. -/
def pEl : Value → Option (DataW Unit × List MemPlace)
  | .pointer none => some (.lit (.int .u64 (-1)), [])
  | .pointer (some ⟨b, 0, none⟩) => some (.lit (.int .u64 (b : Int)), [])
  | _ => none
theorem pEl_mk (b : Nat) : pEl (.pointer (some ⟨b, 0, none⟩)) = some (.lit (.int .u64 (b : Int)), []) := rfl
theorem pEl_inv {v : Value} {y : DataW Unit × List MemPlace} {b : Nat} (h : pEl v = some y) (hy : y.1 = .lit (.int .u64 (b : Int))) : v = .pointer (some ⟨b, 0, none⟩) := by
  unfold pEl at h
  split at h
  · cases h
    simp only [DataW.lit.injEq, Lit.int.injEq, true_and] at hy
    omega
  · rename_i c
    cases h
    simp only [DataW.lit.injEq, Lit.int.injEq, true_and] at hy
    have : c = b := by omega
    rw [this]
  · cases h
theorem lawS : Keyed Try.prog 9 := string_keyed Try.underlying9
theorem zeroP (w : World) : (zeroValue 29).run Try.prog w = .ok (.pointer none) w := by kernel_rfl
abbrev kS (n : ByteArray) : Lit := .string n.data.toList
theorem kS_inj {a b : ByteArray} (h : kS a = kS b) : a = b := by
  simp only [kS, Lit.string.injEq] at h
  exact ByteArray.ext (Array.toList_inj.1 h)
/-- The map D holds just the names of L, each at its arena. -/
structure Like (D : DataW Unit) (L : List Ent) : Prop where
  all : ∀ x ∈ L, ∀ zd, D.atKey (kS x.name) zd = .lit (.int .u64 (x.b : Int))
  has : ∀ x ∈ L, Maps.has D (kS x.name) = true
  only : ∀ k, Maps.has D k = true → ∃ x ∈ L, k = kS x.name
theorem Like.empty : Like (.map []) [] := ⟨(fun x h => by cases h), (fun x h => by cases h), (fun k h => by simp [Maps.has] at h)⟩
theorem Like.put {D : DataW Unit} {L : List Ent} {X : Ent} (h : Like D L) (hT : Tidy D) (hX : ∀ x ∈ L, x.name ≠ X.name) : Like (D.put (kS X.name) (.lit (.int .u64 (X.b : Int)))) (L ++ [X]) := by
  have hne : ∀ y ∈ L, kS y.name ≠ kS X.name := fun y hy e => hX y hy (kS_inj e)
  have hm : ∀ y, y ∈ L ++ [X] → y ∈ L ∨ y = X := fun y hy => by simpa using hy
  refine ⟨fun x hx zd => ?_, fun x hx => ?_, fun k hk => ?_⟩
  · rcases hm x hx with hx | rfl
    · rw [atKey_put_other (hne x hx)]
      exact h.all x hx zd
    · exact atKey_put_same (k := kS x.name) hT.isMap (show WideAt.IsKeyLit (kS x.name) from trivial) _ _
  · rcases hm x hx with hx | rfl
    · rw [has_put_other (hne x hx)]
      exact h.has x hx
    · exact has_put_same (k := kS x.name) hT.isMap (show WideAt.IsKeyLit (kS x.name) from trivial) _
  · by_cases e : k = kS X.name
    · exact ⟨X, by simp, e⟩
    · rw [has_put_other e] at hk
      obtain ⟨x, hx, e⟩ := h.only k hk
      exact ⟨x, by simp [hx], e⟩
theorem Like.congr {D : DataW Unit} {L L' : List Ent} (h : Like D L) (e : L'.map (fun x => (x.name, x.b)) = L.map (fun x => (x.name, x.b))) : Like D L' := by
  have h1 : ∀ x ∈ L', ∃ y ∈ L, y.name = x.name ∧ y.b = x.b := fun x hx => by
    have : (x.name, x.b) ∈ L.map (fun x => (x.name, x.b)) := e ▸ List.mem_map_of_mem hx
    obtain ⟨y, hy, ey⟩ := List.mem_map.1 this
    exact ⟨y, hy, by injection ey, by injection ey⟩
  have h2 : ∀ x ∈ L, ∃ y ∈ L', y.name = x.name := fun x hx => by
    have : (x.name, x.b) ∈ L'.map (fun x => (x.name, x.b)) := e.symm ▸ List.mem_map_of_mem hx
    obtain ⟨y, hy, ey⟩ := List.mem_map.1 this
    exact ⟨y, hy, by injection ey⟩
  refine ⟨fun x hx zd => ?_, fun x hx => ?_, fun k hk => ?_⟩
  · obtain ⟨y, hy, e1, e2⟩ := h1 x hx
    rw [← e1, ← e2]
    exact h.all y hy zd
  · obtain ⟨y, hy, e1, e2⟩ := h1 x hx
    rw [← e1]
    exact h.has y hy
  · obtain ⟨x, hx, ek⟩ := h.only k hk
    obtain ⟨y, hy, ey⟩ := h2 x hx
    exact ⟨y, hy, by rw [ek, ey]⟩
theorem owns_stp {W W' : World} {F F' : List Nat} {B n : Nat} {D : DataW Unit} (h : W.ownsMap Try.prog 9 pEl B n D) (hs : Stp F W F' W') (hB : B ∉ F) : W'.ownsMap Try.prog 9 pEl B n D := by
  have hlt := h.lt
  obtain ⟨es, clock, hb, rest⟩ := h
  exact ⟨es, clock, (hs.block B hlt hB).trans hb, rest⟩
theorem owns_obj {W : World} {B n : Nat} {D : DataW Unit} (h : W.ownsMap Try.prog 9 pEl B n D) : ∃ es clock, W.heap[B]? = some (.map es clock) := by
  obtain ⟨es, clock, hb, _⟩ := h
  exact ⟨es, clock, hb⟩
section
variable {W : World} {m n : Nat} {D : DataW Unit} {L : List Ent}
theorem look_yes (h : W.ownsMap Try.prog 9 pEl m n D) (hL : Like D L) {x : Ent} (hx : x ∈ L) (hs : x.name.size ≤ maxLen) :
    (Instr.lookup 56 (.map (some m)) (.string x.name) false).run Try.prog W = .ok (.pointer (some ⟨x.b, 0, none⟩)) W := by
  obtain ⟨v, ps, hrun, hv⟩ := h.lookup lawS Try.underlying56 (zeroP W) (zd := .lit (.int .u64 (-1))) (zp := []) rfl (WideMaps.keyOf_string_mk Try.underlying9 hs)
  rw [hrun, pEl_inv hv (hL.all x hx _)]
theorem look_yes_ok (h : W.ownsMap Try.prog 9 pEl m n D) (hL : Like D L) {x : Ent} (hx : x ∈ L) (hs : x.name.size ≤ maxLen) :
    (Instr.lookup 56 (.map (some m)) (.string x.name) true).run Try.prog W = .ok (.tuple #[.pointer (some ⟨x.b, 0, none⟩), .bool true]) W := by
  obtain ⟨v, ps, hrun, hv⟩ := h.look_ok lawS Try.underlying56 (zeroP W) (zd := .lit (.int .u64 (-1))) (zp := []) rfl (WideMaps.keyOf_string_mk Try.underlying9 hs)
  rw [hrun, pEl_inv hv (hL.all x hx _), hL.has x hx]
theorem look_no_ok (h : W.ownsMap Try.prog 9 pEl m n D) (hL : Like D L) {s : ByteArray} (hn : ∀ x ∈ L, x.name ≠ s) (hs : s.size ≤ maxLen) :
    (Instr.lookup 56 (.map (some m)) (.string s) true).run Try.prog W = .ok (.tuple #[.pointer none, .bool false]) W := by
  have hno : Maps.has D (kS s) = false := by
    cases hh : Maps.has D (kS s)
    · rfl
    · obtain ⟨x, hx, e⟩ := hL.only _ hh
      exact absurd (kS_inj e).symm (hn x hx)
  obtain ⟨es, clock, hb, F, _, rfl⟩ := h
  rcases Maps.fit_look true lawS Try.underlying56 (zeroP W) hb F (WideMaps.keyOf_string_mk Try.underlying9 hs) with ⟨hrun, _, _⟩ | ⟨e0, y, _, _, _, _, hat, _⟩
  · exact hrun
  · exact absurd (Maps.has_true_of_atKey hat) (by rw [hno]; simp)
end

/-! ### The registry -/
/-- The registry at block r: the names v, the map m that reads as D, and the arenas L; all of it lies in the blocks F. -/
structure Rx (W : World) (F : List Nat) (r m : Nat) (v : Value) (D : DataW Unit) (L : List Ent) : Prop where
  obj : W.heap[r]? = some (.cells #[v, .map (some m)] 58 (0, 0))
  row : SOwn W 0 v (L.map Ent.name)
  map : W.ownsMap Try.prog 9 pEl m L.length D
  like : Like D L
  ars : ∀ x ∈ L, Ar W x.b x.g x.N x.l
  pw : L.Pairwise (fun x y => x.b ≠ y.b ∧ x.g ≠ y.g ∧ x.name ≠ y.name)
  nm : ∀ x ∈ L, x.name.size ≤ maxLen
  top : L.length ≤ 16
  fr : r ∈ F
  fm : m ∈ F
  fv : ∀ k, v.ownBlock = some k → k ∈ F
  fa : ∀ x ∈ L, x.b ∈ F ∧ x.g ∈ F
/-- THE REGISTRY AS A LIST. -/
def Rg (W : World) (F : List Nat) (r : Nat) (L : List Ent) : Prop := ∃ m v D, Rx W F r m v D L
section
variable {W W' : World} {F G G' : List Nat} {r m : Nat} {v : Value} {D : DataW Unit} {L : List Ent}
theorem Rx.c0 (h : Rx W F r m v D L) : W.cell? ⟨r, 0, none⟩ = some v := by rw [cell_of_row W r 0 _ _ _ h.obj]; rfl
theorem Rx.c1 (h : Rx W F r m v D L) : W.cell? ⟨r, 1, none⟩ = some (.map (some m)) := by rw [cell_of_row W r 1 _ _ _ h.obj]; rfl
theorem Rx.f0 (h : Rx W F r m v D L) : W.frozen? ⟨r, 0, none⟩ = false := frozen_of_row W r 0 _ _ h.obj
theorem Rx.lt (h : Rx W F r m v D L) : r < W.heap.size := (Array.getElem?_eq_some_iff.1 h.obj).1
theorem row_obj {l : List ByteArray} (h : SOwn W 0 v l) {k : Nat} (hk : v.ownBlock = some k) : ∃ cur, W.heap[k]? = some (.cells cur 9 (0, 0)) := by
  rcases h.2 with ⟨rfl, _⟩ | ⟨g, cap, cur, rfl, hg, hh, _⟩
  · cases hk
  · cases hk
    exact ⟨cur, hh⟩
theorem Rx.row_ne (h : Rx W F r m v D L) : v.ownBlock ≠ some r := fun e => by
  obtain ⟨cur, hc⟩ := row_obj h.row e
  rw [h.obj] at hc
  simp at hc
theorem Rx.map_ne (h : Rx W F r m v D L) : r ≠ m := fun e => by
  obtain ⟨es, clock, hc⟩ := owns_obj h.map
  rw [← e, h.obj] at hc
  simp at hc
theorem Rx.map_row (h : Rx W F r m v D L) : v.ownBlock ≠ some m := fun e => by
  obtain ⟨es, clock, hc⟩ := owns_obj h.map
  obtain ⟨cur, hd⟩ := row_obj h.row e
  rw [hc] at hd
  simp at hd
theorem Rx.ar_ne (h : Rx W F r m v D L) {x : Ent} (hx : x ∈ L) : (r ≠ x.b ∧ r ≠ x.g) ∧ (m ≠ x.b ∧ m ≠ x.g) ∧ (v.ownBlock ≠ some x.b ∧ v.ownBlock ≠ some x.g) := by
  have ha := (h.ars x hx).obj
  have hg : W.heap[x.g]? = _ := (h.ars x hx).row
  refine ⟨⟨fun e => ?_, fun e => ?_⟩, ⟨fun e => ?_, fun e => ?_⟩, fun e => ?_, fun e => ?_⟩
  · rw [← e, h.obj] at ha
    simp at ha
  · rw [← e, h.obj] at hg
    simp at hg
  · obtain ⟨es, clock, hc⟩ := owns_obj h.map
    rw [e, ha] at hc
    simp at hc
  · obtain ⟨es, clock, hc⟩ := owns_obj h.map
    rw [e, hg] at hc
    simp at hc
  · obtain ⟨cur, hd⟩ := row_obj h.row e
    rw [ha] at hd
    simp at hd
  · obtain ⟨cur, hd⟩ := row_obj h.row e
    rw [hg] at hd
    simp at hd
theorem Rx.other (h : Rx W F r m v D L) (hs : Stp G W G' W') (hG : ∀ k ∈ F, k ∉ G) : Rx W' F r m v D L :=
  ⟨(hs.block r h.lt (hG r h.fr)).trans h.obj, h.row.other hs (fun k e => hG k (h.fv k e)), owns_stp h.map hs (hG m h.fm), h.like, fun x hx => (h.ars x hx).other hs (hG _ (h.fa x hx).1) (hG _ (h.fa x hx).2), h.pw, h.nm, h.top, h.fr, h.fm, h.fv, h.fa⟩
theorem Rx.stays (h : Rx W F r m v D L) (hs : Stp [] W G' W') : Rx W' F r m v D L := h.other hs (fun _ _ h => by cases h)
/-- The arenas' bytes turn. -/
theorem Rx.turn (h : Rx W F r m v D L) (f : Ent → List UInt8) (hs : Stp G W G' W') (hr : r ∉ G) (hm : m ∉ G) (hv : ∀ k, v.ownBlock = some k → k ∉ G) (ha : ∀ x ∈ L, Ar W' x.b x.g x.N (f x)) : Rx W' F r m v D (L.map (fun x => { x with l := f x })) := by
  refine ⟨(hs.block r h.lt hr).trans h.obj, ?_, ?_, h.like.congr (by simp), fun x hx => ?_, ?_, fun x hx => ?_, by simpa using h.top, h.fr, h.fm, h.fv, fun x hx => ?_⟩
  · have := h.row.other hs hv
    simpa [Function.comp_def] using this
  · have := owns_stp h.map hs hm
    simpa using this
  · obtain ⟨y, hy, rfl⟩ := List.mem_map.1 hx
    exact ha y hy
  · rw [List.pairwise_map]
    exact h.pw
  · obtain ⟨y, hy, rfl⟩ := List.mem_map.1 hx
    exact h.nm y hy
  · obtain ⟨y, hy, rfl⟩ := List.mem_map.1 hx
    exact h.fa y hy
theorem pw_of {L : List Ent} (h : L.Pairwise (fun x y => x.b ≠ y.b ∧ x.g ≠ y.g ∧ x.name ≠ y.name)) {x y : Ent} (hx : x ∈ L) (hy : y ∈ L) (hne : x ≠ y) : x.b ≠ y.b ∧ x.g ≠ y.g ∧ x.name ≠ y.name := by
  induction L with
  | nil => cases hx
  | cons a L ih =>
    rw [List.pairwise_cons] at h
    rcases List.mem_cons.1 hx with e1 | e1 <;> rcases List.mem_cons.1 hy with e2 | e2
    · rw [e1, e2] at hne
      exact absurd rfl hne
    · rw [e1]
      exact h.1 y e2
    · rw [e2]
      have := h.1 x e1
      exact ⟨this.1.symm, this.2.1.symm, this.2.2.symm⟩
    · exact ih h.2 e1 e2
theorem Rx.name_one (h : Rx W F r m v D L) {x y : Ent} (hx : x ∈ L) (hy : y ∈ L) (e : x.name = y.name) : x = y := by
  rcases Classical.em (x = y) with h1 | h1
  · exact h1
  · exact absurd e (pw_of h.pw hx hy h1).2.2
theorem Rx.blk_ne (h : Rx W F r m v D L) {x y : Ent} (hx : x ∈ L) (hy : y ∈ L) : x.b ≠ y.g := fun e => by
  have h1 := (h.ars x hx).obj
  have h2 : W.heap[y.g]? = _ := (h.ars y hy).row
  rw [e, h2] at h1
  simp at h1
/-- The list where the arena at b has the bytes l. -/
def upd (L : List Ent) (b : Nat) (l : List UInt8) : List Ent := L.map (fun x => { x with l := if x.b = b then l else x.l })
/-- One arena's bytes turn. -/
theorem Rx.act (h : Rx W F r m v D L) {x : Ent} (hx : x ∈ L) {l : List UInt8} (ha : Ar W' x.b x.g x.N l) (hs : Stp [x.b, x.g] W [x.b, x.g] W') : Rx W' F r m v D (upd L x.b l) := by
  obtain ⟨⟨n1, n2⟩, ⟨n3, n4⟩, n5, n6⟩ := h.ar_ne hx
  refine h.turn (fun y => if y.b = x.b then l else y.l) hs (by simp [n1, n2]) (by simp [n3, n4]) (fun k e => ?_) (fun y hy => ?_)
  · simp only [List.mem_cons, List.not_mem_nil, or_false, not_or]
    exact ⟨fun q => n5 (by rw [e, q]), fun q => n6 (by rw [e, q])⟩
  · rcases Classical.em (y = x) with e | e
    · subst e
      simpa using ha
    · obtain ⟨k1, k2, _⟩ := pw_of h.pw hy hx e
      have k3 := h.blk_ne hy hx
      have k4 := h.blk_ne hx hy
      simp only [if_neg k1]
      exact (h.ars y hy).other hs (by simp [k1, k3]) (by simp [k2, k4.symm])
/-- One more arena. -/
theorem Rx.put {F' : List Nat} (h : Rx W F r m v D L) {v' : Value} {nm : ByteArray} {b g N : Nat} (hN : ∀ x ∈ L, x.name ≠ nm) (hsz : nm.size ≤ maxLen) (htop : L.length < 16)
    (hobj : W'.heap[r]? = some (.cells #[v', .map (some m)] 58 (0, 0))) (hrow : SOwn W' 0 v' (L.map Ent.name ++ [nm])) (hmap : W'.ownsMap Try.prog 9 pEl m (L.length + 1) (D.put (kS nm) (.lit (.int .u64 (b : Int)))))
    (hb : W.heap.size ≤ b) (hg : W.heap.size ≤ g) (ha : Ar W' b g N []) (hs : ∀ x ∈ L, Ar W' x.b x.g x.N x.l) (hF : ∀ k ∈ F, k ∈ F') (hv : ∀ k, v'.ownBlock = some k → k ∈ F') (hbF : b ∈ F') (hgF : g ∈ F') :
    Rx W' F' r m v' (D.put (kS nm) (.lit (.int .u64 (b : Int)))) (L ++ [⟨nm, b, g, N, []⟩]) := by
  have hm : ∀ y, y ∈ L ++ [(⟨nm, b, g, N, []⟩ : Ent)] → y ∈ L ∨ y = ⟨nm, b, g, N, []⟩ := fun y hy => by simpa using hy
  refine ⟨hobj, by simpa using hrow, by simpa using hmap, h.like.put (X := ⟨nm, b, g, N, []⟩) (h.map.tidy lawS) hN, fun x hx => ?_, ?_, fun x hx => ?_, by simp; omega, hF _ h.fr, hF _ h.fm, hv, fun x hx => ?_⟩
  · rcases hm x hx with hx | rfl
    · exact hs x hx
    · exact ha
  · rw [List.pairwise_append]
    refine ⟨h.pw, by simp, fun x hx y hy => ?_⟩
    simp only [List.mem_singleton] at hy
    subst hy
    have h1 := (h.ars x hx).lt
    have h2 := (h.ars x hx).row.lt
    exact ⟨by simp only; omega, by simp only; omega, hN x hx⟩
  · rcases hm x hx with hx | rfl
    · exact h.nm x hx
    · exact hsz
  · rcases hm x hx with hx | rfl
    · exact ⟨hF _ (h.fa x hx).1, hF _ (h.fa x hx).2⟩
    · exact ⟨hbF, hgF⟩
end
end Go.Proofs.Ytmhecgidhdbcgaa
