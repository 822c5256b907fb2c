/-
  A map from numbers to moments that holds just what a queue holds.
-/
import Derived.Test.YtjjaaahoophgpaaWQueueActs
import Derived.Maps.OwnSet
import Derived.Maps.OwnOps
import Derived.Maps.RangeWalk
namespace Go.Proofs.Ytjjaaahoophgpaa
open Go.RowKit Go.Lib Go.Maps
set_option linter.unusedVariables false

/-- How a moment in a map reads: by its bits. -/
def fEl : Value → Option (DataW Unit × List MemPlace)
  | .float .f64 b => if b < 2 ^ 64 then some (.lit (.int .u64 (b : Int)), []) else none
  | _ => none
theorem fEl_mk (m : Mo) : fEl (.float .f64 m.v) = some (.lit (.int .u64 (m.v : Int)), []) := by
  show (if m.v < 2 ^ 64 then _ else _) = _
  rw [if_pos m.lt]
theorem fEl_inv {v : Value} {y : DataW Unit × List MemPlace} (h : fEl v = some y) : ∃ m : Mo, v = .float .f64 m.v ∧ y = (.lit (.int .u64 (m.v : Int)), []) := by
  unfold fEl at h
  split at h
  · rename_i b
    split at h
    · rename_i hb
      exact ⟨⟨b, hb⟩, rfl, (Option.some.inj h).symm⟩
    · cases h
  · cases h
theorem lawI : Keyed Try.prog 3 := int_keyed Try.underlying3
theorem zeroF (w : World) : (zeroValue 33).run Try.prog w = .ok (.float .f64 0) w := by kernel_rfl
abbrev kI (n : Int) : Lit := .int .i64 n
theorem wfI {n : Int} (h0 : 0 ≤ n) (h1 : n < 1000000) : (Lit.int .i64 n).wf = true := by
  simp [Lit.wf, IntKind.min, IntKind.max, IntKind.signed, IntKind.bits]
  omega
theorem kI_inj {a b : Int} (h : kI a = kI b) : a = b := by
  simpa [kI] using h

/-- The map D holds just the numbers of s, each at its moment. -/
structure Like (D : DataW Unit) (s : List Ent) : Prop where
  all : ∀ x ∈ s, ∀ zd, D.atKey (kI x.n) zd = .lit (.int .u64 (x.m.v : Int))
  has : ∀ x ∈ s, Maps.has D (kI x.n) = true
  only : ∀ k, Maps.has D k = true → ∃ x ∈ s, k = kI x.n
  size : Maps.size D = s.length
/-- What is told of the numbers and the turns. -/
structure Nums (s : List Ent) (i t : Nat) : Prop where
  low : ∀ x ∈ s, 0 ≤ x.n ∧ x.n < (i : Int)
  turn : ∀ x ∈ s, x.t < t
  ord : ∀ x ∈ s, ∀ y ∈ s, (x.t < y.t ↔ x.n < y.n)
  one : ∀ x ∈ s, ∀ y ∈ s, x.n = y.n → x = y
theorem Nums.mono {s : List Ent} {i i' t : Nat} (h : Nums s i t) (hi : i ≤ i') : Nums s i' t := ⟨fun x hx => ⟨(h.low x hx).1, by have := (h.low x hx).2; omega⟩, h.turn, h.ord, h.one⟩
theorem Nums.sub {s s' : List Ent} {i t : Nat} (h : Nums s i t) (hs : ∀ x ∈ s', x ∈ s) : Nums s' i t :=
  ⟨fun x hx => h.low x (hs x hx), fun x hx => h.turn x (hs x hx), fun x hx y hy => h.ord x (hs x hx) y (hs y hy), fun x hx y hy => h.one x (hs x hx) y (hs y hy)⟩
theorem Nums.ins {s : List Ent} {i t : Nat} {X : Ent} (h : Nums s i t) (hn : X.n = (i : Int)) (ht : X.t = t) : Nums (ins X s) (i + 1) (t + 1) := by
  have hm : ∀ y, y ∈ Go.Proofs.Ytjjaaahoophgpaa.ins X s → (y = X ∧ y.n = (i : Int) ∧ y.t = t) ∨ y ∈ s := fun y hy => by
    rcases List.mem_cons.1 ((ins_perm X s).mem_iff.1 hy) with e | e
    · exact .inl ⟨e, by rw [e]; exact hn, by rw [e]; exact ht⟩
    · exact .inr e
  refine ⟨fun x hx => ?_, fun x hx => ?_, fun x hx y hy => ?_, fun x hx y hy e => ?_⟩
  · rcases hm x hx with ⟨_, e1, e2⟩ | hx'
    · omega
    · have := h.low x hx'; omega
  · rcases hm x hx with ⟨_, e1, e2⟩ | hx'
    · omega
    · have := h.turn x hx'; omega
  · rcases hm x hx with ⟨_, e1, e2⟩ | hx' <;> rcases hm y hy with ⟨_, f1, f2⟩ | hy'
    · omega
    · have := h.low y hy'; have := h.turn y hy'; omega
    · have := h.low x hx'; have := h.turn x hx'; omega
    · exact h.ord x hx' y hy'
  · rcases hm x hx with ⟨ex, e1, e2⟩ | hx' <;> rcases hm y hy with ⟨ey, f1, f2⟩ | hy'
    · rw [ex, ey]
    · have := h.low y hy'; omega
    · have := h.low x hx'; omega
    · exact h.one x hx' y hy' e
theorem Like.empty : Like (.map []) [] := ⟨(fun x h => by cases h), (fun x h => by cases h), (fun k h => by simp [Maps.has] at h), rfl⟩
theorem Like.put {D : DataW Unit} {s : List Ent} {i t : Nat} {X : Ent} (h : Like D s) (hT : Tidy D) (hN : Nums s i t) (hn : X.n = (i : Int)) : Like (D.put (kI X.n) (.lit (.int .u64 (X.m.v : Int)))) (ins X s) := by
  have hm : ∀ y, y ∈ Go.Proofs.Ytjjaaahoophgpaa.ins X s → y = X ∨ y ∈ s := fun y hy => List.mem_cons.1 ((ins_perm X s).mem_iff.1 hy)
  have hne : ∀ y ∈ s, kI y.n ≠ kI X.n := fun y hy e => by have := kI_inj e; have := hN.low y hy; omega
  have hno : Maps.has D (kI X.n) = false := by
    cases hh : Maps.has D (kI X.n)
    · rfl
    · obtain ⟨y, hy, e⟩ := h.only _ hh
      exact absurd e.symm (hne y hy)
  refine ⟨fun x hx zd => ?_, fun x hx => ?_, fun k hk => ?_, ?_⟩
  · rcases hm x hx with rfl | hx
    · exact atKey_put_same (k := kI x.n) hT.isMap (show WideAt.IsKeyLit (kI x.n) from trivial) _ _
    · rw [atKey_put_other (hne x hx)]
      exact h.all x hx zd
  · rcases hm x hx with rfl | hx
    · exact has_put_same (k := kI x.n) hT.isMap (show WideAt.IsKeyLit (kI x.n) from trivial) _
    · rw [has_put_other (hne x hx)]
      exact h.has x hx
  · by_cases e : k = kI X.n
    · exact ⟨X, (ins_perm X s).mem_iff.2 List.mem_cons_self, e⟩
    · rw [has_put_other e] at hk
      obtain ⟨x, hx, e⟩ := h.only k hk
      exact ⟨x, (ins_perm X s).mem_iff.2 (List.mem_cons_of_mem _ hx), e⟩
  · rw [size_put hT, hno, if_neg (by simp), h.size, ins_length]
theorem Like.del {D : DataW Unit} {s : List Ent} {i t : Nat} {x : Ent} (h : Like D (x :: s)) (hT : Tidy D) (hN : Nums (x :: s) i t) (ho : Ordd (x :: s)) : Like (D.del (kI x.n)) s := by
  have hne : ∀ y ∈ s, kI y.n ≠ kI x.n := fun y hy e => by
    have e1 := hN.one y (List.mem_cons_of_mem _ hy) x List.mem_cons_self (kI_inj e)
    have := (List.pairwise_cons.1 ho).1 y hy
    rw [e1] at this
    omega
  refine ⟨fun y hy zd => ?_, fun y hy => ?_, fun k hk => ?_, ?_⟩
  · rw [atKey_del_other (hne y hy)]
    exact h.all y (List.mem_cons_of_mem _ hy) zd
  · rw [has_del_other (hne y hy)]
    exact h.has y (List.mem_cons_of_mem _ hy)
  · by_cases e : k = kI x.n
    · rw [e, has_del_same] at hk
      cases hk
    · rw [has_del_other e] at hk
      obtain ⟨y, hy, e'⟩ := h.only k hk
      rcases List.mem_cons.1 hy with e2 | e2
      · rw [e2] at e'; exact absurd e' e
      · exact ⟨y, e2, e'⟩
  · have := size_del (k := kI x.n) hT
    rw [h.has x List.mem_cons_self, if_pos rfl, h.size, List.length_cons] at this
    omega

section
variable (w : World) {ops : Array Oper} {rest : List Oper} {o : Oper} {a : Act} {Q : Exit → Act → World → Prop}
/-- 'x, ok := left[n]' at a number that is there. -/
theorem wpList_look_f (hg : o.guard = none) (m x : Operand) (hop : o.op = Op.lookup 57 m x true) (b n : Nat) (D : DataW Unit) (hm : a.eval m = .map (some b)) (hown : w.ownsMap Try.prog 3 fEl b n D) {s : List Ent} (hL : Like D s) (y : Ent) (hy : y ∈ s)
    (hw : (Lit.int .i64 y.n).wf = true) (hx : a.eval x = .int .i64 y.n) (hK : wpList Try.prog ops Q rest (a.put o.dst (.tuple #[.float .f64 y.m.v, .bool true])) w) : wpList Try.prog ops Q (o :: rest) a w :=
  wpList_lookup_own_ok w hg m x _ hop 3 33 lawI Try.underlying57 fEl (zeroF w) (.lit (.int .u64 0)) [] (fEl_mk ⟨0, by omega⟩) b n D hm hown _ (kI y.n) hx (keyOf_int_mk Try.underlying3 hw) (fun v ps hv => by
    obtain ⟨m, rfl, e⟩ := fEl_inv hv
    have h1 := hL.all y hy (.lit (.int .u64 0))
    have h2 := congrArg Prod.fst e
    dsimp only at h2
    rw [h1] at h2
    have h3 : y.m.v = m.v := by
      injection h2 with h2
      injection h2 with _ h2
      omega
    rw [hL.has y hy, ← h3]
    exact hK)
/-- The next one of a range over the map. -/
theorem wpList_next_f (hg : o.guard = none) (it : Operand) (hop : o.op = Op.next it false) (b r n : Nat) (D : DataW Unit) (left : Lit → Bool) (cnt : Nat) (hit : a.eval it = .pointer (some ⟨r, 0, none⟩)) (h : w.ranges Try.prog 3 fEl b r n D left cnt)
    {s : List Ent} (hL : Like D s) (hl : ∀ k, left k = true → Maps.has D k = true)
    (hDone : wpList Try.prog ops Q rest (a.put o.dst (.tuple #[.bool false])) w)
    (hMore : ∀ (y : Ent) (w' : World) (left' : Lit → Bool) (cnt' : Nat), y ∈ s → w'.ranges Try.prog 3 fEl b r n D left' cnt' → (∀ k, left' k = true → Maps.has D k = true) → cnt' < cnt → w.grownBy w' (some r) →
      (Instr.entry (.pointer (some ⟨r, 0, none⟩))).run Try.prog w' = .ok (.tuple #[.int .i64 y.n, .float .f64 y.m.v]) w' → wpList Try.prog ops Q rest (a.put o.dst (.tuple #[.bool true, .int .i64 y.n, .float .f64 y.m.v])) w') :
    wpList Try.prog ops Q (o :: rest) a w :=
  wpList_next_ranges w hg it hop 3 lawI fEl (Value.int .i64) (fun m : Mo => Value.float .f64 m.v) (fun key kl hkey => by obtain ⟨x, rfl, _⟩ := Maps.keyOf_int_inv Try.underlying3 hkey; exact ⟨x, rfl⟩) (fun v y hv => by obtain ⟨c, rfl, _⟩ := fEl_inv hv; exact ⟨c, rfl⟩)
    b r n D left cnt hit h (fun _ _ => hDone) (fun x c kl y w' cnt' hkey hlk hv hat hrg hlt hgr hsz hen => by
      obtain ⟨x', ex, rfl, hwx⟩ := Maps.keyOf_int_inv Try.underlying3 hkey
      cases ex
      obtain ⟨z, hz, ez⟩ := hL.only _ (hl _ hlk)
      have e1 : x = z.n := kI_inj ez
      have h1 := hL.all z hz (.lit (.int .u64 0))
      have h2 := hat (.lit (.int .u64 0))
      rw [e1] at h2
      have h3 := h1.symm.trans h2
      obtain ⟨m, em, ey⟩ := fEl_inv hv
      have h4 : c.v = m.v := by
        injection em
      rw [ey] at h3
      dsimp only at h3
      have h5 : z.m.v = c.v := by
        injection h3 with h3
        injection h3 with _ h3
        omega
      rw [e1, ← h5] at hen ⊢
      exact hMore z w' _ cnt' hz hrg (fun k hk => hl k (by simp only [Bool.and_eq_true] at hk; exact hk.1)) hlt hgr hen)
end

/-- The queue, the map beside it, and nothing else turned. -/
structure Mx (w W : World) (F : List Nat) (b B : Nat) (s : List Ent) (t i : Nat) (D : DataW Unit) : Prop where
  q : Qs W F b s t
  map : W.ownsMap Try.prog 3 fEl B i D
  apart : B ∉ F
  st : Stp [] w (F ++ [B]) W
  like : Like D s
  nums : Nums s i t
theorem owns_stp {W W' : World} {F F' : List Nat} {B n : Nat} {D : DataW Unit} (h : W.ownsMap Try.prog 3 fEl B n D) (hs : Stp F W F' W') (hB : B ∉ F) : W'.ownsMap Try.prog 3 fEl B n D := by
  have hlt := h.lt
  obtain ⟨es, clock, hb, rest⟩ := h
  exact ⟨es, clock, (hs.block B hlt hB).trans hb, rest⟩
theorem Mx.stays {w W W' : World} {F : List Nat} {b B t i : Nat} {s : List Ent} {D : DataW Unit} (h : Mx w W F b B s t i D) (hs : Stp [] W [] W') : Mx w W' F b B s t i D :=
  ⟨h.q.stays hs, owns_stp h.map hs (fun h => by cases h), h.apart, h.st.trans (hs.widen (fun k h => .inl h)), h.like, h.nums⟩
theorem Mx.apart' {w W W' : World} {F F' : List Nat} {b B t i : Nat} {s : List Ent} {D : DataW Unit} (h : Mx w W F b B s t i D) (hs : Stp F W F' W') : B ∉ F' := fun e => by
  rcases hs.foot B e with g | g
  · exact h.apart g
  · have := h.map.lt
    omega
theorem Mx.mono {w W : World} {F : List Nat} {b B t i i' : Nat} {s : List Ent} {D : DataW Unit} (h : Mx w W F b B s t i D) (hi : i ≤ i') : Mx w W F b B s t i' D :=
  ⟨h.q, h.map.mono hi, h.apart, h.st, h.like, h.nums.mono hi⟩
theorem Qs.grown {W W' : World} {F : List Nat} {b t B : Nat} {s : List Ent} (h : Qs W F b s t) (hg : W.grownBy W' (some B)) (hB : B ∉ F) : Qs W' F b s t :=
  h.other (Stp.grown (F := [B]) (F' := [B]) hg (fun k e => by rw [Option.some.inj e]; exact List.mem_singleton.2 rfl) (fun _ h => .inl h)) (fun k hk e => hB (by rw [List.mem_singleton] at e; exact e ▸ hk))
theorem Stp.grownR {W W' : World} {F : List Nat} {B : Nat} (hg : W.grownBy W' (some B)) : Stp (F ++ [B]) W (F ++ [B]) W' :=
  Stp.grown hg (fun k e => by rw [Option.some.inj e]; exact List.mem_append_right _ (List.mem_singleton.2 rfl)) (fun _ h => .inl h)
end Go.Proofs.Ytjjaaahoophgpaa
