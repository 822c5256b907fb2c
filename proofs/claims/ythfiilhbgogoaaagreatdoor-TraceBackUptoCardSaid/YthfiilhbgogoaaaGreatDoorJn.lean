/-
  Two rows of effects, one behind the other: what they write, how long their lines are, their texts; appending a slice of effects.
-/
import Derived.Test.YthfiilhbgogoaaaGreatDoorFmt
import Derived.Test.YthfiilhbgogoaaaGreatDoorWrt
namespace Go.Proofs.YthfiilhbgogoaaaGreatDoor
open Go.RowKit Go.Lib
set_option linter.unusedVariables false

/-- How great effects are. -/
def bulk (L : List Ev) : Nat := (L.map fun x => 1 + x.l.length).sum
theorem bulk_cons (x : Ev) (L : List Ev) : bulk (x :: L) = 1 + x.l.length + bulk L := by simp [bulk]
theorem bulk_mem : ∀ {L : List Ev} {x : Ev}, x ∈ L → 1 + x.l.length ≤ bulk L
  | [], x, h => by cases h
  | y :: L, x, h => by
    rw [bulk_cons]
    rcases List.mem_cons.1 h with rfl | h
    · omega
    · have := bulk_mem h
      omega
theorem bulk_len : ∀ L : List Ev, L.length ≤ bulk L
  | [] => by simp [bulk]
  | x :: L => by
    have := bulk_len L
    rw [bulk_cons, List.length_cons]
    omega
theorem bulk_take (L : List Ev) (i : Nat) (x : Ev) (h : L[i]? = some x) : bulk (L.take (i + 1)) = bulk (L.take i) + (1 + x.l.length) := by
  obtain ⟨hi, e⟩ := List.getElem?_eq_some_iff.1 h
  rw [List.take_succ_eq_append_getElem hi, e]
  simp [bulk]
theorem bulk_app (L M : List Ev) : bulk (L ++ M) = bulk L + bulk M := by simp [bulk]
theorem bulk_take_le (L : List Ev) (i : Nat) : bulk (L.take i) ≤ bulk L := by
  have := bulk_app (L.take i) (L.drop i)
  rw [List.take_append_drop] at this
  omega
theorem wr1_len (x : Ev) : (wr1 x).length ≤ x.l.length := by
  unfold wr1
  split
  · rw [List.length_take]
    omega
  · simp
theorem wrt_len : ∀ L : List Ev, (wrt L).length ≤ bulk L
  | [] => by simp [wrt, bulk]
  | x :: L => by
    have h1 := wrt_len L
    have h2 := wr1_len x
    have e : wrt (x :: L) = wr1 x ++ wrt L := by simp [wrt]
    rw [e, bulk_cons, List.length_append]
    omega
theorem wrt_both (L M : List Ev) : wrt (L ++ M) = wrt L ++ wrt M := by simp [wrt]

/-! ### How long a line is -/
theorem wt_short (k : FK) (x : Ev) (hP : Pk x) : (wt k x).length ≤ 200 + (match k with | .data => 2 * x.l.length | _ => 0) := by
  cases k
  · show (if x.ok then [111, 107] else [102, 97, 105, 108] : List UInt8).length ≤ _
    split <;> simp
  · have := text_len hP.att
    show (text x.f x.m x.t).length ≤ _
    omega
  · show (hext x.l).length ≤ 200 + 2 * x.l.length
    unfold hext
    split
    · show 1 ≤ 200 + 2 * x.l.length
      omega
    · have h1 := hexs_len x.l
      unfold hexs at h1
      omega
  · have := dig_len (b := 10) (by omega) 18 x.n.toNat (by have := hP.n1; omega)
    show (dig 10 x.n.toNat).length ≤ _
    omega
theorem wks_len : ∀ (ks : List FK) (x : Ev), Pk x → (wks ks x).length ≤ ks.length * 202 + 2 * x.l.length
  | [], x, _ => by simp [wks]
  | k :: ks, x, hP => by
    have h1 := wks_len ks (off k x) (hP.off k)
    have h2 := wt_short k x hP
    have e : (wks (k :: ks) x).length = 1 + (wt k x).length + (wks ks (off k x)).length := by simp [wks]; omega
    rw [e, List.length_cons]
    cases k
    · have : (off .ok x).l = x.l := rfl
      rw [this] at h1
      simp only at h2
      omega
    · have : (off .attrs x).l = x.l := rfl
      rw [this] at h1
      simp only at h2
      omega
    · have : (off .data x).l = [] := rfl
      rw [this] at h1
      simp only [List.length_nil] at h1 h2
      omega
    · have : (off .num x).l = x.l := rfl
      rw [this] at h1
      simp only at h2
      omega
theorem lnE_len (x : Ev) (h1 : Ok x.f x.m x.t) (h2 : x.n ≤ 9223372036854775807) (h3 : x.l.length ≤ 1600) : (lnE x).1.length ≤ 9000 := by
  unfold lnE
  split
  · simp
  · split
    · simp
    · rename_i nk hnk
      have hm := List.mem_of_getElem? hnk
      split
      · simp
      · rename_i hn
        have hw := wks_len nk.2 x ⟨h1, by omega, h2, by omega⟩
        have hk := FL_ks nk hm
        have hnm := FL_nm nk hm
        show (nk.1 ++ wks nk.2 x).length ≤ 9000
        rw [List.length_append]
        have : nk.2.length * 202 ≤ 3 * 202 := Nat.mul_le_mul_right 202 hk
        omega

/-! ### Texts of two rows -/
theorem fm_cases (L : List Ev) : ((∀ y ∈ L, (lnE y).2 = 0) ∧ fm L = (lnT L, 0)) ∨ ((∃ y ∈ L, (lnE y).2 ≠ 0) ∧ (fm L).1 = [] ∧ (fm L).2 ≠ 0) := by
  by_cases h : ∀ y ∈ L, (lnE y).2 = 0
  · exact .inl ⟨h, fm_ok L h⟩
  · refine .inr ?_
    simp only [Classical.not_forall] at h
    obtain ⟨y, hy, hne⟩ := h
    refine ⟨⟨y, hy, hne⟩, ?_⟩
    unfold fm
    cases hf : L.find? (fun x => decide ((lnE x).2 ≠ 0)) with
    | none =>
      have := List.find?_eq_none.1 hf y hy
      simp [hne] at this
    | some z =>
      have := List.find?_some hf
      simp at this
      exact ⟨rfl, this⟩
theorem fm_both {A B : List Ev} (ha : (fm A).2 = 0) (hb : (fm B).2 = 0) : fm (A ++ B) = ((fm A).1 ++ (fm B).1, 0) := by
  rcases fm_cases A with ⟨h1, e1⟩ | ⟨_, _, h1⟩
  · rcases fm_cases B with ⟨h2, e2⟩ | ⟨_, _, h2⟩
    · rw [e1, e2, fm_ok (A ++ B) (fun y hy => by
        rcases List.mem_append.1 hy with h | h
        · exact h1 y h
        · exact h2 y h)]
      simp [lnT]
    · exact absurd hb h2
  · exact absurd ha h1
theorem fm_not {A B : List Ev} (h : (fm A).2 ≠ 0 ∨ (fm B).2 ≠ 0) : (fm (A ++ B)).1 = [] ∧ (fm (A ++ B)).2 ≠ 0 := by
  rcases fm_cases (A ++ B) with ⟨h1, _⟩ | ⟨_, h1⟩
  · exfalso
    rcases h with h | h
    · rw [fm_ok A (fun y hy => h1 y (List.mem_append.2 (.inl hy)))] at h
      exact h rfl
    · rw [fm_ok B (fun y hy => h1 y (List.mem_append.2 (.inr hy)))] at h
      exact h rfl
  · exact h1
theorem lnT_len : ∀ L : List Ev, (∀ x ∈ L, (lnE x).1.length ≤ 9000) → (lnT L).length ≤ L.length * 9001
  | [], _ => by simp [lnT]
  | x :: L, h => by
    have h1 := lnT_len L (fun y hy => h y (by simp [hy]))
    have h2 := h x (by simp)
    have e : lnT (x :: L) = (lnE x).1 ++ [10] ++ lnT L := by simp [lnT]
    rw [e, List.length_cons, Nat.add_mul]
    simp
    omega
theorem fm_len (L : List Ev) (h : ∀ x ∈ L, (lnE x).1.length ≤ 9000) : (fm L).1.length ≤ L.length * 9001 := by
  rcases fm_cases L with ⟨_, e⟩ | ⟨_, e, _⟩
  · rw [e]
    exact lnT_len L h
  · rw [e]
    simp

/-! ### Appending -/
theorem Er.cells {w : World} {ad : Addr} {L : List Ev} (h : Er w (some ad) L) : ∀ j u, (evs L)[j]? = some u → w.cell? (ad.add j) = some u := by
  intro j u hu
  have hj : j < L.length * 7 := by
    have := (List.getElem?_eq_some_iff.1 hu).1
    rw [evs_length] at this
    exact this
  have hl : L ≠ [] := by
    intro e
    subst e
    simp at hj
  obtain ⟨b, off, e, hc⟩ := h.2 hl
  cases e
  have hi : j / 7 < L.length := by omega
  have hx := List.getElem?_eq_getElem hi
  have hr : j % 7 < 7 := Nat.mod_lt _ (by omega)
  have e7 := evs_get L (j / 7) _ hx (j % 7) hr
  rw [show j / 7 * 7 + j % 7 = j by omega, hu] at e7
  obtain ⟨c0, c1, c2, c3, c4, c5, c6⟩ := hc (j / 7) _ hx
  rw [addr_add, show off + j = off + j / 7 * 7 + j % 7 by omega]
  have hcase : j % 7 = 0 ∨ j % 7 = 1 ∨ j % 7 = 2 ∨ j % 7 = 3 ∨ j % 7 = 4 ∨ j % 7 = 5 ∨ j % 7 = 6 := by omega
  rcases hcase with e | e | e | e | e | e | e <;> rw [e] at e7 ⊢ <;> simp only [ev7, List.getElem?_cons_zero, List.getElem?_cons_succ, Option.some.injEq] at e7 <;> subst e7 <;> assumption
theorem run_appEs {w : World} {base : Nat} {v : Value} {xs : List Ev} (ty : TypeId) (hown : EOwn w base v xs) {A : Option Addr} {c : Nat} {l : List Ev} (hl : Er w A l) (hA : A = none → c = 0) (h63 : xs.length + l.length ≤ 1000000) (hbase : base ≤ w.heap.size) :
    ∃ v' w', (Builtin.append_ #[22, 22] ty #[v, .slice A l.length c]).run Tryz.prog w = .ok v' w' ∧ EOwn w' base v' (xs ++ l) ∧ w.grownBy w' v.ownBlock := by
  rcases A with _ | ad
  · obtain ⟨i0, hi0, hz0, hz1, hz2⟩ := info_parts eff_parts
    obtain rfl := hA rfl
    have : l = [] := by
      rcases Classical.em (l = []) with e | e
      · exact e
      · obtain ⟨b, off, h, _⟩ := hl.2 e
        cases h
    subst this
    refine ⟨v, w, run_append_owned_none (P := Tryz.prog) (w := w) base _ ty _ i0 7 Tryz.underlying22 hi0 v _ _ hown, ?_, World.grownBy.refl w _⟩
    simpa [EOwn] using hown
  · exact run_appE ty hown hl.cells h63 hbase
theorem wpList_appEs {w : World} {ops : Array Oper} {rest : List Oper} {o : Oper} {a : Act} {Q : Exit → Act → World → Prop} (hgd : o.guard = none) (s x : Operand)
    (ho : o.op = .call { callee := .builtin .append, args := #[s, x], argTypes := #[22, 22] }) (base : Nat) (v : Value) (xs : List Ev) (hs : a.eval s = v) (hown : EOwn w base v xs)
    (A : Option Addr) (c : Nat) (l : List Ev) (hx : a.eval x = .slice A l.length c) (hl : Er w A l) (hA : A = none → c = 0) (h63 : xs.length + l.length ≤ 1000000) (hbase : base ≤ w.heap.size)
    (h : ∀ v' w', EOwn w' base v' (xs ++ l) → w.grownBy w' v.ownBlock → wpList Tryz.prog ops Q rest (a.put o.dst v') w') : wpList Tryz.prog ops Q (o :: rest) a w := by
  refine wpList_plain hgd fun K hK => ?_
  obtain ⟨v', w', hrun, h2, h3⟩ := run_appEs (c := c) o.type hown hl hA h63 hbase
  unfold Oper.wp execOp
  simp only [ho, resolve, invoke, builtin, Sem.run_bind, Sem.run_pure, Result.andThen_ok, List.map_toArray, List.map_cons, List.map_nil, hs, hx, hrun]
  exact hK _ _ (h v' w' h2 h3)
theorem EOwn.new (w : World) : EOwn (w.alloc (.cells #[] 43)) w.heap.size (.slice (some ⟨w.heap.size, 0, none⟩) 0 0) [] :=
  ⟨rfl, .inr ⟨w.heap.size, 0, #[], rfl, Nat.le_refl _, heap_alloc_new w _, by simp, by simp, by simp, rfl⟩⟩

set_option maxHeartbeats 1000000 in
set_option maxRecDepth 100000 in
theorem tgreat_run (a : Option Addr) (cap : Nat) (L : List Ev) (w : World) (hE : Er w a L) (hb : bulk L ≤ 2000000) : Calls Tryz.prog 6 #[.slice a L.length cap] w (Tells (.bool (decide (1500 < bulk L))) w) := by
  have hlen := bulk_len L
  have hlb : L.length ≤ 2000000 := by omega
  have HE : Aside (Er w a L ∧ bulk L ≤ 2000000) := ⟨hE, hb⟩
  clear hE
  go_enter Tryz.func6, Tryz.ntmps6
  go_wp2
  go_loopg [3, 8] L.length (fun gk v3 vi wr => ∃ i : Nat, v3 = .int .i64 (bulk (L.take i) : Int) ∧ vi = .int .i64 (i : Int) ∧ i ≤ L.length ∧ L.length - i ≤ gk ∧ Aside (Stp [] w [] wr))
  case atStart => exact ⟨0, by simp [bulk], rfl, by omega, by omega, Stp.refl _ _⟩
  case round =>
    obtain ⟨i, rfl, rfl, hi, hg, HS⟩ := hrel
    by_cases hlt : i < L.length
    · have hltz : (i : Int) < (L.length : Int) := by omega
      obtain ⟨x, hx⟩ : ∃ x, L[i]? = some x := ⟨L[i], List.getElem?_eq_getElem hlt⟩
      obtain ⟨b, off, ha, hc⟩ := HE.out.1.2 (fun e => by simp [e] at hlt)
      subst ha
      obtain ⟨e0, e1, e2, e3, e4, e5, e6⟩ := (hc i x hx).stays HS.out
      have ht := bulk_take L i x hx
      have hle := bulk_take_le L (i + 1)
      have hub : bulk (L.take i) + (1 + x.l.length) ≤ 2000000 := by omega
      have HN : Aside (bulk (L.take (i + 1)) = bulk (L.take i) + (1 + x.l.length)) := ht
      clear hc hx ht hle hb hlen
      generalize bulk (L.take i) = bt at *
      generalize x.l.length = xl at *
      have hz1 : (xl : Int) ≤ 2000000 := by omega
      have hz2 : (bt : Int) ≤ 2000000 := by omega
      go_wp2
      go_roundg (L.length - (i + 1))
      case measure => omega
      case rel => exact ⟨i + 1, by rw [HN.out]; go_num, by go_num, by omega, by omega, HS.out.trans (Stp.alloc [] _ _)⟩
    · have hltz : ¬ (i : Int) < (L.length : Int) := by omega
      obtain rfl : i = L.length := by omega
      rw [List.take_length]
      by_cases e : 1500 < bulk L
      · have ez : (1500 : Int) < ((bulk L : Nat) : Int) := by omega
        have HV : Aside (decide (1500 < bulk L) = true) := decide_eq_true e
        clear hb hlen e
        go_wp2
        go_ret
        exact ⟨by rw [HV.out]; rfl, HS.out⟩
      · have ez : ¬ (1500 : Int) < ((bulk L : Nat) : Int) := by omega
        have HV : Aside (decide (1500 < bulk L) = false) := decide_eq_false e
        clear hb hlen e
        go_wp2
        go_ret
        exact ⟨by rw [HV.out]; rfl, HS.out⟩
end Go.Proofs.YthfiilhbgogoaaaGreatDoor
