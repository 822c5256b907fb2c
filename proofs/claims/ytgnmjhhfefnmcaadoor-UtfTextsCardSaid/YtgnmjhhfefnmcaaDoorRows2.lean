/-
  Bytes that a call appends to a row of its own; and what stands behind a character plays no part.
-/
import Derived.Test.YtgnmjhhfefnmcaaDoorFrame
import Derived.Maps.AppendAt
import Derived.Laws.OwnMore
import Derived.OwnWalk
namespace Go.Proofs.YtgnmjhhfefnmcaaDoor
open Go.ChangeShapes Go.WideShapes Go.ChangeAt Go.RowKit Go.Lib
set_option linter.unusedVariables false

def bval (x : Nat) : Value := .int .u8 (x : Int)
/-- A row of bytes that the call itself has made from block number 'base' on. -/
def Own (w : World) (base : Nat) (v : Value) (l : List Nat) : Prop := w.ownsRow base 5 1 v l.length (l.map bval)

theorem byte_info : (Tryd.prog.info? 5).map (fun i => (i.zero, i.size, i.bytes)) = some (some (.int .u8 0), 1, 1) := by kernel_rfl

theorem Own.bts {w : World} {base : Nat} {v : Value} {l : List Nat} (h : Own w base v l) (hl : ∀ x ∈ l, x < 256) :
    ∃ a cap, v = .slice a l.length cap ∧ Bts w a l ∧ l.length ≤ cap ∧ cap ≤ maxLen ∧ (a = none → cap = 0) := by
  rcases h.2 with ⟨rfl, h0⟩ | ⟨g, cap, cur, rfl, hg, hh, hnc, hm, hcur, htake⟩
  · have : l = [] := List.length_eq_zero_iff.1 h0
    subst this
    exact ⟨none, 0, rfl, ⟨by simp, by simp⟩, by simp, by simp, fun _ => rfl⟩
  · refine ⟨some ⟨g, 0, none⟩, cap, rfl, ⟨hl, fun _ => ⟨g, 0, rfl, fun i hi => ?_⟩⟩, hnc, hm, fun h => by cases h⟩
    have h1 := cell_of_row w g (0 + i) cur _ _ hh
    rw [h1]
    have h2 := congrArg (·[i]?) htake
    simp only [Nat.mul_one, List.getElem?_take, hi, if_true, List.getElem?_map] at h2
    rw [Nat.zero_add, ← Array.getElem?_toList, h2]
    simp [bval, hi]

theorem run_app {w : World} {base : Nat} {v : Value} {xs : List Nat} (ty : TypeId) (hown : Own w base v xs) {A : Option Addr} {c : Nat} {l : List Nat} (hl : Bts w A l) (hA : A = none → c = 0)
    (h63 : xs.length + l.length ≤ 140737488355328) (hbase : base ≤ w.heap.size) :
    ∃ v' w', (Builtin.append_ #[22, 22] ty #[v, .slice A l.length c]).run Tryd.prog w = .ok v' w' ∧ Own w' base v' (xs ++ l) ∧ w.grownBy w' v.ownBlock ∧ (v'.ownBlock = v.ownBlock ∨ v'.ownBlock = some w.heap.size) := by
  obtain ⟨i0, hi0, hz0, hz1, hz2⟩ := info_parts byte_info
  rcases A with _ | ad
  · obtain rfl := hA rfl
    have : l = [] := by
      rcases Classical.em (l = []) with e | e
      · exact e
      · obtain ⟨b, off, h, _⟩ := hl.2 e
        cases h
    subst this
    refine ⟨v, w, run_append_owned_none (P := Tryd.prog) (w := w) base _ ty _ i0 1 Tryd.underlying22 hi0 v _ _ hown, ?_, World.grownBy.refl w _, .inl rfl⟩
    simpa [Own] using hown
  · have hc : ∀ j u, (l.map bval)[j]? = some u → w.cell? (ad.add j) = some u := by
      intro j u hu
      have hj : j < l.length := by
        rcases Nat.lt_or_ge j l.length with e | e
        · exact e
        · rw [List.getElem?_eq_none (by simpa using e)] at hu
          cases hu
      obtain ⟨b, off, h, hcell⟩ := hl.2 (by intro e; subst e; simp at hj)
      cases h
      have e1 : (⟨b, off, none⟩ : Addr).add j = ⟨b, off + j, none⟩ := by
        unfold Addr.add
        split <;> simp_all
      rw [e1, hcell j hj, ← hu]
      simp [bval, hj]
    obtain ⟨v', w', hrun, h2, h3, _, h5⟩ := run_append_own_at (P := Tryd.prog) w base _ ty _ i0 _ 1 1 Tryd.underlying22 hi0 hz0 hz1 hz2 rfl (by omega) v _ _ hown ad l.length c (l.map bval) (by simp) hc
      (by intro u hu; simp only [List.mem_map] at hu; obtain ⟨x, _, rfl⟩ := hu; rfl) (by unfold maxLen; omega) (by omega) hbase
    refine ⟨v', w', hrun, ?_, h3, h5⟩
    unfold Own
    rw [List.map_append, List.length_append]
    exact h2

theorem wpList_app {w : World} {ops : Array Oper} {rest : List Oper} {o : Oper} {a : Act} {Q : Exit → Act → World → Prop} (hgd : o.guard = none) (s x : Operand)
    (ho : o.op = .call { callee := .builtin .append, args := #[s, x], argTypes := #[22, 22] }) (base : Nat) (v : Value) (xs : List Nat) (hs : a.eval s = v) (hown : Own w base v xs)
    (A : Option Addr) (c : Nat) (l : List Nat) (hx : a.eval x = .slice A l.length c) (hl : Bts w A l) (hA : A = none → c = 0) (h63 : xs.length + l.length ≤ 140737488355328) (hbase : base ≤ w.heap.size)
    (h : ∀ v' w', Own w' base v' (xs ++ l) → w.grownBy w' v.ownBlock → (v'.ownBlock = v.ownBlock ∨ v'.ownBlock = some w.heap.size) → wpList Tryd.prog ops Q rest (a.put o.dst v') w') : wpList Tryd.prog ops Q (o :: rest) a w := by
  refine wpList_plain hgd fun K hK => ?_
  obtain ⟨v', w', hrun, h2, h3, h4⟩ := run_app o.type hown hl hA h63 hbase
  unfold Oper.wp execOp
  simp only [ho, resolve, invoke, builtin, Sem.run_bind, Sem.run_pure, Result.andThen_ok, List.map_toArray, List.map_cons, List.map_nil, hs, hx, hrun]
  exact hK _ _ (h v' w' h2 h3 h4)

/-- A beginning is all that there is, and shorter than four bytes. -/
theorem nx_seven (l : List Nat) (h : (nx l).2.2 = 7) : (nx l).2.1 = l.length ∧ l.length < 4 := by
  have key : ∀ n b0 b1 b2 b3 (r : Nat × Nat × Nat), r = nextN n b0 b1 b2 b3 → r.2.2 = 7 → r.2.1 = n ∧ n < 4 := by
    intro n b0 b1 b2 b3 r hr h7
    unfold nextN at hr
    generalize szB b0 = s at hr
    generalize loB b0 = lo at hr
    generalize hiB b0 = hi at hr
    by_cases hn : n = 0
    · rw [if_pos hn] at hr
      subst hr
      simp at h7
    · rw [if_neg hn] at hr
      repeat' split at hr
      all_goals
        subst hr
        simp only at h7
        first
          | omega
          | (simp only; omega)
  exact key _ _ _ _ _ _ rfl h

theorem nextN_more (n m b0 b1 b2 b3 c1 c2 c3 : Nat) (hn : 0 < n) (hm : n ≤ m) (h1 : 1 < n → c1 = b1) (h2 : 2 < n → c2 = b2) (h3 : 3 < n → c3 = b3) (h : (nextN n b0 b1 b2 b3).2.2 ≠ 7) :
    nextN m b0 c1 c2 c3 = nextN n b0 b1 b2 b3 := by
  obtain ⟨r, hr⟩ : ∃ r, r = nextN n b0 b1 b2 b3 := ⟨_, rfl⟩
  rw [← hr] at h ⊢
  unfold nextN at hr ⊢
  generalize szB b0 = s at hr ⊢
  generalize loB b0 = lo at hr ⊢
  generalize hiB b0 = hi at hr ⊢
  rw [if_neg (by omega)] at hr ⊢
  by_cases s0 : s = 0
  · rw [if_pos s0] at hr ⊢; exact hr.symm
  rw [if_neg s0] at hr ⊢
  by_cases s1 : s = 1
  · rw [if_pos s1] at hr ⊢; exact hr.symm
  rw [if_neg s1] at hr ⊢
  by_cases n1 : n = 1
  · rw [if_pos n1] at hr
    subst hr
    exact absurd rfl h
  rw [if_neg n1] at hr
  rw [if_neg (by omega), h1 (by omega)]
  by_cases p1 : b1 < lo ∨ hi < b1
  · rw [if_pos p1] at hr ⊢; exact hr.symm
  rw [if_neg p1] at hr ⊢
  by_cases s2 : s = 2
  · rw [if_pos s2] at hr ⊢; exact hr.symm
  rw [if_neg s2] at hr ⊢
  by_cases n2 : n = 2
  · rw [if_pos n2] at hr
    subst hr
    exact absurd rfl h
  rw [if_neg n2] at hr
  rw [if_neg (by omega), h2 (by omega)]
  by_cases p2 : b2 < 128 ∨ 191 < b2
  · rw [if_pos p2] at hr ⊢; exact hr.symm
  rw [if_neg p2] at hr ⊢
  by_cases s3 : s = 3
  · rw [if_pos s3] at hr ⊢; exact hr.symm
  rw [if_neg s3] at hr ⊢
  by_cases n3 : n = 3
  · rw [if_pos n3] at hr
    subst hr
    exact absurd rfl h
  rw [if_neg n3] at hr
  rw [if_neg (by omega), h3 (by omega)]
  exact hr.symm

/-- Bytes behind what is told don't change it, but for a beginning. -/
theorem nx_app (l m : List Nat) (hl : l ≠ []) (h : (nx l).2.2 ≠ 7) : nx (l ++ m) = nx l := by
  have h0 : 0 < l.length := List.length_pos_iff.2 hl
  have hg : ∀ i, i < l.length → (l ++ m).getD i 0 = l.getD i 0 := by
    intro i hi
    simp [List.getD, List.getElem?_append_left hi]
  unfold nx at h ⊢
  rw [hg 0 h0]
  exact nextN_more _ _ _ _ _ _ _ _ _ h0 (by simp) (hg 1) (hg 2) (hg 3) h

end Go.Proofs.YtgnmjhhfefnmcaaDoor
