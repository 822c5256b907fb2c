/-
  The document's answers: Make, Has and Cells over a list of names and numbers.
-/
import Derived.Test.YtmhecgidhdbcgaaWRegistryFull
namespace Go.Proofs.Ytmhecgidhdbcgaa
open Go.RowKit Go.Lib Go.Maps
set_option linter.unusedVariables false

theorem find_at (L : List Ent) (s : ByteArray) (k : Nat) (hk : k < L.length) (he : (L[k]).name = s) (hn : ∀ i (hi : i < L.length), i < k → (L[i]).name ≠ s) : L.find? (fun y => decide (y.name = s)) = some L[k] := by
  rw [List.find?_eq_some_iff_getElem]
  exact ⟨by simpa using he, k, hk, rfl, fun j hj => by simpa using hn j (by omega) hj⟩
theorem find_no (L : List Ent) (s : ByteArray) (hn : ∀ i (hi : i < L.length), (L[i]).name ≠ s) : L.find? (fun y => decide (y.name = s)) = none := by
  rw [List.find?_eq_none]
  intro x hx
  obtain ⟨i, hi, rfl⟩ := List.getElem_of_mem hx
  simpa using hn i hi
/-- The two cells of each. -/
def two (L : List Ent) : List Value := L.flatMap (fun x => [.string x.name, .int .i64 (x.N : Int)])
theorem two_length (L : List Ent) : (two L).length = L.length * 2 := by
  induction L with
  | nil => rfl
  | cons a L ih =>
    have e : two (a :: L) = .string a.name :: .int .i64 (a.N : Int) :: two L := rfl
    rw [e, List.length_cons, List.length_cons, ih, List.length_cons]
    omega
theorem two_app (L M : List Ent) : two (L ++ M) = two L ++ two M := by simp [two]
theorem two_get (L : List Ent) {i : Nat} (h : i < L.length) : (two L)[i * 2]? = some (.string (L[i]).name) ∧ (two L)[i * 2 + 1]? = some (.int .i64 ((L[i]).N : Int)) := by
  induction L generalizing i with
  | nil => simp at h
  | cons a L ih =>
    have e : two (a :: L) = .string a.name :: .int .i64 (a.N : Int) :: two L := rfl
    rcases i with _ | i
    · exact ⟨rfl, rfl⟩
    · have := ih (i := i) (by simpa using h)
      rw [e, show (i + 1) * 2 = i * 2 + 2 by omega]
      exact this
/-- A row of the document's own. -/
def MOwn (w : World) (base : Nat) (v : Value) (L : List Ent) : Prop := w.ownsRow base 43 2 v L.length (two L)
theorem MOwn.nil (w : World) (base : Nat) : MOwn w base (.slice none 0 0) [] := World.ownsRow_nil _ _ _ _
theorem MOwn.new (w : World) : MOwn (w.alloc (.cells #[] 43)) w.heap.size (.slice (some ⟨w.heap.size, 0, none⟩) 0 0) [] :=
  ⟨by simp [two], .inr ⟨w.heap.size, 0, #[], rfl, Nat.le_refl _, heap_alloc_new w _, by simp, by simp [maxLen], by simp, by simp [two]⟩⟩
theorem MOwn.mono {w : World} {base base' : Nat} {v : Value} {L : List Ent} (h : MOwn w base v L) (hb : base' ≤ base) : MOwn w base' v L := by
  refine ⟨h.1, ?_⟩
  rcases h.2 with hn | ⟨g, cap, cur, rfl, hg, rest⟩
  · exact .inl hn
  · exact .inr ⟨g, cap, cur, rfl, by omega, rest⟩
theorem MOwn.other {w w' : World} {base : Nat} {v : Value} {L : List Ent} {G G' : List Nat} (h : MOwn w base v L) (hs : Stp G w G' w') (hG : ∀ k, v.ownBlock = some k → k ∉ G) : MOwn w' base v L := by
  refine ⟨h.1, ?_⟩
  rcases h.2 with hn | ⟨g, cap, cur, rfl, hb, hgg, rest⟩
  · exact .inl hn
  · exact .inr ⟨g, cap, cur, rfl, hb, (hs.block g (Array.getElem?_eq_some_iff.1 hgg).1 (hG g rfl)).trans hgg, rest⟩
theorem MOwn.form {w : World} {base : Nat} {v : Value} {L : List Ent} (h : MOwn w base v L) : ∃ a cap, v = .slice a L.length cap ∧ (a = none → cap = 0 ∧ L = []) ∧ ∀ ad, a = some ad → ∃ g, ad = ⟨g, 0, none⟩ ∧ g < w.heap.size ∧
    ∀ i (hi : i < L.length), w.cell? ⟨g, i * 2, none⟩ = some (.string (L[i]).name) ∧ w.cell? ⟨g, i * 2 + 1, none⟩ = some (.int .i64 ((L[i]).N : Int)) := by
  rcases h.2 with ⟨rfl, h0⟩ | ⟨g, cap, cur, rfl, hg, hh, hnc, hm, hcur, htake⟩
  · exact ⟨none, 0, by rw [h0], fun _ => ⟨rfl, List.length_eq_zero_iff.1 h0⟩, fun ad h => by cases h⟩
  · refine ⟨some ⟨g, 0, none⟩, cap, rfl, (fun h => by cases h), fun ad h => ?_⟩
    cases h
    refine ⟨g, rfl, (Array.getElem?_eq_some_iff.1 hh).1, fun i hi => ?_⟩
    have hc := World.ownsRow.cells h (g := g) rfl
    have h1 := hc (i * 2) _ (two_get L hi).1
    have h2 := hc (i * 2 + 1) _ (two_get L hi).2
    simp only [addr_add, Nat.zero_add] at h1 h2
    exact ⟨h1, h2⟩
theorem one_info : (Try.prog.info? 43).map (fun i => (i.zero, i.size, i.bytes)) = some (some (.agg #[.string ⟨#[]⟩, .int .i64 0]), 2, 24) := by kernel_rfl
theorem two_one (L : List Ent) : ∀ v ∈ two L, v.oneCell' = true := by
  intro u hu
  simp only [two, List.mem_flatMap, List.mem_cons, List.not_mem_nil, or_false] at hu
  obtain ⟨x, _, rfl | rfl⟩ := hu <;> rfl
theorem run_appM {w : World} {base : Nat} {v : Value} {xs : List Ent} (ty : TypeId) (hown : MOwn w base v xs) {A : Option Addr} {c : Nat} {l : List Ent} (hl : ∀ ad, A = some ad → ∀ j u, (two l)[j]? = some u → w.cell? (ad.add j) = some u) (hA : A = none → c = 0 ∧ l = [])
    (h63 : xs.length + l.length ≤ 1000000) (hbase : base ≤ w.heap.size) :
    ∃ v' w', (Builtin.append_ #[26, 26] ty #[v, .slice A l.length c]).run Try.prog w = .ok v' w' ∧ MOwn w' base v' (xs ++ l) ∧ w.grownBy w' v.ownBlock := by
  obtain ⟨i0, hi0, hz0, hz1, hz2⟩ := info_parts one_info
  rcases A with _ | ad
  · obtain ⟨rfl, rfl⟩ := hA rfl
    refine ⟨v, w, run_append_owned_none (P := Try.prog) (w := w) base _ ty _ i0 2 Try.underlying26 hi0 v _ _ hown, ?_, World.grownBy.refl w _⟩
    simpa using hown
  · obtain ⟨v', w', hrun, h2, h3, _, h5⟩ := run_append_own_at (P := Try.prog) w base _ ty _ i0 _ 2 24 Try.underlying26 hi0 hz0 hz1 hz2 rfl (by omega) v _ _ hown ad l.length c (two l) (two_length l) (hl ad rfl)
      (two_one l) (by unfold maxLen; omega) (by omega) hbase
    refine ⟨v', w', hrun, ?_, h3⟩
    unfold MOwn
    rw [two_app, List.length_append]
    exact h2
theorem wpList_appM {w : World} {ops : Array Oper} {rest : List Oper} {o : Oper} {a : Act} {Q : Exit → Act → World → Prop} (hgd : o.guard = none) (s x : Operand)
    (ho : o.op = .call { callee := .builtin .append, args := #[s, x], argTypes := #[26, 26] }) (base : Nat) (v : Value) (xs : List Ent) (hs : a.eval s = v) (hown : MOwn w base v xs)
    (A : Option Addr) (c n : Nat) (l : List Ent) (hn : n = l.length) (hx : a.eval x = .slice A n c) (hl : ∀ ad, A = some ad → ∀ j u, (two l)[j]? = some u → w.cell? (ad.add j) = some u) (hA : A = none → c = 0 ∧ l = []) (h63 : xs.length + l.length ≤ 1000000) (hbase : base ≤ w.heap.size)
    (h : ∀ v' w', MOwn w' base v' (xs ++ l) → w.grownBy w' v.ownBlock → wpList Try.prog ops Q rest (a.put o.dst v') w') : wpList Try.prog ops Q (o :: rest) a w := by
  subst hn
  refine wpList_plain hgd fun K hK => ?_
  obtain ⟨v', w', hrun, h2, h3⟩ := run_appM (c := c) o.type hown hl hA h63 hbase
  unfold Oper.wp execOp
  simp only [ho, resolve, invoke, builtin, Sem.run_bind, Sem.run_pure, Result.andThen_ok, List.map_toArray, List.map_cons, List.map_nil, hs, hx, hrun]
  exact hK _ _ (h v' w' h2 h3)
theorem str_no {a b : ByteArray} (h : a ≠ b) : (a.toList == b.toList) = false := by
  rw [toList_data, toList_data]
  refine beq_eq_false_iff_ne.2 (fun e => h ?_)
  exact ByteArray.ext (Array.toList_inj.1 e)

theorem one_row (w : World) (s : ByteArray) (z : Int) (hz : 0 ≤ z) : ∀ ad, some (⟨w.heap.size, 0, none⟩ : Addr) = some ad → ∀ j u, (two [⟨s, 0, 0, z.toNat, []⟩])[j]? = some u → (w.alloc (.cells #[.string s, .int .i64 z] 43)).cell? (ad.add j) = some u := fun ad e j u hj => by
  cases e
  have ez : ((z.toNat : Nat) : Int) = z := by omega
  have e2 : two [⟨s, 0, 0, z.toNat, []⟩] = [.string s, .int .i64 z] := by
    show [Value.string s, Value.int .i64 ((z.toNat : Nat) : Int)] = _
    rw [ez]
  rw [e2] at hj
  rw [addr_add, cell_of_row _ w.heap.size _ _ _ _ (heap_alloc_new w _), Nat.zero_add]
  rcases j with _ | _ | j
  · simpa using hj
  · simpa using hj
  · simp at hj
theorem stp_grown' {w W W' : World} {o : Obj} {row : Option Nat} (h : Stp [] w [] W) (hg : (W.alloc o).grownBy W' row) (hr : ∀ k, row = some k → w.heap.size ≤ k) : Stp [] w [] W' :=
  ⟨hg.os.trans h.os, hg.tape.trans h.tape, hg.output.trans h.output, Nat.le_trans h.size (Nat.le_trans (by simp) hg.size), fun k hk hF => (hg.block k (by have := h.size; rw [World.size_alloc]; omega) (fun e => by have := hr k e.symm; omega)).trans ((Below.heap_alloc W o k (Nat.lt_of_lt_of_le hk h.size)).trans (h.block k hk hF)), fun _ h => by cases h⟩
/-- Is there one under a name? -/
def has (L : List Ent) (s : ByteArray) : Option Ent := L.find? (fun y => decide (y.name = s))
def hasV : Option Ent → Value
  | some y => .tuple #[.int .i64 (y.N : Int), .bool true]
  | none => .tuple #[.int .i64 0, .bool false]
section
variable {W : World} {base : Nat} {v : Value} {L : List Ent}
set_option maxHeartbeats 1000000 in
theorem rhas_run (h : MOwn W base v L) (hl : L.length ≤ 16) (s : ByteArray) : Calls Try.prog 14 #[v, .string s] W (Gives (hasV (has L s)) W) := by
  obtain ⟨a, cap, rfl, hnil, hcs⟩ := h.form
  have HC := Lib.hid (And.intro hnil hcs)
  obtain ⟨R, hR⟩ : ∃ R, R = hasV (has L s) := ⟨_, rfl⟩
  rw [← hR]
  have HR := Lib.hid hR
  clear h hnil hcs hR
  go_enter Try.func14, Try.ntmps14
  go_wp2
  go_loopg [6] L.length (fun gk vi wr => ∃ k : Nat, vi = .int .i64 (k : Int) ∧ k ≤ L.length ∧ L.length - k ≤ gk ∧ Aside (wr = W ∧ ∀ i (hi : i < L.length), i < k → (L[i]).name ≠ s))
  case atStart => exact ⟨0, rfl, by omega, by omega, rfl, fun i _ h => by omega⟩
  case round =>
    obtain ⟨k, rfl, hk, hg, HS⟩ := hrel
    obtain rfl : wr = W := HS.out.1
    by_cases hlt : k < L.length
    · have hltz : (k : Int) < (L.length : Int) := by omega
      rcases a with _ | ad
      · have := (HC.out.1 rfl).2
        rw [this] at hlt
        simp at hlt
      · obtain ⟨g, rfl, hg1, hc⟩ := HC.out.2 ad rfl
        obtain ⟨c0, c1⟩ := hc k hlt
        by_cases he : (L[k]).name = s
        · have HF : Aside (R = .tuple #[.int .i64 ((L[k]).N : Int), .bool true]) := by
            show _ = _
            rw [HR.out]
            unfold has
            rw [find_at L s k hlt he (fun i hi hik => HS.out.2 i hi hik)]
            rfl
          rw [he] at c0
          generalize ((L[k]).N : Int) = z at *
          clear he hc HC HR HS
          go_wp2
          go_ret2
          rw [HF.out]
          exact ⟨rfl, rfl⟩
        · have hq := str_no he
          have HE : Aside (∀ i (hi : i < L.length), i < k + 1 → (L[i]).name ≠ s) := fun i hi hik => by
            by_cases e : i = k
            · subst e
              exact he
            · exact HS.out.2 i hi (by omega)
          generalize (L[k]).name = nm at *
          generalize ((L[k]).N : Int) = z at *
          clear he hc
          go_wp2
          go_roundg (L.length - (k + 1))
          case measure => omega
          case rel => exact ⟨k + 1, by go_num, by omega, by omega, rfl, HE.out⟩
    · have hltz : ¬ (k : Int) < (L.length : Int) := by omega
      have HF : Aside (R = .tuple #[.int .i64 0, .bool false]) := by
        show _ = _
        rw [HR.out]
        unfold has
        rw [find_no L s (fun i hi => HS.out.2 i hi (by omega))]
        rfl
      clear HC HR HS
      go_wp2
      go_ret2
      rw [HF.out]
      exact ⟨rfl, rfl⟩
set_option maxHeartbeats 1000000 in
theorem rcells_run (h : MOwn W base v L) (hl : L.length ≤ 16) (hN : ∀ x ∈ L, x.N ≤ 4096) : Calls Try.prog 17 #[v] W (Gives (.int .i64 ((L.map Ent.N).sum : Nat)) W) := by
  obtain ⟨a, cap, rfl, hnil, hcs⟩ := h.form
  have HC := Lib.hid (And.intro hnil hcs)
  obtain ⟨R, hR⟩ : ∃ R, R = (L.map Ent.N).sum := ⟨_, rfl⟩
  rw [← hR]
  have HR := Lib.hid (And.intro hR hN)
  clear h hnil hcs hR hN
  go_enter Try.func17, Try.ntmps17
  go_wp2
  go_loopg [3, 4] L.length (fun gk vs vi wr => ∃ k : Nat, vs = .int .i64 (sumT L k : Nat) ∧ vi = .int .i64 (k : Int) ∧ k ≤ L.length ∧ L.length - k ≤ gk ∧ Aside (wr = W))
  case atStart => exact ⟨0, rfl, rfl, by omega, by omega, rfl⟩
  case round =>
    obtain ⟨k, rfl, rfl, hk, hg, HS⟩ := hrel
    obtain rfl : wr = W := HS.out
    by_cases hlt : k < L.length
    · have hltz : (k : Int) < (L.length : Int) := by omega
      rcases a with _ | ad
      · have := (HC.out.1 rfl).2
        rw [this] at hlt
        simp at hlt
      · obtain ⟨g, rfl, hg1, hc⟩ := HC.out.2 ad rfl
        obtain ⟨c0, c1⟩ := hc k hlt
        have hsum := Lib.hid (sumT_succ L hlt)
        have hle := sumT_le L k HR.out.2
        have hle2 := HR.out.2 _ (List.getElem_mem hlt)
        generalize sumT L k = T at *
        generalize (L[k]).N = nn at *
        have hb1 : (T : Int) ≤ 1000000 := by omega
        have hb2 : (nn : Int) ≤ 1000000 := by omega
        clear hc c0
        go_wp2
        go_roundg (L.length - (k + 1))
        case measure => omega
        case rel => exact ⟨k + 1, by rw [hsum.out]; go_num, by go_num, by omega, by omega, rfl⟩
    · have hltz : ¬ (k : Int) < (L.length : Int) := by omega
      obtain rfl : k = L.length := by omega
      rw [sumT_all, ← HR.out.1]
      clear HC HR HS
      go_wp2
      go_ret
      exact ⟨rfl, rfl⟩

/-- What the document's Make answers where there is one more. -/
def RMade (W : World) (L : List Ent) (s : ByteArray) (n : Nat) (e : Ending) (w' : World) : Prop := ∃ v', e = .returned (.tuple #[v', .int .i64 0]) ∧ (∀ b g, MOwn w' W.heap.size v' (L ++ [⟨s, b, g, n, []⟩])) ∧ Stp [] W [] w'
theorem any_of {k : Nat} {s : ByteArray} (hk : k < L.length) (he : (L[k]).name = s) : L.any (fun x => decide (x.name = s)) = true := List.any_eq_true.2 ⟨L[k], List.getElem_mem hk, by simpa using he⟩
theorem any_no {s : ByteArray} (hn : ∀ i (hi : i < L.length), (L[i]).name ≠ s) : L.any (fun x => decide (x.name = s)) = false := List.any_eq_false.2 (fun x hx => by
  obtain ⟨i, hi, rfl⟩ := List.getElem_of_mem hx
  simpa using hn i hi)
/-- Why there is none. -/
def rcode (L : List Ent) (s : ByteArray) (z : Int) : Int := if refuse L s ≠ 0 then refuse L s else if z < 1 ∨ 4096 < z then 3 else 0
set_option maxHeartbeats 2000000 in
theorem rmake_run (h : MOwn W base v L) (hl : L.length ≤ 16) (s : ByteArray) (z : Int) : Calls Try.prog 11 #[v, .string s, .int .i64 z] W fun e w' =>
    (rcode L s z ≠ 0 ∧ Gives (.tuple #[v, .int .i64 (rcode L s z)]) W e w') ∨ (rcode L s z = 0 ∧ RMade W L s z.toNat e w') := by
  obtain ⟨a, cap, hv, hnil, hcs⟩ := h.form
  have HC := Lib.hid (And.intro h (And.intro hnil hcs))
  clear h hnil hcs
  subst hv
  by_cases hem : s = ⟨#[]⟩
  · have e1 : rcode L s z = 2 := by simp [rcode, refuse, hem]
    rw [e1]
    subst hem
    clear e1
    go_enter Try.func11, Try.ntmps11
    go_wp2
    go_ret2
    exact .inl ⟨by decide, rfl, rfl⟩
  · have hemp := emp_no hem
    have HE := Lib.hid hem
    clear hem
    go_enter Try.func11, Try.ntmps11
    go_wp2
    go_loopg [8] L.length (fun gk vi wr => ∃ k : Nat, vi = .int .i64 (k : Int) ∧ k ≤ L.length ∧ L.length - k ≤ gk ∧ Aside (wr = W ∧ ∀ i (hi : i < L.length), i < k → (L[i]).name ≠ s))
    case atStart => exact ⟨0, rfl, by omega, by omega, rfl, fun i _ h => by omega⟩
    case round =>
      obtain ⟨k, rfl, hk, hg, HS⟩ := hrel
      obtain rfl : wr = W := HS.out.1
      by_cases hlt : k < L.length
      · have hltz : (k : Int) < (L.length : Int) := by omega
        rcases a with _ | ad
        · have := (HC.out.2.1 rfl).2
          rw [this] at hlt
          simp at hlt
        · obtain ⟨g, rfl, hg1, hc⟩ := HC.out.2.2 ad rfl
          obtain ⟨c0, c1⟩ := hc k hlt
          by_cases he : (L[k]).name = s
          · have HF := Lib.hid (show rcode L s z = 11 by simp only [rcode, refuse, if_neg HE.out, any_of hlt he]; rfl)
            rw [he] at c0
            generalize ((L[k]).N : Int) = nn at *
            clear he hc HC HS
            go_wp2
            go_ret2
            rw [HF.out]
            exact .inl ⟨by decide, rfl, rfl⟩
          · have hq := str_no he
            have HN : Aside (∀ i (hi : i < L.length), i < k + 1 → (L[i]).name ≠ s) := fun i hi hik => by
              by_cases e : i = k
              · subst e
                exact he
              · exact HS.out.2 i hi (by omega)
            generalize (L[k]).name = nm at *
            generalize ((L[k]).N : Int) = nn at *
            clear he hc
            go_wp2
            go_roundg (L.length - (k + 1))
            case measure => omega
            case rel => exact ⟨k + 1, by go_num, by omega, by omega, rfl, HN.out⟩
      · have hltz : ¬ (k : Int) < (L.length : Int) := by omega
        have hno := any_no (fun i hi => HS.out.2 i hi (by omega))
        by_cases h16 : 16 ≤ L.length
        · have HF := Lib.hid (show rcode L s z = 4 by simp only [rcode, refuse, if_neg HE.out, hno, if_pos h16]; rfl)
          have h16z : (16 : Int) ≤ (L.length : Int) := by omega
          clear hno HC HS
          go_wp2
          go_ret2
          rw [HF.out]
          exact .inl ⟨by decide, rfl, rfl⟩
        · have h16z : ¬ (16 : Int) ≤ (L.length : Int) := by omega
          have hr : refuse L s = 0 := by simp only [refuse, if_neg HE.out, hno, if_neg h16]; rfl
          by_cases hz1 : z < 1
          · have HF := Lib.hid (show rcode L s z = 3 by simp only [rcode, hr]; simp [hz1])
            clear hno HC HS hr
            go_wp2
            go_ret2
            rw [HF.out]
            exact .inl ⟨by decide, rfl, rfl⟩
          · by_cases hz2 : 4096 < z
            · have HF := Lib.hid (show rcode L s z = 3 by simp only [rcode, hr]; simp [hz2])
              clear hno HC HS hr
              go_wp2
              go_ret2
              rw [HF.out]
              exact .inl ⟨by decide, rfl, rfl⟩
            · have HF := Lib.hid (show rcode L s z = 0 by simp only [rcode, hr]; simp; omega)
              have HN := Lib.hid (MOwn.new wr)
              have HR := Lib.hid (show ∀ ad, a = some ad → ∀ j u, (two L)[j]? = some u → (wr.alloc (.cells #[] 43)).cell? (ad.add j) = some u from fun ad e j u hj => by
                subst e
                obtain ⟨g, rfl, hg1, _⟩ := HC.out.2.2 ad rfl
                have := World.ownsRow.cells HC.out.1 (g := g) rfl j u hj
                rw [addr_add] at this ⊢
                exact ((Stp.alloc [] wr (.cells #[] 43)).cell (a := ⟨g, 0 + j, none⟩) hg1 (fun h => by cases h)).trans this)
              clear hno hr HS
              go_wp2_with (first
                | (at_builtin
                   refine wpList_appM rfl (.tmp 37) (.tmp 38) rfl wr.heap.size (.slice (some ⟨wr.heap.size, 0, none⟩) 0 0) [] rfl HN.out a cap L.length L rfl rfl HR.out HC.out.2.1 (by simp; omega) (by simp) ?_
                   intro v2 w2 ho2 hg2
                   have H2 : Aside (MOwn w2 wr.heap.size v2 L ∧ Stp [] wr [] w2 ∧ wr.heap.size ≤ w2.heap.size) := ⟨by simpa using ho2, ⟨hg2.os, hg2.tape, hg2.output, Nat.le_trans (by simp) hg2.size, fun q hq _ => (hg2.block q (by rw [World.size_alloc]; omega) (fun e => by simp [Value.ownBlock] at e; omega)).trans (Below.heap_alloc wr _ q hq), fun _ h => by cases h⟩, Nat.le_trans (by simp) hg2.size⟩
                   clear ho2 hg2)
                | (at_builtin
                   refine wpList_appM rfl (.tmp 39) (.tmp 43) rfl wr.heap.size v2 L rfl (World.ownsRow.alloc H2.out.1 _) (some ⟨w2.heap.size, 0, none⟩) 1 1 [⟨s, 0, 0, z.toNat, []⟩] rfl rfl (one_row w2 s z (by omega)) (fun h => by cases h) (by simp; omega) (by have := H2.out.2.2; rw [World.size_alloc]; omega) ?_
                   intro v3 w3 ho3 hg3
                   have H3 : Aside (MOwn w3 wr.heap.size v3 (L ++ [⟨s, 0, 0, z.toNat, []⟩]) ∧ Stp [] wr [] w3) := ⟨ho3, stp_grown' H2.out.2.1 hg3 (fun q e => (World.ownsRow.lt H2.out.1 q e).1)⟩
                   clear ho3 hg3))
              go_ret2
              refine .inr ⟨HF.out, _, rfl, fun b g => ?_, H3.out.2⟩
              have e : two (L ++ [⟨s, b, g, z.toNat, []⟩]) = two (L ++ [⟨s, 0, 0, z.toNat, []⟩]) := by rw [two_app, two_app]; rfl
              have := H3.out.1
              unfold MOwn at this ⊢
              rw [e]
              simpa using this
end
end Go.Proofs.Ytmhecgidhdbcgaa
