/-
  container/heap's up and down at a row of entries.
-/
import Derived.Test.YtjjaaahoophgpaaDisp
namespace Go.Proofs.Ytjjaaahoophgpaa
open Go.RowKit Go.Lib
set_option linter.unusedVariables false

/-- A row of entries behind a variable of memory, all else as in w0 but for the row. -/
structure Hp (w0 : World) (b g cap n : Nat) (l : List Ent) (W : World) : Prop where
  row : Rw W (.slice (some ⟨g, 0, none⟩) n cap) l
  obj : w0.cell? ⟨b, 0, none⟩ = some (.slice (some ⟨g, 0, none⟩) n cap)
  ne : b ≠ g
  gr : w0.grownBy W (some g)
variable {w0 W : World} {b g cap n : Nat} {l : List Ent}
theorem Hp.cell (h : Hp w0 b g cap n l W) : W.cell? ⟨b, 0, none⟩ = some (.slice (some ⟨g, 0, none⟩) n cap) := h.gr.cell h.obj (by have := h.ne; simpa using this)
theorem Hp.drewN (h : Hp w0 b g cap n l W) (q : Nat) : Hp w0 b g cap n l (W.drewN q) := ⟨h.row, h.obj, h.ne, h.gr.trans ⟨rfl, rfl, rfl, Nat.le_refl _, fun _ _ _ => rfl⟩⟩
theorem Hp.next (h : Hp w0 b g cap n l W) {W' : World} {l' : List Ent} (hr : Rw W' (.slice (some ⟨g, 0, none⟩) n cap) l') (hg : W.grownBy W' (some g)) : Hp w0 b g cap n l' W' := ⟨hr, h.obj, h.ne, h.gr.trans hg⟩

set_option maxHeartbeats 2000000 in
set_option maxRecDepth 100000 in
theorem up_run (w0 w : World) (b g cap n j : Nat) (l : List Ent) (h : Hp w0 b g cap n l w) (hj : j < n) (hn : n < 4611686018427387904) (hu : UpOk n (rkl l) j) :
    Calls Try.prog 31 #[.iface 64 (.pointer (some ⟨b, 0, none⟩)), .int .i64 (j : Int)] w
      fun e w' => e = .returned (.tuple #[]) ∧ ∃ l', Hp w0 b g cap n l' w' ∧ Heap n (rkl l') ∧ l'.Perm l := by
  have S0 : Aside (Hp w0 b g cap n l w ∧ UpOk n (rkl l) j) := ⟨h, hu⟩
  clear h hu
  go_enter Try.func31, Try.ntmps31
  go_wp2
  go_loopg [1] j (fun gk vj wr => ∃ k : Nat, vj = .int .i64 (k : Int) ∧ k < n ∧ k ≤ gk ∧ Aside (∃ l', Hp w0 b g cap n l' wr ∧ UpOk n (rkl l') k ∧ l'.Perm l))
  case atStart => exact ⟨j, rfl, hj, Nat.le_refl _, l, S0.out.1, S0.out.2, List.Perm.refl _⟩
  case round =>
    clear S0
    obtain ⟨k, rfl, hk, hg, HS⟩ := hrel
    by_cases h0 : k = 0
    · subst h0
      go_wp2
      go_end0
      obtain ⟨l', h1, h2, h3⟩ := HS.out
      exact ⟨rfl, l', h1, h2.top (.inl rfl), h3⟩
    · obtain ⟨l', HS⟩ : ∃ l', Aside (Hp w0 b g cap n l' wr ∧ UpOk n (rkl l') k ∧ l'.Perm l) := HS.out
      obtain ⟨p, hp⟩ : ∃ p, p = (k - 1) / 2 := ⟨_, rfl⟩
      have hpk : p < k := by omega
      have ek : IntKind.i64.wrap ((k : Int) - 1) = (k : Int) - 1 := by rw [IntKind.wrap_i64]; omega
      have ed : ((k : Int) - 1).tdiv 2 = (p : Int) := by
        rw [Int.tdiv_eq_ediv_of_nonneg (by omega)]
        omega
      have ne : ((p : Int) == (k : Int)) = false := by
        rw [beq_eq_false_iff_ne]
        omega
      have HP : Aside (p = (k - 1) / 2) := hp
      clear hp
      have C1 := Lib.hid (less_run wr g n cap l' HS.out.1.row k p hk (by omega) hn)
      have M1 := method_less HS.out.1.cell
      by_cases hlt : rkl l' k < rkl l' p
      · rw [decide_eq_true hlt] at C1
        go_wp2_with fail
        refine C1.out.mono ?_
        rintro _ w1 ⟨rfl, q, hq⟩
        have H1 : Aside (Hp w0 b g cap n l' w1) := by rw [hq]; exact HS.out.1.drewN q
        have HS2 : Aside (UpOk n (rkl l') k ∧ l'.Perm l) := HS.out.2
        have C2 := Lib.hid (swap_any w1 g n cap l' H1.out.row p k (by omega) hk hn)
        have M2 := method_swap H1.out.cell
        have HL : Aside (rkl l' k < rkl l' p) := hlt
        clear C1 M1 hq HS hlt
        go_wp2_with fail
        refine C2.out.mono ?_
        rintro _ w2 ⟨rfl, hr2, hg2⟩
        have H2 : Aside (Hp w0 b g cap n (sw l' p k) w2) := H1.out.next hr2 hg2
        clear C2 M2 hr2 hg2
        go_wp2
        go_roundg p
        case measure => omega
        case rel =>
          have hl' : l'.length = n := H1.out.row.len.symm
          refine ⟨p, rfl, by omega, Nat.le_refl _, sw l' p k, H2.out, ?_, (sw_perm l' (by omega) (by omega)).trans HS2.out.2⟩
          refine HS2.out.1.step (by omega) hk HP.out HL.out ?_ ?_ ?_
          · unfold rkl
            rw [sw_at l' (by omega) (by omega) (by omega), if_neg (by omega), if_pos rfl]
          · unfold rkl
            rw [sw_at l' (by omega) (by omega) (by omega), if_pos rfl]
          · intro c h1 h2
            unfold rkl
            by_cases hc : c < n
            · rw [sw_at l' (by omega) (by omega) (by omega), if_neg h2, if_neg h1]
            · rw [getElem!_neg _ c (by rw [sw_length]; omega), getElem!_neg _ c (by omega)]
      · rw [decide_eq_false hlt] at C1
        go_wp2_with fail
        refine C1.out.mono ?_
        rintro _ w1 ⟨rfl, q, hq⟩
        have H1 : Aside (Hp w0 b g cap n l' w1) := by rw [hq]; exact HS.out.1.drewN q
        have HL : Aside (¬ rkl l' k < rkl l' p) := hlt
        clear C1 M1 hq hlt
        go_wp2
        go_end0
        refine ⟨rfl, l', H1.out, HS.out.2.1.top (.inr ?_), HS.out.2.2⟩
        rw [← HP.out]
        have := HL.out
        omega

/-- The smaller child of a place. -/
def Child (m : Nat) (f : Nat → Nat) (i j : Nat) : Prop := (j = 2 * i + 1 ∨ j = 2 * i + 2) ∧ j < m ∧ (2 * i + 1 < m → f j ≤ f (2 * i + 1)) ∧ (2 * i + 2 < m → f j ≤ f (2 * i + 2))
theorem pick2 {m i j j2 : Nat} {f : Nat → Nat} (h : j = 2 * i + 1 ∧ j2 = 2 * i + 2) (h2 : j2 < m) (hl : f j2 < f j) : Child m f i j2 := by
  obtain ⟨rfl, rfl⟩ := h
  exact ⟨.inr rfl, h2, fun _ => Nat.le_of_lt hl, fun _ => Nat.le_refl _⟩
theorem pick1 {m i j j2 : Nat} {f : Nat → Nat} (h : j = 2 * i + 1 ∧ j2 = 2 * i + 2) (h1 : j < m) (hl : j2 < m → ¬ f j2 < f j) : Child m f i j := by
  obtain ⟨rfl, rfl⟩ := h
  exact ⟨.inl rfl, h1, fun _ => Nat.le_refl _, fun h => Nat.le_of_not_lt (hl h)⟩
theorem down_end {m i j : Nat} {l l0 : List Ent} (h : DownOk m (rkl l) i ∧ l.Perm l0 ∧ ∀ c, m ≤ c → l[c]! = l0[c]!) (h1 : Hp w0 b g cap n l W) (hmn : i < n) (hl : ¬ rkl l j < rkl l i) (hc : Child m (rkl l) i j) :
    ∃ l', Hp w0 b g cap n l' W ∧ Heap m (rkl l') ∧ l'.Perm l0 ∧ ∀ c, m ≤ c → l'[c]! = l0[c]! :=
  ⟨l, h1, h.1.done hc.1 hc.2.1 hc.2.2.1 hc.2.2.2 (Nat.le_of_not_lt hl), h.2⟩
theorem down_next {W' : World} {m i j : Nat} {l l0 : List Ent} (h : DownOk m (rkl l) i ∧ l.Perm l0 ∧ ∀ c, m ≤ c → l[c]! = l0[c]!) (h1 : Hp w0 b g cap n l W) (h2 : Hp w0 b g cap n (sw l i j) W') (hin : i < m) (hmn : m < n) (hl : rkl l j < rkl l i) (hc : Child m (rkl l) i j) :
    ∃ l', Hp w0 b g cap n l' W' ∧ DownOk m (rkl l') j ∧ l'.Perm l0 ∧ ∀ c, m ≤ c → l'[c]! = l0[c]! := by
  have hln : l.length = n := h1.row.len.symm
  have hj := hc.2.1
  have hij : i ≠ j := by intro e; subst e; omega
  refine ⟨sw l i j, h2, h.1.step hc.1 hc.2.1 hc.2.2.1 hc.2.2.2 hl ?_ ?_ ?_, (sw_perm l (by omega) (by omega)).trans h.2.1, fun c hc => ?_⟩
  · unfold rkl
    rw [sw_at l (by omega) (by omega) (by omega), if_neg hij, if_pos rfl]
  · unfold rkl
    rw [sw_at l (by omega) (by omega) (by omega), if_pos rfl]
  · intro c h1 h2
    unfold rkl
    by_cases hc : c < n
    · rw [sw_at l (by omega) (by omega) (by omega), if_neg h2, if_neg h1]
    · rw [getElem!_neg _ c (by rw [sw_length]; omega), getElem!_neg _ c (by omega)]
  · rw [← h.2.2 c hc]
    by_cases hcn : c < n
    · rw [sw_at l (by omega) (by omega) (by omega), if_neg (by omega), if_neg (by omega)]
    · rw [getElem!_neg _ c (by rw [sw_length]; omega), getElem!_neg _ c (by omega)]

def Downed (w0 : World) (b g cap n m : Nat) (l : List Ent) (e : Ending) (w' : World) : Prop := ∃ r, e = .returned (.bool r) ∧ ∃ l', Hp w0 b g cap n l' w' ∧ Heap m (rkl l') ∧ l'.Perm l ∧ ∀ c, m ≤ c → l'[c]! = l[c]!
set_option maxHeartbeats 2000000 in
set_option maxRecDepth 100000 in
theorem down_run (w0 w : World) (b g cap n m : Nat) (l : List Ent) (h : Hp w0 b g cap n l w) (hm : m < n) (hn : n < 1000000) (hu : DownOk m (rkl l) 0) :
    Calls Try.prog 37 #[.iface 64 (.pointer (some ⟨b, 0, none⟩)), .int .i64 0, .int .i64 (m : Int)] w
      (Downed w0 b g cap n m l) := by
  have S0 : Aside (Hp w0 b g cap n l w ∧ DownOk m (rkl l) 0) := ⟨h, hu⟩
  clear h hu
  go_enter Try.func37, Try.ntmps37
  go_wp2
  go_loopg [7] m (fun gk vi wr => ∃ i : Nat, vi = .int .i64 (i : Int) ∧ i ≤ m ∧ m - i ≤ gk ∧ Aside (∃ l', Hp w0 b g cap n l' wr ∧ DownOk m (rkl l') i ∧ l'.Perm l ∧ ∀ c, m ≤ c → l'[c]! = l[c]!))
  case atStart => exact ⟨0, rfl, by omega, by omega, l, S0.out.1, S0.out.2, List.Perm.refl _, fun _ _ => rfl⟩
  case round =>
    clear S0
    obtain ⟨i, rfl, hi, hg, HS⟩ := hrel
    obtain ⟨l', HS⟩ : ∃ l', Aside (Hp w0 b g cap n l' wr ∧ DownOk m (rkl l') i ∧ l'.Perm l ∧ ∀ c, m ≤ c → l'[c]! = l[c]!) := HS.out
    obtain ⟨j, hj⟩ : ∃ j : Nat, j = 2 * i + 1 := ⟨_, rfl⟩
    obtain ⟨j2, hj2⟩ : ∃ j2 : Nat, j2 = 2 * i + 2 := ⟨_, rfl⟩
    have e0 : IntKind.i64.wrap (2 * (i : Int)) = 2 * (i : Int) := by rw [IntKind.wrap_i64]; omega
    have e1 : 2 * (i : Int) + 1 = (j : Int) := by omega
    have e2 : IntKind.i64.wrap (j : Int) = (j : Int) := by rw [IntKind.wrap_i64]; omega
    have HJ : Aside (j = 2 * i + 1 ∧ j2 = 2 * i + 2) := ⟨hj, hj2⟩
    have p0 : ¬ (j : Int) < 0 := by omega
    have p1 : decide ((j : Int) < 0) = false := decide_eq_false p0
    by_cases hjm : m ≤ j
    · have hx : (m : Int) ≤ (j : Int) := by omega
      clear hj hj2
      go_wp2
      go_ret
      have HF : Aside (∃ l', Hp w0 b g cap n l' wr ∧ Heap m (rkl l') ∧ l'.Perm l ∧ ∀ c, m ≤ c → l'[c]! = l[c]!) := ⟨l', HS.out.1, HS.out.2.1.leaf (by have := HJ.out; omega), HS.out.2.2⟩
      exact ⟨_, rfl, HF.out⟩
    · have hx : ¬ (m : Int) ≤ (j : Int) := by omega
      have hx2 : decide ((j : Int) ≥ (m : Int)) = false := decide_eq_false (by omega)
      have e3 : (j : Int) + 1 = (j2 : Int) := by omega
      have e4 : IntKind.i64.wrap (j2 : Int) = (j2 : Int) := by rw [IntKind.wrap_i64]; omega
      have hij : i < j ∧ j < j2 := by omega
      clear hj hj2
      have HS2 : Aside (DownOk m (rkl l') i ∧ l'.Perm l ∧ ∀ c, m ≤ c → l'[c]! = l[c]!) := HS.out.2
      have H0 : Aside (Hp w0 b g cap n l' wr) := HS.out.1
      clear HS
      by_cases h2 : j2 < m
      · have hy : (j2 : Int) < (m : Int) := by omega
        have hy2 : decide ((j2 : Int) < (m : Int)) = true := decide_eq_true hy
        have C1 := Lib.hid (less_run wr g n cap l' H0.out.row j2 j (by omega) (by omega) (by omega))
        have M1 := method_less H0.out.cell
        by_cases hl2 : rkl l' j2 < rkl l' j
        · rw [decide_eq_true hl2] at C1
          go_wp2_with fail
          refine C1.out.mono ?_
          rintro _ w1 ⟨rfl, q1, hq1⟩
          have H1 : Aside (Hp w0 b g cap n l' w1) := by rw [hq1]; exact H0.out.drewN q1
          have HM : Aside (rkl l' j2 < rkl l' j) := hl2
          clear C1 M1 hq1 hl2 H0
          have CL := Lib.hid (less_run w1 g n cap l' H1.out.row j2 i (by omega) (by omega) (by omega))
          have ML := method_less H1.out.cell
          by_cases hlt : rkl l' j2 < rkl l' i
          · rw [decide_eq_true hlt] at CL
            go_wp2_with fail
            refine CL.out.mono ?_
            rintro _ w3 ⟨rfl, q3, hq3⟩
            have H3 : Aside (Hp w0 b g cap n l' w3) := by rw [hq3]; exact H1.out.drewN q3
            have CS := Lib.hid (swap_any w3 g n cap l' H3.out.row i j2 (by omega) (by omega) (by omega))
            have MS := method_swap H3.out.cell
            have HL : Aside (rkl l' j2 < rkl l' i) := hlt
            clear CL ML hq3 hlt H1
            go_wp2_with fail
            refine CS.out.mono ?_
            rintro _ w4 ⟨rfl, hr4, hg4⟩
            have H4 : Aside (Hp w0 b g cap n (sw l' i j2) w4) := H3.out.next hr4 hg4
            clear CS MS hr4 hg4
            go_wp2
            go_roundg (m - j2)
            case measure => omega
            case rel => exact ⟨j2, by go_num, by omega, by omega, down_next HS2.out H3.out H4.out (by omega) hm HL.out (pick2 HJ.out h2 HM.out)⟩
          · rw [decide_eq_false hlt] at CL
            go_wp2_with fail
            refine CL.out.mono ?_
            rintro _ w3 ⟨rfl, q3, hq3⟩
            have H3 : Aside (Hp w0 b g cap n l' w3) := by rw [hq3]; exact H1.out.drewN q3
            have HL : Aside (¬ rkl l' j2 < rkl l' i) := hlt
            clear CL ML hq3 hlt H1
            go_wp2
            go_ret
            exact ⟨_, rfl, down_end HS2.out H3.out (by omega) HL.out (pick2 HJ.out h2 HM.out)⟩
        · rw [decide_eq_false hl2] at C1
          go_wp2_with fail
          refine C1.out.mono ?_
          rintro _ w1 ⟨rfl, q1, hq1⟩
          have H1 : Aside (Hp w0 b g cap n l' w1) := by rw [hq1]; exact H0.out.drewN q1
          have HM : Aside (¬ rkl l' j2 < rkl l' j) := hl2
          clear C1 M1 hq1 hl2 H0
          have CL := Lib.hid (less_run w1 g n cap l' H1.out.row j i (by omega) (by omega) (by omega))
          have ML := method_less H1.out.cell
          by_cases hlt : rkl l' j < rkl l' i
          · rw [decide_eq_true hlt] at CL
            go_wp2_with fail
            refine CL.out.mono ?_
            rintro _ w3 ⟨rfl, q3, hq3⟩
            have H3 : Aside (Hp w0 b g cap n l' w3) := by rw [hq3]; exact H1.out.drewN q3
            have CS := Lib.hid (swap_any w3 g n cap l' H3.out.row i j (by omega) (by omega) (by omega))
            have MS := method_swap H3.out.cell
            have HL : Aside (rkl l' j < rkl l' i) := hlt
            clear CL ML hq3 hlt H1
            go_wp2_with fail
            refine CS.out.mono ?_
            rintro _ w4 ⟨rfl, hr4, hg4⟩
            have H4 : Aside (Hp w0 b g cap n (sw l' i j) w4) := H3.out.next hr4 hg4
            clear CS MS hr4 hg4
            go_wp2
            go_roundg (m - j)
            case measure => omega
            case rel => exact ⟨j, by go_num, by omega, by omega, down_next HS2.out H3.out H4.out (by omega) hm HL.out (pick1 HJ.out (by omega) (fun _ => HM.out))⟩
          · rw [decide_eq_false hlt] at CL
            go_wp2_with fail
            refine CL.out.mono ?_
            rintro _ w3 ⟨rfl, q3, hq3⟩
            have H3 : Aside (Hp w0 b g cap n l' w3) := by rw [hq3]; exact H1.out.drewN q3
            have HL : Aside (¬ rkl l' j < rkl l' i) := hlt
            clear CL ML hq3 hlt H1
            go_wp2
            go_ret
            exact ⟨_, rfl, down_end HS2.out H3.out (by omega) HL.out (pick1 HJ.out (by omega) (fun _ => HM.out))⟩
      · have hy : ¬ (j2 : Int) < (m : Int) := by omega
        have hy2 : decide ((j2 : Int) < (m : Int)) = false := decide_eq_false hy
        have CL := Lib.hid (less_run wr g n cap l' H0.out.row j i (by omega) (by omega) (by omega))
        have ML := method_less H0.out.cell
        by_cases hlt : rkl l' j < rkl l' i
        · rw [decide_eq_true hlt] at CL
          go_wp2_with fail
          refine CL.out.mono ?_
          rintro _ w3 ⟨rfl, q3, hq3⟩
          have H3 : Aside (Hp w0 b g cap n l' w3) := by rw [hq3]; exact H0.out.drewN q3
          have CS := Lib.hid (swap_any w3 g n cap l' H3.out.row i j (by omega) (by omega) (by omega))
          have MS := method_swap H3.out.cell
          have HL : Aside (rkl l' j < rkl l' i) := hlt
          clear CL ML hq3 hlt H0
          go_wp2_with fail
          refine CS.out.mono ?_
          rintro _ w4 ⟨rfl, hr4, hg4⟩
          have H4 : Aside (Hp w0 b g cap n (sw l' i j) w4) := H3.out.next hr4 hg4
          clear CS MS hr4 hg4
          go_wp2
          go_roundg (m - j)
          case measure => omega
          case rel => exact ⟨j, by go_num, by omega, by omega, down_next HS2.out H3.out H4.out (by omega) hm HL.out (pick1 HJ.out (by omega) (fun h => absurd h h2))⟩
        · rw [decide_eq_false hlt] at CL
          go_wp2_with fail
          refine CL.out.mono ?_
          rintro _ w3 ⟨rfl, q3, hq3⟩
          have H3 : Aside (Hp w0 b g cap n l' w3) := by rw [hq3]; exact H0.out.drewN q3
          have HL : Aside (¬ rkl l' j < rkl l' i) := hlt
          clear CL ML hq3 hlt H0
          go_wp2
          go_ret
          exact ⟨_, rfl, down_end HS2.out H3.out (by omega) HL.out (pick1 HJ.out (by omega) (fun h => absurd h h2))⟩
end Go.Proofs.Ytjjaaahoophgpaa
