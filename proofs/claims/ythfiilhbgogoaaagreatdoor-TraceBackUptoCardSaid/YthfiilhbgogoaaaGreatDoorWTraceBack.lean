/-
  Effects' text is parsed as them; what is parsed is written as that text: the walk.
-/
import Derived.Test.YthfiilhbgogoaaaGreatDoorJn
import Derived.Test.YthfiilhbgogoaaaGreatDoorTalive
import Derived.Test.YthfiilhbgogoaaaGreatDoorParse
import Derived.Test.YthfiilhbgogoaaaGreatDoorSame2
namespace Go.Proofs.YthfiilhbgogoaaaGreatDoor
open Go.RowKit Go.Lib
set_option linter.unusedVariables false

/-- What is known of a slice of effects that is handed in. -/
structure Jk (w : World) (a : Option Addr) (c : Nat) (L : List Ev) : Prop where
  er : Er w a L
  att : ∀ x ∈ L, Ok x.f x.m x.t ∧ x.n ≤ 9223372036854775807
  bk : bulk L ≤ 1048576
/-! ### Texts that are parsed -/
theorem spl_txt : ∀ (Y : List (Nat × Ef)), (∀ y ∈ Y, Lean1 y) → spl 10 (txt Y) = Y.map lineOf ++ [[]]
  | [], _ => rfl
  | y :: Y, h => by
    rw [txt_cons, spl_app _ (lineOf_ten (h y (by simp))), spl_txt Y (fun z hz => h z (by simp [hz]))]
    rfl
theorem fm_pieces {L : List Ev} (h : (fm L).2 = 0) (hx : ∀ x ∈ L, (lnE x).1.length ≤ 9000) : ∀ p ∈ spl 10 (fm L).1, p.length ≤ 100000 := by
  rcases fm_cases L with ⟨hp, e⟩ | ⟨_, _, e⟩
  · have hm := Mts.efo hp
    have hl : ∀ y ∈ L.map efo, Lean1 y := by
      intro y hy
      obtain ⟨x, hx1, rfl⟩ := List.mem_map.1 hy
      exact (lnE_ok (hp x hx1)).2.1
    rw [e, (lnT_txt hm hl).2, spl_txt _ hl]
    intro p hp2
    rcases List.mem_append.1 hp2 with h1 | h1
    · obtain ⟨y, hy, rfl⟩ := List.mem_map.1 h1
      obtain ⟨x, hx1, rfl⟩ := List.mem_map.1 hy
      rw [← (lnE_ok (hp x hx1)).1]
      have := hx x hx1
      omega
    · rw [List.mem_singleton.1 h1]
      simp
  · exact absurd h e
theorem spl_short (c : UInt8) : ∀ l, ∀ p ∈ spl c l, p.length ≤ l.length
  | [], p, hp => by simp [spl] at hp; subst hp; simp
  | x :: l, p, hp => by
    have ih := spl_short c l
    unfold spl at hp
    by_cases g : x = c
    · rw [if_pos g] at hp
      rcases List.mem_cons.1 hp with rfl | h
      · simp
      · have := ih p h
        simp
        omega
    · rw [if_neg g] at hp
      cases e : spl c l with
      | nil => exact absurd e (spl_ne c l)
      | cons h t =>
        rw [e] at hp ih
        simp only at hp
        rcases List.mem_cons.1 hp with rfl | h2
        · have := ih h (by simp)
          simp
          omega
        · have := ih p (by simp [h2])
          simp
          omega
theorem prs_le : ∀ (R : List (List UInt8)) (n : Nat), (prs R n).2 ≤ n + R.length
  | [], n => by simp [prs]
  | [p], n => by
    unfold prs
    split <;> simp
  | p :: q :: r, n => by
    unfold prs
    split
    · simp
    · have := prs_le (q :: r) (n + 1)
      simp only [List.length_cons] at this ⊢
      omega
theorem spl_count (c : UInt8) : ∀ l, (spl c l).length ≤ l.length + 1
  | [] => by simp [spl]
  | x :: l => by
    have ih := spl_count c l
    unfold spl
    by_cases g : x = c
    · rw [if_pos g]
      simp
      omega
    · rw [if_neg g]
      cases e : spl c l with
      | nil => simp
      | cons h t =>
        rw [e] at ih
        simp at ih ⊢
        omega
theorem txt_mem : ∀ {Y : List (Nat × Ef)} {y : Nat × Ef}, y ∈ Y → (lineOf y).length + 1 ≤ (txt Y).length
  | z :: Y, y, h => by
    rw [txt_cons, List.length_append, List.length_cons]
    rcases List.mem_cons.1 h with rfl | h
    · omega
    · have := txt_mem h
      omega
theorem txt_count : ∀ (Y : List (Nat × Ef)), Y.length ≤ (txt Y).length
  | [] => by simp
  | z :: Y => by
    have := txt_count Y
    rw [txt_cons, List.length_append, List.length_cons, List.length_cons]
    omega
theorem line_data {y : Nat × Ef} (h : Lean1 y) : y.2.d.length ≤ (lineOf y).length := by
  obtain ⟨i, f, m, t, d, n, ok⟩ := y
  have hx : d.length ≤ (hext d).length := by
    cases d with
    | nil => simp
    | cons a d =>
      have e : hext (a :: d) = hexs (a :: d) := rfl
      rw [e, hexs_len]
      omega
  have hi : i < 7 := by
    rcases i with _ | _ | _ | _ | _ | _ | _ | i
    all_goals first | omega | exact h.elim
  rcases (by omega : i = 0 ∨ i = 1 ∨ i = 2 ∨ i = 3 ∨ i = 4 ∨ i = 5 ∨ i = 6) with rfl | rfl | rfl | rfl | rfl | rfl | rfl
  · obtain ⟨rfl, _⟩ := h; simp
  · obtain ⟨rfl, _⟩ := h; simp
  · simp [lineOf]
    omega
  · obtain ⟨_, _, _, rfl⟩ := h; simp
  · obtain ⟨_, _, _, rfl, _⟩ := h; simp
  · obtain ⟨_, _, _, rfl, _⟩ := h; simp
  · obtain ⟨_, _, _, rfl, _⟩ := h; simp
/-- What was parsed may be written. -/
theorem parsed_fine {M : List Ev} {Y : List (Nat × Ef)} {s : List UInt8} {k : Nat} (hs : s.length ≤ 2000) (h : prs (spl 10 s) 0 = (some Y, k)) (hm : Mts M Y) :
    M.length ≤ 10000 ∧ ∀ x ∈ M, Ok x.f x.m x.t ∧ x.n ≤ 9223372036854775807 ∧ x.l.length ≤ 100000 ∧ (lnE x).1.length ≤ 9000 := by
  obtain ⟨h1, h2, _⟩ := prs_sound h
  have hc := txt_count Y
  rw [← h1] at hc
  refine ⟨by rw [hm.1]; omega, fun x hx => ?_⟩
  obtain ⟨i, hi, e⟩ := List.getElem_of_mem hx
  have hiY : i < Y.length := by rw [← hm.1]; exact hi
  have q := hm.2 i x Y[i] (by rw [List.getElem?_eq_getElem hi, e]) (List.getElem?_eq_getElem hiY)
  have hy := h2 _ (List.getElem_mem hiY)
  generalize hyy : Y[i] = y at *
  have hmem : y ∈ Y := by rw [← hyy]; exact List.getElem_mem hiY
  have hl := txt_mem hmem
  rw [← h1] at hl
  have hd := line_data hy.1
  have hn := hy.2.2
  refine ⟨by rw [q.f, q.m, q.t]; exact hy.2.1, by rw [q.n]; omega, by rw [q.l]; omega, ?_⟩
  rw [lnE_of q hy.1]
  dsimp only
  omega

/-! ### The walk -/
set_option maxHeartbeats 1000000 in
set_option maxRecDepth 100000 in
theorem back_great (a : Option Addr) (c : Nat) (L : List Ev) (s : List UInt8) (w : World) (hA : Jk w a c L) (h : 1500 < bulk L) (hT : Tabs w) : Calls Tryz.prog 4 #[.slice a L.length c, .string (st s)] w (Truth w) := by
  have HT : Aside (Tabs w ∧ Jk w a c L) := ⟨hT, hA⟩
  have KA : Hid (∀ W, Stp [] w [] W → Calls Tryz.prog 5 #[] W (Tells (.bool true) W)) := Lib.hid fun W hs => talive_run W (HT.out.1.stays hs)
  have KG : Hid (∀ W, Stp [] w [] W → Calls Tryz.prog 6 #[.slice a L.length c] W (Tells (.bool (decide (1500 < bulk L))) W)) := Lib.hid fun W hs => tgreat_run a c L W (HT.out.2.er.stays hs) (by have := HT.out.2.bk; omega)
  rw [decide_eq_true h] at KG
  clear hA hT h
  go_enter Tryz.func4, Tryz.ntmps4
  go_wp2_with fail
  refine (KA.out _ (Stp.refl _ _)).mono ?_
  rintro _ w1 ⟨rfl, h1⟩
  go_wp2_with fail
  refine (KG.out _ h1).mono ?_
  rintro _ w2 ⟨rfl, h2⟩
  have H2 : Aside (Stp [] w [] w2) := h1.trans h2
  clear h1 h2
  go_wp2_with (go_at_call 5; refine (KA.out _ H2.out).mono ?_; rintro _ w3 ⟨rfl, h3⟩)
  go_ret
  exact ⟨rfl, (H2.out.trans h3).under⟩
set_option maxHeartbeats 1000000 in
set_option maxRecDepth 100000 in
theorem back_long (a : Option Addr) (c : Nat) (L : List Ev) (s : List UInt8) (w : World) (hA : Jk w a c L) (h : ¬ 1500 < bulk L) (hs : 2000 < s.length) (hT : Tabs w) : Calls Tryz.prog 4 #[.slice a L.length c, .string (st s)] w (Truth w) := by
  have HT : Aside (Tabs w ∧ Jk w a c L) := ⟨hT, hA⟩
  have KA : Hid (∀ W, Stp [] w [] W → Calls Tryz.prog 5 #[] W (Tells (.bool true) W)) := Lib.hid fun W hs => talive_run W (HT.out.1.stays hs)
  have KG : Hid (∀ W, Stp [] w [] W → Calls Tryz.prog 6 #[.slice a L.length c] W (Tells (.bool (decide (1500 < bulk L))) W)) := Lib.hid fun W hs => tgreat_run a c L W (HT.out.2.er.stays hs) (by have := HT.out.2.bk; omega)
  rw [decide_eq_false h] at KG
  have hsz := st_size s
  have hl : (2000 : Int) < (s.length : Int) := by omega
  clear hA hT h hs
  go_enter Tryz.func4, Tryz.ntmps4
  go_wp2_with fail
  refine (KA.out _ (Stp.refl _ _)).mono ?_
  rintro _ w1 ⟨rfl, h1⟩
  go_wp2_with fail
  refine (KG.out _ h1).mono ?_
  rintro _ w2 ⟨rfl, h2⟩
  have H2 : Aside (Stp [] w [] w2) := h1.trans h2
  clear h1 h2
  go_wp2_with (go_at_call 5; refine (KA.out _ H2.out).mono ?_; rintro _ w3 ⟨rfl, h3⟩)
  go_ret
  exact ⟨rfl, (H2.out.trans h3).under⟩
set_option maxHeartbeats 2000000 in
set_option maxRecDepth 100000 in
theorem back_small (a : Option Addr) (c : Nat) (L : List Ev) (s : List UInt8) (w : World) (hA : Jk w a c L) (h : ¬ 1500 < bulk L) (hs : ¬ 2000 < s.length) (hT : Tabs w) : Calls Tryz.prog 4 #[.slice a L.length c, .string (st s)] w (Truth w) := by
  have HT : Aside (Tabs w ∧ Jk w a c L) := ⟨hT, hA⟩
  have KA : Hid (∀ W, Stp [] w [] W → Calls Tryz.prog 5 #[] W (Tells (.bool true) W)) := Lib.hid fun W hs => talive_run W (HT.out.1.stays hs)
  have KG : Hid (∀ W, Stp [] w [] W → Calls Tryz.prog 6 #[.slice a L.length c] W (Tells (.bool (decide (1500 < bulk L))) W)) := Lib.hid fun W hs => tgreat_run a c L W (HT.out.2.er.stays hs) (by have := HT.out.2.bk; omega)
  rw [decide_eq_false h] at KG
  have hlb := bulk_len L
  have HL : Aside (bulk L ≤ 1500 ∧ L.length ≤ 1500 ∧ s.length ≤ 2000 ∧ ∀ x ∈ L, (lnE x).1.length ≤ 9000 ∧ x.l.length ≤ 1500) := ⟨by omega, by omega, by omega, fun x hx => by
    have h1 := bulk_mem hx
    have h2 := HT.out.2.att x hx
    exact ⟨lnE_len x h2.1 h2.2 (by omega), by omega⟩⟩
  have KF : Hid (∀ W, Stp [] w [] W → Calls Tryz.prog 7 #[.slice a L.length c] W (Tells (.tuple #[.string (st (fm L).1), .int .i64 (fm L).2]) W)) := Lib.hid fun W hs =>
    format_run a c L W (HT.out.1.stays hs) (HT.out.2.er.stays hs) (by have := HL.out.2.1; omega) (fun x hx => ⟨(HT.out.2.att x hx).1, (HT.out.2.att x hx).2, by have := (HL.out.2.2.2 x hx).2; omega, (HL.out.2.2.2 x hx).1⟩)
  have KP : Hid (∀ W, Stp [] w [] W → Calls Tryz.prog 9 #[.string (st s)] W (ParTo (prs (spl 10 s) 0) W)) := Lib.hid fun W hs =>
    parse_run s W (HT.out.1.stays hs) (by have := HL.out.2.2.1; omega) (fun p hp => by have h1 := spl_short 10 s p hp; have := HL.out.2.2.1; omega) (by have h1 := prs_le (spl 10 s) 0; have h2 := spl_count 10 s; have := HL.out.2.2.1; omega)
  have hsz := st_size s
  have hsl : ¬ (2000 : Int) < (s.length : Int) := by omega
  clear hA hT h hs hlb
  go_enter Tryz.func4, Tryz.ntmps4
  go_wp2_with fail
  refine (KA.out _ (Stp.refl _ _)).mono ?_
  rintro _ w1 ⟨rfl, h1⟩
  go_wp2_with fail
  refine (KG.out _ h1).mono ?_
  rintro _ w2 ⟨rfl, h2⟩
  have H2 : Aside (Stp [] w [] w2) := h1.trans h2
  clear h1 h2 KA KG
  go_wp2_with fail
  go_loopg [31] L.length (fun gk vi wr => ∃ i : Nat, vi = .int .i64 (i : Int) ∧ i ≤ L.length ∧ L.length - i ≤ gk ∧ Aside (Stp [] w [] wr ∧ ∀ x ∈ L.take i, x.n ≤ 576460752303423488))
  case atStart => exact ⟨0, rfl, Nat.zero_le _, by omega, H2.out, fun x hx => by simp at hx⟩
  case round =>
    obtain ⟨i, rfl, hi, hg, HS⟩ := hrel
    by_cases hlt : i < L.length
    · have hltz : (i : Int) < (L.length : Int) := by omega
      have hLb := HL.out.2.1
      obtain ⟨x, hx⟩ : ∃ x, L[i]? = some x := ⟨L[i], List.getElem?_eq_getElem hlt⟩
      obtain ⟨b, off, ha, hc⟩ := HT.out.2.er.2 (fun e => by simp [e] at hlt)
      subst ha
      obtain ⟨e0, e1, e2, e3, e4, e5, e6⟩ := (hc i x hx).stays HS.out.1
      have HX : Aside (L[i]? = some x ∧ i < L.length) := ⟨hx, hlt⟩
      by_cases hn : (576460752303423488 : Int) < x.n
      · clear hc hx hlt
        go_wp2
        go_ret
        exact ⟨rfl, (HS.out.1.trans (Stp.alloc [] _ _)).under⟩
      · have HN : Aside (x.n ≤ 576460752303423488) := by show x.n ≤ _; omega
        have H5 : Aside (∀ o, Stp [] w [] (wr.alloc o)) := fun o => HS.out.1.trans (Stp.alloc [] _ _)
        clear hc hx hlt
        go_wp2
        go_roundg (L.length - (i + 1))
        case measure => have := HX.out.2; omega
        case rel =>
          have hb6 := HX.out.2
          refine ⟨i + 1, by go_num, by omega, by omega, H5.out _, fun y hy => ?_⟩
          obtain ⟨h1, h2⟩ := List.getElem?_eq_some_iff.1 HX.out.1
          rw [List.take_succ_eq_append_getElem h1, h2] at hy
          rcases List.mem_append.1 hy with h | h
          · exact HS.out.2 y h
          · rw [List.mem_singleton.1 h]
            exact HN.out
    · have hltz : ¬ (i : Int) < (L.length : Int) := by omega
      obtain rfl : i = L.length := by omega
      have HN : Aside (∀ x ∈ L, x.n ≤ 576460752303423488) := by
        have := HS.out.2
        rwa [List.take_length] at this
      by_cases he : (fm L).2 = 0
      · have hq := prs_fm he (fun x hx => ⟨(HT.out.2.att x hx).1, by have := HN.out x hx; omega⟩)
        have KT : Hid (∀ W, Stp [] w [] W → Calls Tryz.prog 9 #[.string (st (fm L).1)] W (ParTo (some (L.map efo), L.length) W)) := Lib.hid fun W hs => by
          have k := parse_run (fm L).1 W (HT.out.1.stays hs) (by have h1 := fm_len L (fun x hx => (HL.out.2.2.2 x hx).1); have h2 : L.length * 9001 ≤ 1500 * 9001 := Nat.mul_le_mul_right 9001 HL.out.2.1; omega) (fm_pieces he (fun x hx => (HL.out.2.2.2 x hx).1)) (by rw [hq.1]; have := HL.out.2.1; dsimp only; omega)
          rwa [hq.1] at k
        have HQ : Aside (Mts L (L.map efo)) := hq.2
        rw [he] at KF
        clear hq he hltz
        go_wp2_with fail
        refine (KF.out _ HS.out.1).mono ?_
        rintro _ w5 ⟨rfl, h5⟩
        have H5 : Aside (Stp [] w [] w5) := HS.out.1.trans h5
        clear h5 KF HS
        generalize (fm L).1 = T at *
        go_wp2_with fail
        refine (KT.out _ H5.out).mono ?_
        rintro _ w6 ⟨h6, a6, c6, M, rfl, hM, hmt⟩
        have H6 : Aside (Stp [] w [] w6 ∧ Er w6 a6 M ∧ Alks L M) := ⟨H5.out.trans h6, hM, HQ.out.alks hmt⟩
        have KS : Hid (∀ W, Stp [] w6 [] W → Calls Tryz.prog 12 #[.slice a L.length c, .slice a6 M.length c6] W (Tells (.bool true) W)) := Lib.hid fun W hs => by
          rw [H6.out.2.2.1]
          exact same2_run a a6 c c6 L M W (HT.out.2.er.stays (H6.out.1.trans hs)) (H6.out.2.1.stays hs) H6.out.2.2 (by have := HL.out.2.1; omega)
        have hln : ((L.length : Int) != (L.length : Int)) = false := by simp
        clear h6 hM hmt KT H5 HQ
        go_wp2_with fail
        refine (KS.out _ (Stp.refl _ _)).mono ?_
        rintro _ w7 ⟨rfl, h7⟩
        have H7 : Aside (Stp [] w [] w7) := H6.out.1.trans h7
        clear h7 KS H6
        obtain ⟨r, hr⟩ : ∃ r, prs (spl 10 s) 0 = r := ⟨_, rfl⟩
        obtain ⟨o, kk⟩ := r
        rw [hr] at KP
        have HR := Lib.hid hr
        clear hr
        cases o with
        | none =>
          go_wp2_with fail
          refine (KP.out _ H7.out).mono ?_
          rintro _ w8 ⟨h8, rfl⟩
          have H8 : Aside (Stp [] w [] w8) := H7.out.trans h8
          clear h8 KP H7
          go_wp2
          go_ret
          exact ⟨rfl, H8.out.under⟩
        | some Y =>
          go_wp2_with fail
          refine (KP.out _ H7.out).mono ?_
          rintro _ w8 ⟨h8, a8, c8, M8, rfl, hM8, hm8⟩
          have H8 : Aside (Stp [] w [] w8 ∧ Er w8 a8 M8) := ⟨H7.out.trans h8, hM8⟩
          have hfine := parsed_fine HL.out.2.2.1 HR.out hm8
          have hfm := fm_prs HR.out hm8
          have KF8 := format_run a8 c8 M8 w8 (HT.out.1.stays H8.out.1) hM8 hfine.1 hfine.2
          rw [hfm] at KF8
          have KF8 := Lib.hid KF8
          have ht := beq_self_eq_true (st s).toList
          clear h8 KP H7 hM8 hm8 hfine hfm
          go_wp2_with fail
          refine KF8.out.mono ?_
          rintro _ w9 ⟨rfl, h9⟩
          have H9 : Aside (Stp [] w [] w9) := H8.out.1.trans h9
          clear h9 KF8 H8
          go_wp2
          go_ret
          exact ⟨rfl, H9.out.under⟩
      · have heb : ((fm L).2 == 0) = false := beq_eq_false_iff_ne.2 he
        clear he hltz
        generalize (fm L).1 = T at *
        generalize (fm L).2 = ez at *
        go_wp2_with fail
        refine (KF.out _ HS.out.1).mono ?_
        rintro _ w7 ⟨rfl, h7⟩
        have H7 : Aside (Stp [] w [] w7) := HS.out.1.trans h7
        clear h7 KF HS
        obtain ⟨r, hr⟩ : ∃ r, prs (spl 10 s) 0 = r := ⟨_, rfl⟩
        obtain ⟨o, kk⟩ := r
        rw [hr] at KP
        have HR := Lib.hid hr
        clear hr
        cases o with
        | none =>
          go_wp2_with fail
          refine (KP.out _ H7.out).mono ?_
          rintro _ w8 ⟨h8, rfl⟩
          have H8 : Aside (Stp [] w [] w8) := H7.out.trans h8
          clear h8 KP H7
          go_wp2
          go_ret
          exact ⟨rfl, H8.out.under⟩
        | some Y =>
          go_wp2_with fail
          refine (KP.out _ H7.out).mono ?_
          rintro _ w8 ⟨h8, a8, c8, M8, rfl, hM8, hm8⟩
          have H8 : Aside (Stp [] w [] w8 ∧ Er w8 a8 M8) := ⟨H7.out.trans h8, hM8⟩
          have hfine := parsed_fine HL.out.2.2.1 HR.out hm8
          have hfm := fm_prs HR.out hm8
          have KF8 := format_run a8 c8 M8 w8 (HT.out.1.stays H8.out.1) hM8 hfine.1 hfine.2
          rw [hfm] at KF8
          have KF8 := Lib.hid KF8
          have ht := beq_self_eq_true (st s).toList
          clear h8 KP H7 hM8 hm8 hfine hfm
          go_wp2_with fail
          refine KF8.out.mono ?_
          rintro _ w9 ⟨rfl, h9⟩
          have H9 : Aside (Stp [] w [] w9) := H8.out.1.trans h9
          clear h9 KF8 H8
          go_wp2
          go_ret
          exact ⟨rfl, H9.out.under⟩
theorem back_walk (a : Option Addr) (c : Nat) (L : List Ev) (s : List UInt8) (w : World) (hA : Jk w a c L) (hT : Tabs w) : Calls Tryz.prog 4 #[.slice a L.length c, .string (st s)] w (Truth w) := by
  by_cases h : 1500 < bulk L
  · exact back_great a c L s w hA h hT
  · by_cases hs : 2000 < s.length
    · exact back_long a c L s w hA h hs hT
    · exact back_small a c L s w hA h hs hT
theorem back_truth (a : Option Addr) (c : Nat) (L : List Ev) (s : ByteArray) (w : World) (hA : Jk w a c L) (hT : Tabs w) : Calls Tryz.prog 4 #[.slice a L.length c, .string s] w (Truth w) := by
  have h := back_walk a c L s.data.toList w hA hT
  rwa [st_of] at h
end Go.Proofs.YthfiilhbgogoaaaGreatDoor
