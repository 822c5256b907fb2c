/-
  Of any effects the text, of any text the effects, whether two rows are the same, what was written: the program's and the document's: the walk.
-/
import Derived.Test.YthfiilhbgogoaaaGreatDoorTalive
import Derived.Test.YthfiilhbgogoaaaGreatDoorSame3
namespace Go.Proofs.YthfiilhbgogoaaaGreatDoor
open Go.RowKit Go.Lib
set_option linter.unusedVariables false

/-- What is known of a slice of effects that is handed in. -/
structure Jk (w : World) (a : Option Addr) (c : Nat) (L : List Ev) : Prop where
  er : Er w a L
  att : ∀ x ∈ L, Ok x.f x.m x.t ∧ x.n ≤ 9223372036854775807
  bk : bulk L ≤ 1048576
theorem spl_short (c : UInt8) : ∀ l, ∀ p ∈ spl c l, p.length ≤ l.length
  | [], p, hp => by simp [spl] at hp; subst hp; simp
  | x :: l, p, hp => by
    have ih := spl_short c l
    unfold spl at hp
    by_cases g : x = c
    · rw [if_pos g] at hp
      rcases List.mem_cons.1 hp with rfl | h
      · simp
      · have := ih p h
        simp
        omega
    · rw [if_neg g] at hp
      cases e : spl c l with
      | nil => exact absurd e (spl_ne c l)
      | cons h t =>
        rw [e] at hp ih
        simp only at hp
        rcases List.mem_cons.1 hp with rfl | h2
        · have := ih h (by simp)
          simp
          omega
        · have := ih p (by simp [h2])
          simp
          omega
theorem prs_le : ∀ (R : List (List UInt8)) (n : Nat), (prs R n).2 ≤ n + R.length
  | [], n => by simp [prs]
  | [p], n => by
    unfold prs
    split <;> simp
  | p :: q :: r, n => by
    unfold prs
    split
    · simp
    · have := prs_le (q :: r) (n + 1)
      simp only [List.length_cons] at this ⊢
      omega
theorem spl_count (c : UInt8) : ∀ l, (spl c l).length ≤ l.length + 1
  | [] => by simp [spl]
  | x :: l => by
    have ih := spl_count c l
    unfold spl
    by_cases g : x = c
    · rw [if_pos g]
      simp
      omega
    · rw [if_neg g]
      cases e : spl c l with
      | nil => simp
      | cons h t =>
        rw [e] at ih
        simp at ih ⊢
        omega
/-- What both parsers answer, in one form. -/
def rcode (o : Option (List (Nat × Ef))) : Int := match o with
  | none => 8
  | some _ => 0
def PV (o : Option (List (Nat × Ef))) (W : World) (v : Value) : Prop := match o with
  | none => v = .slice none 0 0
  | some Y => ∃ a cap L, v = .slice a L.length cap ∧ Er W a L ∧ Mts L Y
theorem PV.stays {o : Option (List (Nat × Ef))} {W W' : World} {F : List Nat} {v : Value} (h : PV o W v) (hs : Stp [] W F W') : PV o W' v := by
  cases o with
  | none => exact h
  | some Y =>
    obtain ⟨a, cap, L, e, h1, h2⟩ := h
    exact ⟨a, cap, L, e, h1.stays hs, h2⟩
theorem ParTo.uni {r : Option (List (Nat × Ef)) × Nat} {w w' : World} {e : Ending} (h : ParTo r w e w') : ∃ v, e = .returned (.tuple #[v, .int .i64 (r.2 : Int), .int .i64 (rcode r.1)]) ∧ PV r.1 w' v ∧ Stp [] w [] w' := by
  obtain ⟨hs, hm⟩ := h
  obtain ⟨o, k⟩ := r
  cases o with
  | none => exact ⟨_, hm, rfl, hs⟩
  | some Y =>
    obtain ⟨a, cap, L, e1, h1, h2⟩ := hm
    exact ⟨_, e1, ⟨a, cap, L, rfl, h1, h2⟩, hs⟩
theorem mts_smes : ∀ {L M : List Ev} {Y : List (Nat × Ef)}, Mts L Y → Mts M Y → smes L M = true
  | [], [], _, _, _ => rfl
  | x :: L, y :: M, z :: Y, h, k => by
    obtain ⟨a1, a2⟩ := h.cons
    obtain ⟨b1, b2⟩ := k.cons
    simp only [smes, Bool.and_eq_true]
    refine ⟨?_, mts_smes a2 b2⟩
    unfold sme
    rw [a1.k, a1.f, a1.m, a1.t, a1.l, a1.n, a1.ok, b1.k, b1.f, b1.m, b1.t, b1.l, b1.n, b1.ok]
    simp
  | [], y :: M, Y, h, k => by
    have h1 := h.1
    have h2 := k.1
    simp at h1 h2
    omega
  | x :: L, [], Y, h, k => by
    have h1 := h.1
    have h2 := k.1
    simp at h1 h2
    omega
  | x :: L, y :: M, [], h, k => by
    have h1 := h.1
    simp at h1
theorem same_pv {o : Option (List (Nat × Ef))} {v v' : Value} {W : World} (hk : ∀ Y, o = some Y → Y.length ≤ 100000) (h : PV o W v) (h' : PV o W v') : Calls Tryz.prog 11 #[v, v'] W (Tells (.bool true) W) := by
  cases o with
  | none =>
    have e1 : v = .slice none 0 0 := h
    have e2 : v' = .slice none 0 0 := h'
    subst e1 e2
    have hn : Er W none [] := ⟨(fun x hx => by cases hx), fun h => absurd rfl h⟩
    exact rsame_run none none 0 0 [] [] W hn hn (by simp) (by simp)
  | some Y =>
    obtain ⟨a, cap, L, rfl, h1, h2⟩ := h
    obtain ⟨a', cap', M, rfl, k1, k2⟩ := h'
    have hy := hk Y rfl
    have := rsame_run a a' cap cap' L M W h1 k1 (by rw [h2.1]; exact hy) (by rw [k2.1]; exact hy)
    rwa [mts_smes h2 k2] at this
/-- What both Written answer. -/
def WrTo (wl : Nat) (S : ByteArray) (W : World) (e : Ending) (w' : World) : Prop := ∃ a5 c5, e = .returned (.slice a5 wl c5) ∧ (∀ W', Stp [] w' [] W' → (convert 35 9 (.slice a5 wl c5)).run Tryz.prog W' = .ok (.string S) W') ∧ Stp [] W [] w'
theorem Wrt.to {l : List UInt8} {W w' : World} {e : Ending} (h : Wrt l W e w') : WrTo l.length (st l) W e w' := by
  obtain ⟨v, he, ho, h5⟩ := h
  obtain ⟨a5, c5, hv, hb5, _⟩ := ho.bts
  exact ⟨a5, c5, by rw [he, hv], fun W' hs => conv_bts c5 _ (hb5.stays hs) rfl, h5⟩

/-! ### The walk -/
set_option maxHeartbeats 4000000 in
set_option maxRecDepth 100000 in
theorem texts_great_a (a b : Option Addr) (ca cb : Nat) (A B : List Ev) (s : List UInt8) (w : World) (hA : Jk w a ca A) (hB : Jk w b cb B) (h : 1500 < bulk A) (hT : Tabs w) : Calls Tryz.prog 3 #[.slice a A.length ca, .slice b B.length cb, .string (st s)] w (Truth w) := by
  have HT : Aside (Tabs w ∧ Jk w a ca A ∧ Jk w b cb B) := ⟨hT, hA, hB⟩
  have KA : Hid (∀ W, Stp [] w [] W → Calls Tryz.prog 5 #[] W (Tells (.bool true) W)) := Lib.hid fun W hs => talive_run W (HT.out.1.stays hs)
  have KG : Hid (∀ W, Stp [] w [] W → Calls Tryz.prog 6 #[.slice a A.length ca] W (Tells (.bool (decide (1500 < bulk A))) W)) := Lib.hid fun W hs => tgreat_run a ca A W (HT.out.2.1.er.stays hs) (by have := HT.out.2.1.bk; omega)
  have KH : Hid (∀ W, Stp [] w [] W → Calls Tryz.prog 6 #[.slice b B.length cb] W (Tells (.bool (decide (1500 < bulk B))) W)) := Lib.hid fun W hs => tgreat_run b cb B W (HT.out.2.2.er.stays hs) (by have := HT.out.2.2.bk; omega)
  rw [decide_eq_true h] at KG
  clear hA hB hT h KH
  go_enter Tryz.func3, Tryz.ntmps3
  go_wp2_with fail
  refine (KA.out _ (Stp.refl _ _)).mono ?_
  rintro _ w1 ⟨rfl, h1⟩
  go_wp2_with fail
  refine (KG.out _ h1).mono ?_
  rintro _ w2 ⟨rfl, h2⟩
  have H2 : Aside (Stp [] w [] w2) := h1.trans h2
  clear h1 h2
  go_wp2_with (go_at_call 5; refine (KA.out _ H2.out).mono ?_; rintro _ w9 ⟨rfl, h9⟩)
  go_ret
  exact ⟨rfl, (H2.out.trans h9).under⟩
set_option maxHeartbeats 4000000 in
set_option maxRecDepth 100000 in
theorem texts_great_b (a b : Option Addr) (ca cb : Nat) (A B : List Ev) (s : List UInt8) (w : World) (hA : Jk w a ca A) (hB : Jk w b cb B) (h1 : ¬ 1500 < bulk A) (h : 1500 < bulk B) (hT : Tabs w) : Calls Tryz.prog 3 #[.slice a A.length ca, .slice b B.length cb, .string (st s)] w (Truth w) := by
  have HT : Aside (Tabs w ∧ Jk w a ca A ∧ Jk w b cb B) := ⟨hT, hA, hB⟩
  have KA : Hid (∀ W, Stp [] w [] W → Calls Tryz.prog 5 #[] W (Tells (.bool true) W)) := Lib.hid fun W hs => talive_run W (HT.out.1.stays hs)
  have KG : Hid (∀ W, Stp [] w [] W → Calls Tryz.prog 6 #[.slice a A.length ca] W (Tells (.bool (decide (1500 < bulk A))) W)) := Lib.hid fun W hs => tgreat_run a ca A W (HT.out.2.1.er.stays hs) (by have := HT.out.2.1.bk; omega)
  have KH : Hid (∀ W, Stp [] w [] W → Calls Tryz.prog 6 #[.slice b B.length cb] W (Tells (.bool (decide (1500 < bulk B))) W)) := Lib.hid fun W hs => tgreat_run b cb B W (HT.out.2.2.er.stays hs) (by have := HT.out.2.2.bk; omega)
  rw [decide_eq_false h1] at KG
  rw [decide_eq_true h] at KH
  clear hA hB hT h h1
  go_enter Tryz.func3, Tryz.ntmps3
  go_wp2_with fail
  refine (KA.out _ (Stp.refl _ _)).mono ?_
  rintro _ w1 ⟨rfl, h1⟩
  go_wp2_with fail
  refine (KG.out _ h1).mono ?_
  rintro _ w2 ⟨rfl, h2⟩
  have H2 : Aside (Stp [] w [] w2) := h1.trans h2
  clear h1 h2
  go_wp2_with fail
  refine (KH.out _ H2.out).mono ?_
  rintro _ w3 ⟨rfl, h3⟩
  have H3 : Aside (Stp [] w [] w3) := H2.out.trans h3
  clear h3
  go_wp2_with (go_at_call 5; refine (KA.out _ H3.out).mono ?_; rintro _ w9 ⟨rfl, h9⟩)
  go_ret
  exact ⟨rfl, (H3.out.trans h9).under⟩
set_option maxHeartbeats 4000000 in
set_option maxRecDepth 100000 in
theorem texts_long (a b : Option Addr) (ca cb : Nat) (A B : List Ev) (s : List UInt8) (w : World) (hA : Jk w a ca A) (hB : Jk w b cb B) (h1 : ¬ 1500 < bulk A) (h2 : ¬ 1500 < bulk B) (h3 : 2000 < s.length) (hT : Tabs w) : Calls Tryz.prog 3 #[.slice a A.length ca, .slice b B.length cb, .string (st s)] w (Truth w) := by
  have HT : Aside (Tabs w ∧ Jk w a ca A ∧ Jk w b cb B) := ⟨hT, hA, hB⟩
  have KA : Hid (∀ W, Stp [] w [] W → Calls Tryz.prog 5 #[] W (Tells (.bool true) W)) := Lib.hid fun W hs => talive_run W (HT.out.1.stays hs)
  have KG : Hid (∀ W, Stp [] w [] W → Calls Tryz.prog 6 #[.slice a A.length ca] W (Tells (.bool (decide (1500 < bulk A))) W)) := Lib.hid fun W hs => tgreat_run a ca A W (HT.out.2.1.er.stays hs) (by have := HT.out.2.1.bk; omega)
  have KH : Hid (∀ W, Stp [] w [] W → Calls Tryz.prog 6 #[.slice b B.length cb] W (Tells (.bool (decide (1500 < bulk B))) W)) := Lib.hid fun W hs => tgreat_run b cb B W (HT.out.2.2.er.stays hs) (by have := HT.out.2.2.bk; omega)
  rw [decide_eq_false h1] at KG
  rw [decide_eq_false h2] at KH
  have hsz := st_size s
  have hl : (2000 : Int) < (s.length : Int) := by omega
  clear hA hB hT h1 h2 h3
  go_enter Tryz.func3, Tryz.ntmps3
  go_wp2_with fail
  refine (KA.out _ (Stp.refl _ _)).mono ?_
  rintro _ w1 ⟨rfl, h1⟩
  go_wp2_with fail
  refine (KG.out _ h1).mono ?_
  rintro _ w2 ⟨rfl, h2⟩
  have H2 : Aside (Stp [] w [] w2) := h1.trans h2
  clear h1 h2
  go_wp2_with fail
  refine (KH.out _ H2.out).mono ?_
  rintro _ w3 ⟨rfl, h3⟩
  have H3 : Aside (Stp [] w [] w3) := H2.out.trans h3
  clear h3
  go_wp2_with (go_at_call 5; refine (KA.out _ H3.out).mono ?_; rintro _ w9 ⟨rfl, h9⟩)
  go_ret
  exact ⟨rfl, (H3.out.trans h9).under⟩
set_option maxHeartbeats 40000000 in
set_option maxRecDepth 100000 in
theorem texts_small (a b : Option Addr) (ca cb : Nat) (A B : List Ev) (s : List UInt8) (w : World) (hA : Jk w a ca A) (hB : Jk w b cb B) (h1 : ¬ 1500 < bulk A) (h2 : ¬ 1500 < bulk B) (h3 : ¬ 2000 < s.length) (hT : Tabs w) : Calls Tryz.prog 3 #[.slice a A.length ca, .slice b B.length cb, .string (st s)] w (Truth w) := by
  have HT : Aside (Tabs w ∧ Jk w a ca A ∧ Jk w b cb B) := ⟨hT, hA, hB⟩
  have KA : Hid (∀ W, Stp [] w [] W → Calls Tryz.prog 5 #[] W (Tells (.bool true) W)) := Lib.hid fun W hs => talive_run W (HT.out.1.stays hs)
  have KG : Hid (∀ W, Stp [] w [] W → Calls Tryz.prog 6 #[.slice a A.length ca] W (Tells (.bool (decide (1500 < bulk A))) W)) := Lib.hid fun W hs => tgreat_run a ca A W (HT.out.2.1.er.stays hs) (by have := HT.out.2.1.bk; omega)
  have KH : Hid (∀ W, Stp [] w [] W → Calls Tryz.prog 6 #[.slice b B.length cb] W (Tells (.bool (decide (1500 < bulk B))) W)) := Lib.hid fun W hs => tgreat_run b cb B W (HT.out.2.2.er.stays hs) (by have := HT.out.2.2.bk; omega)
  rw [decide_eq_false h1] at KG
  rw [decide_eq_false h2] at KH
  have hla := bulk_len A
  have hlb := bulk_len B
  have HL : Aside (A.length ≤ 1500 ∧ B.length ≤ 1500 ∧ s.length ≤ 2000 ∧ (wrt A).length ≤ 1500) := ⟨by omega, by omega, by omega, by have := wrt_len A; omega⟩
  have HX : Aside (∀ x ∈ A, Ok x.f x.m x.t ∧ x.n ≤ 9223372036854775807 ∧ x.l.length ≤ 100000 ∧ (lnE x).1.length ≤ 9000) := fun x hx => by
    have h4 := bulk_mem hx
    have h5 := HT.out.2.1.att x hx
    exact ⟨h5.1, h5.2, by omega, lnE_len x h5.1 h5.2 (by omega)⟩
  have KF : Hid (∀ W, Stp [] w [] W → Calls Tryz.prog 7 #[.slice a A.length ca] W (Tells (.tuple #[.string (st (fm A).1), .int .i64 (fm A).2]) W)) := Lib.hid fun W hs => format_run a ca A W (HT.out.1.stays hs) (HT.out.2.1.er.stays hs) (by have := HL.out.1; omega) HX.out
  have KRF : Hid (∀ W, Stp [] w [] W → Calls Tryz.prog 8 #[.slice a A.length ca] W (Tells (.tuple #[.string (st (fm A).1), .int .i64 (fm A).2]) W)) := Lib.hid fun W hs => rformat_run a ca A W (HT.out.2.1.er.stays hs) (by have := HL.out.1; omega) HX.out
  have HK : Aside ((prs (spl 10 s) 0).2 ≤ 100000 ∧ ∀ Y, (prs (spl 10 s) 0).1 = some Y → Y.length ≤ 100000) := by
    have h4 := prs_le (spl 10 s) 0
    have h5 := spl_count 10 s
    refine ⟨by omega, fun Y hY => ?_⟩
    obtain ⟨_, _, h6⟩ := prs_sound (Prod.ext hY rfl : prs (spl 10 s) 0 = (some Y, (prs (spl 10 s) 0).2))
    omega
  have KP : Hid (∀ W, Stp [] w [] W → Calls Tryz.prog 9 #[.string (st s)] W fun e w' => ∃ v, e = .returned (.tuple #[v, .int .i64 ((prs (spl 10 s) 0).2 : Int), .int .i64 (rcode (prs (spl 10 s) 0).1)]) ∧ PV (prs (spl 10 s) 0).1 w' v ∧ Stp [] W [] w') := Lib.hid fun W hs =>
    (parse_run s W (HT.out.1.stays hs) (by have := HL.out.2.2.1; omega) (fun p hp => by have h1 := spl_short 10 s p hp; have := HL.out.2.2.1; omega) HK.out.1).mono fun _ _ h => h.uni
  have KRP : Hid (∀ W, Stp [] w [] W → Calls Tryz.prog 10 #[.string (st s)] W fun e w' => ∃ v, e = .returned (.tuple #[v, .int .i64 ((prs (spl 10 s) 0).2 : Int), .int .i64 (rcode (prs (spl 10 s) 0).1)]) ∧ PV (prs (spl 10 s) 0).1 w' v ∧ Stp [] W [] w') := Lib.hid fun W hs => (rparse_run s W HL.out.2.2.1).mono fun _ _ h => h.uni
  have KS : Hid (∀ W, Stp [] w [] W → Calls Tryz.prog 12 #[.slice a A.length ca, .slice b B.length cb] W (Tells (.bool (smes A B)) W)) := Lib.hid fun W hs => same3_run a b ca cb A B W (HT.out.2.1.er.stays hs) (HT.out.2.2.er.stays hs) (by have := HL.out.1; omega) (by have := HL.out.2.1; omega)
  have KRS : Hid (∀ W, Stp [] w [] W → Calls Tryz.prog 11 #[.slice a A.length ca, .slice b B.length cb] W (Tells (.bool (smes A B)) W)) := Lib.hid fun W hs => rsame_run a b ca cb A B W (HT.out.2.1.er.stays hs) (HT.out.2.2.er.stays hs) (by have := HL.out.1; omega) (by have := HL.out.2.1; omega)
  have KSS : Hid (∀ W, Stp [] w [] W → Calls Tryz.prog 12 #[.slice a A.length ca, .slice a A.length ca] W (Tells (.bool true) W)) := Lib.hid fun W hs => sameL_run a ca A W (HT.out.2.1.er.stays hs) (by have := HL.out.1; omega)
  have KW : Hid (∀ W, Stp [] w [] W → Calls Tryz.prog 13 #[.slice a A.length ca] W (WrTo (wrt A).length (st (wrt A)) W)) := Lib.hid fun W hs => (written_run a ca A W (HT.out.2.1.er.stays hs) (by have := HL.out.1; omega) (by have := HL.out.2.2.2; omega)).mono fun _ _ h => h.to
  have KRW : Hid (∀ W, Stp [] w [] W → Calls Tryz.prog 14 #[.slice a A.length ca] W (WrTo (wrt A).length (st (wrt A)) W)) := Lib.hid fun W hs => (rwritten_run a ca A W (HT.out.2.1.er.stays hs) (by have := HL.out.1; omega) (by have := HL.out.2.2.2; omega)).mono fun _ _ h => h.to
  have HKY := Lib.hid HK.out.2
  have hsz := st_size s
  have hsl : ¬ (2000 : Int) < (s.length : Int) := by omega
  clear hA hB hT h1 h2 h3 hla hlb HL HX HK
  generalize (fm A).2 = ez at *
  generalize st (fm A).1 = ST at *
  generalize st (wrt A) = SW at *
  generalize (wrt A).length = wl at *
  generalize smes A B = bq at *
  generalize (prs (spl 10 s) 0).1 = o at *
  generalize (prs (spl 10 s) 0).2 = kk at *
  generalize rcode o = rc at *
  go_enter Tryz.func3, Tryz.ntmps3
  go_wp2_with fail
  refine (KA.out _ (Stp.refl _ _)).mono ?_
  rintro _ w1 ⟨rfl, h1⟩
  go_wp2_with fail
  refine (KG.out _ h1).mono ?_
  rintro _ w2 ⟨rfl, h2⟩
  have H2 : Aside (Stp [] w [] w2) := h1.trans h2
  clear h1 h2
  go_wp2_with fail
  refine (KH.out _ H2.out).mono ?_
  rintro _ w3 ⟨rfl, h3⟩
  have H3 : Aside (Stp [] w [] w3) := H2.out.trans h3
  clear h3
  clear KA KG KH
  go_wp2_with fail
  refine (KF.out _ H3.out).mono ?_
  rintro _ w4 ⟨rfl, h4⟩
  have H4 : Aside (Stp [] w [] w4) := H3.out.trans h4
  clear h4
  go_wp2_with fail
  refine (KRF.out _ H4.out).mono ?_
  rintro _ w5 ⟨rfl, h5⟩
  have H5 : Aside (Stp [] w [] w5) := H4.out.trans h5
  clear h5
  go_wp2_with fail
  refine (KP.out _ H5.out).mono ?_
  rintro _ w6 ⟨vx, rfl, p6, h6⟩
  have H6 : Aside (Stp [] w [] w6 ∧ PV o w6 vx) := ⟨H5.out.trans h6, p6⟩
  clear h6 p6
  go_wp2_with fail
  refine (KRP.out _ H6.out.1).mono ?_
  rintro _ w7 ⟨vy, rfl, p7, h7⟩
  have H7 : Aside (Stp [] w [] w7) := H6.out.1.trans h7
  have KXY : Hid (∀ W, Stp [] w7 [] W → Calls Tryz.prog 11 #[vx, vy] W (Tells (.bool true) W)) := Lib.hid fun W hs => same_pv HKY.out ((H6.out.2.stays h7).stays hs) (p7.stays hs)
  clear h7 p7 KF KRF KP KRP H2 H3 H4 H5 H6 hsz hsl
  have ht := beq_self_eq_true ST.toList
  have ht2 := beq_self_eq_true SW.toList
  have hz1 := beq_self_eq_true (ez : Int)
  have hz2 := beq_self_eq_true (kk : Int)
  have hz3 := beq_self_eq_true (rc : Int)
  have hz4 := beq_self_eq_true bq
  have hcur : Stp [] w7 [] w7.drew := Stp.drew _ _
  go_wp2_with fail
  go_region_held (fun W' => True)
    (trivial)
    (first
      | (go_at_call 11; refine (KXY.out _ hcur).mono ?_; rintro _ w8 ⟨rfl, s8⟩; replace hcur := hcur.trans s8; clear s8 KXY)
      | (go_at_call 12; refine (KS.out _ (H7.out.trans hcur)).mono ?_; rintro _ w9 ⟨rfl, s9⟩; replace hcur := hcur.trans s9; clear s9 KS)
      | (go_at_call 11; refine (KRS.out _ (H7.out.trans hcur)).mono ?_; rintro _ w10 ⟨rfl, s10⟩; replace hcur := hcur.trans s10; clear s10)
      | (go_at_call 12; refine (KSS.out _ (H7.out.trans hcur)).mono ?_; rintro _ w11 ⟨rfl, s11⟩; replace hcur := hcur.trans s11; clear s11)
      | (go_at_call 13; refine (KW.out _ (H7.out.trans hcur)).mono ?_; rintro _ w12 ⟨a12, c12, rfl, cv12, s12⟩; have CV := Lib.hid cv12; have cva := cv12 _ (Stp.refl _ _); replace hcur := hcur.trans s12; clear s12 cv12)
      | (go_at_call 14; refine (KRW.out _ (H7.out.trans hcur)).mono ?_; rintro _ w13 ⟨a13, c13, rfl, cv13, s13⟩; have cvb := cv13 _ (Stp.refl _ _); have cvc := CV.out _ s13; replace hcur := hcur.trans s13; clear s13 cv13))
  all_goals
    go_wp2
    go_ret
    exact ⟨rfl, (H7.out.trans hcur).under⟩
theorem texts_truth (a b : Option Addr) (ca cb : Nat) (A B : List Ev) (s : ByteArray) (w : World) (hA : Jk w a ca A) (hB : Jk w b cb B) (hT : Tabs w) : Calls Tryz.prog 3 #[.slice a A.length ca, .slice b B.length cb, .string s] w (Truth w) := by
  have key : Calls Tryz.prog 3 #[.slice a A.length ca, .slice b B.length cb, .string (st s.data.toList)] w (Truth w) := by
    by_cases h1 : 1500 < bulk A
    · exact texts_great_a a b ca cb A B _ w hA hB h1 hT
    · by_cases h2 : 1500 < bulk B
      · exact texts_great_b a b ca cb A B _ w hA hB h1 h2 hT
      · by_cases h3 : 2000 < s.data.toList.length
        · exact texts_long a b ca cb A B _ w hA hB h1 h2 h3 hT
        · exact texts_small a b ca cb A B _ w hA hB h1 h2 h3 hT
  rwa [st_of] at key
end Go.Proofs.YthfiilhbgogoaaaGreatDoor
