/-
  A stage and a buffer that are new since the call; begin, size, and the document's example.
-/
import Derived.Test.YtombkdbojdhodaaDoorStg3
namespace Go.Proofs.YtombkdbojdhodaaDoor
open Go.RowKit Go.Lib
set_option linter.unusedVariables false

/-- A stage and a buffer that are new since w, each by itself. -/
structure SB (w W : World) (s b g N : Nat) (t : Sv) (e c q M : Nat) (A B : List Nat) : Prop where
  sg : Sg W s b g N t
  eb : Eb w W e c q M A B
  new : w.heap.size ≤ s ∧ w.heap.size ≤ b ∧ w.heap.size ≤ g
  ap : Apart s b g e c q
section
variable {w W W' : World} {s b g N e c q M : Nat} {t t' : Sv} {A B A' B' : List Nat}
theorem SB.stays {F : List Nat} (h : SB w W s b g N t e c q M A B) (hs : Stp [] W F W') : SB w W' s b g N t e c q M A B := ⟨h.sg.stays hs, h.eb.stays hs, h.new, h.ap⟩
theorem SB.actS (h : SB w W s b g N t e c q M A B) (hg : Sg W' s b g N t') (hs : Stp [s, b, g] W [s, b, g] W') : SB w W' s b g N t' e c q M A B :=
  ⟨hg, h.eb.other hs (fun k hk => by have h1 := h.new; have h2 := h.ap k hk; simp at hk; omega), h.new, h.ap⟩
theorem SB.actB (h : SB w W s b g N t e c q M A B) (hb : Bu W' e c q M A' B') (hs : Stp [e, c, q] W [e, c, q] W') : SB w W' s b g N t e c q M A' B' := by
  have hap := h.ap.of
  exact ⟨h.sg.other hs (by simp; omega) (by simp; omega) (by simp; omega), h.eb.act hb hs, h.new, h.ap⟩
theorem SB.actE (h : SB w W s b g N t e c q M A B) (hg : Sg W' s b g N t') (hb : Bu W' e c q M A' B') (hs : Stp [s, b, g, e, c, q] W [s, b, g, e, c, q] W') : SB w W' s b g N t' e c q M A' B' :=
  ⟨hg, ⟨hb, (h.eb.stp.fresh hs (fun i hi => by have h1 := h.new; have h2 := h.eb.new; simp at hi; omega)).none, h.eb.new⟩, h.new, h.ap⟩
/-- What happens in blocks that are others. -/
theorem SB.other {F F' : List Nat} (h : SB w W s b g N t e c q M A B) (hs : Stp F W F' W') (hF : ∀ k ∈ F, w.heap.size ≤ k ∧ (k ≠ s ∧ k ≠ b ∧ k ≠ g) ∧ k ≠ e ∧ k ≠ c ∧ k ≠ q) : SB w W' s b g N t e c q M A B :=
  ⟨h.sg.other hs (fun k => (hF s k).2.1.1 rfl) (fun k => (hF b k).2.1.2.1 rfl) (fun k => (hF g k).2.1.2.2 rfl), h.eb.other hs (fun k hk => ⟨(hF k hk).1, (hF k hk).2.2⟩), h.new, h.ap⟩

/-! ### The calls -/
theorem start_sb (h : SB w W s b g N t e c q M A B) : ∀ W', Stp [] W [] W' → Calls Tryd.prog 11 #[.pointer (some ⟨s, 0, none⟩)] W' fun en w' => en = .returned (.int .i64 (stS t).1) ∧ SB w w' s b g N (stS t).2 e c q M A B ∧ Stp [s, b, g] W [s, b, g] w' := fun W' hs =>
  (start_run (h.sg.stays hs)).mono fun _ _ ⟨h1, h2, h3⟩ => ⟨h1, (h.stays hs).actS h2 h3, (hs.more (fun k hk => by cases hk)).trans h3⟩
theorem add_sb (h : SB w W s b g N t e c q M A B) (x : Int) : ∀ W', Stp [] W [] W' → Calls Tryd.prog 13 #[.pointer (some ⟨s, 0, none⟩), .int .i64 x] W' fun en w' => en = .returned (.int .i64 (adS N x t).1) ∧ SB w w' s b g N (adS N x t).2 e c q M A B ∧ Stp [s, b, g] W [s, b, g] w' := fun W' hs =>
  (add_run (h.sg.stays hs) x).mono fun _ _ ⟨h1, h2, h3⟩ => ⟨h1, (h.stays hs).actS h2 h3, (hs.more (fun k hk => by cases hk)).trans h3⟩
theorem drop_sb (h : SB w W s b g N t e c q M A B) : ∀ W', Stp [] W [] W' → Calls Tryd.prog 17 #[.pointer (some ⟨s, 0, none⟩)] W' fun en w' => en = .returned (.tuple #[]) ∧ SB w w' s b g N sv0 e c q M A B ∧ Stp [s, b, g] W [s, b, g] w' := fun W' hs =>
  (drop_run (h.sg.stays hs)).mono fun _ _ ⟨h1, h2, h3⟩ => ⟨h1, (h.stays hs).actS h2 h3, (hs.more (fun k hk => by cases hk)).trans h3⟩
theorem end_sb (h : SB w W s b g N t e c q M A B) (hT : U.Tabs w) : ∀ W', Stp [] W [] W' → Calls Tryd.prog 15 #[.pointer (some ⟨s, 0, none⟩), .pointer (some ⟨e, 0, none⟩)] W' fun en w' => en = .returned (.int .i64 (enS M t A B).e) ∧ SB w w' s b g N sv0 e c q M (enS M t A B).A (enS M t A B).B ∧ Stp [s, b, g, e, c, q] W [s, b, g, e, c, q] w' := fun W' hs =>
  (end_run (h.sg.stays hs) (h.eb.bu.stays hs) h.ap (tabs_stays hT (h.eb.stp.trans hs))).mono fun _ _ ⟨h1, h2, h3, h4⟩ => ⟨h1, (h.stays hs).actE h2 h3 h4, (hs.more (fun k hk => by cases hk)).trans h4⟩
theorem putb_sb (h : SB w W s b g N t e c q M A B) (x : Int) : ∀ W', Stp [] W [] W' → Calls Tryd.prog 19 #[.pointer (some ⟨e, 0, none⟩), .int .i64 x] W' fun en w' => en = .returned (.int .i64 (putS M x A B).e) ∧ SB w w' s b g N t e c q M (putS M x A B).A (putS M x A B).B ∧ Stp [e, c, q] W [e, c, q] w' := fun W' hs =>
  (bput_run (h.eb.bu.stays hs) x).mono fun _ _ ⟨h1, h2, h3⟩ => ⟨h1, (h.stays hs).actB h2 h3, (hs.more (fun k hk => by cases hk)).trans h3⟩
theorem dob_sb (h : SB w W s b g N t e c q M A B) (k x : Int) (hk : (Lit.int .i64 k).wf = true) : ∀ W', Stp [] W [] W' →
    Calls Tryd.prog 21 #[.pointer (some ⟨e, 0, none⟩), .agg #[.int .i64 k, .int .i64 x]] W' fun en w' => en = .returned (.tuple #[.bool (chg (doS M k x A B) A B), .int .i64 (doS M k x A B).e]) ∧ SB w w' s b g N t e c q M (doS M k x A B).A (doS M k x A B).B ∧ Stp [e, c, q] W [e, c, q] w' := fun W' hs =>
  (do_run (h.eb.bu.stays hs) k x hk).mono fun _ _ ⟨h1, h2, h3⟩ => ⟨h1, (h.stays hs).actB h2 h3, (hs.more (fun k hk => by cases hk)).trans h3⟩
end
/-- What begin answers. -/
def Begun (n m : Nat) (W : World) (en : Ending) (w' : World) : Prop := ∃ s b g e c q, en = .returned (.tuple #[.pointer (some ⟨b, 0, none⟩), .pointer (some ⟨s, 0, none⟩), .pointer (some ⟨e, 0, none⟩)]) ∧ SB W w' s b g n sv0 e c q m [] []
set_option maxHeartbeats 1000000 in
set_option maxRecDepth 100000 in
theorem begin_run (n m : Nat) (W : World) (h1 : 1 ≤ n) (h2 : n ≤ 4096) (h3 : 1 ≤ m) (h4 : m ≤ 4096) : Calls Tryd.prog 8 #[.int .i64 (n : Int), .int .i64 (m : Int)] W (Begun n m W) := by
  have K1 := Lib.hid (new_run n W h1 h2)
  have K2 := Lib.hid (fun W => new_run m W h3 h4)
  clear h1 h2 h3 h4
  go_enter Tryd.func8, Tryd.ntmps8
  go_wp2_with fail
  refine K1.out.mono ?_
  rintro _ w1 ⟨b, g, rfl, hb, hg, ha, s1⟩
  have H1 : Aside (W.heap.size ≤ b ∧ W.heap.size ≤ g ∧ Ar w1 b g n [] ∧ Stp [] W [b, g] w1) := ⟨hb, hg, ha, s1⟩
  clear K1 hb hg ha s1
  go_wp2_with fail
  refine (K2.out _).mono ?_
  rintro _ w2 ⟨c, q, rfl, hc, hq, ha, s2⟩
  have H2 : Aside (w1.heap.size ≤ c ∧ w1.heap.size ≤ q ∧ Ar w2 c q m [] ∧ Stp [] w1 [c, q] w2) := ⟨hc, hq, ha, s2⟩
  clear K2 hc hq ha s2
  have KS := Lib.hid (snew_run (H1.out.2.2.1.stays H2.out.2.2.2))
  go_wp2_with fail
  refine KS.out.mono ?_
  rintro _ w3 ⟨s, rfl, hs, hsg, s3⟩
  have H3 : Aside (w2.heap.size ≤ s ∧ Sg w3 s b g n sv0 ∧ Stp [b, g] w2 [s, b, g] w3 ∧ Ar w3 c q m []) := by
    refine ⟨hs, hsg, s3, H2.out.2.2.1.other s3 ?_ ?_⟩
    · have l1 := H1.out.2.2.1.lt
      have l2 := H1.out.2.2.1.row.lt
      have := H2.out
      simp
      omega
    · have l1 := H1.out.2.2.1.lt
      have l2 := H1.out.2.2.1.row.lt
      have := H2.out
      simp
      omega
  clear KS hs hsg s3
  have KE := Lib.hid (enew_run H3.out.2.2.2)
  go_wp2_with fail
  refine KE.out.mono ?_
  rintro _ w4 ⟨e, rfl, he, hbu, s4⟩
  have H4 : Aside (w3.heap.size ≤ e ∧ Bu w4 e c q m [] [] ∧ Stp [c, q] w3 [e, c, q] w4) := ⟨he, hbu, s4⟩
  clear KE he hbu s4
  go_wp2
  go_ret3
  obtain ⟨a1, a2, a3, a4⟩ := H1.out
  obtain ⟨b1, b2, b3, b4⟩ := H2.out
  obtain ⟨c1, c2, c3, c4⟩ := H3.out
  obtain ⟨d1, d2, d3⟩ := H4.out
  have z1 := a4.size
  have z2 := b4.size
  have z3 := c3.size
  have z4 := d3.size
  have l1 := a3.lt
  have l2 := a3.row.lt
  have l3 := b3.lt
  have l4 := b3.row.lt
  have l5 := c2.lt
  have p2 : Stp [] W [] w2 := (a4.trans ((b4.none).more (G := [b, g]) (fun k hk => by cases hk))).none
  have p3 : Stp [] W [] w3 := (p2.fresh (c3.more (F' := [s, b, g]) (G := [b, g]) (fun k hk => hk)) (fun i hi => by simp at hi; omega)).none
  have p4 : Stp [] W [] w4 := (p3.fresh (d3.more (F' := [e, c, q]) (G := [c, q]) (fun k hk => hk)) (fun i hi => by simp at hi; omega)).none
  exact ⟨s, b, g, e, c, q, rfl, c2.other d3 (by simp; omega) (by simp; omega) (by simp; omega), ⟨d2, p4, by omega⟩, by omega, fun i hi => by simp at hi; omega⟩
/-- How many cells. -/
def sizeN (n : Int) : Nat := 1 + (n % 18446744073709551616 % 100).toNat
theorem sizeN_bounds (n : Int) : 1 ≤ sizeN n ∧ sizeN n ≤ 100 := by unfold sizeN; omega
theorem size_run (n : Int) (w : World) : Calls Tryd.prog 9 #[.int .i64 n] w (Gives (.int .i64 (sizeN n : Int)) w) := by
  have e : (sizeN n : Int) = 1 + n % 18446744073709551616 % 100 := by unfold sizeN; omega
  have hz : ∃ z, z = n % 18446744073709551616 := ⟨_, rfl⟩
  rw [e]
  clear e
  obtain ⟨z, hz⟩ := hz
  have e1 : IntKind.u64.wrap n = z := by rw [hz, IntKind.wrap_u64]
  rw [← hz]
  have e2 : 0 ≤ z := by omega
  have e3 : z < 18446744073709551616 := by omega
  clear hz
  go_enter Tryd.func9, Tryd.ntmps9
  go_wp2
  go_ret
  exact ⟨rfl, rfl⟩

/-! ### The example -/
theorem ex1 : adS 3 97 ⟨[], true, false⟩ = (0, ⟨[97], true, false⟩) := rfl
theorem ex2 : adS 3 228 ⟨[97], true, false⟩ = (0, ⟨[97, 228], true, false⟩) := rfl
theorem ex3 : adS 3 98 ⟨[97, 228], true, false⟩ = (4, ⟨[97, 228], true, true⟩) := rfl
theorem ex4 : enS 50 ⟨[97, 228], true, true⟩ [] [] = ⟨4, [], []⟩ := rfl
theorem ex5 : adS 3 99 ⟨[], true, false⟩ = (0, ⟨[99], true, false⟩) := rfl
theorem ex6 : enS 50 ⟨[99], true, false⟩ [] [] = ⟨0, [99], []⟩ := rfl
set_option maxHeartbeats 1000000 in
set_option maxRecDepth 100000 in
theorem alive_run (w : World) (hT : U.Tabs w) : Calls Tryd.prog 10 #[] w (Tells (.bool true) w) := by
  have KB : Calls Tryd.prog 8 #[.int .i64 3, .int .i64 50] w (Begun 3 50 w) := begin_run 3 50 w (by omega) (by omega) (by omega) (by omega)
  have KB := Lib.hid KB
  have HT := Lib.hid hT
  clear hT
  go_enter Tryd.func10, Tryd.ntmps10
  go_wp2_with fail
  refine KB.out.mono ?_
  rintro _ w1 ⟨s, b, g, e, c, q, rfl, h1⟩
  have K1 : Calls Tryd.prog 11 #[.pointer (some ⟨s, 0, none⟩)] w1 fun en w' => en = .returned (.int .i64 0) ∧ SB w w' s b g 3 ⟨[], true, false⟩ e c q 50 [] [] ∧ Stp [s, b, g] w1 [s, b, g] w' := start_sb h1 _ (Stp.refl _ _)
  have K1 := Lib.hid K1
  clear KB h1
  go_wp2_with fail
  refine K1.out.mono ?_
  rintro _ w2 ⟨rfl, h2, _⟩
  have K2 := add_sb h2 97 _ (Stp.refl _ _)
  rw [ex1] at K2
  have K2 := Lib.hid K2
  clear K1 h2
  go_wp2_with fail
  refine K2.out.mono ?_
  rintro _ w3 ⟨rfl, h3, _⟩
  have K3 := add_sb h3 228 _ (Stp.refl _ _)
  rw [ex2] at K3
  have K3 := Lib.hid K3
  clear K2 h3
  go_wp2_with fail
  refine K3.out.mono ?_
  rintro _ w4 ⟨rfl, h4, _⟩
  have K4 := add_sb h4 98 _ (Stp.refl _ _)
  rw [ex3] at K4
  have K4 := Lib.hid K4
  clear K3 h4
  go_wp2_with fail
  refine K4.out.mono ?_
  rintro _ w5 ⟨rfl, h5, _⟩
  have K5 := end_sb h5 HT.out _ (Stp.refl _ _)
  rw [ex4] at K5
  have K5 := Lib.hid K5
  clear K4 h5
  go_wp2_with fail
  refine K5.out.mono ?_
  rintro _ w6 ⟨rfl, h6, _⟩
  have K6 : Calls Tryd.prog 11 #[.pointer (some ⟨s, 0, none⟩)] w6 fun en w' => en = .returned (.int .i64 0) ∧ SB w w' s b g 3 ⟨[], true, false⟩ e c q 50 [] [] ∧ Stp [s, b, g] w6 [s, b, g] w' := start_sb h6 _ (Stp.refl _ _)
  have K6 := Lib.hid K6
  clear K5 h6
  go_wp2_with fail
  refine K6.out.mono ?_
  rintro _ w7 ⟨rfl, h7, _⟩
  have K7 := add_sb h7 99 _ (Stp.refl _ _)
  rw [ex5] at K7
  have K7 := Lib.hid K7
  clear K6 h7
  go_wp2_with fail
  refine K7.out.mono ?_
  rintro _ w8 ⟨rfl, h8, _⟩
  have K8 := end_sb h8 HT.out _ (Stp.refl _ _)
  rw [ex6] at K8
  have K8 := Lib.hid K8
  clear K7 h8
  go_wp2_with fail
  refine K8.out.mono ?_
  rintro _ w9 ⟨rfl, h9, _⟩
  have H9 : Aside (SB w w9 s b g 3 sv0 e c q 50 [99] []) := h9
  have KT := text_run H9.out.eb.bu
  have e0 : st (fl ([99] ++ [])) = st [99] := rfl
  rw [e0] at KT
  have KT := Lib.hid KT
  have ht := st_toList [99]
  clear e0 h9 K8
  go_wp2_with fail
  refine KT.out.mono ?_
  rintro _ w10 ⟨rfl, s10⟩
  have H10 : Aside (Stp [] w [] w10) := H9.out.eb.stp.trans s10
  clear s10 KT H9
  go_wp2
  go_ret
  exact ⟨rfl, H10.out⟩
end Go.Proofs.YtombkdbojdhodaaDoor
