/-
  Two rows of effects, one behind the other, have both texts, and what both wrote: the walk.
-/
import Derived.Test.YtlgbdbkenalonaaGreatDoorJn
import Derived.Test.YtlgbdbkenalonaaGreatDoorTalive
import Derived.Deep.DeepCutAuto
import Derived.Deep.CutBlock
import Derived.Deep.RegionWith
namespace Go.Proofs.YtlgbdbkenalonaaGreatDoor
open Go.RowKit Go.Lib
set_option linter.unusedVariables false

theorem EOwn.gr {w W W' : World} {v : Value} {L : List Ev} (h : Stp [] w [] W) (ho : EOwn W w.heap.size v L) (hg : W.grownBy W' v.ownBlock) : Stp [] w [] W' := h.app hg (fun k hk => (ho.lt k hk).1)
/-- What is known of a slice of effects that is handed in. -/
structure Jk (w : World) (a : Option Addr) (c : Nat) (L : List Ev) : Prop where
  er : Er w a L
  nn : a = none → c = 0
  att : ∀ x ∈ L, Ok x.f x.m x.t ∧ x.n ≤ 9223372036854775807
  bk : bulk L ≤ 1048576
set_option maxHeartbeats 1000000 in
set_option maxRecDepth 100000 in
theorem joins_great_a (a b : Option Addr) (ca cb : Nat) (A B : List Ev) (w : World) (hA : Jk w a ca A) (hB : Jk w b cb B) (h : 1500 < bulk A) (hT : Tabs w) : Calls Tryz.prog 6 #[.slice a A.length ca, .slice b B.length cb] w (Truth w) := by
  have HT : Aside (Tabs w ∧ Jk w a ca A ∧ Jk w b cb B) := ⟨hT, hA, hB⟩
  have KA : Hid (∀ W, Stp [] w [] W → Calls Tryz.prog 7 #[] W (Tells (.bool true) W)) := Lib.hid fun W hs => talive_run W (HT.out.1.stays hs)
  have KG : Hid (∀ W, Stp [] w [] W → Calls Tryz.prog 13 #[.slice a A.length ca] W (Tells (.bool (decide (1500 < bulk A))) W)) := Lib.hid fun W hs => tgreat_run a ca A W (HT.out.2.1.er.stays hs) (by have := HT.out.2.1.bk; omega)
  have KH : Hid (∀ W, Stp [] w [] W → Calls Tryz.prog 13 #[.slice b B.length cb] W (Tells (.bool (decide (1500 < bulk B))) W)) := Lib.hid fun W hs => tgreat_run b cb B W (HT.out.2.2.er.stays hs) (by have := HT.out.2.2.bk; omega)
  rw [decide_eq_true h] at KG
  clear hA hB hT h KH
  go_enter Tryz.func6, Tryz.ntmps6
  go_wp2_with fail
  refine (KA.out _ (Stp.refl _ _)).mono ?_
  rintro _ w1 ⟨rfl, h1⟩
  go_wp2_with fail
  refine (KG.out _ h1).mono ?_
  rintro _ w2 ⟨rfl, h2⟩
  have H2 : Aside (Stp [] w [] w2) := h1.trans h2
  clear h1 h2
  go_wp2_with (go_at_call 7; refine (KA.out _ H2.out).mono ?_; rintro _ w3 ⟨rfl, h3⟩)
  go_ret
  exact ⟨rfl, (H2.out.trans h3).under⟩
set_option maxHeartbeats 1000000 in
set_option maxRecDepth 100000 in
theorem joins_great_b (a b : Option Addr) (ca cb : Nat) (A B : List Ev) (w : World) (hA : Jk w a ca A) (hB : Jk w b cb B) (h1 : ¬ 1500 < bulk A) (h : 1500 < bulk B) (hT : Tabs w) : Calls Tryz.prog 6 #[.slice a A.length ca, .slice b B.length cb] w (Truth w) := by
  have HT : Aside (Tabs w ∧ Jk w a ca A ∧ Jk w b cb B) := ⟨hT, hA, hB⟩
  have KA : Hid (∀ W, Stp [] w [] W → Calls Tryz.prog 7 #[] W (Tells (.bool true) W)) := Lib.hid fun W hs => talive_run W (HT.out.1.stays hs)
  have KG : Hid (∀ W, Stp [] w [] W → Calls Tryz.prog 13 #[.slice a A.length ca] W (Tells (.bool (decide (1500 < bulk A))) W)) := Lib.hid fun W hs => tgreat_run a ca A W (HT.out.2.1.er.stays hs) (by have := HT.out.2.1.bk; omega)
  have KH : Hid (∀ W, Stp [] w [] W → Calls Tryz.prog 13 #[.slice b B.length cb] W (Tells (.bool (decide (1500 < bulk B))) W)) := Lib.hid fun W hs => tgreat_run b cb B W (HT.out.2.2.er.stays hs) (by have := HT.out.2.2.bk; omega)
  rw [decide_eq_false h1] at KG
  rw [decide_eq_true h] at KH
  clear hA hB hT h h1
  go_enter Tryz.func6, Tryz.ntmps6
  go_wp2_with fail
  refine (KA.out _ (Stp.refl _ _)).mono ?_
  rintro _ w1 ⟨rfl, h1⟩
  go_wp2_with fail
  refine (KG.out _ h1).mono ?_
  rintro _ w2 ⟨rfl, h2⟩
  have H2 : Aside (Stp [] w [] w2) := h1.trans h2
  clear h1 h2
  go_wp2_with fail
  refine (KH.out _ H2.out).mono ?_
  rintro _ w3 ⟨rfl, h3⟩
  have H3 : Aside (Stp [] w [] w3) := H2.out.trans h3
  clear h3
  go_wp2_with (go_at_call 7; refine (KA.out _ H3.out).mono ?_; rintro _ w4 ⟨rfl, h4⟩)
  go_ret
  exact ⟨rfl, (H3.out.trans h4).under⟩
set_option maxHeartbeats 2000000 in
set_option maxRecDepth 100000 in
theorem joins_small (a b : Option Addr) (ca cb : Nat) (A B : List Ev) (w : World) (hA : Jk w a ca A) (hB : Jk w b cb B) (h1 : ¬ 1500 < bulk A) (h2 : ¬ 1500 < bulk B) (hT : Tabs w) : Calls Tryz.prog 6 #[.slice a A.length ca, .slice b B.length cb] w (Truth w) := by
  have HT : Aside (Tabs w ∧ Jk w a ca A ∧ Jk w b cb B) := ⟨hT, hA, hB⟩
  have KA : Hid (∀ W, Stp [] w [] W → Calls Tryz.prog 7 #[] W (Tells (.bool true) W)) := Lib.hid fun W hs => talive_run W (HT.out.1.stays hs)
  have KG : Hid (∀ W, Stp [] w [] W → Calls Tryz.prog 13 #[.slice a A.length ca] W (Tells (.bool (decide (1500 < bulk A))) W)) := Lib.hid fun W hs => tgreat_run a ca A W (HT.out.2.1.er.stays hs) (by have := HT.out.2.1.bk; omega)
  have KH : Hid (∀ W, Stp [] w [] W → Calls Tryz.prog 13 #[.slice b B.length cb] W (Tells (.bool (decide (1500 < bulk B))) W)) := Lib.hid fun W hs => tgreat_run b cb B W (HT.out.2.2.er.stays hs) (by have := HT.out.2.2.bk; omega)
  rw [decide_eq_false h1] at KG
  rw [decide_eq_false h2] at KH
  have hla := bulk_len A
  have hlb := bulk_len B
  have HL : Aside (bulk A ≤ 1500 ∧ bulk B ≤ 1500 ∧ A.length ≤ 1500 ∧ B.length ≤ 1500) := ⟨by omega, by omega, by omega, by omega⟩
  clear hA hB hT h1 h2 hla hlb
  go_enter Tryz.func6, Tryz.ntmps6
  go_wp2_with fail
  refine (KA.out _ (Stp.refl _ _)).mono ?_
  rintro _ w1 ⟨rfl, h1⟩
  go_wp2_with fail
  refine (KG.out _ h1).mono ?_
  rintro _ w2 ⟨rfl, h2⟩
  have H2 : Aside (Stp [] w [] w2) := h1.trans h2
  clear h1 h2
  go_wp2_with fail
  refine (KH.out _ H2.out).mono ?_
  rintro _ w3 ⟨rfl, h3⟩
  have H3 : Aside (Stp [] w [] w3) := H2.out.trans h3
  clear h3 H2 KA KG KH
  have H4 : Hid (EOwn (w3.alloc (.cells #[] 27)) w3.heap.size (.slice (some ⟨w3.heap.size, 0, none⟩) 0 0) [] ∧ Stp [] w3 [] (w3.alloc (.cells #[] 27))) := Lib.hid ⟨EOwn.new w3, Stp.alloc _ _ _⟩
  go_upto_region 4 with (first
    | (at_builtin
       refine wpList_appEs rfl (.tmp 23) (.tmp 24) rfl w3.heap.size (.slice (some ⟨w3.heap.size, 0, none⟩) 0 0) [] rfl H4.out.1 a ca A rfl ((HT.out.2.1.er.stays H3.out).stays H4.out.2) HT.out.2.1.nn (by have := HL.out; simp; omega) (by rw [World.size_alloc]; omega) ?_
       intro v4 w4 o4 g4
       have H5 : Aside (EOwn w4 w3.heap.size v4 A ∧ Stp [] w3 [] w4) := ⟨o4, EOwn.gr H4.out.2 H4.out.1 g4⟩
       obtain ⟨a4, c4, hv4, _, hn4, hc4⟩ := EOwn.er o4 (fun x hx => (((HT.out.2.1.er.1 x hx).stays H3.out).stays H5.out.2))
       subst hv4
       clear o4 g4)
    | (at_builtin
       refine wpList_appEs rfl (.tmp 25) (.tmp 26) rfl w3.heap.size (.slice a4 A.length c4) A rfl H5.out.1 b cb B rfl ((HT.out.2.2.er.stays H3.out).stays H5.out.2) HT.out.2.2.nn (by have := HL.out; omega) H5.out.2.size ?_
       intro v6 w6 o6 g6
       have H6 : Aside (EOwn w6 w3.heap.size v6 (A ++ B) ∧ Stp [] w3 [] w6) := ⟨o6, EOwn.gr H5.out.2 H5.out.1 g6⟩
       obtain ⟨a6, c6, hv6, e6, hn6, hc6⟩ := EOwn.er o6 (fun x hx => by
         rcases List.mem_append.1 hx with h | h
         · exact ((HT.out.2.1.er.1 x h).stays H3.out).stays H6.out.2
         · exact ((HT.out.2.2.er.1 x h).stays H3.out).stays H6.out.2)
       subst hv6
       have H7 : Aside (Er w6 a6 (A ++ B) ∧ Stp [] w [] w6) := ⟨e6, H3.out.trans H6.out.2⟩
       clear o6 g6 e6))
  clear H4 H5 H6
  have hal : (A ++ B).length = A.length + B.length := List.length_append
  go_cut [38] (fun s38 wx => s38 = .bool false ∧ Aside (Stp [] w6 [] wx))
  case first =>
    have KW : ∀ (q : Option Addr) (c : Nat) (L : List Ev), bulk L ≤ 3000 → (∀ W, Stp [] w6 [] W → Er W q L) → ∀ W, Stp [] w6 [] W → Calls Tryz.prog 19 #[.slice q L.length c] W fun e w5 => ∃ a5 c5, e = .returned (.slice a5 (wrt L).length c5) ∧ Bts w5 a5 (wrt L) ∧ Stp [] W [] w5 := fun q c L hb hE W hs => (written_run q c L W (hE W hs) (by have := bulk_len L; omega) (by have := wrt_len L; omega)).mono fun e w5 h => by
      obtain ⟨v, he, ho, h5⟩ := h
      obtain ⟨a5, c5, hv, hb5, _⟩ := ho.bts
      exact ⟨a5, c5, by rw [he, hv], hb5, h5⟩
    have K1 := Lib.hid (KW a6 c6 (A ++ B) (by have := HL.out; rw [bulk_app]; omega) (fun W hs => H7.out.1.stays hs))
    have K2 := Lib.hid (KW a ca A (by have := HL.out; omega) (fun W hs => (HT.out.2.1.er.stays H7.out.2).stays hs))
    have K3 := Lib.hid (KW b cb B (by have := HL.out; omega) (fun W hs => (HT.out.2.2.er.stays H7.out.2).stays hs))
    rw [hal] at K1
    have hcat : st (wrt A) ++ st (wrt B) = st (wrt (A ++ B)) := by rw [st_append, wrt_both]
    have hq : ((st (wrt (A ++ B))).toList == (st (wrt (A ++ B))).toList) = true := st_yes rfl
    have z1 := st_size (wrt A)
    have z2 := st_size (wrt B)
    have z3 : (wrt A).length ≤ 1500 := by have := wrt_len A; have := HL.out; omega
    have z4 : (wrt B).length ≤ 1500 := by have := wrt_len B; have := HL.out; omega
    have hroom : ¬ 9223372036854775807 < (wrt A).length + (wrt B).length := by omega
    have hcur : Stp [] w6 [] w6.drew := Stp.drew _ _
    clear KW hal
    generalize wrt (A ++ B) = lc at *
    generalize wrt A = la at *
    generalize wrt B = lb at *
    go_region_with (first
      | (go_at_call_of 19 a6
         refine (K1.out _ hcur).mono ?_
         rintro _ w7 ⟨p7, q7, rfl, b7, h7⟩
         have hk7 : Aside (∀ W, Stp [] w7 [] W → (convert 25 9 (.slice p7 lc.length q7)).run Tryz.prog W = .ok (.string (st lc)) W) := fun W hs => conv_bts q7 _ (b7.stays hs) rfl
         have cv7 := hk7.out _ (Stp.refl _ _)
         replace hcur := hcur.trans h7
         clear b7 h7)
      | (go_at_call_of 19 a
         refine (K2.out _ hcur).mono ?_
         rintro _ w8 ⟨p8, q8, rfl, b8, h8⟩
         have hk8 : Aside (∀ W, Stp [] w8 [] W → (convert 25 9 (.slice p8 la.length q8)).run Tryz.prog W = .ok (.string (st la)) W) := fun W hs => conv_bts q8 _ (b8.stays hs) rfl
         have cv8 := hk8.out _ (Stp.refl _ _)
         have cv78 := hk7.out _ h8
         have H8 : Aside (Stp [] w7 [] w8) := h8
         replace hcur := hcur.trans h8
         clear b8 h8)
      | (go_at_call_of 19 b
         refine (K3.out _ hcur).mono ?_
         rintro _ w9 ⟨p9, q9, rfl, b9, h9⟩
         have cv9 := conv_bts q9 _ b9 rfl
         have cv79 := hk7.out _ (H8.out.trans h9)
         have cv89 := hk8.out _ h9
         replace hcur := hcur.trans h9
         clear b9 h9))
    all_goals
      go_wp2_with fail
      go_meet
      exact ⟨rfl, hcur⟩
  case rest =>
    obtain ⟨rfl, HS⟩ := hcut
    have HX : Aside (∀ x, x ∈ A ∨ x ∈ B → Ok x.f x.m x.t ∧ x.n ≤ 9223372036854775807 ∧ x.l.length ≤ 100000 ∧ (lnE x).1.length ≤ 9000) := fun x hx => by
      have hb : x.l.length ≤ 1500 := by
        rcases hx with h | h
        · have := bulk_mem h; have := HL.out; omega
        · have := bulk_mem h; have := HL.out; omega
      have ho : Ok x.f x.m x.t ∧ x.n ≤ 9223372036854775807 := by
        rcases hx with h | h
        · exact HT.out.2.1.att x h
        · exact HT.out.2.2.att x h
      exact ⟨ho.1, ho.2, by omega, lnE_len x ho.1 ho.2 (by omega)⟩
    have H9 : Aside (Stp [] w [] wc) := H7.out.2.trans HS.out
    have KF : Hid (∀ W, Stp [] wc [] W → Calls Tryz.prog 14 #[.slice a A.length ca] W (Tells (.tuple #[.string (st (fm A).1), .int .i64 (fm A).2]) W)) := Lib.hid fun W hs => format_run a ca A W ((HT.out.1.stays H9.out).stays hs) ((HT.out.2.1.er.stays H9.out).stays hs) (by have := HL.out; omega) (fun x hx => HX.out x (.inl hx))
    have KG : Hid (∀ W, Stp [] wc [] W → Calls Tryz.prog 14 #[.slice b B.length cb] W (Tells (.tuple #[.string (st (fm B).1), .int .i64 (fm B).2]) W)) := Lib.hid fun W hs => format_run b cb B W ((HT.out.1.stays H9.out).stays hs) ((HT.out.2.2.er.stays H9.out).stays hs) (by have := HL.out; omega) (fun x hx => HX.out x (.inr hx))
    have KH : Hid (∀ W, Stp [] wc [] W → Calls Tryz.prog 14 #[.slice a6 (A.length + B.length) c6] W (Tells (.tuple #[.string (st (fm (A ++ B)).1), .int .i64 (fm (A ++ B)).2]) W)) := Lib.hid fun W hs => by
      have := format_run a6 c6 (A ++ B) W ((HT.out.1.stays H9.out).stays hs) ((H7.out.1.stays HS.out).stays hs) (by have := HL.out; rw [hal]; omega) (fun x hx => HX.out x (List.mem_append.1 hx))
      rw [hal] at this
      exact this
    have hfa : (fm A).1.length ≤ 1500 * 9001 := Nat.le_trans (fm_len A (fun x hx => (HX.out x (.inl hx)).2.2.2)) (Nat.mul_le_mul_right 9001 HL.out.2.2.1)
    have hfb : (fm B).1.length ≤ 1500 * 9001 := Nat.le_trans (fm_len B (fun x hx => (HX.out x (.inr hx)).2.2.2)) (Nat.mul_le_mul_right 9001 HL.out.2.2.2)
    have z1 := st_size (fm A).1
    have z2 := st_size (fm B).1
    have HE : Aside (((fm A).2 = 0 ∧ (fm B).2 = 0 ∧ fm (A ++ B) = ((fm A).1 ++ (fm B).1, 0)) ∨ (((fm A).2 ≠ 0 ∨ (fm B).2 ≠ 0) ∧ (fm (A ++ B)).1 = [] ∧ (fm (A ++ B)).2 ≠ 0)) := by
      by_cases ha : (fm A).2 = 0
      · by_cases hb : (fm B).2 = 0
        · exact .inl ⟨ha, hb, fm_both ha hb⟩
        · exact .inr ⟨.inr hb, fm_not (.inr hb)⟩
      · exact .inr ⟨.inl ha, fm_not (.inl ha)⟩
    clear HX HL H7 HT HS H3 hal hn4 hc4 hn6 hc6
    go_wp2_with fail
    refine (KF.out _ (Stp.refl _ _)).mono ?_
    rintro _ x1 ⟨rfl, s1⟩
    go_wp2_with fail
    refine (KG.out _ s1).mono ?_
    rintro _ x2 ⟨rfl, s2⟩
    go_wp2_with fail
    refine (KH.out _ (s1.trans s2)).mono ?_
    rintro _ x3 ⟨rfl, s3⟩
    have HF : Aside (Stp [] w [] x3) := H9.out.trans ((s1.trans s2).trans s3)
    clear s1 s2 s3 KF KG KH H9
    rcases HE.out with ⟨ha, hb, hab⟩ | ⟨hn, h1, h2⟩
    · rw [hab, ha, hb]
      have hcat : st (fm A).1 ++ st (fm B).1 = st ((fm A).1 ++ (fm B).1) := st_append _ _
      have hq : ((st ((fm A).1 ++ (fm B).1)).toList == (st ((fm A).1 ++ (fm B).1)).toList) = true := st_yes rfl
      have hroom : ¬ 9223372036854775807 < (fm A).1.length + (fm B).1.length := by omega
      clear ha hb hab HE
      generalize st ((fm A).1 ++ (fm B).1) = sc at *
      generalize (fm A).1 = la at *
      generalize (fm B).1 = lb at *
      go_wp2
      go_ret
      exact ⟨rfl, HF.out.under⟩
    · rw [h1]
      have hst : st [] = ⟨#[]⟩ := rfl
      rw [hst]
      have hz : ((fm (A ++ B)).2 == 0) = false := beq_eq_false_iff_ne.2 h2
      have hz2 : ((fm (A ++ B)).2 != 0) = true := by simp [bne, hz]
      by_cases ha : (fm A).2 = 0
      · have hb : (fm B).2 ≠ 0 := by
          rcases hn with h | h
          · exact absurd ha h
          · exact h
        have hy : ((fm B).2 == 0) = false := beq_eq_false_iff_ne.2 hb
        have hy2 : ((fm B).2 != 0) = true := by simp [bne, hy]
        rw [ha]
        clear ha hb hn h1 h2 HE
        generalize (fm (A ++ B)).2 = qc at *
        generalize (fm B).2 = qb at *
        generalize st (fm A).1 = sa at *
        generalize st (fm B).1 = sb at *
        go_wp2
        go_ret
        exact ⟨rfl, HF.out.under⟩
      · have hy : ((fm A).2 == 0) = false := beq_eq_false_iff_ne.2 ha
        have hy2 : ((fm A).2 != 0) = true := by simp [bne, hy]
        clear ha hn h1 h2 HE
        generalize (fm (A ++ B)).2 = qc at *
        generalize (fm A).2 = qa at *
        generalize (fm B).2 = qb at *
        generalize st (fm A).1 = sa at *
        generalize st (fm B).1 = sb at *
        go_wp2
        go_ret
        exact ⟨rfl, HF.out.under⟩
theorem joins_walk (a b : Option Addr) (ca cb : Nat) (A B : List Ev) (w : World) (hA : Jk w a ca A) (hB : Jk w b cb B) (hT : Tabs w) : Calls Tryz.prog 6 #[.slice a A.length ca, .slice b B.length cb] w (Truth w) := by
  by_cases h1 : 1500 < bulk A
  · exact joins_great_a a b ca cb A B w hA hB h1 hT
  · by_cases h2 : 1500 < bulk B
    · exact joins_great_b a b ca cb A B w hA hB h1 h2 hT
    · exact joins_small a b ca cb A B w hA hB h1 h2 hT
end Go.Proofs.YtlgbdbkenalonaaGreatDoor
