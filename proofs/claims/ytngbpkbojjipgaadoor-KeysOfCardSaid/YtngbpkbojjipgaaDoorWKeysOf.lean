/-
  Of any number the key is the document's, and of any key what it is told by, or why there is nothing; the names: the walk.
-/
import Derived.Test.YtngbpkbojjipgaaDoorAlive
import Derived.Test.YtngbpkbojjipgaaDoorNam
import Derived.Test.YtngbpkbojjipgaaDoorRefK
import Derived.Test.YtngbpkbojjipgaaDoorRefY
import Derived.Deep.RegionWith
namespace Go.Proofs.YtngbpkbojjipgaaDoor
open Go.RowKit Go.Lib
set_option linter.unusedVariables false

/-- A row of names as cells. -/
def Nrow (W : World) (g : Nat) : Prop := ∀ i, i < 16 → W.cell? ⟨g, i, none⟩ = some (.string (st (kn i)))
theorem Nrow.stays {W W' : World} {g : Nat} (h : Nrow W g) (hs : Stp [] W [] W') : Nrow W' g := fun i hi => hs.keeps rfl (h i hi)
theorem kns_at : ∀ i, i < 16 → kns[i]? = some (kn i) := by decide +kernel
theorem SOwn.nrow {w : World} {base : Nat} {v : Value} (h : SOwn w base v kns) : ∃ g cap, v = .slice (some ⟨g, 0, none⟩) 16 cap ∧ 16 ≤ cap ∧ cap ≤ maxLen ∧ Nrow w g := by
  obtain ⟨a, cap, hv, hn, hc, hm, hr⟩ := h.form
  rcases a with _ | ad
  · have := (hn rfl).2
    cases this
  · obtain ⟨g, rfl, _, _, hcell⟩ := hr ad rfl
    exact ⟨g, cap, hv, hc, hm, fun i hi => hcell i _ (kns_at i hi)⟩
def NamedG (w : World) (e : Ending) (w' : World) : Prop := ∃ g cap, e = .returned (.slice (some ⟨g, 0, none⟩) 16 cap) ∧ 16 ≤ cap ∧ cap ≤ maxLen ∧ Nrow w' g ∧ Stp [] w [] w'
theorem Named.g {w : World} {e : Ending} {w' : World} (h : Named w e w') : NamedG w e w' := by
  obtain ⟨v, he, ho, hs⟩ := h
  obtain ⟨g, cap, rfl, h1, h2, h3⟩ := ho.nrow
  exact ⟨g, cap, he, h1, h2, h3, hs⟩

set_option maxHeartbeats 4000000 in
set_option maxRecDepth 100000 in
theorem of_bad (x k c : Int) (w : World) (hx : (Lit.int .i64 x).wf = true) (h : chk k c ≠ 0) (hT : Tabs w) : Calls Tryd.prog 3 #[.int .i64 x, kv k c] w (Truth w) := by
  have HT : Aside (Tabs w) := hT
  have KA : Hid (∀ W, Stp [] w [] W → Calls Tryd.prog 11 #[] W (Tells (.bool true) W)) := Lib.hid fun W hs => alive_run W (HT.out.stays hs)
  have KB : Hid (∀ W, Stp [] w [] W → Calls Tryd.prog 8 #[.agg #[.int .i64 k, .int .i64 c]] W (Told (kbs k c) (chk k c : Int) W)) := Lib.hid fun W hs => bytes_run k c W (HT.out.stays hs)
  have KN : Hid (∀ W, Stp [] w [] W → Calls Tryd.prog 9 #[] W (NamedG W)) := Lib.hid fun W hs => (names_run W (HT.out.stays hs)).mono fun e w' h => h.g
  have KR : Hid (∀ W, Calls Tryd.prog 10 #[] W (NamedG W)) := Lib.hid fun W => (rnames_run W).mono fun e w' h => h.g
  have KO : Hid (∀ W, Calls Tryd.prog 12 #[.int .i64 x] W (Tells (.agg #[.int .i64 (ofk x).1, .int .i64 (ofk x).2]) W)) := Lib.hid fun W => of_run x hx W
  have KP : Hid (∀ W, Calls Tryd.prog 13 #[.int .i64 x] W (Tells (.agg #[.int .i64 (ofk x).1, .int .i64 (ofk x).2]) W)) := Lib.hid fun W => rof_run x W
  have KC : Hid (∀ W, Calls Tryd.prog 14 #[.agg #[.int .i64 k, .int .i64 c]] W (Tells (.int .i64 (chk k c : Int)) W)) := Lib.hid fun W => rcheck_run k c W
  have e0 : kbs k c = [] := by unfold kbs; rw [if_neg h]
  have z2 : (((chk k c : Nat) : Int) == 0) = false := beq_eq_false_iff_ne.2 (by omega)
  have z3 : (((chk k c : Nat) : Int) != 0) = true := by simp [bne, z2]
  rw [e0] at KB
  clear h
  unfold kv
  generalize (ofk x).1 = o1 at *
  generalize (ofk x).2 = o2 at *
  clear hT hx
  go_enter Tryd.func3, Tryd.ntmps3
  go_wp2_with fail
  refine (KB.out _ (Stp.alloc [] w _)).mono ?_
  rintro _ w1 ⟨a1, p1, rfl, b1, _, _, h1⟩
  have HS1 : Aside (At2 w1 w.heap.size k c ∧ Bts w1 a1 [] ∧ Stp [] w [] w1) := ⟨(At2.new w k c).stays h1, b1, (Stp.alloc [] w _).trans h1⟩
  clear b1 h1 KB
  go_wp2_with fail
  refine (KN.out _ HS1.out.2.2).mono ?_
  rintro _ w2 ⟨g2, p2, rfl, hc2, hm2, n2, h2⟩
  have HS2 : Aside (At2 w2 w.heap.size k c ∧ Bts w2 a1 [] ∧ Stp [] w [] w2 ∧ Nrow w2 g2) := ⟨HS1.out.1.stays h2, HS1.out.2.1.stays h2, HS1.out.2.2.trans h2, n2⟩
  clear n2 h2 HS1 KN
  go_wp2_with fail
  refine (KR.out _).mono ?_
  rintro _ w3 ⟨g3, p3, rfl, hc3, hm3, n3, h3⟩
  have HS3 : Aside (At2 w3 w.heap.size k c ∧ Bts w3 a1 [] ∧ Stp [] w [] w3 ∧ Nrow w3 g2 ∧ Nrow w3 g3) := ⟨HS2.out.1.stays h3, HS2.out.2.1.stays h3, HS2.out.2.2.1.trans h3, HS2.out.2.2.2.stays h3, n3⟩
  clear n3 h3 HS2 KR
  go_wp2_with fail
  refine (KA.out _ HS3.out.2.2.1).mono ?_
  rintro _ w4 ⟨rfl, h4⟩
  go_wp2_with fail
  refine (KO.out _).mono ?_
  rintro _ w5 ⟨rfl, h5⟩
  go_wp2_with fail
  refine (KP.out _).mono ?_
  rintro _ w6 ⟨rfl, h6⟩
  have h36 := (h4.trans h5).trans h6
  have HS6 : Aside (At2 w6 w.heap.size k c ∧ Bts w6 a1 [] ∧ Stp [] w [] w6 ∧ Nrow w6 g2 ∧ Nrow w6 g3) := ⟨HS3.out.1.stays h36, HS3.out.2.1.stays h36, HS3.out.2.2.1.trans h36, HS3.out.2.2.2.1.stays h36, HS3.out.2.2.2.2.stays h36⟩
  clear h4 h5 h6 h36 HS3 KA KO KP
  go_wp2
  have HW := HS6.out.2.2.1.size
  generalize w.heap.size = g0 at *
  go_loopg [36] 16 (fun gk vi wr => ∃ i : Nat, vi = .int .i64 (i : Int) ∧ i ≤ 16 ∧ 16 - i ≤ gk ∧ Aside (Stp [] w6 [] wr))
  case atStart => exact ⟨0, rfl, by omega, by omega, Stp.refl _ _⟩
  case round =>
    obtain ⟨i, rfl, hi, hg, HR⟩ := hrel
    by_cases hlt : i < 16
    · have hltz : (i : Int) < 16 := by omega
      have d2 := HS6.out.2.2.2.1.stays HR.out i hlt
      have d3 := HS6.out.2.2.2.2.stays HR.out i hlt
      have hq : ((st (kn i)).toList == (st (kn i)).toList) = true := st_yes rfl
      generalize st (kn i) = sn at *
      go_wp2_with fail
      go_region
      all_goals
        go_wp2
        go_roundg (16 - (i + 1))
        case measure => omega
        case rel => exact ⟨i + 1, by go_num, by omega, by omega, HR.out.trans (Stp.drew _ _)⟩
    · have hltz : ¬ (i : Int) < 16 := by omega
      have HS7 : Aside (At2 wr g0 k c ∧ Bts wr a1 [] ∧ Stp [] w [] wr) := ⟨HS6.out.1.stays HR.out, HS6.out.2.1.stays HR.out, HS6.out.2.2.1.trans HR.out⟩
      clear HS6 HR hlt hi hg
      obtain ⟨c0, c1, _, _⟩ := HS7.out.1.cells
      have hl0 := HS7.out.1.lt
      go_wp2_with fail
      refine (KC.out _).mono ?_
      rintro _ w8 ⟨rfl, h8⟩
      have HS8 : Aside (At2 w8 g0 k c ∧ Bts w8 a1 [] ∧ Stp [] w [] w8) := ⟨HS7.out.1.stays h8, HS7.out.2.1.stays h8, HS7.out.2.2.trans h8⟩
      clear c0 c1 hl0 h8 HS7
      generalize ((chk k c : Nat) : Int) = q at *
      go_wp2
      go_ret
      exact ⟨rfl, HS8.out.2.2.under⟩

set_option maxHeartbeats 4000000 in
set_option maxRecDepth 100000 in
theorem of_good (x : Int) (n m : Nat) (w : World) (hx : (Lit.int .i64 x).wf = true) (h : chk (n : Int) (m : Int) = 0) (hT : Tabs w) : Calls Tryd.prog 3 #[.int .i64 x, kv n m] w (Truth w) := by
  have HT : Aside (Tabs w) := hT
  have KA : Hid (∀ W, Stp [] w [] W → Calls Tryd.prog 11 #[] W (Tells (.bool true) W)) := Lib.hid fun W hs => alive_run W (HT.out.stays hs)
  have KB : Hid (∀ W, Stp [] w [] W → Calls Tryd.prog 8 #[.agg #[.int .i64 (n : Int), .int .i64 (m : Int)]] W (Told (kbs n m) (chk n m : Int) W)) := Lib.hid fun W hs => bytes_run n m W (HT.out.stays hs)
  have KN : Hid (∀ W, Stp [] w [] W → Calls Tryd.prog 9 #[] W (NamedG W)) := Lib.hid fun W hs => (names_run W (HT.out.stays hs)).mono fun e w' h => h.g
  have KR : Hid (∀ W, Calls Tryd.prog 10 #[] W (NamedG W)) := Lib.hid fun W => (rnames_run W).mono fun e w' h => h.g
  have KO : Hid (∀ W, Calls Tryd.prog 12 #[.int .i64 x] W (Tells (.agg #[.int .i64 (ofk x).1, .int .i64 (ofk x).2]) W)) := Lib.hid fun W => of_run x hx W
  have KP : Hid (∀ W, Calls Tryd.prog 13 #[.int .i64 x] W (Tells (.agg #[.int .i64 (ofk x).1, .int .i64 (ofk x).2]) W)) := Lib.hid fun W => rof_run x W
  have KC : Hid (∀ W, Calls Tryd.prog 14 #[.agg #[.int .i64 (n : Int), .int .i64 (m : Int)]] W (Tells (.int .i64 (chk n m : Int)) W)) := Lib.hid fun W => rcheck_run n m W
  have e0 : kbs (n : Int) (m : Int) = kb n m := by unfold kbs; rw [if_pos h]; simp
  have KY : Hid (∀ W, Calls Tryd.prog 15 #[.agg #[.int .i64 (n : Int), .int .i64 (m : Int)]] W (RTold (kb n m) W)) := Lib.hid fun W => rbytes_run n m h W
  rw [e0, h] at KB
  rw [h] at KC
  clear h e0
  unfold kv
  generalize (ofk x).1 = o1 at *
  generalize (ofk x).2 = o2 at *
  clear hT hx
  go_enter Tryd.func3, Tryd.ntmps3
  go_wp2_with fail
  refine (KB.out _ (Stp.alloc [] w _)).mono ?_
  rintro _ w1 ⟨a1, p1, rfl, b1, _, _, h1⟩
  have HS1 : Aside (At2 w1 w.heap.size n m ∧ Bts w1 a1 (kb n m) ∧ Stp [] w [] w1) := ⟨(At2.new w n m).stays h1, b1, (Stp.alloc [] w _).trans h1⟩
  clear b1 h1 KB
  go_wp2_with fail
  refine (KN.out _ HS1.out.2.2).mono ?_
  rintro _ w2 ⟨g2, p2, rfl, hc2, hm2, n2, h2⟩
  have HS2 : Aside (At2 w2 w.heap.size n m ∧ Bts w2 a1 (kb n m) ∧ Stp [] w [] w2 ∧ Nrow w2 g2) := ⟨HS1.out.1.stays h2, HS1.out.2.1.stays h2, HS1.out.2.2.trans h2, n2⟩
  clear n2 h2 HS1 KN
  go_wp2_with fail
  refine (KR.out _).mono ?_
  rintro _ w3 ⟨g3, p3, rfl, hc3, hm3, n3, h3⟩
  have HS3 : Aside (At2 w3 w.heap.size n m ∧ Bts w3 a1 (kb n m) ∧ Stp [] w [] w3 ∧ Nrow w3 g2 ∧ Nrow w3 g3) := ⟨HS2.out.1.stays h3, HS2.out.2.1.stays h3, HS2.out.2.2.1.trans h3, HS2.out.2.2.2.stays h3, n3⟩
  clear n3 h3 HS2 KR
  go_wp2_with fail
  refine (KA.out _ HS3.out.2.2.1).mono ?_
  rintro _ w4 ⟨rfl, h4⟩
  go_wp2_with fail
  refine (KO.out _).mono ?_
  rintro _ w5 ⟨rfl, h5⟩
  go_wp2_with fail
  refine (KP.out _).mono ?_
  rintro _ w6 ⟨rfl, h6⟩
  have h36 := (h4.trans h5).trans h6
  have HS6 : Aside (At2 w6 w.heap.size n m ∧ Bts w6 a1 (kb n m) ∧ Stp [] w [] w6 ∧ Nrow w6 g2 ∧ Nrow w6 g3) := ⟨HS3.out.1.stays h36, HS3.out.2.1.stays h36, HS3.out.2.2.1.trans h36, HS3.out.2.2.2.1.stays h36, HS3.out.2.2.2.2.stays h36⟩
  clear h4 h5 h6 h36 HS3 KA KO KP
  go_wp2
  have HW := HS6.out.2.2.1.size
  generalize w.heap.size = g0 at *
  go_loopg [36] 16 (fun gk vi wr => ∃ i : Nat, vi = .int .i64 (i : Int) ∧ i ≤ 16 ∧ 16 - i ≤ gk ∧ Aside (Stp [] w6 [] wr))
  case atStart => exact ⟨0, rfl, by omega, by omega, Stp.refl _ _⟩
  case round =>
    obtain ⟨i, rfl, hi, hg, HR⟩ := hrel
    by_cases hlt : i < 16
    · have hltz : (i : Int) < 16 := by omega
      have d2 := HS6.out.2.2.2.1.stays HR.out i hlt
      have d3 := HS6.out.2.2.2.2.stays HR.out i hlt
      have hq : ((st (kn i)).toList == (st (kn i)).toList) = true := st_yes rfl
      generalize st (kn i) = sn at *
      go_wp2_with fail
      go_region
      all_goals
        go_wp2
        go_roundg (16 - (i + 1))
        case measure => omega
        case rel => exact ⟨i + 1, by go_num, by omega, by omega, HR.out.trans (Stp.drew _ _)⟩
    · have hltz : ¬ (i : Int) < 16 := by omega
      have HS7 : Aside (At2 wr g0 n m ∧ Bts wr a1 (kb n m) ∧ Stp [] w [] wr) := ⟨HS6.out.1.stays HR.out, HS6.out.2.1.stays HR.out, HS6.out.2.2.1.trans HR.out⟩
      clear HS6 HR hlt hi hg
      obtain ⟨c0, c1, _, _⟩ := HS7.out.1.cells
      have hl0 := HS7.out.1.lt
      go_wp2_with fail
      refine (KC.out _).mono ?_
      rintro _ w8 ⟨rfl, h8⟩
      have HS8 : Aside (At2 w8 g0 n m ∧ Bts w8 a1 (kb n m) ∧ Stp [] w [] w8) := ⟨HS7.out.1.stays h8, HS7.out.2.1.stays h8, HS7.out.2.2.trans h8⟩
      clear c0 c1 hl0 h8 HS7
      obtain ⟨c0, c1, _, _⟩ := HS8.out.1.cells
      have hl0 := HS8.out.1.lt
      have hk0 : Aside (∀ W, Stp [] w8 [] W → (convert 24 9 (.slice a1 (kb n m).length p1)).run Tryd.prog W = .ok (.string (st (kb n m))) W) := fun W hs => conv_bts p1 _ (HS8.out.2.1.stays hs) rfl
      have hcur : Stp [] w8 [] w8.drew := Stp.drew _ _
      have hqq : ((st (kb n m)).toList == (st (kb n m)).toList) = true := st_yes rfl
      have cvb := hk0.out _ hcur
      have cvb2 := hk0.out _ (Stp.refl _ _)
      have HL : Aside (Stp [] w [] w8) := HS8.out.2.2
      clear HS8
      generalize (kb n m) = bl at *
      go_wp2_with fail
      go_region_with (first
        | (go_at_call 15; refine (KY.out _).mono ?_; rintro _ w9 ⟨a9, p9, rfl, b9, h9⟩; have cv9 := conv_bts p9 _ b9 rfl; replace hcur := hcur.trans h9; have cvb9 := hk0.out _ hcur; clear h9 b9))
      all_goals
        go_wp2
        go_ret
        exact ⟨rfl, (HL.out.trans hcur).under⟩

theorem of_walk (x k c : Int) (w : World) (hx : (Lit.int .i64 x).wf = true) (hT : Tabs w) : Calls Tryd.prog 3 #[.int .i64 x, kv k c] w (Truth w) := by
  by_cases h : chk k c = 0
  · obtain ⟨n, m, rfl, rfl, _⟩ := chk_zero h
    exact of_good x n m w hx h hT
  · exact of_bad x k c w hx h hT
end Go.Proofs.YtngbpkbojjipgaaDoor
