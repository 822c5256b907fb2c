/-
  ArenaActs returns true for every number and every calls.
-/
import Derived.Test.YtkkfpbnlhgnchaaRefB
import Derived.Test.YtkkfpbnlhgnchaaOne
import Derived.Deep.RegionHeld3
namespace Go.Proofs.Ytkkfpbnlhgnchaa
open Go.RowKit Go.Lib
set_option linter.unusedVariables false

/-- The arena and the document's, both new since w, apart. -/
structure Pr (w W : World) (b g p N : Nat) (A : Option Addr) (c : Nat) (l r : List UInt8) : Prop where
  one : One w W b g N l
  ref : Rf W p N A c r
  np : w.heap.size ≤ p ∧ p ≠ b ∧ p ≠ g
  na : ∀ ad, A = some ad → w.heap.size ≤ ad.block ∧ ad.block ≠ b ∧ ad.block ≠ g
section
variable {w W W' : World} {b g p N c c' : Nat} {A A' : Option Addr} {l l' r r' : List UInt8}
theorem Pr.first (h : Pr w W b g p N A c l r) (ha : Ar W' b g N l') (hs : Stp [b, g] W [b, g] W') : Pr w W' b g p N A c l' r :=
  ⟨h.one.act ha hs, h.ref.other hs (by have := h.np; simp; omega) (fun ad e => by have := h.na ad e; simp; omega), h.np, h.na⟩
theorem Pr.second (h : Pr w W b g p N A c l r) (hr : Rf W' p N A' c' r') (hA : ∀ ad, A' = some ad → A = some ad ∨ W.heap.size ≤ ad.block) (hs : Stp [p] W [p] W') : Pr w W' b g p N A' c' l r' := by
  have hb := Cl.lt h.one.ar
  have hg := h.one.ar.row.lt
  have hn := h.np
  refine ⟨⟨h.one.ar.other hs (by simp; omega) (by simp; omega), (h.one.stp.fresh hs (fun i hi => by simp at hi; omega)).none, h.one.new⟩, hr, h.np, fun ad e => ?_⟩
  rcases hA ad e with q | q
  · exact h.na ad q
  · have := h.one.stp.size
    omega
theorem Pr.stays {F : List Nat} (h : Pr w W b g p N A c l r) (hs : Stp [] W F W') : Pr w W' b g p N A c l r := ⟨h.one.stays hs, h.ref.stays hs, h.np, h.na⟩
/-- The document's arena as it is made. -/
theorem Pr.start (h : One w W b g N []) : Pr w (W.alloc (.cells #[.slice none 0 0, .int .i64 (N : Int)] 33)) b g W.heap.size N none 0 [] [] := by
  have hb := Cl.lt h.ar
  have hg := h.ar.row.lt
  have hs := h.stp.size
  exact ⟨h.stays (Stp.alloc [] _ _), ⟨heap_alloc_new _ _, Bts.nil _ _, fun _ => rfl, Nat.le_refl _, fun ad e => by cases e⟩, ⟨hs, by omega, by omega⟩, fun ad e => by cases e⟩
/-- The document's list wiped. -/
theorem Pr.wiped (h : Pr w W b g p N A c l r) : Pr w (W.setCell ⟨p, 0, none⟩ (.slice none 0 0)) b g p N none 0 l [] := by
  obtain ⟨q1, q2⟩ := h.ref.lay (A' := none) (c' := 0) (l' := []) (Stp.refl _ _) (Bts.nil _ _) (fun _ => rfl) (Nat.le_refl _) (fun ad e => by cases e)
  exact h.second q1 (fun ad e => by cases e) q2
theorem Pr.kept (h : Pr w W b g p N A c l r) {k : Nat} {o : Obj} (hk : W.heap[k]? = some o) (hs : Stp [b, g] W [b, g] W') (hn : k ≠ b ∧ k ≠ g) : W'.heap[k]? = some o :=
  (hs.block k (Array.getElem?_eq_some_iff.1 hk).1 (by simp; omega)).trans hk
theorem kept_p {k : Nat} {o : Obj} (hk : W.heap[k]? = some o) (hs : Stp [p] W [p] W') (hn : k ≠ p) : W'.heap[k]? = some o :=
  (hs.block k (Array.getElem?_eq_some_iff.1 hk).1 (by simp; omega)).trans hk
end
theorem mem_le_sum : ∀ (l : List Nat) (n : Nat), n ∈ l → n ≤ l.sum
  | a :: r, n, h => by
    rw [List.sum_cons]
    rcases List.mem_cons.1 h with e | e
    · omega
    · have := mem_le_sum r n e
      omega
theorem le_total {l : List Ac} {i : Nat} (hi : i < l.length) : (l[i]!).x.length ≤ total l := by
  unfold total
  rw [getElem!_pos l i hi]
  exact mem_le_sum _ _ (List.mem_map.2 ⟨l[i], List.getElem_mem hi, rfl⟩)
theorem great_no {l : List Ac} (h : Great l = false) {i : Nat} (hi : i < l.length) : (l[i]!).x.length ≤ 4096 := by
  have h1 := le_total hi
  unfold Great at h
  simp at h
  omega

set_option maxRecDepth 100000 in
theorem acts_long (z : Int) (a : Option Addr) (cap n : Nat) (l : List Ac) (w : World) (hU : As w a l) (hn : n = l.length) (hl : n ≤ 9223372036854775807) (hg : Great l = true) :
    Calls Try.prog 3 #[.int .i64 z, .slice a n cap] w (Truth w) := by
  have KS := Lib.hid (size_run z)
  have KN : Hid (∀ W, Calls Try.prog 9 #[.int .i64 (sizeN z : Int)] W (Newed W (sizeN z))) := Lib.hid (fun W => new_run (sizeN z) W (sizeN_bounds z).1 (by have := (sizeN_bounds z).2; omega))
  have KA := Lib.hid alive_tells
  have KG := Lib.hid (great_at a cap n l w hU hn hl _ hg)
  clear hU hn hg
  generalize sizeN z = N at *
  go_enter Try.func3, Try.ntmps3
  go_wp2_with fail
  refine (KS.out _).mono ?_
  rintro _ w0 ⟨rfl, rfl⟩
  go_wp2_with fail
  refine (KN.out _).mono ?_
  rintro _ w1 ⟨b, g, rfl, hb, hg, h1, q1⟩
  have H1 : Aside (Stp [] w0 [] w1) := q1.none
  clear hb hg h1 q1
  go_wp2_with fail
  refine (KA.out _).mono ?_
  rintro _ w2 ⟨rfl, q⟩
  have H2 : Aside (Stp [] w0 [] w2) := H1.out.trans q
  clear q H1
  go_wp2_with fail
  refine (KG.out _ H2.out).mono ?_
  rintro _ w3 ⟨rfl, q⟩
  have H3 : Aside (Stp [] w0 [] w3) := H2.out.trans q
  clear q H2
  go_wp2_with fail
  refine (KA.out _).mono ?_
  rintro _ w4 ⟨rfl, q⟩
  have H4 : Aside (Stp [] w0 [] w4) := H3.out.trans q
  clear q H3
  go_wp2
  go_ret
  exact ⟨rfl, H4.out.under⟩

set_option maxHeartbeats 16000000 in
set_option maxRecDepth 100000 in
theorem acts_short (z : Int) (a : Option Addr) (cap n : Nat) (l : List Ac) (w : World) (hU : As w a l) (hn : n = l.length) (hl : n ≤ 9223372036854775807) (hg : Great l = false) :
    Calls Try.prog 3 #[.int .i64 z, .slice a n cap] w (Truth w) := by
  have KS := Lib.hid (size_run z)
  have KN : Hid (∀ W, Calls Try.prog 9 #[.int .i64 (sizeN z : Int)] W (Newed W (sizeN z))) := Lib.hid (fun W => new_run (sizeN z) W (sizeN_bounds z).1 (by have := (sizeN_bounds z).2; omega))
  have KA := Lib.hid alive_tells
  have KG := Lib.hid (great_at a cap n l w hU hn hl _ hg)
  have HU : Aside (As w a l ∧ n = l.length ∧ ∀ i, i < l.length → (l[i]!).x.length ≤ 4096) := ⟨hU, hn, fun i hi => great_no hg hi⟩
  have hNt := (sizeN_bounds z).2
  clear hU hn hg
  generalize sizeN z = N at *
  go_enter Try.func3, Try.ntmps3
  go_wp2_with fail
  refine (KS.out _).mono ?_
  rintro _ w ⟨rfl, rfl⟩
  go_wp2_with fail
  refine (KN.out _).mono ?_
  rintro _ w1 ⟨b, g, rfl, hb, hg, h1, q1⟩
  have H1 : Aside (One w w1 b g N []) := ⟨h1, q1.none, hb, hg⟩
  clear hb hg h1 q1 KN
  go_wp2_with fail
  refine (KA.out _).mono ?_
  rintro _ w2 ⟨rfl, q⟩
  have H2 : Aside (One w w2 b g N []) := H1.out.stays q
  clear q H1 KA
  go_wp2_with fail
  refine (KG.out _ H2.out.stp).mono ?_
  rintro _ w3 ⟨rfl, q⟩
  have H3 : Aside (One w w3 b g N []) := H2.out.stays q
  clear q H2 KG
  go_wp2_with fail
  refine (KS.out _).mono ?_
  rintro _ w3 ⟨rfl, rfl⟩
  have H4 : Aside (Pr w (w3.alloc (.cells #[.slice none 0 0, .int .i64 (N : Int)] 33)) b g w3.heap.size N none 0 [] []) := Pr.start H3.out
  clear H3
  go_wp2
  generalize w3.heap.size = p at *
  go_loopg [48] n (fun gk vi wr => ∃ i : Nat, vi = .int .i64 (i : Int) ∧ i ≤ n ∧ n - i ≤ gk ∧ Aside (∃ A c s, Pr w wr b g p N A c s s))
  case atStart => exact ⟨0, rfl, by omega, by omega, none, 0, [], H4.out⟩
  case round =>
    clear H4
    obtain ⟨i, rfl, hi, hgk, HS⟩ := hrel
    obtain ⟨A, c, s, HS⟩ : ∃ A c s, Aside (Pr w wr b g p N A c s s) := HS.out
    by_cases hlt : i < n
    · have hltz : (i : Int) < (n : Int) := by omega
      have hil : i < l.length := by have := HU.out.2.1; omega
      obtain ⟨ab, off, rfl, c0, c1, c2, c3, c4, hx, _, hxn⟩ := HU.out.1.at HS.out.one.stp (i := i) hil
      have hx4 := HU.out.2.2 i hil
      generalize l[i]! = ac at *
      obtain ⟨k, y1, y2, y3, P, cp, x⟩ := ac
      dsimp only at c0 c1 c2 c3 c4 hx hxn hx4
      obtain ⟨m, hm⟩ : ∃ m, m = x.length := ⟨_, rfl⟩
      rw [← hm] at c4 hx4
      have HX : Aside (Bts w P x ∧ m = x.length ∧ m ≤ 4096 ∧ (P = none → cp = 0)) := ⟨hx, hm, hx4, hxn⟩
      have H1 : Aside (Pr w (wr.alloc (.cells #[.int .i64 k, .int .i64 y1, .int .i64 y2, .int .i64 y3, .slice P m cp] 35)) b g p N A c s s) := HS.out.stays (Stp.alloc [] _ _)
      have HNN : Aside ((wr.alloc (.cells #[.int .i64 k, .int .i64 y1, .int .i64 y2, .int .i64 y3, .slice P m cp] 35)).heap[wr.heap.size]? = some (.cells #[.int .i64 k, .int .i64 y1, .int .i64 y2, .int .i64 y3, .slice P m cp] 35 (0, 0))) := heap_alloc_new _ _
      have HNF : Aside (wr.heap.size ≠ b ∧ wr.heap.size ≠ g ∧ wr.heap.size ≠ p) := by
        have h1 := Cl.lt HS.out.one.ar
        have h2 := HS.out.one.ar.row.lt
        have h3 := HS.out.ref.lt
        exact ⟨by omega, by omega, by omega⟩
      have HL : Aside (s.length ≤ 4096 ∧ s.length ≤ N) := by
        have := HS.out.one.ar.le
        exact ⟨by omega, this⟩
      clear HS hx hm hx4 hxn hil
      by_cases k0 : k = 0
      · subst k0
        go_wp2_with fail
        generalize wr.alloc (.cells #[.int .i64 0, .int .i64 y1, .int .i64 y2, .int .i64 y3, .slice P m cp] 35) = wA at *
        generalize wr.heap.size = NB at *
        have d1wA : wA.cell? ⟨NB, 1, none⟩ = some (.int .i64 y1) := by rw [cell_of_row wA NB 1 _ _ _ HNN.out]; rfl
        have d4wA : wA.cell? ⟨NB, 4, none⟩ = some (.slice P m cp) := by rw [cell_of_row wA NB 4 _ _ _ HNN.out]; rfl
        have H2 : Aside (Pr w wA.drew b g p N A c s s) := H1.out.stays (Stp.drew [] wA)
        have HB : Aside (wA.drew.heap[NB]? = some (.cells #[.int .i64 0, .int .i64 y1, .int .i64 y2, .int .i64 y3, .slice P m cp] 35 (0, 0))) := HNN.out
        obtain ⟨R, eR⟩ : ∃ R, R = insR N s y1 x := ⟨_, rfl⟩
        have K1 : Hid (Calls Try.prog 13 #[.pointer (some ⟨b, 0, none⟩), .int .i64 y1, .slice P m cp] wA.drew (Acted b g N R wA.drew)) := Lib.hid (by rw [eR]; exact ins_any H2.out.one.ar y1 P x m cp (HX.out.1.stays H2.out.one.stp) (HX.out.1.apart H2.out.one.new.2) HX.out.2.1)
        have K2 : Hid (∀ w1, Rf w1 p N A c s → Stp [] w [] w1 → Calls Try.prog 14 #[.pointer (some ⟨p, 0, none⟩), .int .i64 y1, .slice P m cp] w1 (Refd p N A R w1)) := Lib.hid (fun w1 hr hs => by rw [eR]; exact rins_any hr y1 P x m cp (HX.out.1.stays hs) HX.out.2.2.2 HX.out.2.1 HL.out.1 HX.out.2.2.1)
        clear c0 c1 c2 c3 c4 H1 HNN eR
        go_region_held3 (fun w' => w'.cell? ⟨NB, 1, none⟩ = some (.int .i64 y1) ∧ w'.cell? ⟨NB, 4, none⟩ = some (.slice P m cp))
          (first | exact ⟨by assumption, by assumption⟩ | go_keep)
          ((first
            | (go_at_call 13
               refine K1.out.mono ?_
               rintro _ w1 ⟨rfl, a1, q1⟩
               have M1 : Aside (Pr w w1 b g p N A c R.2 s) := H2.out.first a1 q1
               have HB1 : Aside (w1.heap[NB]? = some (.cells #[.int .i64 0, .int .i64 y1, .int .i64 y2, .int .i64 y3, .slice P m cp] 35 (0, 0))) := H2.out.kept HB.out q1 ⟨HNF.out.1, HNF.out.2.1⟩
               have d1w1 : w1.cell? ⟨NB, 1, none⟩ = some (.int .i64 y1) := by rw [cell_of_row w1 NB 1 _ _ _ HB1.out]; rfl
               have d4w1 : w1.cell? ⟨NB, 4, none⟩ = some (.slice P m cp) := by rw [cell_of_row w1 NB 4 _ _ _ HB1.out]; rfl
               clear a1 q1)
            | (go_at_call 14
               refine (K2.out _ M1.out.ref M1.out.one.stp).mono ?_
               rintro _ wX ⟨rfl, AX, cX, r2, a2, q2⟩
               have M2 : Aside (Pr w wX b g p N AX cX R.2 R.2) := M1.out.second r2 a2 q2
               have HB2 : Aside (wX.heap[NB]? = some (.cells #[.int .i64 0, .int .i64 y1, .int .i64 y2, .int .i64 y3, .slice P m cp] 35 (0, 0))) := kept_p HB1.out q2 HNF.out.2.2
               have d1wX : wX.cell? ⟨NB, 1, none⟩ = some (.int .i64 y1) := by rw [cell_of_row wX NB 1 _ _ _ HB2.out]; rfl
               have d4wX : wX.cell? ⟨NB, 4, none⟩ = some (.slice P m cp) := by rw [cell_of_row wX NB 4 _ _ _ HB2.out]; rfl
               clear r2 a2 q2)))
        all_goals
          clear K1 K2
          go_wp2_with fail
          obtain ⟨sX, eX⟩ : ∃ s, s = R.2 := ⟨_, rfl⟩
          have MX : Aside (Pr w wX b g p N AX cX sX sX) := by rw [eX]; exact M2.out
          clear eX M1 M2 HB HB1 HB2 d1wA d4wA d1w1 d4w1 d1wX d4wX
          have hs1 : sX.length ≤ N := MX.out.one.ar.le
          obtain ⟨nX, enX⟩ : ∃ k, k = sX.length := ⟨_, rfl⟩
          obtain ⟨ts, ets⟩ : ∃ t, t = str sX := ⟨_, rfl⟩
          obtain ⟨zz, ezz⟩ : ∃ b, b = zeros sX := ⟨_, rfl⟩
          have hP : Hid (∀ W', Stp [] wX [] W' → Stp [] wX [] W' ∧ W'.cell? ⟨p, 0, none⟩ = some (.slice AX nX cX)) := Lib.hid (fun W' hs => ⟨hs, by rw [enX]; exact (MX.out.stays hs).ref.c0⟩)
          have KL : Hid (∀ W', Stp [] wX [] W' → Calls Try.prog 20 #[.pointer (some ⟨b, 0, none⟩)] W' (Tells (.int .i64 (nX : Int)) W')) := Lib.hid (fun W' hs => by rw [enX]; exact Gives.tells (len_cl (MX.out.stays hs).one.ar))
          have KT : Hid (∀ W', Stp [] wX [] W' → Calls Try.prog 21 #[.pointer (some ⟨b, 0, none⟩)] W' (Tells (.string ts) W')) := Lib.hid (fun W' hs => by rw [ets]; exact text_run (MX.out.stays hs).one.ar)
          have KC : Hid (∀ W', Stp [] wX [] W' → Calls Try.prog 22 #[.pointer (some ⟨b, 0, none⟩)] W' (Tells (.bool true) W')) := Lib.hid (fun W' hs => Says.tells (clean_run (MX.out.stays hs).one.ar))
          have KZ : Hid (∀ W', Stp [] wX [] W' → Calls Try.prog 23 #[.pointer (some ⟨b, 0, none⟩)] W' (Tells (.bool zz) W')) := Lib.hid (fun W' hs => by rw [ezz]; exact Says.tells (zero_run (MX.out.stays hs).one.ar))
          have KY : Hid (∀ W', Stp [] wX [] W' → Calls Try.prog 24 #[.slice AX nX cX] W' (Tells (.bool zz) W')) := Lib.hid (fun W' hs => by rw [ezz]; exact Gives.tells (zero_any AX nX cX sX W' (MX.out.stays hs).ref.bts enX.symm (by omega)))
          have cv : ∀ W', Stp [] wX [] W' → Sem.run Try.prog (convert 31 9 (.slice AX nX cX)) W' = .ok (.string ts) W' := fun W' hs => by
            rw [ets]
            exact conv_bts cX nX (MX.out.stays hs).ref.bts enX
          have hcur := hP.out wX.drew (Stp.drew [] wX)
          clear ets ezz enX hs1
          go_region_held (fun W' => Stp [] wX [] W' ∧ W'.cell? ⟨p, 0, none⟩ = some (.slice AX nX cX)) (first | exact hcur | assumption)
            (first
              | (go_at_call 20; (with_reducible refine (KL.out _ hcur.1).mono ?_); rintro _ wa ⟨rfl, q⟩; replace hcur := hP.out _ (hcur.1.trans q); clear q)
              | (go_at_call 21; (with_reducible refine (KT.out _ hcur.1).mono ?_); rintro _ wb ⟨rfl, q⟩; replace hcur := hP.out _ (hcur.1.trans q); clear q)
              | (go_at_call 22; (with_reducible refine (KC.out _ hcur.1).mono ?_); rintro _ wc ⟨rfl, q⟩; replace hcur := hP.out _ (hcur.1.trans q); clear q)
              | (go_at_call 23; (with_reducible refine (KZ.out _ hcur.1).mono ?_); rintro _ wd ⟨rfl, q⟩; replace hcur := hP.out _ (hcur.1.trans q); clear q)
              | (go_at_call 24; (with_reducible refine (KY.out _ hcur.1).mono ?_); rintro _ wE ⟨rfl, q⟩; replace hcur := hP.out _ (hcur.1.trans q); clear q))
          all_goals
            have M9 : Aside (Pr w wE b g p N AX cX sX sX) := MX.out.stays hcur.1
            have KJ : Hid (∀ j : Nat, j < N → ∃ z : Int, Calls Try.prog 25 #[.pointer (some ⟨b, 0, none⟩), .int .i64 (j : Int)] wE (Gives (.tuple #[.int .u8 z, .int .i64 0]) wE) ∧ Calls Try.prog 26 #[.pointer (some ⟨p, 0, none⟩), .int .i64 (j : Int)] wE (Gives (.int .u8 z) wE)) :=
              Lib.hid (fun j hj => ⟨_, cell_run M9.out.one.ar j hj, rcell_run M9.out.ref j hj⟩)
            clear hP KL KT KC KZ KY cv hcur MX
            go_wp2_with fail
            refine (KS.out _).mono ?_
            rintro _ wE ⟨rfl, rfl⟩
            go_wp2
            go_loopg [145] N (fun gj vj wj => ∃ j : Nat, vj = .int .i64 (j : Int) ∧ j ≤ N ∧ N - j ≤ gj ∧ Aside (wj = wE))
            case atStart => exact ⟨0, rfl, by omega, by omega, rfl⟩
            case round =>
              obtain ⟨j, rfl, hj2, hgj, HJ⟩ := hrel
              obtain rfl := HJ.out
              by_cases hjl : j < N
              · have hjz : (j : Int) < (N : Int) := by omega
                obtain ⟨zc, k1, k2⟩ := KJ.out j hjl
                have KJ1 := Lib.hid k1
                have KJ2 := Lib.hid k2
                clear k1 k2
                go_wp2_with fail
                refine KJ1.out.mono ?_
                rintro _ wE ⟨rfl, rfl⟩
                go_wp2_with fail
                refine KJ2.out.mono ?_
                rintro _ wE ⟨rfl, rfl⟩
                clear KJ1 KJ2
                go_wp2
                go_roundg (N - (j + 1))
                case measure => omega
                case rel => exact ⟨j + 1, by go_num, by omega, by omega, rfl⟩
              · have hjz : ¬ (j : Int) < (N : Int) := by omega
                go_wp2
                go_roundg (n - (i + 1))
                case measure => omega
                case rel => exact ⟨i + 1, by go_num, by omega, by omega, AX, cX, sX, M9.out⟩
      · have b0 : (k == 0) = false := by simpa using k0
        by_cases k1 : k = 1
        · subst k1
          clear k0 b0
          go_wp2_with fail
          generalize wr.alloc (.cells #[.int .i64 1, .int .i64 y1, .int .i64 y2, .int .i64 y3, .slice P m cp] 35) = wA at *
          generalize wr.heap.size = NB at *
          have d1wA : wA.cell? ⟨NB, 1, none⟩ = some (.int .i64 y1) := by rw [cell_of_row wA NB 1 _ _ _ HNN.out]; rfl
          have d2wA : wA.cell? ⟨NB, 2, none⟩ = some (.int .i64 y2) := by rw [cell_of_row wA NB 2 _ _ _ HNN.out]; rfl
          have H2 : Aside (Pr w wA.drew b g p N A c s s) := H1.out.stays (Stp.drew [] wA)
          have HB : Aside (wA.drew.heap[NB]? = some (.cells #[.int .i64 1, .int .i64 y1, .int .i64 y2, .int .i64 y3, .slice P m cp] 35 (0, 0))) := HNN.out
          obtain ⟨R, eR⟩ : ∃ R, R = delR s y1 y2 := ⟨_, rfl⟩
          have K1 : Hid (Calls Try.prog 15 #[.pointer (some ⟨b, 0, none⟩), .int .i64 y1, .int .i64 y2] wA.drew (Acted b g N R wA.drew)) := Lib.hid (by rw [eR]; exact del_any H2.out.one.ar y1 y2)
          have K2 : Hid (∀ w1, Rf w1 p N A c s → Stp [] w [] w1 → Calls Try.prog 16 #[.pointer (some ⟨p, 0, none⟩), .int .i64 y1, .int .i64 y2] w1 (Refd p N A R w1)) := Lib.hid (fun w1 hr hs => by rw [eR]; exact rdel_any hr y1 y2 HL.out.1)
          clear c0 c1 c2 c3 c4 H1 HNN eR
          go_region_held3 (fun w' => w'.cell? ⟨NB, 1, none⟩ = some (.int .i64 y1) ∧ w'.cell? ⟨NB, 2, none⟩ = some (.int .i64 y2))
            (first | exact ⟨by assumption, by assumption⟩ | go_keep)
            ((first
              | (go_at_call 15
                 refine K1.out.mono ?_
                 rintro _ w1 ⟨rfl, a1, q1⟩
                 have M1 : Aside (Pr w w1 b g p N A c R.2 s) := H2.out.first a1 q1
                 have HB1 : Aside (w1.heap[NB]? = some (.cells #[.int .i64 1, .int .i64 y1, .int .i64 y2, .int .i64 y3, .slice P m cp] 35 (0, 0))) := H2.out.kept HB.out q1 ⟨HNF.out.1, HNF.out.2.1⟩
                 have d1w1 : w1.cell? ⟨NB, 1, none⟩ = some (.int .i64 y1) := by rw [cell_of_row w1 NB 1 _ _ _ HB1.out]; rfl
                 have d2w1 : w1.cell? ⟨NB, 2, none⟩ = some (.int .i64 y2) := by rw [cell_of_row w1 NB 2 _ _ _ HB1.out]; rfl
                 clear a1 q1)
              | (go_at_call 16
                 refine (K2.out _ M1.out.ref M1.out.one.stp).mono ?_
                 rintro _ wX ⟨rfl, AX, cX, r2, a2, q2⟩
                 have M2 : Aside (Pr w wX b g p N AX cX R.2 R.2) := M1.out.second r2 a2 q2
                 have HB2 : Aside (wX.heap[NB]? = some (.cells #[.int .i64 1, .int .i64 y1, .int .i64 y2, .int .i64 y3, .slice P m cp] 35 (0, 0))) := kept_p HB1.out q2 HNF.out.2.2
                 have d1wX : wX.cell? ⟨NB, 1, none⟩ = some (.int .i64 y1) := by rw [cell_of_row wX NB 1 _ _ _ HB2.out]; rfl
                 have d2wX : wX.cell? ⟨NB, 2, none⟩ = some (.int .i64 y2) := by rw [cell_of_row wX NB 2 _ _ _ HB2.out]; rfl
                 clear r2 a2 q2)))
          all_goals
            clear K1 K2
            go_wp2_with fail
            obtain ⟨sX, eX⟩ : ∃ s, s = R.2 := ⟨_, rfl⟩
            have MX : Aside (Pr w wX b g p N AX cX sX sX) := by rw [eX]; exact M2.out
            clear eX M1 M2 HB HB1 HB2 d1wA d2wA d1w1 d2w1 d1wX d2wX
            have hs1 : sX.length ≤ N := MX.out.one.ar.le
            obtain ⟨nX, enX⟩ : ∃ k, k = sX.length := ⟨_, rfl⟩
            obtain ⟨ts, ets⟩ : ∃ t, t = str sX := ⟨_, rfl⟩
            obtain ⟨zz, ezz⟩ : ∃ b, b = zeros sX := ⟨_, rfl⟩
            have hP : Hid (∀ W', Stp [] wX [] W' → Stp [] wX [] W' ∧ W'.cell? ⟨p, 0, none⟩ = some (.slice AX nX cX)) := Lib.hid (fun W' hs => ⟨hs, by rw [enX]; exact (MX.out.stays hs).ref.c0⟩)
            have KL : Hid (∀ W', Stp [] wX [] W' → Calls Try.prog 20 #[.pointer (some ⟨b, 0, none⟩)] W' (Tells (.int .i64 (nX : Int)) W')) := Lib.hid (fun W' hs => by rw [enX]; exact Gives.tells (len_cl (MX.out.stays hs).one.ar))
            have KT : Hid (∀ W', Stp [] wX [] W' → Calls Try.prog 21 #[.pointer (some ⟨b, 0, none⟩)] W' (Tells (.string ts) W')) := Lib.hid (fun W' hs => by rw [ets]; exact text_run (MX.out.stays hs).one.ar)
            have KC : Hid (∀ W', Stp [] wX [] W' → Calls Try.prog 22 #[.pointer (some ⟨b, 0, none⟩)] W' (Tells (.bool true) W')) := Lib.hid (fun W' hs => Says.tells (clean_run (MX.out.stays hs).one.ar))
            have KZ : Hid (∀ W', Stp [] wX [] W' → Calls Try.prog 23 #[.pointer (some ⟨b, 0, none⟩)] W' (Tells (.bool zz) W')) := Lib.hid (fun W' hs => by rw [ezz]; exact Says.tells (zero_run (MX.out.stays hs).one.ar))
            have KY : Hid (∀ W', Stp [] wX [] W' → Calls Try.prog 24 #[.slice AX nX cX] W' (Tells (.bool zz) W')) := Lib.hid (fun W' hs => by rw [ezz]; exact Gives.tells (zero_any AX nX cX sX W' (MX.out.stays hs).ref.bts enX.symm (by omega)))
            have cv : ∀ W', Stp [] wX [] W' → Sem.run Try.prog (convert 31 9 (.slice AX nX cX)) W' = .ok (.string ts) W' := fun W' hs => by
              rw [ets]
              exact conv_bts cX nX (MX.out.stays hs).ref.bts enX
            have hcur := hP.out wX.drew (Stp.drew [] wX)
            clear ets ezz enX hs1
            go_region_held (fun W' => Stp [] wX [] W' ∧ W'.cell? ⟨p, 0, none⟩ = some (.slice AX nX cX)) (first | exact hcur | assumption)
              (first
                | (go_at_call 20; (with_reducible refine (KL.out _ hcur.1).mono ?_); rintro _ wa ⟨rfl, q⟩; replace hcur := hP.out _ (hcur.1.trans q); clear q)
                | (go_at_call 21; (with_reducible refine (KT.out _ hcur.1).mono ?_); rintro _ wb ⟨rfl, q⟩; replace hcur := hP.out _ (hcur.1.trans q); clear q)
                | (go_at_call 22; (with_reducible refine (KC.out _ hcur.1).mono ?_); rintro _ wc ⟨rfl, q⟩; replace hcur := hP.out _ (hcur.1.trans q); clear q)
                | (go_at_call 23; (with_reducible refine (KZ.out _ hcur.1).mono ?_); rintro _ wd ⟨rfl, q⟩; replace hcur := hP.out _ (hcur.1.trans q); clear q)
                | (go_at_call 24; (with_reducible refine (KY.out _ hcur.1).mono ?_); rintro _ wE ⟨rfl, q⟩; replace hcur := hP.out _ (hcur.1.trans q); clear q))
            all_goals
              have M9 : Aside (Pr w wE b g p N AX cX sX sX) := MX.out.stays hcur.1
              have KJ : Hid (∀ j : Nat, j < N → ∃ z : Int, Calls Try.prog 25 #[.pointer (some ⟨b, 0, none⟩), .int .i64 (j : Int)] wE (Gives (.tuple #[.int .u8 z, .int .i64 0]) wE) ∧ Calls Try.prog 26 #[.pointer (some ⟨p, 0, none⟩), .int .i64 (j : Int)] wE (Gives (.int .u8 z) wE)) :=
                Lib.hid (fun j hj => ⟨_, cell_run M9.out.one.ar j hj, rcell_run M9.out.ref j hj⟩)
              clear hP KL KT KC KZ KY cv hcur MX
              go_wp2_with fail
              refine (KS.out _).mono ?_
              rintro _ wE ⟨rfl, rfl⟩
              go_wp2
              go_loopg [145] N (fun gj vj wj => ∃ j : Nat, vj = .int .i64 (j : Int) ∧ j ≤ N ∧ N - j ≤ gj ∧ Aside (wj = wE))
              case atStart => exact ⟨0, rfl, by omega, by omega, rfl⟩
              case round =>
                obtain ⟨j, rfl, hj2, hgj, HJ⟩ := hrel
                obtain rfl := HJ.out
                by_cases hjl : j < N
                · have hjz : (j : Int) < (N : Int) := by omega
                  obtain ⟨zc, k1, k2⟩ := KJ.out j hjl
                  have KJ1 := Lib.hid k1
                  have KJ2 := Lib.hid k2
                  clear k1 k2
                  go_wp2_with fail
                  refine KJ1.out.mono ?_
                  rintro _ wE ⟨rfl, rfl⟩
                  go_wp2_with fail
                  refine KJ2.out.mono ?_
                  rintro _ wE ⟨rfl, rfl⟩
                  clear KJ1 KJ2
                  go_wp2
                  go_roundg (N - (j + 1))
                  case measure => omega
                  case rel => exact ⟨j + 1, by go_num, by omega, by omega, rfl⟩
                · have hjz : ¬ (j : Int) < (N : Int) := by omega
                  go_wp2
                  go_roundg (n - (i + 1))
                  case measure => omega
                  case rel => exact ⟨i + 1, by go_num, by omega, by omega, AX, cX, sX, M9.out⟩
        · have b1 : (k == 1) = false := by simpa using k1
          by_cases k2 : k = 2
          · subst k2
            clear k0 b0 k1 b1
            go_wp2_with fail
            generalize wr.alloc (.cells #[.int .i64 2, .int .i64 y1, .int .i64 y2, .int .i64 y3, .slice P m cp] 35) = wA at *
            generalize wr.heap.size = NB at *
            have d1wA : wA.cell? ⟨NB, 1, none⟩ = some (.int .i64 y1) := by rw [cell_of_row wA NB 1 _ _ _ HNN.out]; rfl
            have d2wA : wA.cell? ⟨NB, 2, none⟩ = some (.int .i64 y2) := by rw [cell_of_row wA NB 2 _ _ _ HNN.out]; rfl
            have d3wA : wA.cell? ⟨NB, 3, none⟩ = some (.int .i64 y3) := by rw [cell_of_row wA NB 3 _ _ _ HNN.out]; rfl
            have H2 : Aside (Pr w wA.drew b g p N A c s s) := H1.out.stays (Stp.drew [] wA)
            have HB : Aside (wA.drew.heap[NB]? = some (.cells #[.int .i64 2, .int .i64 y1, .int .i64 y2, .int .i64 y3, .slice P m cp] 35 (0, 0))) := HNN.out
            obtain ⟨R, eR⟩ : ∃ R, R = movR s y1 y2 y3 := ⟨_, rfl⟩
            have K1 : Hid (Calls Try.prog 17 #[.pointer (some ⟨b, 0, none⟩), .int .i64 y1, .int .i64 y2, .int .i64 y3] wA.drew (Acted b g N R wA.drew)) := Lib.hid (by rw [eR]; exact mov_any H2.out.one.ar y1 y2 y3)
            have K2 : Hid (∀ w1, Rf w1 p N A c s → Stp [] w [] w1 → Calls Try.prog 18 #[.pointer (some ⟨p, 0, none⟩), .int .i64 y1, .int .i64 y2, .int .i64 y3] w1 (Refd p N A R w1)) := Lib.hid (fun w1 hr hs => by rw [eR]; exact rmov_any hr y1 y2 y3 HL.out.1 HL.out.2)
            clear c0 c1 c2 c3 c4 H1 HNN eR
            go_region_held3 (fun w' => w'.cell? ⟨NB, 1, none⟩ = some (.int .i64 y1) ∧ w'.cell? ⟨NB, 2, none⟩ = some (.int .i64 y2) ∧ w'.cell? ⟨NB, 3, none⟩ = some (.int .i64 y3))
              (first | exact ⟨by assumption, by assumption, by assumption⟩ | go_keep)
              ((first
                | (go_at_call 17
                   refine K1.out.mono ?_
                   rintro _ w1 ⟨rfl, a1, q1⟩
                   have M1 : Aside (Pr w w1 b g p N A c R.2 s) := H2.out.first a1 q1
                   have HB1 : Aside (w1.heap[NB]? = some (.cells #[.int .i64 2, .int .i64 y1, .int .i64 y2, .int .i64 y3, .slice P m cp] 35 (0, 0))) := H2.out.kept HB.out q1 ⟨HNF.out.1, HNF.out.2.1⟩
                   have d1w1 : w1.cell? ⟨NB, 1, none⟩ = some (.int .i64 y1) := by rw [cell_of_row w1 NB 1 _ _ _ HB1.out]; rfl
                   have d2w1 : w1.cell? ⟨NB, 2, none⟩ = some (.int .i64 y2) := by rw [cell_of_row w1 NB 2 _ _ _ HB1.out]; rfl
                   have d3w1 : w1.cell? ⟨NB, 3, none⟩ = some (.int .i64 y3) := by rw [cell_of_row w1 NB 3 _ _ _ HB1.out]; rfl
                   clear a1 q1)
                | (go_at_call 18
                   refine (K2.out _ M1.out.ref M1.out.one.stp).mono ?_
                   rintro _ wX ⟨rfl, AX, cX, r2, a2, q2⟩
                   have M2 : Aside (Pr w wX b g p N AX cX R.2 R.2) := M1.out.second r2 a2 q2
                   have HB2 : Aside (wX.heap[NB]? = some (.cells #[.int .i64 2, .int .i64 y1, .int .i64 y2, .int .i64 y3, .slice P m cp] 35 (0, 0))) := kept_p HB1.out q2 HNF.out.2.2
                   have d1wX : wX.cell? ⟨NB, 1, none⟩ = some (.int .i64 y1) := by rw [cell_of_row wX NB 1 _ _ _ HB2.out]; rfl
                   have d2wX : wX.cell? ⟨NB, 2, none⟩ = some (.int .i64 y2) := by rw [cell_of_row wX NB 2 _ _ _ HB2.out]; rfl
                   have d3wX : wX.cell? ⟨NB, 3, none⟩ = some (.int .i64 y3) := by rw [cell_of_row wX NB 3 _ _ _ HB2.out]; rfl
                   clear r2 a2 q2)))
            all_goals
              clear K1 K2
              go_wp2_with fail
              obtain ⟨sX, eX⟩ : ∃ s, s = R.2 := ⟨_, rfl⟩
              have MX : Aside (Pr w wX b g p N AX cX sX sX) := by rw [eX]; exact M2.out
              clear eX M1 M2 HB HB1 HB2 d1wA d2wA d3wA d1w1 d2w1 d3w1 d1wX d2wX d3wX
              have hs1 : sX.length ≤ N := MX.out.one.ar.le
              obtain ⟨nX, enX⟩ : ∃ k, k = sX.length := ⟨_, rfl⟩
              obtain ⟨ts, ets⟩ : ∃ t, t = str sX := ⟨_, rfl⟩
              obtain ⟨zz, ezz⟩ : ∃ b, b = zeros sX := ⟨_, rfl⟩
              have hP : Hid (∀ W', Stp [] wX [] W' → Stp [] wX [] W' ∧ W'.cell? ⟨p, 0, none⟩ = some (.slice AX nX cX)) := Lib.hid (fun W' hs => ⟨hs, by rw [enX]; exact (MX.out.stays hs).ref.c0⟩)
              have KL : Hid (∀ W', Stp [] wX [] W' → Calls Try.prog 20 #[.pointer (some ⟨b, 0, none⟩)] W' (Tells (.int .i64 (nX : Int)) W')) := Lib.hid (fun W' hs => by rw [enX]; exact Gives.tells (len_cl (MX.out.stays hs).one.ar))
              have KT : Hid (∀ W', Stp [] wX [] W' → Calls Try.prog 21 #[.pointer (some ⟨b, 0, none⟩)] W' (Tells (.string ts) W')) := Lib.hid (fun W' hs => by rw [ets]; exact text_run (MX.out.stays hs).one.ar)
              have KC : Hid (∀ W', Stp [] wX [] W' → Calls Try.prog 22 #[.pointer (some ⟨b, 0, none⟩)] W' (Tells (.bool true) W')) := Lib.hid (fun W' hs => Says.tells (clean_run (MX.out.stays hs).one.ar))
              have KZ : Hid (∀ W', Stp [] wX [] W' → Calls Try.prog 23 #[.pointer (some ⟨b, 0, none⟩)] W' (Tells (.bool zz) W')) := Lib.hid (fun W' hs => by rw [ezz]; exact Says.tells (zero_run (MX.out.stays hs).one.ar))
              have KY : Hid (∀ W', Stp [] wX [] W' → Calls Try.prog 24 #[.slice AX nX cX] W' (Tells (.bool zz) W')) := Lib.hid (fun W' hs => by rw [ezz]; exact Gives.tells (zero_any AX nX cX sX W' (MX.out.stays hs).ref.bts enX.symm (by omega)))
              have cv : ∀ W', Stp [] wX [] W' → Sem.run Try.prog (convert 31 9 (.slice AX nX cX)) W' = .ok (.string ts) W' := fun W' hs => by
                rw [ets]
                exact conv_bts cX nX (MX.out.stays hs).ref.bts enX
              have hcur := hP.out wX.drew (Stp.drew [] wX)
              clear ets ezz enX hs1
              go_region_held (fun W' => Stp [] wX [] W' ∧ W'.cell? ⟨p, 0, none⟩ = some (.slice AX nX cX)) (first | exact hcur | assumption)
                (first
                  | (go_at_call 20; (with_reducible refine (KL.out _ hcur.1).mono ?_); rintro _ wa ⟨rfl, q⟩; replace hcur := hP.out _ (hcur.1.trans q); clear q)
                  | (go_at_call 21; (with_reducible refine (KT.out _ hcur.1).mono ?_); rintro _ wb ⟨rfl, q⟩; replace hcur := hP.out _ (hcur.1.trans q); clear q)
                  | (go_at_call 22; (with_reducible refine (KC.out _ hcur.1).mono ?_); rintro _ wc ⟨rfl, q⟩; replace hcur := hP.out _ (hcur.1.trans q); clear q)
                  | (go_at_call 23; (with_reducible refine (KZ.out _ hcur.1).mono ?_); rintro _ wd ⟨rfl, q⟩; replace hcur := hP.out _ (hcur.1.trans q); clear q)
                  | (go_at_call 24; (with_reducible refine (KY.out _ hcur.1).mono ?_); rintro _ wE ⟨rfl, q⟩; replace hcur := hP.out _ (hcur.1.trans q); clear q))
              all_goals
                have M9 : Aside (Pr w wE b g p N AX cX sX sX) := MX.out.stays hcur.1
                have KJ : Hid (∀ j : Nat, j < N → ∃ z : Int, Calls Try.prog 25 #[.pointer (some ⟨b, 0, none⟩), .int .i64 (j : Int)] wE (Gives (.tuple #[.int .u8 z, .int .i64 0]) wE) ∧ Calls Try.prog 26 #[.pointer (some ⟨p, 0, none⟩), .int .i64 (j : Int)] wE (Gives (.int .u8 z) wE)) :=
                  Lib.hid (fun j hj => ⟨_, cell_run M9.out.one.ar j hj, rcell_run M9.out.ref j hj⟩)
                clear hP KL KT KC KZ KY cv hcur MX
                go_wp2_with fail
                refine (KS.out _).mono ?_
                rintro _ wE ⟨rfl, rfl⟩
                go_wp2
                go_loopg [145] N (fun gj vj wj => ∃ j : Nat, vj = .int .i64 (j : Int) ∧ j ≤ N ∧ N - j ≤ gj ∧ Aside (wj = wE))
                case atStart => exact ⟨0, rfl, by omega, by omega, rfl⟩
                case round =>
                  obtain ⟨j, rfl, hj2, hgj, HJ⟩ := hrel
                  obtain rfl := HJ.out
                  by_cases hjl : j < N
                  · have hjz : (j : Int) < (N : Int) := by omega
                    obtain ⟨zc, k1, k2⟩ := KJ.out j hjl
                    have KJ1 := Lib.hid k1
                    have KJ2 := Lib.hid k2
                    clear k1 k2
                    go_wp2_with fail
                    refine KJ1.out.mono ?_
                    rintro _ wE ⟨rfl, rfl⟩
                    go_wp2_with fail
                    refine KJ2.out.mono ?_
                    rintro _ wE ⟨rfl, rfl⟩
                    clear KJ1 KJ2
                    go_wp2
                    go_roundg (N - (j + 1))
                    case measure => omega
                    case rel => exact ⟨j + 1, by go_num, by omega, by omega, rfl⟩
                  · have hjz : ¬ (j : Int) < (N : Int) := by omega
                    go_wp2
                    go_roundg (n - (i + 1))
                    case measure => omega
                    case rel => exact ⟨i + 1, by go_num, by omega, by omega, AX, cX, sX, M9.out⟩
          · have b2 : (k == 2) = false := by simpa using k2
            by_cases k3 : k = 3
            · subst k3
              clear k0 b0 k1 b1 k2 b2
              have KW := Lib.hid (wipe_run H1.out.one.ar)
              go_wp2_with fail
              refine KW.out.mono ?_
              rintro _ w1 ⟨rfl, a1, q1⟩
              have M1 : Aside (Pr w w1 b g p N A c [] s) := H1.out.first a1 q1
              have e0 := M1.out.ref.c0
              have f0 := M1.out.ref.f0
              have M2 : Aside (Pr w (w1.setCell ⟨p, 0, none⟩ (.slice none 0 0)) b g p N none 0 [] []) := M1.out.wiped
              clear KW a1 q1 H1 M1 HNN HX HNF HL c0 c1 c2 c3 c4
              go_wp2_with fail
              clear e0 f0
              generalize w1.setCell ⟨p, 0, none⟩ (.slice none 0 0) = wX at *
              obtain ⟨sX, eX⟩ : ∃ s : List UInt8, s = [] := ⟨_, rfl⟩
              obtain ⟨AX, eA⟩ : ∃ A : Option Addr, A = none := ⟨_, rfl⟩
              obtain ⟨cX, eC⟩ : ∃ c : Nat, c = 0 := ⟨_, rfl⟩
              have MX : Aside (Pr w wX b g p N AX cX sX sX) := by rw [eX, eA, eC]; exact M2.out
              clear eX eA eC M2
              have hs1 : sX.length ≤ N := MX.out.one.ar.le
              obtain ⟨nX, enX⟩ : ∃ k, k = sX.length := ⟨_, rfl⟩
              obtain ⟨ts, ets⟩ : ∃ t, t = str sX := ⟨_, rfl⟩
              obtain ⟨zz, ezz⟩ : ∃ b, b = zeros sX := ⟨_, rfl⟩
              have hP : Hid (∀ W', Stp [] wX [] W' → Stp [] wX [] W' ∧ W'.cell? ⟨p, 0, none⟩ = some (.slice AX nX cX)) := Lib.hid (fun W' hs => ⟨hs, by rw [enX]; exact (MX.out.stays hs).ref.c0⟩)
              have KL : Hid (∀ W', Stp [] wX [] W' → Calls Try.prog 20 #[.pointer (some ⟨b, 0, none⟩)] W' (Tells (.int .i64 (nX : Int)) W')) := Lib.hid (fun W' hs => by rw [enX]; exact Gives.tells (len_cl (MX.out.stays hs).one.ar))
              have KT : Hid (∀ W', Stp [] wX [] W' → Calls Try.prog 21 #[.pointer (some ⟨b, 0, none⟩)] W' (Tells (.string ts) W')) := Lib.hid (fun W' hs => by rw [ets]; exact text_run (MX.out.stays hs).one.ar)
              have KC : Hid (∀ W', Stp [] wX [] W' → Calls Try.prog 22 #[.pointer (some ⟨b, 0, none⟩)] W' (Tells (.bool true) W')) := Lib.hid (fun W' hs => Says.tells (clean_run (MX.out.stays hs).one.ar))
              have KZ : Hid (∀ W', Stp [] wX [] W' → Calls Try.prog 23 #[.pointer (some ⟨b, 0, none⟩)] W' (Tells (.bool zz) W')) := Lib.hid (fun W' hs => by rw [ezz]; exact Says.tells (zero_run (MX.out.stays hs).one.ar))
              have KY : Hid (∀ W', Stp [] wX [] W' → Calls Try.prog 24 #[.slice AX nX cX] W' (Tells (.bool zz) W')) := Lib.hid (fun W' hs => by rw [ezz]; exact Gives.tells (zero_any AX nX cX sX W' (MX.out.stays hs).ref.bts enX.symm (by omega)))
              have cv : ∀ W', Stp [] wX [] W' → Sem.run Try.prog (convert 31 9 (.slice AX nX cX)) W' = .ok (.string ts) W' := fun W' hs => by
                rw [ets]
                exact conv_bts cX nX (MX.out.stays hs).ref.bts enX
              have hcur := hP.out wX.drew (Stp.drew [] wX)
              clear ets ezz enX hs1
              go_region_held (fun W' => Stp [] wX [] W' ∧ W'.cell? ⟨p, 0, none⟩ = some (.slice AX nX cX)) (first | exact hcur | assumption)
                (first
                  | (go_at_call 20; (with_reducible refine (KL.out _ hcur.1).mono ?_); rintro _ wa ⟨rfl, q⟩; replace hcur := hP.out _ (hcur.1.trans q); clear q)
                  | (go_at_call 21; (with_reducible refine (KT.out _ hcur.1).mono ?_); rintro _ wb ⟨rfl, q⟩; replace hcur := hP.out _ (hcur.1.trans q); clear q)
                  | (go_at_call 22; (with_reducible refine (KC.out _ hcur.1).mono ?_); rintro _ wc ⟨rfl, q⟩; replace hcur := hP.out _ (hcur.1.trans q); clear q)
                  | (go_at_call 23; (with_reducible refine (KZ.out _ hcur.1).mono ?_); rintro _ wd ⟨rfl, q⟩; replace hcur := hP.out _ (hcur.1.trans q); clear q)
                  | (go_at_call 24; (with_reducible refine (KY.out _ hcur.1).mono ?_); rintro _ wE ⟨rfl, q⟩; replace hcur := hP.out _ (hcur.1.trans q); clear q))
              all_goals
                have M9 : Aside (Pr w wE b g p N AX cX sX sX) := MX.out.stays hcur.1
                have KJ : Hid (∀ j : Nat, j < N → ∃ z : Int, Calls Try.prog 25 #[.pointer (some ⟨b, 0, none⟩), .int .i64 (j : Int)] wE (Gives (.tuple #[.int .u8 z, .int .i64 0]) wE) ∧ Calls Try.prog 26 #[.pointer (some ⟨p, 0, none⟩), .int .i64 (j : Int)] wE (Gives (.int .u8 z) wE)) :=
                  Lib.hid (fun j hj => ⟨_, cell_run M9.out.one.ar j hj, rcell_run M9.out.ref j hj⟩)
                clear hP KL KT KC KZ KY cv hcur MX
                go_wp2_with fail
                refine (KS.out _).mono ?_
                rintro _ wE ⟨rfl, rfl⟩
                go_wp2
                go_loopg [145] N (fun gj vj wj => ∃ j : Nat, vj = .int .i64 (j : Int) ∧ j ≤ N ∧ N - j ≤ gj ∧ Aside (wj = wE))
                case atStart => exact ⟨0, rfl, by omega, by omega, rfl⟩
                case round =>
                  obtain ⟨j, rfl, hj2, hgj, HJ⟩ := hrel
                  obtain rfl := HJ.out
                  by_cases hjl : j < N
                  · have hjz : (j : Int) < (N : Int) := by omega
                    obtain ⟨zc, k1, k2⟩ := KJ.out j hjl
                    have KJ1 := Lib.hid k1
                    have KJ2 := Lib.hid k2
                    clear k1 k2
                    go_wp2_with fail
                    refine KJ1.out.mono ?_
                    rintro _ wE ⟨rfl, rfl⟩
                    go_wp2_with fail
                    refine KJ2.out.mono ?_
                    rintro _ wE ⟨rfl, rfl⟩
                    clear KJ1 KJ2
                    go_wp2
                    go_roundg (N - (j + 1))
                    case measure => omega
                    case rel => exact ⟨j + 1, by go_num, by omega, by omega, rfl⟩
                  · have hjz : ¬ (j : Int) < (N : Int) := by omega
                    go_wp2
                    go_roundg (n - (i + 1))
                    case measure => omega
                    case rel => exact ⟨i + 1, by go_num, by omega, by omega, AX, cX, sX, M9.out⟩
            · have b3 : (k == 3) = false := by simpa using k3
              clear k0 k1 k2 k3
              go_wp2_with fail
              generalize wr.alloc (.cells #[.int .i64 k, .int .i64 y1, .int .i64 y2, .int .i64 y3, .slice P m cp] 35) = wX at *
              obtain ⟨sX, eX⟩ : ∃ s', s' = s := ⟨_, rfl⟩
              obtain ⟨AX, eA⟩ : ∃ A', A' = A := ⟨_, rfl⟩
              obtain ⟨cX, eC⟩ : ∃ c', c' = c := ⟨_, rfl⟩
              have MX : Aside (Pr w wX b g p N AX cX sX sX) := by rw [eX, eA, eC]; exact H1.out
              clear eX eA eC H1 HNN HX HNF HL c0 c1 c2 c3 c4
              have hs1 : sX.length ≤ N := MX.out.one.ar.le
              obtain ⟨nX, enX⟩ : ∃ k, k = sX.length := ⟨_, rfl⟩
              obtain ⟨ts, ets⟩ : ∃ t, t = str sX := ⟨_, rfl⟩
              obtain ⟨zz, ezz⟩ : ∃ b, b = zeros sX := ⟨_, rfl⟩
              have hP : Hid (∀ W', Stp [] wX [] W' → Stp [] wX [] W' ∧ W'.cell? ⟨p, 0, none⟩ = some (.slice AX nX cX)) := Lib.hid (fun W' hs => ⟨hs, by rw [enX]; exact (MX.out.stays hs).ref.c0⟩)
              have KL : Hid (∀ W', Stp [] wX [] W' → Calls Try.prog 20 #[.pointer (some ⟨b, 0, none⟩)] W' (Tells (.int .i64 (nX : Int)) W')) := Lib.hid (fun W' hs => by rw [enX]; exact Gives.tells (len_cl (MX.out.stays hs).one.ar))
              have KT : Hid (∀ W', Stp [] wX [] W' → Calls Try.prog 21 #[.pointer (some ⟨b, 0, none⟩)] W' (Tells (.string ts) W')) := Lib.hid (fun W' hs => by rw [ets]; exact text_run (MX.out.stays hs).one.ar)
              have KC : Hid (∀ W', Stp [] wX [] W' → Calls Try.prog 22 #[.pointer (some ⟨b, 0, none⟩)] W' (Tells (.bool true) W')) := Lib.hid (fun W' hs => Says.tells (clean_run (MX.out.stays hs).one.ar))
              have KZ : Hid (∀ W', Stp [] wX [] W' → Calls Try.prog 23 #[.pointer (some ⟨b, 0, none⟩)] W' (Tells (.bool zz) W')) := Lib.hid (fun W' hs => by rw [ezz]; exact Says.tells (zero_run (MX.out.stays hs).one.ar))
              have KY : Hid (∀ W', Stp [] wX [] W' → Calls Try.prog 24 #[.slice AX nX cX] W' (Tells (.bool zz) W')) := Lib.hid (fun W' hs => by rw [ezz]; exact Gives.tells (zero_any AX nX cX sX W' (MX.out.stays hs).ref.bts enX.symm (by omega)))
              have cv : ∀ W', Stp [] wX [] W' → Sem.run Try.prog (convert 31 9 (.slice AX nX cX)) W' = .ok (.string ts) W' := fun W' hs => by
                rw [ets]
                exact conv_bts cX nX (MX.out.stays hs).ref.bts enX
              have hcur := hP.out wX.drew (Stp.drew [] wX)
              clear ets ezz enX hs1
              go_region_held (fun W' => Stp [] wX [] W' ∧ W'.cell? ⟨p, 0, none⟩ = some (.slice AX nX cX)) (first | exact hcur | assumption)
                (first
                  | (go_at_call 20; (with_reducible refine (KL.out _ hcur.1).mono ?_); rintro _ wa ⟨rfl, q⟩; replace hcur := hP.out _ (hcur.1.trans q); clear q)
                  | (go_at_call 21; (with_reducible refine (KT.out _ hcur.1).mono ?_); rintro _ wb ⟨rfl, q⟩; replace hcur := hP.out _ (hcur.1.trans q); clear q)
                  | (go_at_call 22; (with_reducible refine (KC.out _ hcur.1).mono ?_); rintro _ wc ⟨rfl, q⟩; replace hcur := hP.out _ (hcur.1.trans q); clear q)
                  | (go_at_call 23; (with_reducible refine (KZ.out _ hcur.1).mono ?_); rintro _ wd ⟨rfl, q⟩; replace hcur := hP.out _ (hcur.1.trans q); clear q)
                  | (go_at_call 24; (with_reducible refine (KY.out _ hcur.1).mono ?_); rintro _ wE ⟨rfl, q⟩; replace hcur := hP.out _ (hcur.1.trans q); clear q))
              all_goals
                have M9 : Aside (Pr w wE b g p N AX cX sX sX) := MX.out.stays hcur.1
                have KJ : Hid (∀ j : Nat, j < N → ∃ z : Int, Calls Try.prog 25 #[.pointer (some ⟨b, 0, none⟩), .int .i64 (j : Int)] wE (Gives (.tuple #[.int .u8 z, .int .i64 0]) wE) ∧ Calls Try.prog 26 #[.pointer (some ⟨p, 0, none⟩), .int .i64 (j : Int)] wE (Gives (.int .u8 z) wE)) :=
                  Lib.hid (fun j hj => ⟨_, cell_run M9.out.one.ar j hj, rcell_run M9.out.ref j hj⟩)
                clear hP KL KT KC KZ KY cv hcur MX
                go_wp2_with fail
                refine (KS.out _).mono ?_
                rintro _ wE ⟨rfl, rfl⟩
                go_wp2
                go_loopg [145] N (fun gj vj wj => ∃ j : Nat, vj = .int .i64 (j : Int) ∧ j ≤ N ∧ N - j ≤ gj ∧ Aside (wj = wE))
                case atStart => exact ⟨0, rfl, by omega, by omega, rfl⟩
                case round =>
                  obtain ⟨j, rfl, hj2, hgj, HJ⟩ := hrel
                  obtain rfl := HJ.out
                  by_cases hjl : j < N
                  · have hjz : (j : Int) < (N : Int) := by omega
                    obtain ⟨zc, k1, k2⟩ := KJ.out j hjl
                    have KJ1 := Lib.hid k1
                    have KJ2 := Lib.hid k2
                    clear k1 k2
                    go_wp2_with fail
                    refine KJ1.out.mono ?_
                    rintro _ wE ⟨rfl, rfl⟩
                    go_wp2_with fail
                    refine KJ2.out.mono ?_
                    rintro _ wE ⟨rfl, rfl⟩
                    clear KJ1 KJ2
                    go_wp2
                    go_roundg (N - (j + 1))
                    case measure => omega
                    case rel => exact ⟨j + 1, by go_num, by omega, by omega, rfl⟩
                  · have hjz : ¬ (j : Int) < (N : Int) := by omega
                    go_wp2
                    go_roundg (n - (i + 1))
                    case measure => omega
                    case rel => exact ⟨i + 1, by go_num, by omega, by omega, AX, cX, sX, M9.out⟩
    · have hltz : ¬ (i : Int) < (n : Int) := by omega
      have KC := Lib.hid (cap_cl HS.out.one.ar)
      go_wp2_with fail
      refine KC.out.mono ?_
      rintro _ wr ⟨rfl, rfl⟩
      go_wp2_with fail
      refine (KS.out _).mono ?_
      rintro _ wr ⟨rfl, rfl⟩
      go_wp2
      go_ret
      exact ⟨rfl, HS.out.one.stp.under⟩
theorem acts_walk (z : Int) (a : Option Addr) (cap : Nat) (l : List Ac) (w : World) (hU : As w a l) (hl : l.length ≤ 9223372036854775807) :
    Calls Try.prog 3 #[.int .i64 z, .slice a l.length cap] w (Truth w) := by
  cases hg : Great l with
  | true => exact acts_long z a cap l.length l w hU rfl hl hg
  | false => exact acts_short z a cap l.length l w hU rfl hl hg
end Go.Proofs.Ytkkfpbnlhgnchaa
