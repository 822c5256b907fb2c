/-
  ArenaParts returns true for every bytes and places.
-/
import Derived.Test.YtkkfpbnlhgnchaaTwo
import Derived.Deep.RegionHeld
namespace Go.Proofs.Ytkkfpbnlhgnchaa
open Go.RowKit Go.Lib
set_option linter.unusedVariables false

theorem str_append (l m : List UInt8) : str (l ++ m) = str l ++ str m := by
  apply ByteArray.ext
  apply Array.toList_inj.1
  rw [str_data, ByteArray.data_append, Array.toList_append, str_data, str_data]
theorem insert_zero {W : World} {b g N : Nat} {l : List UInt8} (h : Ar W b g N l) (p : Option Addr) (x : List UInt8) (n c : Nat) (hx : Bts W p x) (hd : x ≠ [] → ∀ ad, p = some ad → ad.block ≠ g) (hl : n = x.length) (hn : l.length + n ≤ N) :
    Calls Try.prog 13 #[.pointer (some ⟨b, 0, none⟩), .int .i64 0, .slice p n c] W
      fun e w' => e = .returned (.int .i64 0) ∧ Ar w' b g N (x ++ l) ∧ Stp [b, g] W [b, g] w' :=
  (insert_run h 0 p x n c hx hd hl (Nat.zero_le _) hn).mono fun e w' ⟨h1, h2, h3⟩ => ⟨h1, by simpa using h2, h3⟩
theorem parts_list {x : List UInt8} {i m j : Nat} (h1 : i ≤ m) (h2 : m ≤ j) (h3 : j ≤ x.length) : (x.take m ++ x.drop j).take i ++ (x.take m ++ x.drop j).drop m = x.take i ++ x.drop j := by
  rw [List.take_append_of_le_length (by simp; omega), List.take_take, Nat.min_eq_left h1, List.drop_left' (by simp; omega)]

set_option maxHeartbeats 4000000 in
set_option maxRecDepth 100000 in
theorem parts_at (a0 : Option Addr) (cap0 n0 m : Nat) (x : List UInt8) (px py pz : Int) (w : World) (hx : Bts w a0 x) (hm : x.length = m) (hm2 : m ≤ cap0) (hmt : m ≤ 200)
    (hmin : ∀ (w : World) (ts : Array TypeId) (t : TypeId), (Builtin.min_ ts t #[.int .i64 (n0 : Int), .int .i64 200]).run Try.prog w = .ok (.int .i64 (m : Int)) w) :
    Calls Try.prog 8 #[.slice a0 n0 cap0, .agg #[.int .i64 px, .int .i64 py, .int .i64 pz]] w (Truth w) := by
  have KN : Hid (∀ W, Calls Try.prog 9 #[.int .i64 200] W (Newed W 200)) := Lib.hid (fun W => new_run 200 W (by omega) (by omega))
  have KA := Lib.hid alive_tells
  have s1 := cut_h a0 n0 cap0 m hm2
  have HX := Lib.hid (And.intro hx hm)
  clear hx hm
  go_enter Try.func8, Try.ntmps8
  go_wp2_with fail
  go_quiet (fail)
  go_wp2_with fail
  refine (KN.out _).mono ?_
  rintro _ w1 ⟨b, g, rfl, hb, hg, h1, q1⟩
  have H1 := Lib.hid (And.intro hb (And.intro hg (And.intro h1 q1)))
  clear hb hg h1 q1
  go_wp2_with fail
  refine (KN.out _).mono ?_
  rintro _ w2 ⟨b', g', rfl, hb, hg, h2, q2⟩
  have H2 : Aside (Two w w2 b g b' g' 200 [] []) := Two.mk' ((Stp.alloc [] w _).trans (Stp.drewN [] _ nq)) H1.out.1 H1.out.2.1 H1.out.2.2.1 H1.out.2.2.2 hb hg h2 q2
  clear hb hg h2 q2 H1 KN
  go_wp2_with fail
  refine (KA.out _).mono ?_
  rintro _ w3 ⟨rfl, q⟩
  have H3 : Aside (Two w w3 b g b' g' 200 [] []) := H2.out.stays q
  clear q H2 KA
  -- the places
  have hC := modN_le px m
  have cC := modN_cast px m
  obtain ⟨C, eC⟩ : ∃ C, C = modN px m := ⟨_, rfl⟩
  rw [← eC] at hC cC
  have hI := modN_le py m
  have cI := modN_cast py m
  obtain ⟨I, eI⟩ : ∃ I, I = modN py m := ⟨_, rfl⟩
  rw [← eI] at hI cI
  have hJ := modN_le pz (m - I)
  have cJ := modN_cast pz (m - I)
  obtain ⟨J, eJ⟩ : ∃ J, J = modN pz (m - I) := ⟨_, rfl⟩
  rw [← eJ, show ((m - I : Nat) : Int) = (m : Int) - (I : Int) by omega] at cJ
  rw [← eJ] at hJ
  clear eC eI eJ
  obtain ⟨zx, wx, x0, x1, ex⟩ := word px
  obtain ⟨zy, wy, y0, y1, ey⟩ := word py
  obtain ⟨zz, wz, z0, z1, ez⟩ := word pz
  rw [← ex] at cC
  rw [← ey] at cI
  rw [← ez] at cJ
  clear ex ey ez
  obtain ⟨K, eK⟩ : ∃ K, K = I + J := ⟨_, rfl⟩
  obtain ⟨Q, eQ⟩ : ∃ Q, Q = I + J / 2 := ⟨_, rfl⟩
  obtain ⟨Hf, eH⟩ : ∃ Hf, Hf = J / 2 := ⟨_, rfl⟩
  have hKm : K ≤ m := by omega
  have hIQ : I ≤ Q := by omega
  have hQK : Q ≤ K := by omega
  have hIK : I ≤ K := by omega
  have d1 : (I : Int) + (J : Int) = (K : Int) := by omega
  have d2 : (K : Int) - (I : Int) = (J : Int) := by omega
  have d3 : (J : Int) / 2 = (Hf : Int) := by omega
  have d4 : (I : Int) + (Hf : Int) = (Q : Int) := by omega
  clear eK eQ eH
  have s2 := cut_h a0 m cap0 C (by omega)
  have s3 := cut_l a0 m cap0 C (by omega)
  obtain ⟨aC, eaC⟩ : ∃ a, a = cutp a0 C cap0 := ⟨_, rfl⟩
  obtain ⟨mC, emC⟩ : ∃ k, k = m - C := ⟨_, rfl⟩
  obtain ⟨cC', ecC⟩ : ∃ k, k = cap0 - C := ⟨_, rfl⟩
  rw [← eaC, ← emC, ← ecC] at s3
  -- the two parts of the bytes
  have HP : Aside (Bts w a0 (x.take C) ∧ Bts w aC (x.drop C) ∧ (x.take C).length = C ∧ (x.drop C).length = mC ∧ x.take C ++ x.drop C = x ∧ x.length = m ∧ C + mC = m) := by
    refine ⟨Bts.head (M' := x.drop C) (by rw [List.take_append_drop]; exact HX.out.1), ?_, by have := HX.out.2; simp; omega, by have := HX.out.2; simp; omega, List.take_append_drop _ _, HX.out.2, by omega⟩
    have := HX.out.1.cut (i := C) (j := m) (N := cap0) hC (by rw [HX.out.2]; exact Nat.le_refl _) (by rw [HX.out.2]; exact hm2)
    rw [List.take_of_length_le (by have := HX.out.2; simp; omega), ← eaC] at this
    exact this
  clear eaC emC ecC
  obtain ⟨X, eX⟩ : ∃ X, X = x.take C := ⟨_, rfl⟩
  obtain ⟨Y, eY⟩ : ∃ Y, Y = x.drop C := ⟨_, rfl⟩
  rw [← eX, ← eY] at HP
  clear eX eY
  have hcur : Stp [b, g, b', g'] w3 [b, g, b', g'] w3.drew := Stp.drew _ w3
  have T0 : Aside (Two w w3.drew b g b' g' 200 [] []) := H3.out.stays (Stp.drew [] w3)
  have cv : ∀ W, Stp [b, g, b', g'] w3 [b, g, b', g'] W → Sem.run Try.prog (convert 31 9 (.slice a0 m cap0)) W = .ok (.string (str x)) W := fun W hs =>
    conv_bts cap0 m ((HX.out.1.stays H3.out.stp).other hs (fun hl ad e => by
      have h1 := HX.out.1.apart H3.out.new.1 hl ad e
      have h2 := HX.out.1.apart H3.out.new.2.1 hl ad e
      have h3 := HX.out.1.apart H3.out.new.2.2.1 hl ad e
      have h4 := HX.out.1.apart H3.out.new.2.2.2 hl ad e
      simp
      omega)) HX.out.2.symm
  clear H3
  have HA : Aside (∀ {W : World} {l l' : List UInt8}, Two w W b g b' g' 200 l l' → Bts W a0 X ∧ Bts W aC Y ∧ (X ≠ [] → ∀ ad, a0 = some ad → ad.block ≠ g ∧ ad.block ≠ g') ∧ (Y ≠ [] → ∀ ad, aC = some ad → ad.block ≠ g ∧ ad.block ≠ g')) := fun h =>
    ⟨HP.out.1.stays h.stp, HP.out.2.1.stays h.stp, fun hl ad e => ⟨HP.out.1.apart h.new.2.1 hl ad e, HP.out.1.apart h.new.2.2.2 hl ad e⟩, fun hl ad e => ⟨HP.out.2.1.apart h.new.2.1 hl ad e, HP.out.2.1.apart h.new.2.2.2 hl ad e⟩⟩
  have HE : Aside (X.take C ++ Y ++ X.drop C = x ∧ X ++ Y = x ∧ X.length = C ∧ Y.length = mC ∧ C + mC = m) := by
    obtain ⟨_, _, e1, e2, e3, e4, e5⟩ := HP.out
    refine ⟨?_, e3, e1, e2, e5⟩
    rw [List.take_of_length_le (by omega), List.drop_eq_nil_of_le (by omega), List.append_nil]
    exact e3
  have K1 := Lib.hid (insert_zero T0.out.fst a0 X C cap0 (HA.out T0.out).1 (fun hl ad e => ((HA.out T0.out).2.2.1 hl ad e).1) HE.out.2.2.1.symm (by simp; omega))
  have HN : Aside (∀ k ∈ [b, g, b', g'], w.heap.size ≤ k) := fun k hk => by
    have := T0.out.new
    simp at hk
    omega
  have i0 : 0 ≤ C := Nat.zero_le _
  go_wp2_with fail
  go_region_held (fun W => Stp [b, g, b', g'] w3 [b, g, b', g'] W) (first | exact hcur | assumption)
    (first
      | (go_at_call 13; (with_reducible refine K1.out.mono ?_); rintro _ w4 ⟨rfl, h, q⟩; replace hcur := hcur.trans (q.more (fun k hk => by simp at hk ⊢; omega)); have T1 : Aside (Two w w4 b g b' g' 200 X []) := T0.out.first (by simpa using h) q
         have K2 := Lib.hid (insert_run T1.out.fst C aC Y mC cC' (HA.out T1.out).2.1 (fun hl ad e => ((HA.out T1.out).2.2.2 hl ad e).1) HE.out.2.2.2.1.symm (by have := HE.out; omega) (by have := HE.out; omega)); clear h q K1)
      | (go_at_call 13; (with_reducible refine K2.out.mono ?_); rintro _ w5 ⟨rfl, h, q⟩; replace hcur := hcur.trans (q.more (fun k hk => by simp at hk ⊢; omega)); rw [HE.out.1] at h; have T2 : Aside (Two w w5 b g b' g' 200 x []) := T1.out.first h q
         have K3 := Lib.hid (insert_zero T2.out.snd aC Y mC cC' (HA.out T2.out).2.1 (fun hl ad e => ((HA.out T2.out).2.2.2 hl ad e).2) HE.out.2.2.2.1.symm (by have := HE.out; simp; omega)); clear h q K2)
      | (go_at_call 13; (with_reducible refine K3.out.mono ?_); rintro _ w6 ⟨rfl, h, q⟩; replace hcur := hcur.trans (q.more (fun k hk => by simp at hk ⊢; omega)); have T3 : Aside (Two w w6 b g b' g' 200 x Y) := T2.out.second (by simpa using h) q
         have K4 := Lib.hid (insert_zero T3.out.snd a0 X C cap0 (HA.out T3.out).1 (fun hl ad e => ((HA.out T3.out).2.2.1 hl ad e).2) HE.out.2.2.1.symm (by have := HE.out; omega)); clear h q K3)
      | (go_at_call 13; (with_reducible refine K4.out.mono ?_); rintro _ w7 ⟨rfl, h, q⟩; replace hcur := hcur.trans (q.more (fun k hk => by simp at hk ⊢; omega)); rw [HE.out.2.1] at h; have T4 : Aside (Two w w7 b g b' g' 200 x x) := T3.out.second h q
         have K5 := Lib.hid (text_run T4.out.fst); clear h q K4)
      | (go_at_call 21; (with_reducible refine K5.out.mono ?_); rintro _ w8 ⟨rfl, q⟩; replace hcur := hcur.trans (q.widen (fun k h => .inl h)); have T5 : Aside (Two w w8 b g b' g' 200 x x) := T4.out.stays q
         have K6 := Lib.hid (text_run T5.out.snd); clear q K5)
      | (go_at_call 21; (with_reducible refine K6.out.mono ?_); rintro _ w9 ⟨rfl, q⟩; replace hcur := hcur.trans (q.widen (fun k h => .inl h)); have T6 : Aside (Two w w9 b g b' g' 200 x x) := T5.out.stays q
         clear q K6))
  clear cv hcur T0 T1 T2 T3 T4 T5 HA HE HP s2 s3
  have K7 := Lib.hid (delete_run T6.out.fst I K hIK (by rw [HX.out.2]; exact hKm))
  go_wp2_with fail
  refine K7.out.mono ?_
  rintro _ w10 ⟨rfl, h, q⟩
  have T7 : Aside (Two w w10 b g b' g' 200 (x.take I ++ x.drop K) x) := T6.out.first h q
  have K8 := Lib.hid (delete_run T7.out.snd Q K hQK (by rw [HX.out.2]; exact hKm))
  clear K7 h q T6
  go_wp2_with fail
  refine K8.out.mono ?_
  rintro _ w11 ⟨rfl, h, q⟩
  have T8 : Aside (Two w w11 b g b' g' 200 (x.take I ++ x.drop K) (x.take Q ++ x.drop K)) := T7.out.second h q
  have K9 := Lib.hid (delete_run T8.out.snd I Q hIQ (by have := HX.out.2; simp; omega))
  rw [parts_list hIQ hQK (by rw [HX.out.2]; exact hKm)] at K9
  clear K8 h q T7
  go_wp2_with fail
  refine K9.out.mono ?_
  rintro _ w12 ⟨rfl, h, q⟩
  have T9 : Aside (Two w w12 b g b' g' 200 (x.take I ++ x.drop K) (x.take I ++ x.drop K)) := T8.out.second h q
  clear K9 h q T8
  have s4 := cut_h a0 m cap0 I (by omega)
  have s5 := cut_l a0 m cap0 K (by omega)
  obtain ⟨aK, eaK⟩ : ∃ a, a = cutp a0 K cap0 := ⟨_, rfl⟩
  obtain ⟨mK, emK⟩ : ∃ k, k = m - K := ⟨_, rfl⟩
  obtain ⟨cK, ecK⟩ : ∃ k, k = cap0 - K := ⟨_, rfl⟩
  rw [← eaK, ← emK, ← ecK] at s5
  have hcur : Stp [] w12 [] w12.drew := Stp.drew [] w12
  have cv1 : ∀ W, Stp [] w12 [] W → Sem.run Try.prog (convert 31 9 (.slice a0 I cap0)) W = .ok (.string (str (x.take I))) W := fun W hs =>
    conv_bts cap0 I (Bts.head (M' := x.drop I) (by rw [List.take_append_drop]; exact (HX.out.1.stays T9.out.stp).stays hs)) (by have := HX.out.2; simp; omega)
  have cv2 : ∀ W, Stp [] w12 [] W → Sem.run Try.prog (convert 31 9 (.slice aK mK cK)) W = .ok (.string (str (x.drop K))) W := fun W hs => by
    refine conv_bts cK mK ?_ (by have := HX.out.2; simp; omega)
    have := ((HX.out.1.stays T9.out.stp).stays hs).cut (i := K) (j := m) (N := cap0) hKm (by rw [HX.out.2]; exact Nat.le_refl _) (by rw [HX.out.2]; exact hm2)
    rw [List.take_of_length_le (by have := HX.out.2; simp; omega), ← eaK] at this
    exact this
  have KT : Hid (∀ W, Stp [] w12 [] W → Calls Try.prog 21 #[.pointer (some ⟨b, 0, none⟩)] W (Tells (.string (str (x.take I) ++ str (x.drop K))) W)) := Lib.hid (fun W hs => by
    have := text_run (T9.out.fst.stays hs)
    unfold Texts at this
    rw [str_append] at this
    exact this)
  obtain ⟨cs, ecs⟩ : ∃ s, s = str (pad 200 (x.take I ++ x.drop K)) := ⟨_, rfl⟩
  have KC1 : Hid (∀ W, Stp [] w12 [] W → Calls Try.prog 30 #[.pointer (some ⟨b, 0, none⟩)] W (Tells (.string cs) W)) := Lib.hid (fun W hs => by rw [ecs]; exact cells_run (T9.out.fst.stays hs))
  have KC2 : Hid (∀ W, Stp [] w12 [] W → Calls Try.prog 30 #[.pointer (some ⟨b', 0, none⟩)] W (Tells (.string cs) W)) := Lib.hid (fun W hs => by rw [ecs]; exact cells_run (T9.out.snd.stays hs))
  have HS : Aside (Stp [] w [] w12) := T9.out.stp
  have had : (str (x.take I)).size + (str (x.drop K)).size ≤ 9223372036854775807 := by have := HX.out.2; rw [str_size, str_size]; simp; omega
  have had2 : ¬ 9223372036854775807 < (str (x.take I)).size + (str (x.drop K)).size := by omega
  generalize str (x.take I) = tI at *
  generalize str (x.drop K) = tK at *
  clear eaK emK ecK ecs T9
  go_wp2_with fail
  go_region_held (fun W => Stp [] w12 [] W) (first | exact hcur | assumption)
    (first
      | (go_at_call 21; (with_reducible refine (KT.out _ hcur).mono ?_); rintro _ w13 ⟨rfl, q⟩; replace hcur := hcur.trans q; clear q)
      | (go_at_call 30; (with_reducible refine (KC1.out _ hcur).mono ?_); rintro _ w14 ⟨rfl, q⟩; replace hcur := hcur.trans q; clear q)
      | (go_at_call 30; (with_reducible refine (KC2.out _ hcur).mono ?_); rintro _ w15 ⟨rfl, q⟩; replace hcur := hcur.trans q; clear q))
  all_goals
    go_wp2
    go_ret
    exact ⟨rfl, (HS.out.trans hcur).under⟩
theorem parts_walk (a0 : Option Addr) (cap0 : Nat) (l0 : List UInt8) (px py pz : Int) (w : World) (hx : Bts w a0 l0) (hc : l0.length ≤ cap0) :
    Calls Try.prog 8 #[.slice a0 l0.length cap0, .agg #[.int .i64 px, .int .i64 py, .int .i64 pz]] w (Truth w) :=
  parts_at a0 cap0 l0.length (min l0.length 200) (l0.take (min l0.length 200)) px py pz w (Bts.head (M' := l0.drop (min l0.length 200)) (by rw [List.take_append_drop]; exact hx)) (by rw [List.length_take]; omega) (by omega) (by omega) (min_any l0.length 200 _ rfl)
end Go.Proofs.Ytkkfpbnlhgnchaa
