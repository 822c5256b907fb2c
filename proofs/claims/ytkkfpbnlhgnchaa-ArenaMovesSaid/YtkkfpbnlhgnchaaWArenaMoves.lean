/-
  ArenaMoves returns true for every bytes and places.
-/
import Derived.Test.YtkkfpbnlhgnchaaTwo
import Derived.Deep.RegionHeld
namespace Go.Proofs.Ytkkfpbnlhgnchaa
open Go.RowKit Go.Lib
set_option linter.unusedVariables false

set_option maxHeartbeats 1000000 in
set_option maxRecDepth 100000 in
theorem moves_at (a0 : Option Addr) (cap0 n0 m : Nat) (x : List UInt8) (px py pz : Int) (w : World) (hx : Bts w a0 x) (hm : x.length = m) (hm2 : m ≤ cap0) (hmt : m ≤ 200)
    (hmin : ∀ (w : World) (ts : Array TypeId) (t : TypeId), (Builtin.min_ ts t #[.int .i64 (n0 : Int), .int .i64 200]).run Try.prog w = .ok (.int .i64 (m : Int)) w) :
    Calls Try.prog 6 #[.slice a0 n0 cap0, .agg #[.int .i64 px, .int .i64 py], .int .i64 pz] w (Truth w) := by
  have KN : Hid (∀ W, Calls Try.prog 9 #[.int .i64 200] W (Newed W 200)) := Lib.hid (fun W => new_run 200 W (by omega) (by omega))
  have KA := Lib.hid alive_tells
  have s1 := cut_h a0 n0 cap0 m hm2
  have HX := Lib.hid (And.intro hx hm)
  clear hx hm
  go_enter Try.func6, Try.ntmps6
  go_wp2_with fail
  go_quiet (fail)
  go_wp2_with fail
  refine (KN.out _).mono ?_
  rintro _ w1 ⟨b, g, rfl, hb, hg, h1, q1⟩
  have H1 := Lib.hid (And.intro hb (And.intro hg (And.intro h1 q1)))
  clear hb hg h1 q1
  go_wp2_with fail
  refine (KN.out _).mono ?_
  rintro _ w2 ⟨b', g', rfl, hb, hg, h2, q2⟩
  have H2 : Aside (Two w w2 b g b' g' 200 [] []) := Two.mk' ((Stp.alloc [] w _).trans (Stp.drewN [] _ nq)) H1.out.1 H1.out.2.1 H1.out.2.2.1 H1.out.2.2.2 hb hg h2 q2
  clear hb hg h2 q2 H1 KN
  go_wp2_with fail
  refine (KA.out _).mono ?_
  rintro _ w3 ⟨rfl, q⟩
  have H3 : Aside (Two w w3 b g b' g' 200 [] []) := H2.out.stays q
  have K3 := Lib.hid (insert_run H3.out.fst 0 a0 x m cap0 (HX.out.1.stays H3.out.stp) (HX.out.1.apart H3.out.new.2.1) HX.out.2.symm (Nat.le_refl _) (by simpa using hmt))
  clear q H2 KA
  go_wp2_with fail
  refine K3.out.mono ?_
  rintro _ w4 ⟨rfl, h, q⟩
  have H4 : Aside (Two w w4 b g b' g' 200 x []) := H3.out.first (ar_first h) q
  have K4 := Lib.hid (insert_run H4.out.snd 0 a0 x m cap0 (HX.out.1.stays H4.out.stp) (HX.out.1.apart H4.out.new.2.2.2) HX.out.2.symm (Nat.le_refl _) (by simpa using hmt))
  clear K3 h q H3
  go_wp2_with fail
  refine K4.out.mono ?_
  rintro _ w5 ⟨rfl, h, q⟩
  have H5 : Aside (Two w w5 b g b' g' 200 x x) := H4.out.second (ar_first h) q
  clear K4 h q H4
  -- the places
  have hI := modN_le px m
  have cI := modN_cast px m
  obtain ⟨I, eI⟩ : ∃ I, I = modN px m := ⟨_, rfl⟩
  rw [← eI] at hI cI
  have hJ := modN_le py (m - I)
  have cJ := modN_cast py (m - I)
  obtain ⟨J, eJ⟩ : ∃ J, J = modN py (m - I) := ⟨_, rfl⟩
  rw [← eJ, show ((m - I : Nat) : Int) = (m : Int) - (I : Int) by omega] at cJ
  rw [← eJ] at hJ
  have hP := modN_le pz (m - J)
  have cP := modN_cast pz (m - J)
  obtain ⟨P, eP⟩ : ∃ P, P = modN pz (m - J) := ⟨_, rfl⟩
  rw [← eP, show ((m - J : Nat) : Int) = (m : Int) - (J : Int) by omega] at cP
  rw [← eP] at hP
  clear eI eJ eP
  obtain ⟨zx, wx, x0, x1, ex⟩ := word px
  obtain ⟨zy, wy, y0, y1, ey⟩ := word py
  obtain ⟨zz, wz, z0, z1, ez⟩ := word pz
  rw [← ex] at cI
  rw [← ey] at cJ
  rw [← ez] at cP
  clear ex ey ez
  obtain ⟨K, eK⟩ : ∃ K, K = I + J := ⟨_, rfl⟩
  obtain ⟨R, eR⟩ : ∃ R, R = P + J := ⟨_, rfl⟩
  have hKm : K ≤ m := by omega
  have hIK : I ≤ K := by omega
  have hIm : I ≤ m := by omega
  have hRm : R ≤ m := by omega
  have d1 : (I : Int) + (J : Int) = (K : Int) := by omega
  have d2 : (K : Int) - (I : Int) = (J : Int) := by omega
  have d4 : IntKind.i64.wrap ((P : Int) + (K : Int)) = (P : Int) + (K : Int) := by rw [IntKind.wrap_i64]; omega
  have d5 : IntKind.i64.wrap ((P : Int) + (K : Int) - (I : Int)) = (R : Int) := by rw [IntKind.wrap_i64]; omega
  have HK : Aside (K = I + J ∧ R = P + J) := ⟨eK, eR⟩
  have s2 := cut_lh a0 m cap0 I K hIK (by omega)
  rw [show K - I = J by omega] at s2
  have K6 := Lib.hid (move_run H5.out.fst I K P hIK (by rw [HX.out.2]; exact hKm) (by rw [HX.out.2]; omega))
  clear eK eR
  go_wp2_with fail
  refine K6.out.mono ?_
  rintro _ w6 ⟨rfl, h, q⟩
  have H6 : Aside (Two w w6 b g b' g' 200 (moved x I K P) x) := H5.out.first h q
  have K7 := Lib.hid (delete_run H6.out.snd I K hIK (by rw [HX.out.2]; exact hKm))
  clear K6 h q H5
  go_wp2_with fail
  refine K7.out.mono ?_
  rintro _ w7 ⟨rfl, h, q⟩
  have H7 : Aside (Two w w7 b g b' g' 200 (moved x I K P) (x.take I ++ x.drop K)) := H6.out.second h q
  have hbc : Bts w7 (cutp a0 I cap0) ((x.drop I).take (K - I)) := (HX.out.1.stays H7.out.stp).cut hIK (by rw [HX.out.2]; exact hKm) (by rw [HX.out.2]; exact hm2)
  have K8 := Lib.hid (insert_run H7.out.snd P (cutp a0 I cap0) ((x.drop I).take (K - I)) J (cap0 - I) hbc
    (fun hl ad e => by
      obtain ⟨ad', e1, e2⟩ := cutp_blk e
      have hne : x ≠ [] := fun e => by subst e; simp at hl
      have := HX.out.1.apart H7.out.new.2.2.2 hne ad' e1
      omega)
    (by have := HX.out.2; have := HK.out; simp; omega) (by have := HX.out.2; have := HK.out; simp; omega) (by have := HX.out.2; have := HK.out; simp; omega))
  clear K7 h q H6 hbc
  go_wp2_with fail
  refine K8.out.mono ?_
  rintro _ w8 ⟨rfl, h, q⟩
  have H8 : Aside (Two w w8 b g b' g' 200 (moved x I K P) (moved x I K P)) := H7.out.second h q
  obtain ⟨M, eM⟩ : ∃ M, M = moved x I K P := ⟨_, rfl⟩
  have HM : Aside (moved M P R I = x ∧ M.length = m) := by
    have := HX.out.2
    have := HK.out
    rw [eM]
    exact ⟨moved_back hIK (by omega) (by omega) (by omega), by rw [moved_length hIK (by omega)]; omega⟩
  rw [← eM] at H8
  have K9 := Lib.hid (text_run H8.out.fst)
  clear K8 h q H7 eM
  go_wp2_with fail
  refine K9.out.mono ?_
  rintro _ w9 ⟨rfl, q⟩
  have H9 : Aside (Two w w9 b g b' g' 200 M M) := H8.out.stays q
  have K10 := Lib.hid (text_run H9.out.snd)
  clear K9 q H8
  go_wp2_with fail
  refine K10.out.mono ?_
  rintro _ w10 ⟨rfl, q⟩
  have H10 : Aside (Two w w10 b g b' g' 200 M M) := H9.out.stays q
  have K11 := Lib.hid (move_run (H10.out.fst.stays (Stp.drew [] w10)) P R I (by have := HK.out; omega) (by rw [HM.out.2]; exact hRm) (by have := HK.out; rw [HM.out.2]; omega))
  rw [HM.out.1] at K11
  have cv : ∀ W, Stp [b, g] w10 [b, g] W → Sem.run Try.prog (convert 31 9 (.slice a0 m cap0)) W = .ok (.string (str x)) W := fun W hs =>
    conv_bts cap0 m ((HX.out.1.stays H10.out.stp).other hs (fun hl ad e => by
      have h1 := HX.out.1.apart H10.out.new.1 hl ad e
      have h2 := HX.out.1.apart H10.out.new.2.1 hl ad e
      simp
      omega)) HX.out.2.symm
  have hcur : Stp [b, g] w10 [b, g] w10.drew := Stp.drew _ w10
  have HN : Aside (∀ k ∈ [b, g], w.heap.size ≤ k) := fun k hk => by
    have := H10.out.new
    simp at hk
    omega
  have HS10 : Aside (Stp [] w [] w10) := H10.out.stp
  clear K10 q H9 H10
  go_wp2_with fail
  go_region_held (fun W => Stp [b, g] w10 [b, g] W) (first | exact hcur | assumption)
    (first
      | (go_at_call 17; refine K11.out.mono ?_; rintro _ w11 ⟨rfl, h11, q11⟩; replace hcur := hcur.trans q11; have KT := Lib.hid (text_run h11); clear q11 h11)
      | (go_at_call 21; refine KT.out.mono ?_; rintro _ w12 ⟨rfl, q12⟩; replace hcur := hcur.trans (q12.widen (fun k h => .inl h)); clear q12))
  all_goals
    go_wp2
    go_ret
    exact ⟨rfl, (HS10.out.fresh hcur HN.out).under⟩
theorem moves_walk (a0 : Option Addr) (cap0 : Nat) (l0 : List UInt8) (px py pz : Int) (w : World) (hx : Bts w a0 l0) (hc : l0.length ≤ cap0) :
    Calls Try.prog 6 #[.slice a0 l0.length cap0, .agg #[.int .i64 px, .int .i64 py], .int .i64 pz] w (Truth w) :=
  moves_at a0 cap0 l0.length (min l0.length 200) (l0.take (min l0.length 200)) px py pz w (Bts.head (M' := l0.drop (min l0.length 200)) (by rw [List.take_append_drop]; exact hx)) (by rw [List.length_take]; omega) (by omega) (by omega) (min_any l0.length 200 _ rfl)
end Go.Proofs.Ytkkfpbnlhgnchaa
