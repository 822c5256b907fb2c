/-
  The document's buffer: what lies a character or a text.
-/
import Derived.Test.YtombkdbojdhodaaDoorRefE
import Derived.Deep.RegionHeld3
namespace Go.Proofs.YtombkdbojdhodaaDoor
open Go.RowKit Go.Lib
set_option linter.unusedVariables false

/-- What a call of the document's leaves. -/
def RDid (F : List Nat) (m N : Nat) (r : Rs) (W : World) (en : Ending) (w' : World) : Prop := en = .returned (.int .i64 r.e) ∧ Rb F w' m N r.A r.B ∧ Stp [m] W [m] w'
attribute [local go_sem ↓] Go.wp_at_zero Go.wp_at_succ in
set_option maxHeartbeats 3200000 in
set_option maxRecDepth 100000 in
theorem rlay_run {F : List Nat} {W : World} {m N : Nat} {A B : List Nat} (h : Rb F W m N A B) (hN : N ≤ 4096) (a : Option Addr) (n c : Nat) (X : List Nat) (hx : Its W a X) (hn : n = X.length) (hz : a = none → c = 0) (hp : Pr X) (hX : n ≤ 4096) :
    Calls Tryd.prog 48 #[.pointer (some ⟨m, 0, none⟩), .slice a n c] W (RDid F m N (layS N X A B) W) := by
  have KT : ∀ W', Stp [] W [] W' → Calls Tryd.prog 29 #[.pointer (some ⟨m, 0, none⟩)] W' fun e w' => ∃ a c, e = .returned (.slice a (fl (A ++ B)).length c) ∧ Stp [] W [] w' := fun W' hs =>
    (rtext_run (h.stays hs)).mono fun _ _ ⟨v, q1, q2, q3⟩ => by
      obtain ⟨a, c, rfl, _⟩ := q2.bts
      exact ⟨a, c, q1, hs.trans q3⟩
  have KB : ∀ W', Stp [] W [] W' → Calls Tryd.prog 23 #[.slice a n c] W' fun e w' => ∃ a c, e = .returned (.slice a (fl X).length c) ∧ Stp [] W [] w' := fun W' hs =>
    (rbytes_run a n c X W' (hx.stays hs) hn hX hp).mono fun _ _ ⟨v, q1, q2, q3⟩ => by
      obtain ⟨a, c, rfl, _⟩ := q2.bts
      exact ⟨a, c, q1, hs.trans q3⟩
  obtain ⟨pa, ca, pb, cb, h1⟩ := h.ex
  have c0 := h1.c0
  have hm := h1.lt
  have hC : Aside (∀ W', Stp [] W [] W' → W'.cell? ⟨m, 2, none⟩ = some (.int .i64 (N : Int)) ∧ W'.cell? ⟨m, 0, none⟩ = some (.slice pa A.length ca)) := fun W' hs => ⟨(h1.stays hs).c2, (h1.stays hs).c0⟩
  have hb1 : (fl (A ++ B)).length ≤ 4 * 4096 := by have q1 := fl_len_le4 (A ++ B); have := h.le; omega
  have hb2 : (fl X).length ≤ 4 * 4096 := by have q1 := fl_len_le4 X; omega
  have HH := Lib.hid (And.intro h (And.intro h1 (And.intro hx (And.intro hn (And.intro hz hp)))))
  have KT := Lib.hid KT
  have KB := Lib.hid KB
  obtain ⟨tl, htl⟩ : ∃ tl, tl = (fl (A ++ B)).length := ⟨_, rfl⟩
  obtain ⟨xl, hxl⟩ : ∃ xl, xl = (fl X).length := ⟨_, rfl⟩
  rw [← htl] at KT hb1
  rw [← hxl] at KB hb2
  have HL := Lib.hid (And.intro htl hxl)
  have hsum : IntKind.i64.wrap ((tl : Int) + (xl : Int)) = ((tl + xl : Nat) : Int) := by rw [IntKind.wrap_i64]; omega
  have hcur : Stp [] W [] W.drew := Stp.drew [] _
  clear h h1 hx hn hz hp htl hxl
  by_cases hf : N < tl + xl
  · have hfz : (N : Int) < ((tl + xl : Nat) : Int) := by omega
    have er : layS N X A B = ⟨4, A, B⟩ := if_neg (by have := HL.out; omega)
    rw [er]
    clear er hf
    go_enter Tryd.func48, Tryd.ntmps48
    go_wp2_with fail
    go_region_held3 (fun W' => W'.cell? ⟨m, 2, none⟩ = some (.int .i64 (N : Int)))
      (first | exact (hC.out _ hcur).1 | assumption)
      (first
        | (go_at_call 29; refine (KT.out _ hcur).mono ?_; rintro _ w1 ⟨a1, k1, rfl, s1⟩; replace hcur := s1)
        | (go_at_call 23; refine (KB.out _ hcur).mono ?_; rintro _ w2 ⟨a2, k2, rfl, s2⟩; replace hcur := s2))
    all_goals
      go_wp2
      go_ret
      exact ⟨rfl, HH.out.1.stays hcur, hcur.more (fun k h => by cases h)⟩
  · have hfz : ¬ (N : Int) < ((tl + xl : Nat) : Int) := by omega
    have er : layS N X A B = ⟨0, A ++ X, B⟩ := if_pos (by have := HL.out; omega)
    rw [er]
    have hfit : (fl (A ++ B)).length + (fl X).length ≤ N := by have := HL.out; omega
    have HF := Lib.hid hfit
    clear er hf hfit
    go_enter Tryd.func48, Tryd.ntmps48
    go_wp2_with fail
    go_region_held3 (fun W' => W'.cell? ⟨m, 2, none⟩ = some (.int .i64 (N : Int)))
      (first | exact (hC.out _ hcur).1 | assumption)
      (first
        | (go_at_call 29; refine (KT.out _ hcur).mono ?_; rintro _ w1 ⟨a1, k1, rfl, s1⟩; replace hcur := s1)
        | (go_at_call 23; refine (KB.out _ hcur).mono ?_; rintro _ w2 ⟨a2, k2, rfl, s2⟩; replace hcur := s2))
    have HW := Lib.hid (And.intro hcur (HH.out.2.1.stays hcur))
    have d0 := HW.out.2.c0
    have f0 := HW.out.2.f0
    have hm2 := HW.out.2.lt
    have HO0 : Aside (U.OwnI (w2.alloc (.cells #[] 3)) w2.heap.size (.slice (some ⟨w2.heap.size, 0, none⟩) 0 0) [] ∧ Stp [] w2 [] (w2.alloc (.cells #[] 3))) := ⟨OwnI.new w2, Stp.alloc [] w2 _⟩
    clear hcur c0
    have hAl : A.length ≤ 4096 := by have := HH.out.1.le; simp at this; omega
    go_wp2_with (first
      | (at_builtin
         refine wpList_appN rfl (.tmp 18) (.tmp 22) rfl w2.heap.size (.slice (some ⟨w2.heap.size, 0, none⟩) 0 0) [] rfl HO0.out.1 pa ca A.length A rfl rfl (HW.out.2.ia.stays HO0.out.2) HW.out.2.na (by simp; omega) (by simp) ?_
         intro v3 w3 ho3 hg3
         rw [List.nil_append] at ho3
         have H3 : Aside (Stp [] w2 [] w3 ∧ U.OwnI w3 w2.heap.size v3 A) := ⟨HO0.out.2.app hg3 (fun k hk => by simp [Value.ownBlock] at hk; omega), ho3⟩
         clear ho3 hg3)
      | (at_builtin
         refine wpList_appN rfl (.tmp 23) (.tmp 24) rfl w2.heap.size v3 A rfl H3.out.2 a c n X HH.out.2.2.2.1 rfl ((HH.out.2.2.1.stays HW.out.1).stays H3.out.1) HH.out.2.2.2.2.1 (by have := HH.out.2.2.2.1; omega) H3.out.1.size ?_
         intro v4 w4 ho4 hg4
         obtain ⟨a4, k4, rfl, hi4, hn4, hl4, hb4⟩ := OwnI.its ho4
         have H4 : Aside (Stp [] w2 [] w4 ∧ Its w4 a4 (A ++ X) ∧ (a4 = none → k4 = 0) ∧ (A ++ X).length ≤ k4 ∧ ∀ ad, a4 = some ad → w2.heap.size ≤ ad.block ∧ ad.block < w4.heap.size) := ⟨H3.out.1.app hg4 (fun k hk => (World.ownsRow.lt H3.out.2 k hk).1), hi4, hn4, hl4, hb4⟩
         have f4 : w4.frozen? ⟨m, 0, none⟩ = false := (HW.out.2.stays H4.out.1).f0
         have d4 : w4.cell? ⟨m, 0, none⟩ = some (.slice pa A.length ca) := (HW.out.2.stays H4.out.1).c0
         clear ho4 hg4 hi4 hn4 hl4 hb4))
    go_ret
    have q := (HW.out.2.stays H4.out.1).setA H4.out.2.1 H4.out.2.2.2.1 H4.out.2.2.1 (HW.out.2.fresh H4.out.2.2.2.2)
    rw [← List.length_append]
    refine ⟨rfl, ⟨⟨_, _, _, _, q⟩, ?_, ?_⟩, ?_⟩
    · exact (HH.out.1.pr.left.app HH.out.2.2.2.2.2).app HH.out.1.pr.right
    · have h1 := fl_len_ge ((A ++ X) ++ B)
      have h2 := HF.out
      simp only [fl_app, List.length_append] at h1 h2 ⊢
      omega
    · exact ((HW.out.1.trans H4.out.1).more (fun k h => by cases h)).trans (Stp.setCell _ _ (by simp))
set_option maxHeartbeats 1000000 in
set_option maxRecDepth 100000 in
theorem rbput_run {F : List Nat} {W : World} {m N : Nat} {A B : List Nat} (h : Rb F W m N A B) (hN : N ≤ 4096) (c : Int) :
    Calls Tryd.prog 20 #[.pointer (some ⟨m, 0, none⟩), .int .i64 c] W (RDid F m N (putS N c A B) W) := by
  have KP := Lib.hid (U.rpr_any c W)
  by_cases hp : U.prB c = true
  · have er : putS N c A B = layS N [c.toNat] A B := if_pos hp
    rw [er]
    rw [hp] at KP
    have h0 := of_decide_eq_true hp
    obtain ⟨x, rfl⟩ : ∃ x : Nat, c = (x : Int) := ⟨c.toNat, by omega⟩
    rw [Int.toNat_natCast]
    have H := Lib.hid (And.intro h (Pr.one hp))
    have K : ∀ W', W' = W.alloc (.cells #[.int .i64 (x : Int)] 3) → Calls Tryd.prog 48 #[.pointer (some ⟨m, 0, none⟩), .slice (some ⟨W.heap.size, 0, none⟩) 1 1] W' (RDid F m N (layS N [x] A B) W') := fun W' e => by
      subst e
      obtain ⟨a, k, e2, hi, _⟩ := OwnI.its (OwnI.one W x)
      cases e2
      exact rlay_run (H.out.1.stays (Stp.alloc [] W _)) hN _ 1 1 [x] hi rfl (fun h => by cases h) H.out.2 (by omega)
    have K := Lib.hid K
    clear er h hp h0
    generalize layS N [x] A B = r at *
    go_enter Tryd.func20, Tryd.ntmps20
    go_wp2_with fail
    refine KP.out.mono ?_
    rintro _ w0 ⟨rfl, hw⟩
    obtain rfl : W = w0 := hw.symm
    go_wp2_with fail
    refine (K.out _ rfl).mono ?_
    rintro _ w2 ⟨rfl, h2, s2⟩
    have H2 := Lib.hid (And.intro h2 s2)
    clear h2 s2
    go_wp2
    go_ret
    exact ⟨rfl, H2.out.1, ((Stp.alloc [m] W _).trans H2.out.2)⟩
  · have er : putS N c A B = ⟨2, A, B⟩ := if_neg hp
    rw [er]
    have hpf : U.prB c = false := by simpa using hp
    rw [hpf] at KP
    have H := Lib.hid h
    clear er h hp hpf
    go_enter Tryd.func20, Tryd.ntmps20
    go_wp2_with fail
    refine KP.out.mono ?_
    rintro _ w0 ⟨rfl, hw⟩
    obtain rfl : W = w0 := hw.symm
    go_wp2
    go_ret
    exact ⟨rfl, H.out, Stp.refl _ _⟩
set_option maxHeartbeats 1000000 in
set_option maxRecDepth 100000 in
theorem rbins_run {F : List Nat} {W : World} {m N : Nat} {A B : List Nat} (h : Rb F W m N A B) (hN : N ≤ 4096) (p : Option Addr) (n c : Nat) (l : List UInt8) (hb : Bts W p l) (hn : n = l.length) (hcap : n ≤ c) (hm : c ≤ maxLen) (hl : n ≤ 4096) :
    Calls Tryd.prog 45 #[.pointer (some ⟨m, 0, none⟩), .slice p n c] W (RDid F m N (insS N l A B) W) := by
  have KF := Lib.hid (rfine_run p n c l W hb hn hcap hm)
  cases hf : fiB l with
  | true =>
    rw [hf] at KF
    have hfi := (fi_iff l).1 hf
    rw [insS_yes hfi]
    have KC : ∀ W', Stp [] W [] W' → Calls Tryd.prog 39 #[.slice p n c] W' fun e w' => ∃ a k, e = .returned (.slice a (chs l).length k) ∧ Its w' a (chs l) ∧ (a = none → k = 0) ∧ Stp [] W [] w' := fun W' hs => by
      have q := U.rchars_any p c (l.map UInt8.toNat) W' (bts_to_U (hb.stays hs)) (by simp; omega) hm (by simp; omega)
      rw [List.length_map, ← hn] at q
      refine q.mono fun e w' ⟨v, q1, q2, q3⟩ => ?_
      obtain ⟨a, k, rfl, hi, hz, _⟩ := OwnI.its q2
      exact ⟨a, k, q1, hi, hz, hs.trans (Stp.of_below q3)⟩
    have hcl : (chs l).length ≤ 4096 := by
      have q := U.chars_len (l.map UInt8.toNat) (nat_lt l)
      have : (chs l).length ≤ (l.map UInt8.toNat).length := q
      rw [List.length_map] at this
      omega
    have KC := Lib.hid KC
    have H := Lib.hid (And.intro h (And.intro hfi.of.1 hcl))
    clear h hb hn hcap hm hl hf hfi hcl
    go_enter Tryd.func45, Tryd.ntmps45
    go_wp2_with fail
    refine KF.out.mono ?_
    rintro _ w1 ⟨rfl, s1⟩
    have KC := Lib.hid (KC.out w1 s1)
    clear s1 KF
    go_wp2_with fail
    refine KC.out.mono ?_
    rintro _ w2 ⟨a, k, rfl, hi, hz, s2⟩
    have KL := Lib.hid (rlay_run (H.out.1.stays s2) hN a _ k (chs l) hi rfl hz H.out.2.1 H.out.2.2)
    have S2 := Lib.hid s2
    clear hi hz s2 KC
    generalize layS N (chs l) A B = r at *
    generalize (chs l).length = cl at *
    go_wp2_with fail
    refine KL.out.mono ?_
    rintro _ w3 ⟨rfl, h3, s3⟩
    have H3 := Lib.hid (And.intro h3 s3)
    clear h3 s3
    go_wp2
    go_ret
    exact ⟨rfl, H3.out.1, (S2.out.more (fun k h => by cases h)).trans H3.out.2⟩
  | false =>
    rw [hf] at KF
    rw [insS_no (fun g => by rw [(fi_iff l).2 g] at hf; cases hf)]
    have H := Lib.hid h
    clear h hb hn hf hcap hm
    go_enter Tryd.func45, Tryd.ntmps45
    go_wp2_with fail
    refine KF.out.mono ?_
    rintro _ w1 ⟨rfl, s1⟩
    have S1 := Lib.hid s1
    clear s1
    go_wp2
    go_ret
    exact ⟨rfl, H.out.stays S1.out, S1.out.more (fun k h => by cases h)⟩
end Go.Proofs.YtombkdbojdhodaaDoor
