/-
  QueueActs returns true for every slice of calls.
-/
import Derived.Test.YtjjaaahoophgpaaRefPush
import Derived.Deep.RegionHeld3
namespace Go.Proofs.Ytjjaaahoophgpaa
open Go.RowKit Go.Lib
set_option linter.unusedVariables false

theorem Qs.ord {W : World} {F : List Nat} {b t : Nat} {s : List Ent} (h : Qs W F b s t) : Ordd s := by
  obtain ⟨v, l, _, _, _, h4, _⟩ := h
  exact h4
theorem qlen_quiet {W : World} {F : List Nat} {b t : Nat} {s : List Ent} (h : Qs W F b s t) (q : Nat) : Calls Try.prog 21 #[.pointer (some ⟨b, 0, none⟩)] (W.drewN q) fun e w' => e = .returned (.int .i64 (s.length : Int)) ∧ ∃ n, w' = W.drewN n :=
  (qlen_run (h.stays (Stp.drewN [] W q))).mono fun e w' ⟨he, hw⟩ => ⟨he, q, hw⟩
/-- The queue and the document's list hold the same, apart, and nothing else turned. -/
def PairM (w W : World) (F G : List Nat) (b p : Nat) (v : Value) (s : List Ent) (t : Nat) : Prop := Qs W F b s t ∧ Mu W G p v s ∧ Apart F G ∧ Stp [] w (F ++ G) W
/-- In the midst of a call they may differ. -/
def Mid (w W : World) (F G : List Nat) (b p : Nat) (v : Value) (s r : List Ent) (t : Nat) : Prop := Qs W F b s t ∧ Mu W G p v r ∧ Apart F G ∧ Stp [] w (F ++ G) W
theorem Mid.first {w W W' : World} {F F' G : List Nat} {b p t t' : Nat} {v : Value} {s s' r : List Ent} (h : Mid w W F G b p v s r t) (hq : Qs W' F' b s' t') (hs : Stp F W F' W') : Mid w W' F' G b p v s' r t' :=
  ⟨hq, h.2.1.other hs h.2.2.1, h.2.2.1.step hs h.2.1.old, h.2.2.2.trans (hs.left G)⟩
theorem Mid.second {w W W' : World} {F G G' : List Nat} {b p t : Nat} {v v' : Value} {s r r' : List Ent} (h : Mid w W F G b p v s r t) (hq : Mu W' G' p v' r') (hs : Stp G W G' W') : Mid w W' F G' b p v' s r' t :=
  ⟨h.1.other hs h.2.2.1.symm, hq, (h.2.2.1.symm.step hs h.1.old).symm, h.2.2.2.trans (hs.right F)⟩
theorem Mid.stays {w W W' : World} {F G : List Nat} {b p t : Nat} {v : Value} {s r : List Ent} (h : Mid w W F G b p v s r t) (hs : Stp [] W [] W') : Mid w W' F G b p v s r t :=
  ⟨h.1.stays hs, h.2.1.stays hs, h.2.2.1, h.2.2.2.trans (hs.widen (fun k h => .inl h))⟩
theorem PairM.stays {w W W' : World} {F G : List Nat} {b p t : Nat} {v : Value} {s : List Ent} (h : PairM w W F G b p v s t) (hs : Stp [] W [] W') : PairM w W' F G b p v s t := Mid.stays h hs
theorem As.cells {w wr : World} {a : Option Addr} {l : List Ac} (h : As w a l) {F : List Nat} (hs : Stp [] w F wr) {i : Nat} (hi : i < l.length) : ∃ b off, a = some ⟨b, off, none⟩ ∧
    wr.cell? ⟨b, off + i * 3, none⟩ = some (.int .i64 (l[i]!).k) ∧ wr.cell? ⟨b, off + i * 3 + 1, none⟩ = some (.int .i64 (l[i]!).n) ∧ wr.cell? ⟨b, off + i * 3 + 2, none⟩ = some (.int .u64 ((l[i]!).m.v : Int)) := by
  obtain ⟨b, off, h1, _, h2⟩ := (h.below hs.under).at hi
  exact ⟨b, off, h1, h2⟩

theorem mpush_at {W : World} {F : List Nat} {b : Nat} {v : Value} {l : List Ent} (h : Mu W F b v l) (hl : l.length < 4096) (ho : Ordd l) (x : Ent) (m : Mo) (n : Int) (hm : x.m = m) (hn : x.n = n) : Calls Try.prog 14 #[.pointer (some ⟨b, 0, none⟩), .float .f64 m.v, .int .i64 n] W
    fun e w' => e = .returned (.int .i64 0) ∧ ∃ F' v', Mu w' F' b v' (ins x l) ∧ Stp F W F' w' := by
  subst hm hn
  exact mpush_run h hl ho x
theorem acts_long (a : Option Addr) (cap n : Nat) (w : World) (hn : 400 < n) (hl : n ≤ 9223372036854775807) : Calls Try.prog 3 #[.slice a n cap] w (Truth w) := by
  have KN := Lib.hid (new_run w)
  have KA := Lib.hid alive_run
  have hx : (400 : Int) < (n : Int) := by omega
  go_enter Try.func3, Try.ntmps3
  go_wp2_with fail
  refine KN.out.mono ?_
  rintro _ w0 ⟨rfl, q0, s0⟩
  have H0 := Lib.hid s0
  clear KN q0 s0
  go_wp2_with fail
  refine (KA.out _).mono ?_
  rintro _ w1 ⟨rfl, s1⟩
  have H1 := Lib.hid ((H0.out.none.trans (Stp.alloc [] _ _)).trans s1)
  clear H0 s1
  go_wp2_with fail
  refine (KA.out _).mono ?_
  rintro _ w2 ⟨rfl, s2⟩
  have H2 := Lib.hid (H1.out.trans s2)
  clear H1 s2
  go_wp2
  go_ret
  exact ⟨rfl, H2.out.under⟩

set_option maxHeartbeats 8000000 in
set_option maxRecDepth 100000 in
theorem acts_short (a : Option Addr) (cap n : Nat) (l : List Ac) (w : World) (hU : As w a l) (hn : n = l.length) (hl : n ≤ 400) : Calls Try.prog 3 #[.slice a n cap] w (Truth w) := by
  have KN := Lib.hid (new_run w)
  have KA := Lib.hid alive_run
  have hx : ¬ (400 : Int) < (n : Int) := by omega
  have HU : Aside (As w a l ∧ n = l.length) := ⟨hU, hn⟩
  clear hU hn
  go_enter Try.func3, Try.ntmps3
  go_wp2_with fail
  refine KN.out.mono ?_
  rintro _ w0 ⟨rfl, q0, s0⟩
  have H0 : Aside (PairM w (w0.alloc (.cells #[.slice none 0 0] 28)) [w.heap.size] [w0.heap.size] w.heap.size w0.heap.size (.slice none 0 0) [] 0) := by
    have hb := q0.lt
    refine ⟨q0.stays (Stp.alloc [] _ _), ⟨heap_alloc_new _ _, .inl ⟨rfl, rfl⟩, List.mem_singleton.2 rfl, (fun k h => by cases h), fun k hk => ?_⟩, fun k hk e => ?_, ?_⟩
    · simp only [List.mem_singleton] at hk
      simp [hk]
    · simp only [List.mem_singleton] at hk e
      omega
    · refine ⟨s0.os, s0.tape, s0.output, by have := s0.size; simp; omega, fun k hk _ => (Below.heap_alloc _ _ _ (by have := s0.size; omega)).trans (s0.block k hk (fun h => by cases h)), fun k hk => .inr ?_⟩
      simp only [List.cons_append, List.nil_append, List.mem_cons, List.not_mem_nil, or_false] at hk
      have := s0.size
      omega
  clear KN q0 s0
  generalize w.heap.size = b at *
  go_wp2_with fail
  refine (KA.out _).mono ?_
  rintro _ w1 ⟨rfl, s1⟩
  have H1 : Aside (PairM w w1 [b] [w0.heap.size] b w0.heap.size (.slice none 0 0) [] 0) := H0.out.stays s1
  clear H0 s1 KA
  generalize w0.heap.size = p at *
  go_wp2
  go_loopg [33] n (fun gk vi wr => ∃ i : Nat, vi = .int .i64 (i : Int) ∧ i ≤ n ∧ n - i ≤ gk ∧ Aside (∃ F G v s t, PairM w wr F G b p v s t ∧ t ≤ i ∧ s.length ≤ i))
  case atStart => exact ⟨0, rfl, by omega, by omega, [b], [p], .slice none 0 0, [], 0, H1.out, Nat.le_refl _, Nat.le_refl _⟩
  case round =>
    clear H1
    obtain ⟨i, rfl, hi, hg, HS⟩ := hrel
    obtain ⟨F, G, v, s, t, HS⟩ : ∃ F G v s t, Aside (PairM w wr F G b p v s t ∧ t ≤ i ∧ s.length ≤ i) := HS.out
    by_cases hlt : i < n
    · have hltz : (i : Int) < (n : Int) := by omega
      obtain ⟨ab, off, rfl, ca, cb, cc⟩ := HU.out.1.cells HS.out.1.2.2.2 (i := i) (by have := HU.out.2; omega)
      generalize l[i]! = ac at *
      obtain ⟨k, z, m⟩ := ac
      dsimp only at ca cb cc
      have fm := from_run m.v
      have H1 : Aside (PairM w (wr.alloc (.cells #[.int .i64 k, .int .i64 z, .int .u64 (m.v : Int)] 32)) F G b p v s t) := HS.out.1.stays (Stp.alloc [] _ _)
      have HT : Aside (t ≤ i ∧ s.length ≤ i) := HS.out.2
      have HNN : Aside ((wr.alloc (.cells #[.int .i64 k, .int .i64 z, .int .u64 (m.v : Int)] 32)).heap[wr.heap.size]? = some (.cells #[.int .i64 k, .int .i64 z, .int .u64 (m.v : Int)] 32 (0, 0))) := heap_alloc_new _ _
      have HNF : Aside (wr.heap.size ∉ F ∧ wr.heap.size ∉ G) := ⟨fun e => absurd (HS.out.1.1.old _ e) (Nat.lt_irrefl _), fun e => absurd (HS.out.1.2.1.old _ e) (Nat.lt_irrefl _)⟩
      clear HS
      by_cases k0 : k = 0
      · subst k0
        go_wp2_with fail
        generalize wr.alloc (.cells #[.int .i64 0, .int .i64 z, .int .u64 (m.v : Int)] 32) = wA at *
        generalize wr.heap.size = N at *
        have cN : wA.cell? ⟨N, 1, none⟩ = some (.int .i64 z) := by rw [cell_of_row wA N 1 _ _ _ HNN.out]; rfl
        have hd : Stp [] wA [] wA.drew := ⟨rfl, rfl, rfl, Nat.le_refl _, fun _ _ _ => rfl, fun _ h => .inl h⟩
        have H2 : Aside (PairM w wA.drew F G b p v s t) := H1.out.stays hd
        have HB : Aside (wA.drew.heap[N]? = some (.cells #[.int .i64 0, .int .i64 z, .int .u64 (m.v : Int)] 32 (0, 0))) := HNN.out
        obtain ⟨X, hX⟩ : ∃ X : Ent, X.m = m ∧ X.n = z ∧ X.t = t := ⟨mkE m z t, mkE_all (by have := HT.out; omega)⟩
        have K1 := Lib.hid (qpush_run H2.out.1 (by have := HT.out; omega) m z (by have := HT.out; omega) X hX)
        have HX : Aside (X.m = m ∧ X.n = z ∧ X.t = t) := hX
        have HO : Aside (Ordd s) := H2.out.1.ord
        clear ca cb cc hd hX H1 HNN
        go_region_held3 (fun w' => w'.cell? ⟨N, 1, none⟩ = some (.int .i64 z))
          (first | assumption | go_keep)
          ((first
            | (go_at_call 13
               refine K1.out.mono ?_
               rintro _ w1 ⟨rfl, F1, q1, s1⟩
               have M1 : Aside (Mid w w1 F1 G b p v (ins X s) s (t + 1)) := Mid.first H2.out q1 s1
               have HB1 : Aside (w1.heap[N]? = some (.cells #[.int .i64 0, .int .i64 z, .int .u64 (m.v : Int)] 32 (0, 0))) := (s1.block N (Array.getElem?_eq_some_iff.1 HB.out).1 HNF.out.1).trans HB.out
               have cN1 : w1.cell? ⟨N, 1, none⟩ = some (.int .i64 z) := by rw [cell_of_row w1 N 1 _ _ _ HB1.out]; rfl
               clear q1 s1)
            | (go_at_call 14
               refine (mpush_at M1.out.2.1 (by have := HT.out; omega) HO.out X m z HX.out.1 HX.out.2.1).mono ?_
               rintro _ w2 ⟨rfl, G2, v2, m2, s2⟩
               have M2 : Aside (PairM w w2 F1 G2 b p v2 (ins X s) (t + 1)) := Mid.second M1.out m2 s2
               have HB2 : Aside (w2.heap[N]? = some (.cells #[.int .i64 0, .int .i64 z, .int .u64 (m.v : Int)] 32 (0, 0))) := (s2.block N (Array.getElem?_eq_some_iff.1 HB1.out).1 HNF.out.2).trans HB1.out
               have cN2 : w2.cell? ⟨N, 1, none⟩ = some (.int .i64 z) := by rw [cell_of_row w2 N 1 _ _ _ HB2.out]; rfl
               clear m2 s2)))
        all_goals
          have HE : Aside ((ins X s).length ≤ i + 1) := by show (ins X s).length ≤ i + 1; rw [ins_length]; have := HT.out; omega
          clear K1
          obtain ⟨AQ, capQ, hvQ⟩ := M2.out.2.1.slice
          have hcm := M2.out.2.1.c0
          rw [hvQ] at hcm
          have KL := qlen_quiet M2.out.1
          have HQ : Aside (AQ = AQ) := rfl
          clear hvQ
          go_wp2_with fail
          go_quiet (first | (go_at_call 21; exact KL _))
          have H9 : Aside (PairM w (w2.drewN nq) F1 G2 b p v2 (ins X s) (t + 1)) := M2.out.stays (Stp.drewN [] _ _)
          generalize w2.drewN nq = w9 at *
          clear KL hcm M2
          go_wp2
          go_roundg (n - (i + 1))
          case measure => omega
          case rel => exact ⟨i + 1, by go_num, by omega, by omega, F1, G2, v2, (ins X s), (t + 1), H9.out, by have := HT.out; omega, HE.out⟩
      · have b0 : (k == 0) = false := by simpa using k0
        by_cases k1 : k = 1
        · subst k1
          clear k0 b0
          cases s with
          | nil =>
            go_wp2_with fail
            generalize wr.alloc (.cells #[.int .i64 1, .int .i64 z, .int .u64 (m.v : Int)] 32) = wA at *
            generalize wr.heap.size = N at *
            have hNl : N < wA.heap.size := (Array.getElem?_eq_some_iff.1 HNN.out).1

            have KP := Lib.hid (qpeek_none H1.out.1)
            refine KP.out.mono ?_
            rintro _ w1 ⟨rfl, rfl⟩
            have M1 : Aside (Mid w w1 F G b p v [] [] t) := H1.out
            have HB1 : Aside (w1.heap[N]? = some (.cells #[.int .i64 1, .int .i64 z, .int .u64 (m.v : Int)] 32 (0, 0))) := HNN.out
            have cK1 : w1.cell? ⟨N, 0, none⟩ = some (.int .i64 1) := by rw [cell_of_row w1 N 0 _ _ _ HB1.out]; rfl
            clear KP H1 HNN

            have KO := Lib.hid (qpop_none M1.out.1)
            go_wp2_with fail
            refine KO.out.mono ?_
            rintro _ w2 ⟨rfl, rfl⟩
            have M2 : Aside (Mid w w2 F G b p v [] [] t) := M1.out
            have HB2 : Aside (w2.heap[N]? = some (.cells #[.int .i64 1, .int .i64 z, .int .u64 (m.v : Int)] 32 (0, 0))) := HB1.out
            clear KO M1

            have hpl := M2.out.2.1.lt
            have hcm := M2.out.2.1.c0
            obtain ⟨A0, cap0, hv0⟩ := M2.out.2.1.slice
            rw [hv0] at hcm
            have fx : ∀ w, (callFunc 18 #[.float .f64 0]).run Try.prog w = .ok (.value (.int .u64 0)) w := bits_run 0
            have HBB : Aside (w2.heap.size ∉ G) := fun e => absurd (M2.out.2.1.old _ e) (Nat.lt_irrefl _)
            have nb1 : ¬ N = w2.heap.size := by omega
            have nb2 : ¬ p = w2.heap.size := by omega
            have hst := store_float
            clear hv0

            have M3 : Aside (Mid w (w2.alloc (.cells #[.float .f64 0, .int .i64 0] 41)) F G b p v [] [] t) := M2.out.stays (Stp.alloc [] _ _)
            have HO3 : Aside ((w2.alloc (.cells #[.float .f64 0, .int .i64 0] 41)).heap[w2.heap.size]? = some (.cells #[.float .f64 0, .int .i64 0] 41 (0, 0))) := heap_alloc_new _ _
            have KM := Lib.hid (mpop_none M3.out.2.1 )
            go_wp2_with fail
            refine KM.out.mono ?_
            rintro _ w4 ⟨uu, v4, rfl, m4, s4⟩
            have M4 : Aside (PairM w w4 F G b p v4 [] t) := Mid.second M3.out m4 s4
            have HO4 : Aside (w4.heap[w2.heap.size]? = some (.cells #[.float .f64 0, .int .i64 0] 41 (0, 0))) := (s4.block w2.heap.size (by simp) HBB.out).trans HO3.out
            generalize w2.heap.size = N2 at *
            have d0 := cell_of_row w4 N2 0 _ _ _ HO4.out
            have d1 := cell_of_row w4 N2 1 _ _ _ HO4.out
            simp only [List.getElem?_toArray, List.getElem?_cons_zero, List.getElem?_cons_succ] at d0 d1
            clear KM m4 s4 M3
            go_wp2_with fail
            go_quiet (fail)
            have M5 : Aside (PairM w (w4.drewN nq) F G b p v4 [] t) := M4.out.stays (Stp.drewN [] _ _)
            generalize w4.drewN nq = w5 at *
            clear d0 d1

            have HE : Aside (([] : List Ent).length ≤ i + 1) := Nat.zero_le _
            clear hcm hpl

            obtain ⟨AQ, capQ, hvQ⟩ := M5.out.2.1.slice
            have hcm := M5.out.2.1.c0
            rw [hvQ] at hcm
            have KL := qlen_quiet M5.out.1
            have HQ : Aside (AQ = AQ) := rfl
            clear hvQ
            go_wp2_with fail
            go_quiet (first | (go_at_call 21; exact KL _))
            have H9 : Aside (PairM w (w5.drewN nq) F G b p v4 [] t) := M5.out.stays (Stp.drewN [] _ _)
            generalize w5.drewN nq = w9 at *
            clear KL hcm M5
            go_wp2
            go_roundg (n - (i + 1))
            case measure => omega
            case rel => exact ⟨i + 1, by go_num, by omega, by omega, F, G, v4, [], t, H9.out, by have := HT.out.1; omega, HE.out⟩

          | cons x s =>
            go_wp2_with fail
            generalize wr.alloc (.cells #[.int .i64 1, .int .i64 z, .int .u64 (m.v : Int)] 32) = wA at *
            generalize wr.heap.size = N at *
            have hNl : N < wA.heap.size := (Array.getElem?_eq_some_iff.1 HNN.out).1

            have KP := Lib.hid (qpeek_run H1.out.1 (by have := HT.out.2; simp at this; omega))
            refine KP.out.mono ?_
            rintro _ w1 ⟨rfl, q1, s1⟩
            have M1 : Aside (Mid w w1 F G b p v (x :: s) (x :: s) t) := Mid.first H1.out q1 s1
            have HB1 : Aside (w1.heap[N]? = some (.cells #[.int .i64 1, .int .i64 z, .int .u64 (m.v : Int)] 32 (0, 0))) := (s1.block N hNl HNF.out.1).trans HNN.out
            have cK1 : w1.cell? ⟨N, 0, none⟩ = some (.int .i64 1) := by rw [cell_of_row w1 N 0 _ _ _ HB1.out]; rfl
            clear KP q1 s1 H1 HNN hNl
            have hNl : N < w1.heap.size := (Array.getElem?_eq_some_iff.1 HB1.out).1

            have KO := Lib.hid (qpop_run M1.out.1 (by have := HT.out.2; simp at this; omega))
            go_wp2_with fail
            refine KO.out.mono ?_
            rintro _ w2 ⟨rfl, q2, s2⟩
            have M2 : Aside (Mid w w2 F G b p v s (x :: s) t) := M1.out.first q2 s2
            have HB2 : Aside (w2.heap[N]? = some (.cells #[.int .i64 1, .int .i64 z, .int .u64 (m.v : Int)] 32 (0, 0))) := (s2.block N hNl HNF.out.1).trans HB1.out
            have cK2 : w2.cell? ⟨N, 0, none⟩ = some (.int .i64 1) := by rw [cell_of_row w2 N 0 _ _ _ HB2.out]; rfl
            clear KO q2 s2 M1 hNl cK1
            have hNl : N < w2.heap.size := (Array.getElem?_eq_some_iff.1 HB2.out).1

            have hpl := M2.out.2.1.lt
            have hcm := M2.out.2.1.c0
            obtain ⟨g0, off0, cap0, hv0, hr0, hg0, hgp0⟩ := M2.out.2.1.form
            rw [hv0] at hcm
            have c0 := hr0.c0 (i := 0) (by omega)
            have c1 := hr0.c1 (i := 0) (by omega)
            simp only [Nat.zero_mul, Nat.add_zero, List.getElem!_cons_zero] at c0 c1
            have e1 : (0 : Int) < (s.length : Int) + 1 := by omega
            have fx := bits_run x.m.v
            have HBB : Aside (w2.heap.size ∉ G) := fun e => absurd (M2.out.2.1.old _ e) (Nat.lt_irrefl _)
            have nb1 : ¬ N = w2.heap.size := by omega
            have nb2 : ¬ p = w2.heap.size := by omega
            have nb3 : ¬ g0 = w2.heap.size := by omega
            have hst := store_float
            clear hr0 hv0

            have M3 : Aside (Mid w (w2.alloc (.cells #[.float .f64 x.m.v, .int .i64 x.n] 41)) F G b p v s (x :: s) t) := M2.out.stays (Stp.alloc [] _ _)
            have HO3 : Aside ((w2.alloc (.cells #[.float .f64 x.m.v, .int .i64 x.n] 41)).heap[w2.heap.size]? = some (.cells #[.float .f64 x.m.v, .int .i64 x.n] 41 (0, 0))) := heap_alloc_new _ _
            have KM := Lib.hid (mpop_some M3.out.2.1 (by have := HT.out.2; simp at this; omega))
            go_wp2_with fail
            refine KM.out.mono ?_
            rintro _ w4 ⟨uu, v4, rfl, m4, s4⟩
            have M4 : Aside (PairM w w4 F G b p v4 s t) := Mid.second M3.out m4 s4
            have HO4 : Aside (w4.heap[w2.heap.size]? = some (.cells #[.float .f64 x.m.v, .int .i64 x.n] 41 (0, 0))) := (s4.block w2.heap.size (by simp) HBB.out).trans HO3.out
            generalize w2.heap.size = N2 at *
            have d0 := cell_of_row w4 N2 0 _ _ _ HO4.out
            have d1 := cell_of_row w4 N2 1 _ _ _ HO4.out
            simp only [List.getElem?_toArray, List.getElem?_cons_zero, List.getElem?_cons_succ] at d0 d1
            clear KM m4 s4 M3
            go_wp2_with fail
            go_quiet (fail)
            have M5 : Aside (PairM w (w4.drewN nq) F G b p v4 s t) := M4.out.stays (Stp.drewN [] _ _)
            generalize w4.drewN nq = w5 at *
            clear d0 d1

            have HE : Aside ((s : List Ent).length ≤ i + 1) := by show (s : List Ent).length ≤ i + 1; have := HT.out.2; simp at this ⊢; omega
            clear hcm c0 c1 hpl

            obtain ⟨AQ, capQ, hvQ⟩ := M5.out.2.1.slice
            have hcm := M5.out.2.1.c0
            rw [hvQ] at hcm
            have KL := qlen_quiet M5.out.1
            have HQ : Aside (AQ = AQ) := rfl
            clear hvQ
            go_wp2_with fail
            go_quiet (first | (go_at_call 21; exact KL _))
            have H9 : Aside (PairM w (w5.drewN nq) F G b p v4 s t) := M5.out.stays (Stp.drewN [] _ _)
            generalize w5.drewN nq = w9 at *
            clear KL hcm M5
            go_wp2
            go_roundg (n - (i + 1))
            case measure => omega
            case rel => exact ⟨i + 1, by go_num, by omega, by omega, F, G, v4, s, t, H9.out, by have := HT.out.1; omega, HE.out⟩

        · have b1 : (k == 1) = false := by simpa using k1
          by_cases k2 : k = 2
          · subst k2
            clear k0 b0 k1 b1
            cases s with
            | nil =>
              go_wp2_with fail
              generalize wr.alloc (.cells #[.int .i64 2, .int .i64 z, .int .u64 (m.v : Int)] 32) = wA at *
              generalize wr.heap.size = N at *
              have hNl : N < wA.heap.size := (Array.getElem?_eq_some_iff.1 HNN.out).1

              have KP := Lib.hid (qpeek_none H1.out.1)
              refine KP.out.mono ?_
              rintro _ w1 ⟨rfl, rfl⟩
              have M1 : Aside (Mid w w1 F G b p v [] [] t) := H1.out
              have HB1 : Aside (w1.heap[N]? = some (.cells #[.int .i64 2, .int .i64 z, .int .u64 (m.v : Int)] 32 (0, 0))) := HNN.out
              have cK1 : w1.cell? ⟨N, 0, none⟩ = some (.int .i64 2) := by rw [cell_of_row w1 N 0 _ _ _ HB1.out]; rfl
              clear KP H1 HNN

              obtain ⟨w2, hw2⟩ : ∃ w2, w2 = w1 := ⟨_, rfl⟩
              subst hw2
              have M2 : Aside (Mid w w2 F G b p v [] [] t) := M1.out
              have HB2 : Aside (w2.heap[N]? = some (.cells #[.int .i64 2, .int .i64 z, .int .u64 (m.v : Int)] 32 (0, 0))) := HB1.out

              have hpl := M2.out.2.1.lt
              have hcm := M2.out.2.1.c0
              obtain ⟨A0, cap0, hv0⟩ := M2.out.2.1.slice
              rw [hv0] at hcm
              have fx : ∀ w, (callFunc 18 #[.float .f64 0]).run Try.prog w = .ok (.value (.int .u64 0)) w := bits_run 0
              have HBB : Aside (w2.heap.size ∉ G) := fun e => absurd (M2.out.2.1.old _ e) (Nat.lt_irrefl _)
              have nb1 : ¬ N = w2.heap.size := by omega
              have nb2 : ¬ p = w2.heap.size := by omega
              have hst := store_float
              clear hv0

              have M4 : Aside (PairM w (w2.alloc (.cells #[.float .f64 0, .int .i64 0] 41)) F G b p v [] t) := M2.out.stays (Stp.alloc [] _ _)
              go_wp2_with fail
              go_quiet (fail)
              have M5 : Aside (PairM w ((w2.alloc (.cells #[.float .f64 0, .int .i64 0] 41)).drewN nq) F G b p v [] t) := M4.out.stays (Stp.drewN [] _ _)
              generalize (w2.alloc (.cells #[.float .f64 0, .int .i64 0] 41)).drewN nq = w5 at *

              have HE : Aside (([] : List Ent).length ≤ i + 1) := Nat.zero_le _
              clear hcm hpl

              obtain ⟨AQ, capQ, hvQ⟩ := M5.out.2.1.slice
              have hcm := M5.out.2.1.c0
              rw [hvQ] at hcm
              have KL := qlen_quiet M5.out.1
              have HQ : Aside (AQ = AQ) := rfl
              clear hvQ
              go_wp2_with fail
              go_quiet (first | (go_at_call 21; exact KL _))
              have H9 : Aside (PairM w (w5.drewN nq) F G b p v [] t) := M5.out.stays (Stp.drewN [] _ _)
              generalize w5.drewN nq = w9 at *
              clear KL hcm M5
              go_wp2
              go_roundg (n - (i + 1))
              case measure => omega
              case rel => exact ⟨i + 1, by go_num, by omega, by omega, F, G, v, [], t, H9.out, by have := HT.out.1; omega, HE.out⟩

            | cons x s =>
              go_wp2_with fail
              generalize wr.alloc (.cells #[.int .i64 2, .int .i64 z, .int .u64 (m.v : Int)] 32) = wA at *
              generalize wr.heap.size = N at *
              have hNl : N < wA.heap.size := (Array.getElem?_eq_some_iff.1 HNN.out).1

              have KP := Lib.hid (qpeek_run H1.out.1 (by have := HT.out.2; simp at this; omega))
              refine KP.out.mono ?_
              rintro _ w1 ⟨rfl, q1, s1⟩
              have M1 : Aside (Mid w w1 F G b p v (x :: s) (x :: s) t) := Mid.first H1.out q1 s1
              have HB1 : Aside (w1.heap[N]? = some (.cells #[.int .i64 2, .int .i64 z, .int .u64 (m.v : Int)] 32 (0, 0))) := (s1.block N hNl HNF.out.1).trans HNN.out
              have cK1 : w1.cell? ⟨N, 0, none⟩ = some (.int .i64 2) := by rw [cell_of_row w1 N 0 _ _ _ HB1.out]; rfl
              clear KP q1 s1 H1 HNN hNl
              have hNl : N < w1.heap.size := (Array.getElem?_eq_some_iff.1 HB1.out).1

              obtain ⟨w2, hw2⟩ : ∃ w2, w2 = w1 := ⟨_, rfl⟩
              subst hw2
              have M2 : Aside (Mid w w2 F G b p v (x :: s) (x :: s) t) := M1.out
              have HB2 : Aside (w2.heap[N]? = some (.cells #[.int .i64 2, .int .i64 z, .int .u64 (m.v : Int)] 32 (0, 0))) := HB1.out

              have hpl := M2.out.2.1.lt
              have hcm := M2.out.2.1.c0
              obtain ⟨g0, off0, cap0, hv0, hr0, hg0, hgp0⟩ := M2.out.2.1.form
              rw [hv0] at hcm
              have c0 := hr0.c0 (i := 0) (by omega)
              have c1 := hr0.c1 (i := 0) (by omega)
              simp only [Nat.zero_mul, Nat.add_zero, List.getElem!_cons_zero] at c0 c1
              have e1 : (0 : Int) < (s.length : Int) + 1 := by omega
              have fx := bits_run x.m.v
              have HBB : Aside (w2.heap.size ∉ G) := fun e => absurd (M2.out.2.1.old _ e) (Nat.lt_irrefl _)
              have nb1 : ¬ N = w2.heap.size := by omega
              have nb2 : ¬ p = w2.heap.size := by omega
              have nb3 : ¬ g0 = w2.heap.size := by omega
              have hst := store_float
              clear hr0 hv0

              have M4 : Aside (PairM w (w2.alloc (.cells #[.float .f64 x.m.v, .int .i64 x.n] 41)) F G b p v (x :: s) t) := M2.out.stays (Stp.alloc [] _ _)
              go_wp2_with fail
              go_quiet (fail)
              have M5 : Aside (PairM w ((w2.alloc (.cells #[.float .f64 x.m.v, .int .i64 x.n] 41)).drewN nq) F G b p v (x :: s) t) := M4.out.stays (Stp.drewN [] _ _)
              generalize (w2.alloc (.cells #[.float .f64 x.m.v, .int .i64 x.n] 41)).drewN nq = w5 at *

              have HE : Aside (((x :: s) : List Ent).length ≤ i + 1) := by show ((x :: s) : List Ent).length ≤ i + 1; have := HT.out.2; simp at this ⊢; omega
              clear hcm c0 c1 hpl

              obtain ⟨AQ, capQ, hvQ⟩ := M5.out.2.1.slice
              have hcm := M5.out.2.1.c0
              rw [hvQ] at hcm
              have KL := qlen_quiet M5.out.1
              have HQ : Aside (AQ = AQ) := rfl
              clear hvQ
              go_wp2_with fail
              go_quiet (first | (go_at_call 21; exact KL _))
              have H9 : Aside (PairM w (w5.drewN nq) F G b p v (x :: s) t) := M5.out.stays (Stp.drewN [] _ _)
              generalize w5.drewN nq = w9 at *
              clear KL hcm M5
              go_wp2
              go_roundg (n - (i + 1))
              case measure => omega
              case rel => exact ⟨i + 1, by go_num, by omega, by omega, F, G, v, (x :: s), t, H9.out, by have := HT.out.1; omega, HE.out⟩

          · have b2 : (k == 2) = false := by simpa using k2
            by_cases k3 : k = 3
            · subst k3
              clear k0 b0 k1 b1 k2 b2
              go_wp2_with fail
              generalize wr.alloc (.cells #[.int .i64 3, .int .i64 z, .int .u64 (m.v : Int)] 32) = wA at *
              clear HNN HNF ca cb cc
              have K1 := Lib.hid (before_run H1.out.1 (by have := HT.out; omega) m)
              refine K1.out.mono ?_
              rintro _ w1 ⟨v1, rfl, o1, q1, s1⟩
              have M1 : Aside (Mid w w1 F G b p v (beyond m s) s t) := Mid.first H1.out q1 s1
              have HG : Aside (∀ k ∈ G, k < wA.heap.size) := H1.out.2.1.old
              have HO1 : Aside (OwnI w1 wA.heap.size v1 ((upTo m s).map Ent.n)) := o1
              have K2 := Lib.hid (mbefore_run M1.out.2.1 (by have := HT.out; omega) m)
              clear K1 o1 q1 s1 H1
              go_wp2_with fail
              refine K2.out.mono ?_
              rintro _ w2 ⟨v2, v', rfl, o2, m2, s2⟩
              have M2 : Aside (PairM w w2 F G b p v' (beyond m s) t ∧ OwnI w2 wA.heap.size v1 ((upTo m s).map Ent.n) ∧ OwnI w2 w1.heap.size v2 ((upTo m s).map Ent.n)) := ⟨Mid.second M1.out m2 s2, HO1.out.kept s2 HG.out, o2⟩
              obtain ⟨L, hL⟩ : ∃ L, L = (upTo m s).length := ⟨_, rfl⟩
              have HLL : Aside (((upTo m s).map Ent.n).length = L ∧ (beyond m s).length ≤ i + 1) := by
                refine ⟨by rw [List.length_map]; exact hL.symm, ?_⟩
                have := congrArg List.length (upTo_append m s)
                rw [List.length_append] at this
                have := HT.out
                omega
              have hLb : L ≤ 1000 := by
                have := congrArg List.length (upTo_append m s)
                rw [List.length_append] at this
                have := HT.out
                omega
              obtain ⟨A1, c1, e1⟩ := M2.out.2.1.sliceN HLL.out.1
              obtain ⟨A2, c2, e2⟩ := M2.out.2.2.sliceN HLL.out.1
              clear K2 o2 m2 s2 M1 HO1 hL
              subst e1 e2
              generalize (upTo m s).map Ent.n = ns at *
              go_wp2
              go_loopg [123] L (fun gk vj wx => ∃ j : Nat, vj = .int .i64 (j : Int) ∧ j ≤ L ∧ L - j ≤ gk ∧ Aside (PairM w wx F G b p v' (beyond m s) t ∧ OwnI wx wA.heap.size (.slice A1 L c1) ns ∧ OwnI wx w1.heap.size (.slice A2 L c2) ns))
              case atStart => exact ⟨0, rfl, by omega, by omega, M2⟩
              case round =>
                clear M2
                obtain ⟨j, rfl, hj, hgj, HJ⟩ := hrel
                by_cases hltj : j < L
                · have hltjz : (j : Int) < (L : Int) := by omega
                  obtain ⟨z1, g1, eg1, d1⟩ := HJ.out.2.1.cell (i := j) (by rw [HLL.out.1]; exact hltj)
                  obtain ⟨z2, g2, eg2, d2⟩ := HJ.out.2.2.cell (i := j) (by rw [HLL.out.1]; exact hltj)
                  clear z1 z2
                  cases eg1
                  cases eg2
                  generalize ns[j]! = y at d1 d2
                  go_wp2_with fail
                  go_quiet (fail)
                  have H6 : Aside (PairM w (wr.drewN nq) F G b p v' (beyond m s) t ∧ OwnI (wr.drewN nq) wA.heap.size (.slice (some ⟨g1, 0, none⟩) L c1) ns ∧ OwnI (wr.drewN nq) w1.heap.size (.slice (some ⟨g2, 0, none⟩) L c2) ns) := ⟨HJ.out.1.stays (Stp.drewN [] _ _), HJ.out.2.1, HJ.out.2.2⟩
                  generalize wr.drewN nq = w6 at *
                  clear d1 d2
                  go_wp2
                  go_roundg (L - (j + 1))
                  case measure => omega
                  case rel => exact ⟨j + 1, by go_num, by omega, by omega, H6⟩
                · have hltjz : ¬ (j : Int) < (L : Int) := by omega
                  have H7 : Aside (PairM w wr F G b p v' (beyond m s) t) := HJ.out.1
                  clear HJ
                  obtain ⟨AQ, capQ, hvQ⟩ := H7.out.2.1.slice
                  have hcm := H7.out.2.1.c0
                  rw [hvQ] at hcm
                  have KL := qlen_quiet H7.out.1
                  have HQ : Aside (AQ = AQ) := rfl
                  clear hvQ
                  go_wp2_with fail
                  go_quiet (first | (go_at_call 21; exact KL _))
                  have H9 : Aside (PairM w (wr.drewN nq) F G b p v' (beyond m s) t) := H7.out.stays (Stp.drewN [] _ _)
                  generalize wr.drewN nq = w9 at *
                  clear KL hcm H7
                  go_wp2
                  go_roundg (n - (i + 1))
                  case measure => omega
                  case rel => exact ⟨i + 1, by go_num, by omega, by omega, F, G, v', (beyond m s), t, H9.out, by have := HT.out; omega, HLL.out.2⟩

            · have b3 : (k == 3) = false := by simpa using k3
              clear HNN HNF
              have hpl := H1.out.2.1.lt

              obtain ⟨AQ, capQ, hvQ⟩ := H1.out.2.1.slice
              have hcm := H1.out.2.1.c0
              rw [hvQ] at hcm
              have KL := qlen_quiet H1.out.1
              have HQ : Aside (AQ = AQ) := rfl
              clear hvQ
              go_wp2_with fail
              go_quiet (first | (go_at_call 21; exact KL _))
              have H9 : Aside (PairM w ((wr.alloc (.cells #[.int .i64 k, .int .i64 z, .int .u64 (m.v : Int)] 32)).drewN nq) F G b p v s t) := H1.out.stays (Stp.drewN [] _ _)
              generalize (wr.alloc (.cells #[.int .i64 k, .int .i64 z, .int .u64 (m.v : Int)] 32)).drewN nq = w9 at *
              clear KL hcm H1
              go_wp2
              go_roundg (n - (i + 1))
              case measure => omega
              case rel => exact ⟨i + 1, by go_num, by omega, by omega, F, G, v, s, t, H9.out, by have := HT.out; omega, by have := HT.out; omega⟩
    · have hltz : ¬ (i : Int) < (n : Int) := by omega
      go_wp2
      go_ret
      exact ⟨rfl, HS.out.1.2.2.2.under⟩
theorem acts_walk (a : Option Addr) (cap : Nat) (l : List Ac) (w : World) (hU : As w a l) (hl : l.length ≤ 9223372036854775807) : Calls Try.prog 3 #[.slice a l.length cap] w (Truth w) := by
  by_cases h : 400 < l.length
  · exact acts_long a cap l.length w h hl
  · exact acts_short a cap l.length l w hU rfl (by omega)
end Go.Proofs.Ytjjaaahoophgpaa
