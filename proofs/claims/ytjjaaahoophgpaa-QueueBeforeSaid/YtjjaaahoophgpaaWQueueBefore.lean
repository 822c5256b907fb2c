/-
  QueueBefore returns true for every slice of words and every word.
-/
import Derived.Test.YtjjaaahoophgpaaTwo
import Derived.Test.YtjjaaahoophgpaaWQueueOrder
namespace Go.Proofs.Ytjjaaahoophgpaa
open Go.RowKit Go.Lib
set_option linter.unusedVariables false

/-- Two queues apart, and nothing else turned. -/
def Pair (w W : World) (F G : List Nat) (b p : Nat) (s r : List Ent) (t u : Nat) : Prop := Qs W F b s t ∧ Qs W G p r u ∧ Apart F G ∧ Stp [] w (F ++ G) W
theorem Pair.first {w W W' : World} {F F' G : List Nat} {b p t t' u : Nat} {s s' r : List Ent} (h : Pair w W F G b p s r t u) (hq : Qs W' F' b s' t') (hs : Stp F W F' W') : Pair w W' F' G b p s' r t' u :=
  ⟨hq, h.2.1.other hs h.2.2.1, h.2.2.1.step hs h.2.1.old, h.2.2.2.trans (hs.left G)⟩
theorem Pair.second {w W W' : World} {F G G' : List Nat} {b p t u u' : Nat} {s r r' : List Ent} (h : Pair w W F G b p s r t u) (hq : Qs W' G' p r' u') (hs : Stp G W G' W') : Pair w W' F G' b p s r' t u' :=
  ⟨h.1.other hs h.2.2.1.symm, hq, (h.2.2.1.symm.step hs h.1.old).symm, h.2.2.2.trans (hs.right F)⟩
theorem Pair.stays {w W W' : World} {F G : List Nat} {b p t u : Nat} {s r : List Ent} (h : Pair w W F G b p s r t u) (hs : Stp [] W [] W') : Pair w W' F G b p s r t u :=
  ⟨h.1.stays hs, h.2.1.stays hs, h.2.2.1, h.2.2.2.trans (hs.widen (fun k h => .inl h))⟩

theorem before_long (a : Option Addr) (cap n : Nat) (z : Int) (w : World) (hn : 400 < n) (hl : n ≤ 9223372036854775807) : Calls Try.prog 6 #[.slice a n cap, .int .u64 z] w (Truth w) := by
  have KN := Lib.hid new_run
  have KA := Lib.hid alive_run
  have hx : (400 : Int) < (n : Int) := by omega
  go_enter Try.func6, Try.ntmps6
  go_wp2_with fail
  refine (KN.out _).mono ?_
  rintro _ w0 ⟨rfl, q0, s0⟩
  have H0 := Lib.hid s0
  clear q0 s0
  go_wp2_with fail
  refine (KN.out _).mono ?_
  rintro _ w1 ⟨rfl, q0, s0⟩
  have H1 := Lib.hid (H0.out.none.trans s0.none)
  clear q0 s0 H0
  go_wp2_with fail
  refine (KA.out _).mono ?_
  rintro _ w2 ⟨rfl, s1⟩
  have H2 := Lib.hid (H1.out.trans s1)
  clear H1 s1
  go_wp2_with fail
  refine (KA.out _).mono ?_
  rintro _ w3 ⟨rfl, s2⟩
  have H3 := Lib.hid (H2.out.trans s2)
  clear H2 s2
  go_wp2
  go_ret
  exact ⟨rfl, H3.out.under⟩

set_option maxHeartbeats 4000000 in
set_option maxRecDepth 100000 in
theorem before_short (a : Option Addr) (cap n : Nat) (l : List Mo) (m : Mo) (w : World) (hU : Us w a l) (hn : n = l.length) (hl : n ≤ 400) : Calls Try.prog 6 #[.slice a n cap, .int .u64 (m.v : Int)] w (Truth w) := by
  have KN := Lib.hid new_run
  have KA := Lib.hid alive_run
  have hx : ¬ (400 : Int) < (n : Int) := by omega
  have HU : Aside (Us w a l ∧ n = l.length) := ⟨hU, hn⟩
  clear hU hn
  have fat := from_run m.v
  go_enter Try.func6, Try.ntmps6
  go_wp2_with fail
  refine (KN.out _).mono ?_
  rintro _ w0 ⟨rfl, q0, s0⟩
  have H0 := Lib.hid (And.intro q0 s0)
  clear q0 s0
  go_wp2_with fail
  refine (KN.out _).mono ?_
  rintro _ w1 ⟨rfl, q1, s1⟩
  have H1 : Aside (Pair w w1 [w.heap.size] [w0.heap.size] w.heap.size w0.heap.size [] [] 0 0) := by
    have hb := H0.out.1.lt
    refine ⟨H0.out.1.stays s1.none, q1, fun k hk e => ?_, H0.out.2.trans (s1.widen (fun k hk => ?_))⟩
    · simp only [List.mem_singleton] at hk e
      omega
    · simpa [List.mem_append] using hk
  clear q1 s1 H0 KN
  generalize w.heap.size = b at *
  generalize w0.heap.size = p at *
  go_wp2_with fail
  refine (KA.out _).mono ?_
  rintro _ w2 ⟨rfl, s2⟩
  have H2 : Aside (Pair w w2 [b] [p] b p [] [] 0 0) := H1.out.stays s2
  clear H1 s2 KA
  go_wp2
  go_loopg [36] n (fun gk vi wr => ∃ i : Nat, vi = .int .i64 (i : Int) ∧ i ≤ n ∧ n - i ≤ gk ∧ Aside (∃ F G, Pair w wr F G b p (pushed l i) (pushed l i) i i))
  case atStart => exact ⟨0, rfl, by omega, by omega, [b], [p], H2.out⟩
  case round =>
    clear H2
    obtain ⟨i, rfl, hi, hg, HS⟩ := hrel
    obtain ⟨F, G, HS⟩ : ∃ F G, Aside (Pair w wr F G b p (pushed l i) (pushed l i) i i) := HS.out
    by_cases hlt : i < n
    · have hltz : (i : Int) < (n : Int) := by omega
      obtain ⟨ab, off, rfl, hc⟩ := HU.out.1.cell HS.out.2.2.2 (i := i) (by have := HU.out.2; omega)
      have K := Lib.hid (qpush_run HS.out.1 (by rw [pushed_length]; omega) (l[i]!) (i : Int) (by omega) (mkE (l[i]!) (i : Int) i) (mkE_all (by omega)))
      generalize hm : l[i]! = x at *
      have HE : Aside (pushed l (i + 1) = ins (mkE x (i : Int) i) (pushed l i)) := by
        show ins (mkE (l[i]!) (i : Int) i) (pushed l i) = _
        rw [hm]
      clear hm
      have fm := from_run x.v
      go_wp2_with fail
      refine K.out.mono ?_
      rintro _ w3 ⟨rfl, F3, q3, s3⟩
      have H3 : Aside (Pair w w3 F3 G b p (pushed l (i + 1)) (pushed l i) (i + 1) i) := HS.out.first (by rw [HE.out]; exact q3) s3
      have K2 := Lib.hid (qpush_run H3.out.2.1 (by rw [pushed_length]; omega) x (i : Int) (by omega) (mkE x (i : Int) i) (mkE_all (by omega)))
      clear K q3 s3 hc HS
      go_wp2_with fail
      refine K2.out.mono ?_
      rintro _ w4 ⟨rfl, G4, q4, s4⟩
      have H4 : Aside (Pair w w4 F3 G4 b p (pushed l (i + 1)) (pushed l (i + 1)) (i + 1) (i + 1)) := H3.out.second (by rw [HE.out]; exact q4) s4
      clear K2 q4 s4 H3
      go_wp2
      go_roundg (n - (i + 1))
      case measure => omega
      case rel => exact ⟨i + 1, by go_num, by omega, by omega, F3, G4, H4.out⟩
    · have hltz : ¬ (i : Int) < (n : Int) := by omega
      obtain rfl : i = n := by omega
      have K1 := Lib.hid (before_run HS.out.1 (by rw [pushed_length]; omega) m)
      have KA := Lib.hid nan_run
      have HO : Aside (Ordd (pushed l i) ∧ (pushed l i).length = i) := ⟨pushed_ordd l i (by omega), pushed_length l i⟩
      generalize pushed l i = s at *
      have HF : Aside (∀ k ∈ F, k < wr.heap.size) := HS.out.1.old
      go_wp2_with fail
      refine K1.out.mono ?_
      rintro _ w1 ⟨v1, rfl, o1, q1, s1⟩
      have H1 : Aside (Pair w w1 F G b p (beyond m s) s i i ∧ OwnI w1 wr.heap.size v1 ((upTo m s).map Ent.n)) := ⟨HS.out.first q1 s1, o1⟩
      have hbl : (beyond m s).length < 100000 := by
        have := congrArg List.length (upTo_append m s)
        rw [List.length_append, HO.out.2] at this
        omega
      have K2 := Lib.hid (before_run q1 hbl nanM)
      clear K1 o1 q1 s1 HS
      go_wp2_with fail
      refine (KA.out _).mono ?_
      rintro _ w1 ⟨rfl, rfl⟩
      clear KA
      go_wp2_with fail
      refine K2.out.mono ?_
      rintro _ w2 ⟨v2, rfl, o2, q2, s2⟩
      rw [(upTo_nan _).1] at o2
      rw [(upTo_nan _).2] at q2
      have H2 : Aside (Pair w w2 F G b p [] s i i ∧ OwnI w2 wr.heap.size v1 ((upTo m s).map Ent.n) ∧ OwnI w2 w1.heap.size v2 ((beyond m s).map Ent.n)) :=
        ⟨H1.out.1.first q2 s2, H1.out.2.kept s2 HF.out, o2⟩
      have KL := Lib.hid (qlen_run q2)
      obtain ⟨A1, c1, e1⟩ := H2.out.2.1.slice
      obtain ⟨A2, c2, e2⟩ := H2.out.2.2.slice
      rw [List.length_map] at e1 e2
      obtain ⟨k, hk⟩ : ∃ k, k = (upTo m s).length := ⟨_, rfl⟩
      obtain ⟨k2, hk2⟩ : ∃ k2, k2 = (beyond m s).length := ⟨_, rfl⟩
      rw [← hk] at e1
      rw [← hk2] at e2
      have HK : Aside (k = (upTo m s).length ∧ k + k2 = i) := ⟨hk, by
        have := congrArg List.length (upTo_append m s)
        rw [List.length_append, HO.out.2] at this
        omega⟩
      have hki : (k : Int) + (k2 : Int) = (i : Int) := by have := HK.out.2; omega
      have e3 : IntKind.i64.wrap ((k : Int) + (k2 : Int)) = (i : Int) := by rw [IntKind.wrap_i64]; omega
      clear K2 o2 q2 s2 H1 hk hk2 hbl
      subst e1 e2
      go_wp2_with fail
      refine KL.out.mono ?_
      rintro _ w2 ⟨rfl, rfl⟩
      clear KL
      go_wp2_with (first
        | (at_builtin
           refine wpList_appS rfl (.tmp 72) (.tmp 73) rfl _ _ [] rfl (OwnI.new _) _ rfl _ ((upTo m s).map Ent.n) (World.ownsRow.alloc H2.out.2.1 _) (by have := HK.out; simp; omega) (by simp) ?_
           intro v3 w3 hown3 hg3
           have H3 : Aside (Stp [] w2 [] w3 ∧ OwnI w3 w2.heap.size v3 ((upTo m s).map Ent.n)) := ⟨(Stp.alloc [] w2 _).app hg3 (fun k e => Nat.le_of_eq (Option.some.inj e)), hown3⟩
           have hsz := H3.out.1.size
           clear hown3 hg3)
        | (at_builtin
           refine wpList_appS rfl (.tmp 74) (.tmp 75) rfl _ _ _ rfl H3.out.2 _ rfl w1.heap.size ((beyond m s).map Ent.n) (H2.out.2.2.other H3.out.1 (fun _ _ h => by cases h)) (by have := HK.out; have := congrArg List.length (upTo_append m s); have := HO.out.2; simp at *; omega) hsz ?_
           intro v4 w4 hown4 hg4
           have H4 : Aside (Pair w w4 F G b p [] s i i ∧ OwnI w4 w2.heap.size v4 (s.map Ent.n)) := ⟨H2.out.1.stays (H3.out.1.app hg4 (fun k e => (H3.out.2.lt k e).1)), by rw [← List.map_append, upTo_append] at hown4; exact hown4⟩
           clear hown4 hg4
           obtain ⟨A4, c4, rfl⟩ := H4.out.2.sliceN (n := i) (by rw [List.length_map]; exact HO.out.2)))
      have HG : Aside (∀ k ∈ G, k < w2.heap.size) := H2.out.1.2.1.old
      clear H2 H3
      go_loopg [78] i (fun gk vj wr => ∃ j : Nat, vj = .int .i64 (j : Int) ∧ j ≤ i ∧ i - j ≤ gk ∧ Aside (Pair w wr F G b p [] (s.drop j) i i ∧ OwnI wr w2.heap.size (.slice A4 i c4) (s.map Ent.n)))
      case atStart => exact ⟨0, rfl, by omega, by omega, H4.out⟩
      case round =>
        clear H4
        obtain ⟨j, rfl, hj, hgj, HS⟩ := hrel
        by_cases hlt : j < i
        · have hltz : (j : Int) < (i : Int) := by omega
          have hq := HS.out.1.2.1.next (by rw [HO.out.2]; exact hlt)
          obtain ⟨hn0, g4, e4, hc⟩ := HS.out.2.cell (i := j) (by rw [List.length_map, HO.out.2]; exact hlt)
          clear hn0
          cases e4
          have ex : (s.map Ent.n)[j]! = (s[j]!).n := by
            rw [getElem!_pos _ j (by rw [List.length_map, HO.out.2]; exact hlt), getElem!_pos s j (by rw [HO.out.2]; exact hlt), List.getElem_map]
          rw [ex] at hc
          have hrl : (s.drop (j + 1)).length < 100000 := by rw [List.length_drop, HO.out.2]; omega
          have KO := Lib.hid (qpop_run hq hrl)
          have hiff := upTo_iff m s HO.out.1 j (by rw [HO.out.2]; exact hlt)
          rw [← HK.out.1] at hiff
          generalize s[j]! = x at *
          have KC := Lib.hid (compare_any x.m.v m.v x.m.lt m.lt)
          have hcl := @cmpN_le x.m m
          generalize cmpN x.m.v m.v = c at *
          clear hq ex
          by_cases hkey : j < k
          · have v1 : c ≤ 0 := hcl.2 (hiff.2 hkey)
            have v2 : (j : Int) < (k : Int) := by omega
            clear hcl hiff
            go_wp2_with fail
            refine KO.out.mono ?_
            rintro _ w5 ⟨rfl, q5, s5⟩
            have H5 : Aside (Pair w w5 F G b p [] (s.drop (j + 1)) i i ∧ OwnI w5 w2.heap.size (.slice (some ⟨g4, 0, none⟩) i c4) (s.map Ent.n)) := ⟨HS.out.1.second q5 s5, HS.out.2.kept s5 HG.out⟩
            clear KO q5 s5
            go_wp2_with fail
            refine (KC.out _).mono ?_
            rintro _ _ ⟨rfl, rfl⟩
            clear KC
            go_wp2
            go_roundg (i - (j + 1))
            case measure => omega
            case rel => exact ⟨j + 1, by go_num, by omega, by omega, H5⟩
          · have v1 : ¬ c ≤ 0 := fun h => hkey (hiff.1 (hcl.1 h))
            have v2 : ¬ (j : Int) < (k : Int) := by omega
            clear hcl hiff
            go_wp2_with fail
            refine KO.out.mono ?_
            rintro _ w5 ⟨rfl, q5, s5⟩
            have H5 : Aside (Pair w w5 F G b p [] (s.drop (j + 1)) i i ∧ OwnI w5 w2.heap.size (.slice (some ⟨g4, 0, none⟩) i c4) (s.map Ent.n)) := ⟨HS.out.1.second q5 s5, HS.out.2.kept s5 HG.out⟩
            clear KO q5 s5
            go_wp2_with fail
            refine (KC.out _).mono ?_
            rintro _ _ ⟨rfl, rfl⟩
            clear KC
            go_wp2
            go_roundg (i - (j + 1))
            case measure => omega
            case rel => exact ⟨j + 1, by go_num, by omega, by omega, H5⟩
        · have hltz : ¬ (j : Int) < (i : Int) := by omega
          go_wp2
          go_ret
          exact ⟨rfl, HS.out.1.2.2.2.under⟩
theorem before_walk (a : Option Addr) (cap : Nat) (l : List Mo) (w : World) (hU : Us w a l) (hl : l.length ≤ 9223372036854775807) (m : Mo) : Calls Try.prog 6 #[.slice a l.length cap, .int .u64 (m.v : Int)] w (Truth w) := by
  by_cases h : 400 < l.length
  · exact before_long a cap l.length _ w h hl
  · exact before_short a cap l.length l m w hU rfl (by omega)
end Go.Proofs.Ytjjaaahoophgpaa
