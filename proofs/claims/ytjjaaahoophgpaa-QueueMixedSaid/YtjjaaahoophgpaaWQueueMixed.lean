/-
  QueueMixed returns true for every slice of calls.
-/
import Derived.Test.YtjjaaahoophgpaaMap
namespace Go.Proofs.Ytjjaaahoophgpaa
open Go.RowKit Go.Lib Go.Maps
set_option linter.unusedVariables false

theorem mixed_long (a : Option Addr) (cap n : Nat) (w : World) (hn : 300 < n) (hl : n ≤ 9223372036854775807) : Calls Try.prog 8 #[.slice a n cap] w (Truth w) := by
  have KN := Lib.hid (new_run w)
  have KA := Lib.hid alive_run
  have hx : (300 : Int) < (n : Int) := by omega
  go_enter Try.func8, Try.ntmps8
  go_wp2_with fail
  refine KN.out.mono ?_
  rintro _ w0 ⟨rfl, q0, s0⟩
  have H0 := Lib.hid s0
  clear KN q0 s0
  go_wp2_with fail
  refine (KA.out _).mono ?_
  rintro _ w1 ⟨rfl, s1⟩
  have H1 := Lib.hid (H0.out.none.trans s1)
  clear H0 s1
  go_wp2_with fail
  refine (KA.out _).mono ?_
  rintro _ w2 ⟨rfl, s2⟩
  have H2 := Lib.hid (H1.out.trans s2)
  clear H1 s2
  go_wp2
  go_ret
  exact ⟨rfl, H2.out.under⟩

/-- Of two in order the first is not later; at one place its number is less. -/
theorem mixed_ok {s : List Ent} {i t : Nat} {x y : Ent} (ho : Ordd (x :: s)) (hN : Nums (x :: s) i t) (hy : y ∈ s) : cmpN x.m.v y.m.v ≤ 0 ∧ (cmpN x.m.v y.m.v = 0 → ¬ y.n < x.n) := by
  have h1 := (List.pairwise_cons.1 ho).1 y hy
  refine ⟨cmpN_le.2 (key_le_of_rk h1), fun h0 => ?_⟩
  have h2 := cmpN_zero.1 h0
  have h3 := hN.ord x List.mem_cons_self y (List.mem_cons_of_mem _ hy)
  unfold Ent.rk at h1
  have h4 : x.t < y.t := by omega
  have := h3.1 h4
  omega
/-- While the map is ranged over. -/
def Rng (w W : World) (F : List Nat) (b B r : Nat) (s : List Ent) (t i : Nat) (D : DataW Unit) (left : Lit → Bool) (cnt : Nat) : Prop :=
  Mx w W F b B s t i D ∧ W.ranges Try.prog 3 fEl B r i D left cnt ∧ (∀ k, left k = true → Maps.has D k = true) ∧ r ∉ F ∧ w.heap.size ≤ r ∧ r ≠ B
theorem Rng.next {w W W' : World} {F : List Nat} {b B r : Nat} {s : List Ent} {t i : Nat} {D : DataW Unit} {left left' : Lit → Bool} {cnt cnt' : Nat} (h : Rng w W F b B r s t i D left cnt) (hr : W'.ranges Try.prog 3 fEl B r i D left' cnt') (hl : ∀ k, left' k = true → Maps.has D k = true) (hg : W.grownBy W' (some r)) :
    Rng w W' F b B r s t i D left' cnt' := by
  obtain ⟨m, h1, h2, h3, h4, h5⟩ := h
  refine ⟨⟨m.q.grown hg h3, hr.owns, m.apart, ?_, m.like, m.nums⟩, hr, hl, h3, h4, h5⟩
  have st := m.st
  exact ⟨hg.os.trans st.os, hg.tape.trans st.tape, hg.output.trans st.output, Nat.le_trans st.size hg.size, fun k hk hF => (hg.block k (Nat.lt_of_lt_of_le hk st.size) (fun e => by have := Option.some.inj e; omega)).trans (st.block k hk hF), st.foot⟩

set_option maxHeartbeats 8000000 in
set_option maxRecDepth 100000 in
theorem mixed_short (a : Option Addr) (cap n : Nat) (l : List Ac) (w : World) (hU : As w a l) (hn : n = l.length) (hl : n ≤ 300) : Calls Try.prog 8 #[.slice a n cap] w (Truth w) := by
  have KN := Lib.hid (new_run w)
  have KA := Lib.hid alive_run
  have hmm := @run_makeMap Try.prog
  have hx : ¬ (300 : Int) < (n : Int) := by omega
  have HU : Aside (As w a l ∧ n = l.length) := ⟨hU, hn⟩
  clear hU hn
  go_enter Try.func8, Try.ntmps8
  go_wp2_with fail
  refine KN.out.mono ?_
  rintro _ w0 ⟨rfl, q0, s0⟩
  have H0 := Lib.hid (And.intro q0 s0)
  clear KN q0 s0
  generalize w.heap.size = b at *
  go_wp2_with fail
  refine (KA.out _).mono ?_
  rintro _ w1 ⟨rfl, s1⟩
  have H1 : Aside (Qs w1 [b] b [] 0 ∧ Stp [] w [b] w1) := ⟨H0.out.1.stays s1, H0.out.2.trans (s1.widen (fun k h => .inl h))⟩
  clear H0 s1 KA
  go_wp2
  have H2 : Aside (Mx w (w1.alloc (.map #[] 0)) [b] b w1.heap.size [] 0 0 (.map [])) := by
    refine ⟨H1.out.1.stays (Stp.alloc [] _ _), World.ownsMap_made _ _ _ _, fun e => absurd (H1.out.1.old _ e) (Nat.lt_irrefl _), ?_, Like.empty, ⟨(fun x h => by cases h), (fun x h => by cases h), (fun x h => by cases h), (fun x h => by cases h)⟩⟩
    have st := H1.out.2
    refine ⟨st.os, st.tape, st.output, by have := st.size; simp; omega, fun k hk hF => (Below.heap_alloc _ _ _ (by have := st.size; omega)).trans (st.block k hk hF), fun k hk => ?_⟩
    rcases List.mem_append.1 hk with e | e
    · exact st.foot k e
    · rw [List.mem_singleton] at e
      have := st.size
      exact .inr (by omega)
  clear H1 hmm
  generalize w1.heap.size = B at *
  generalize w1.alloc (.map #[] 0) = w2 at *
  go_loopg [31] n (fun gk vi wr => ∃ i : Nat, vi = .int .i64 (i : Int) ∧ i ≤ n ∧ n - i ≤ gk ∧ Aside (∃ F s t D, Mx w wr F b B s t i D ∧ t ≤ i ∧ s.length ≤ i))
  case atStart => exact ⟨0, rfl, by omega, by omega, [b], [], 0, .map [], H2.out, Nat.le_refl _, Nat.le_refl _⟩
  case round =>
    clear H2
    obtain ⟨i, rfl, hi, hg, HS⟩ := hrel
    obtain ⟨F, s, t, D, HS⟩ : ∃ F s t D, Aside (Mx w wr F b B s t i D ∧ t ≤ i ∧ s.length ≤ i) := HS.out
    by_cases hlt : i < n
    · have hltz : (i : Int) < (n : Int) := by omega
      obtain ⟨ab, off, rfl, ca, cb, cc⟩ := HU.out.1.cells HS.out.1.st (i := i) (by have := HU.out.2; omega)
      generalize l[i]! = ac at *
      obtain ⟨k, z, m⟩ := ac
      dsimp only at ca cb cc
      have fm := from_run m.v
      have H1 : Aside (Mx w (wr.alloc (.cells #[.int .i64 k, .int .i64 z, .int .u64 (m.v : Int)] 32)) F b B s t i D) := HS.out.1.stays (Stp.alloc [] _ _)
      have HT : Aside (t ≤ i ∧ s.length ≤ i) := HS.out.2
      have HNN : Aside ((wr.alloc (.cells #[.int .i64 k, .int .i64 z, .int .u64 (m.v : Int)] 32)).heap[wr.heap.size]? = some (.cells #[.int .i64 k, .int .i64 z, .int .u64 (m.v : Int)] 32 (0, 0))) := heap_alloc_new _ _
      have HNF : Aside (wr.heap.size ∉ F ∧ ¬ wr.heap.size = B) := ⟨fun e => absurd (HS.out.1.q.old _ e) (Nat.lt_irrefl _), fun e => by have := HS.out.1.map.lt; omega⟩
      clear HS
      by_cases k0 : k = 0
      · subst k0
        go_wp2_with fail
        generalize wr.alloc (.cells #[.int .i64 0, .int .i64 z, .int .u64 (m.v : Int)] 32) = wA at *
        generalize wr.heap.size = N at *
        obtain ⟨X, hX⟩ : ∃ X : Ent, X.m = m ∧ X.n = (i : Int) ∧ X.t = t := ⟨mkE m (i : Int) t, mkE_all (by have := HT.out; omega)⟩
        have K1 := Lib.hid (qpush_run H1.out.q (by have := HT.out; omega) m (i : Int) (by have := HT.out; omega) X hX)
        have HX : Aside (X.m = m ∧ X.n = (i : Int) ∧ X.t = t) := hX
        refine K1.out.mono ?_
        rintro _ w3 ⟨rfl, F3, q3, s3⟩
        have H3 : Aside (Qs w3 F3 b (ins X s) (t + 1) ∧ w3.ownsMap Try.prog 3 fEl B i D ∧ B ∉ F3 ∧ Stp [] w (F3 ++ [B]) w3 ∧ Like D s ∧ Nums s i t) := ⟨q3, owns_stp H1.out.map s3 H1.out.apart, H1.out.apart' s3, H1.out.st.trans (s3.left [B]), H1.out.like, H1.out.nums⟩
        have HB3 : Aside (w3.heap[N]? = some (.cells #[.int .i64 0, .int .i64 z, .int .u64 (m.v : Int)] 32 (0, 0))) := (s3.block N (Array.getElem?_eq_some_iff.1 HNN.out).1 HNF.out.1).trans HNN.out
        have cN3 : w3.cell? ⟨N, 2, none⟩ = some (.int .u64 (m.v : Int)) := by rw [cell_of_row w3 N 2 _ _ _ HB3.out]; rfl
        clear K1 q3 s3 hX H1 HNN ca cb cc
        go_wp2_with (first
          | (at_mapUpdate
             refine wpList_mapUpdate_own _ rfl _ _ _ 57 rfl 3 33 lawI Try.underlying57 fEl B i D rfl H3.out.2.1 (by unfold maxLen; omega) _ _ (kI (i : Int)) rfl rfl (keyOf_int_mk Try.underlying3 (wfI (by omega) (by omega))) _ [] (fEl_mk m) ?_
             intro w4 hown4 hgrow4
             have H4 : Aside (Mx w w4 F3 b B (ins X s) (t + 1) (i + 1) (D.put (kI (i : Int)) (.lit (.int .u64 (m.v : Int))))) := by
               obtain ⟨q3, m3, a3, st3, l3, n3⟩ := H3.out
               refine ⟨q3.grown hgrow4 a3, hown4, a3, st3.trans (Stp.grownR hgrow4), ?_, n3.ins HX.out.2.1 HX.out.2.2⟩
               have := l3.put (m3.tidy lawI) n3 HX.out.2.1
               rw [HX.out.2.1, HX.out.1] at this
               exact this
             clear hown4 hgrow4 H3 cN3))
        go_roundg (n - (i + 1))
        case measure => omega
        case rel => exact ⟨i + 1, by go_num, by omega, by omega, F3, _, t + 1, _, H4.out, by have := HT.out; omega, by rw [ins_length]; have := HT.out; omega⟩
      · have b0 : (k == 0) = false := by simpa using k0
        cases s with
        | nil =>
          have K1 := Lib.hid (qpop_none H1.out.q)
          have HSZ : Aside (Maps.size D = 0) := H1.out.like.size
          go_wp2_with fail
          generalize wr.alloc (.cells #[.int .i64 k, .int .i64 z, .int .u64 (m.v : Int)] 32) = wA at *
          refine K1.out.mono ?_
          rintro _ wA ⟨rfl, rfl⟩
          clear K1
          go_wp2_with (first
            | (at_len
               refine wpList_len_own _ rfl _ 57 rfl 3 33 Try.underlying57 fEl B i D rfl H1.out.map ?_
               rw [HSZ.out]))
          go_roundg (n - (i + 1))
          case measure => omega
          case rel => exact ⟨i + 1, by go_num, by omega, by omega, F, [], t, D, H1.out.mono (by omega), by have := HT.out; omega, Nat.zero_le _⟩
        | cons x s =>
          have K1 := Lib.hid (qpop_run H1.out.q (by have := HT.out.2; simp at this; omega))
          have HSZ : Aside (Maps.size D = s.length + 1) := H1.out.like.size
          have fx := bits_run x.m.v
          have HXL : Aside (0 ≤ x.n ∧ x.n < (i : Int)) := H1.out.nums.low x List.mem_cons_self
          go_wp2_with fail
          generalize wr.alloc (.cells #[.int .i64 k, .int .i64 z, .int .u64 (m.v : Int)] 32) = wA at *
          refine K1.out.mono ?_
          rintro _ w3 ⟨rfl, q3, s3⟩
          have H3 : Aside (Qs w3 F b s t ∧ w3.ownsMap Try.prog 3 fEl B i D ∧ B ∉ F ∧ Stp [] w (F ++ [B]) w3 ∧ Like D (x :: s) ∧ Nums (x :: s) i t ∧ Ordd (x :: s)) := ⟨q3, owns_stp H1.out.map s3 H1.out.apart, H1.out.apart, H1.out.st.trans (s3.left [B]), H1.out.like, H1.out.nums, H1.out.q.ord⟩
          have HOK : Aside (∀ y ∈ s, cmpN x.m.v y.m.v ≤ 0 ∧ (cmpN x.m.v y.m.v = 0 → ¬ y.n < x.n)) := fun y hy => mixed_ok H1.out.q.ord H1.out.nums hy
          clear K1 q3 s3 H1 HNN ca cb cc
          have e0 : ¬ ((s.length : Int) + 1 = 0) := by omega
          go_wp2_with (first
            | (at_len
               refine wpList_len_own _ rfl _ 57 rfl 3 33 Try.underlying57 fEl B i D rfl H3.out.2.1 ?_
               rw [HSZ.out])
            | (at_lookup
               refine wpList_look_f _ rfl _ _ rfl B i D rfl H3.out.2.1 H3.out.2.2.2.2.1 x List.mem_cons_self (wfI HXL.out.1 (by have := HXL.out.2; omega)) rfl ?_)
            | (at_delete
               refine wpList_delete_own _ rfl _ _ 57 3 rfl 33 lawI Try.underlying57 fEl B i D rfl H3.out.2.1 _ (kI x.n) rfl (keyOf_int_mk Try.underlying3 (wfI HXL.out.1 (by have := HXL.out.2; omega))) ?_
               intro w4 hown4 hturn4
               have H4 : Aside (Mx w w4 F b B s t i (D.del (kI x.n))) := by
                 obtain ⟨q3, m3, a3, st3, l3, n3, o3⟩ := H3.out
                 have hg4 := hturn4.grown
                 exact ⟨q3.grown hg4 a3, hown4, a3, st3.trans (Stp.grownR hg4), l3.del (m3.tidy lawI) n3 o3, n3.sub (fun y hy => List.mem_cons_of_mem _ hy)⟩
               clear hown4 hturn4 H3)
            | (at_range
               refine wpList_range_own _ rfl _ 57 rfl 3 33 lawI Try.underlying57 fEl B i (D.del (kI x.n)) rfl H4.out.map ?_
               intro w5 hrg5 hg5 hs5
               have H5 : Aside (Rng w w5 F b B w4.heap.size s t i (D.del (kI x.n)) (Maps.has (D.del (kI x.n))) (Maps.size (D.del (kI x.n)))) := by
                 have st5 : Stp [] w4 [] w5 := Stp.grown hg5 (fun k e => by cases e) (fun _ h => by cases h)
                 refine ⟨H4.out.stays st5, hrg5, (fun _ h => h), fun e => absurd (H4.out.q.old _ e) (Nat.lt_irrefl _), H4.out.st.size, fun e => ?_⟩
                 have := H4.out.map.lt
                 omega
               clear hrg5 hg5 hs5 H4))
          go_frame
          generalize w4.heap.size = r at *
          generalize D.del (kI x.n) = D' at *
          obtain ⟨c5, hc5⟩ : ∃ c, c = Maps.size D' := ⟨_, rfl⟩
          go_loopg [12] c5 (fun gk v12 wx => ∃ left cnt, cnt ≤ gk ∧ Aside (Rng w wx F b B r s t i D' left cnt))
          case atStart => exact ⟨_, _, Nat.le_of_eq hc5.symm, H5⟩
          case round =>
            clear H5
            obtain ⟨left, cnt, hcg, HR⟩ := hrel
            go_wp2_with (first
              | (at_next
                 refine wpList_next_f _ rfl _ rfl B r i D' left cnt rfl HR.out.2.1 HR.out.1.like HR.out.2.2.1 ?_ ?_))
            · go_wp2
              go_roundg (n - (i + 1))
              case measure => omega
              case rel => exact ⟨i + 1, by go_num, by omega, by omega, F, s, t, D', HR.out.1.mono (by omega), by have := HT.out; omega, by have := HT.out.2; simp at this; omega⟩
            · intro y w6 left6 cnt6 hy hr6 hl6 hc6 hg6 hen
              have H6 : Aside (Rng w w6 F b B r s t i D' left6 cnt6) := HR.out.next hr6 hl6 hg6
              have hok := HOK.out y hy
              have KC := Lib.hid (compare_any x.m.v y.m.v x.m.lt y.m.lt)
              generalize cmpN x.m.v y.m.v = c at *
              clear hr6 hl6 hg6 HR
              have hle : ¬ 0 < c := by have := hok.1; omega
              by_cases c0 : c = 0
              · subst c0
                have h2 : ¬ y.n < x.n := by have := hok.2 rfl; omega
                clear hok
                go_wp2_with fail
                refine (KC.out _).mono ?_
                rintro _ w6 ⟨rfl, rfl⟩
                clear KC hen
                go_wp2
                go_roundg cnt6
                case measure => omega
                case rel => exact ⟨left6, cnt6, Nat.le_refl _, H6⟩
              · clear hok
                go_wp2_with fail
                refine (KC.out _).mono ?_
                rintro _ w6 ⟨rfl, rfl⟩
                clear KC hen
                go_wp2
                go_roundg cnt6
                case measure => omega
                case rel => exact ⟨left6, cnt6, Nat.le_refl _, H6⟩
    · have hltz : ¬ (i : Int) < (n : Int) := by omega
      have K1 := Lib.hid (qlen_run HS.out.1.q)
      have HSZ : Aside (Maps.size D = s.length) := HS.out.1.like.size
      go_wp2_with fail
      refine K1.out.mono ?_
      rintro _ wr ⟨rfl, rfl⟩
      clear K1
      go_wp2_with (first
        | (at_len
           refine wpList_len_own _ rfl _ 57 rfl 3 33 Try.underlying57 fEl B i D rfl HS.out.1.map ?_
           rw [HSZ.out]))
      go_ret
      exact ⟨by simp, HS.out.1.st.under⟩
theorem mixed_walk (a : Option Addr) (cap : Nat) (l : List Ac) (w : World) (hU : As w a l) (hl : l.length ≤ 9223372036854775807) : Calls Try.prog 8 #[.slice a l.length cap] w (Truth w) := by
  by_cases h : 300 < l.length
  · exact mixed_long a cap l.length w h hl
  · exact mixed_short a cap l.length l w hU rfl (by omega)
end Go.Proofs.Ytjjaaahoophgpaa
