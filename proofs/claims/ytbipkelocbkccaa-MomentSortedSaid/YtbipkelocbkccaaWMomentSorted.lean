/-
  The law MomentSorted walked: it returns true, and all that lay in memory stays.
-/
import Derived.Test.YtbipkelocbkccaaWords
namespace Go.Proofs.Ytbipkelocbkccaa
open Go.RowKit Go.Lib
set_option linter.unusedVariables false

/-! ### Rows in order that have the same keys -/
def KeyEqv (l m : List Mo) : Prop := l.length = m.length ∧ ∀ k, (l.filter (fun x => x.key == k)).length = (m.filter (fun x => x.key == k)).length
theorem Eqv.keys {l m : List Mo} (h : Eqv l m) : KeyEqv l m := ⟨h.1, fun k => by rw [h.2 k]⟩
theorem KeyEqv.symm {l m : List Mo} (h : KeyEqv l m) : KeyEqv m l := ⟨h.1.symm, fun k => (h.2 k).symm⟩
theorem KeyEqv.trans {l m n : List Mo} (h : KeyEqv l m) (g : KeyEqv m n) : KeyEqv l n := ⟨h.1.trans g.1, fun k => (h.2 k).trans (g.2 k)⟩
theorem keys_reverse (l : List Mo) : KeyEqv l l.reverse := ⟨by simp, fun k => by rw [List.filter_reverse, List.length_reverse]⟩
theorem KeyEqv.has {l m : List Mo} (h : KeyEqv l m) {x : Mo} (hx : x ∈ l) : ∃ y ∈ m, y.key = x.key := by
  have h1 : x ∈ l.filter (fun y => y.key == x.key) := List.mem_filter.2 ⟨hx, by simp⟩
  have h2 : 0 < (m.filter (fun y => y.key == x.key)).length := by
    rw [← h.2]
    exact List.length_pos_of_mem h1
  obtain ⟨y, hy⟩ := List.exists_mem_of_length_pos h2
  have h3 := List.mem_filter.1 hy
  exact ⟨y, h3.1, by simpa using h3.2⟩
theorem keys_uniq : ∀ (l m : List Mo), Sortd l → Sortd m → KeyEqv l m → l.map Mo.key = m.map Mo.key
  | [], m, _, _, h => by
    have := h.1
    rw [List.eq_nil_of_length_eq_zero this.symm]
  | x :: t, [], _, _, h => by
    have := h.1
    simp at this
  | x :: t, y :: u, hl, hm, h => by
    have hl' := List.pairwise_cons.1 hl
    have hm' := List.pairwise_cons.1 hm
    obtain ⟨p, hp, ep⟩ := h.has (x := x) List.mem_cons_self
    obtain ⟨q, hq, eq⟩ := h.symm.has (x := y) List.mem_cons_self
    have hk : x.key = y.key := by
      have h1 : y.key ≤ p.key := by
        rcases List.mem_cons.1 hp with e | e
        · rw [e]; exact Nat.le_refl _
        · exact hm'.1 p e
      have h2 : x.key ≤ q.key := by
        rcases List.mem_cons.1 hq with e | e
        · rw [e]; exact Nat.le_refl _
        · exact hl'.1 q e
      omega
    have ht : KeyEqv t u := by
      refine ⟨by have := h.1; simp at this; exact this, fun k => ?_⟩
      have hf := h.2 k
      by_cases e : x.key = k
      · rw [List.filter_cons_of_pos (by simp [e]), List.filter_cons_of_pos (by simp [← hk, e])] at hf
        simpa using hf
      · rw [List.filter_cons_of_neg (by simp [e]), List.filter_cons_of_neg (by simp [← hk, e])] at hf
        exact hf
    rw [List.map_cons, List.map_cons, hk, keys_uniq t u hl'.2 hm'.2 ht]

theorem keys_at {l m : List Mo} (h : l.map Mo.key = m.map Mo.key) (i : Nat) (hi : i < l.length) (hj : i < m.length) : (l[i]!).key = (m[i]!).key := by
  have := congrArg (·[i]?) h
  simp only [List.getElem?_map, List.getElem?_eq_getElem hi, List.getElem?_eq_getElem hj, Option.map_some, Option.some.injEq] at this
  rw [getElem!_pos l i hi, getElem!_pos m i hj]
  exact this
theorem sorted_at {l : List Mo} (h : Sortd l) (i : Nat) (hi : i + 1 < l.length) : (l[i]!).key ≤ (l[i + 1]!).key := by
  rw [getElem!_pos l i (by omega), getElem!_pos l (i + 1) hi]
  exact List.pairwise_iff_getElem.1 h i (i + 1) (by omega) hi (by omega)

/-- Two rows of the call's own, apart from each other. -/
def Two (w : World) (base : Nat) (v u : Value) (l m : List Mo) : Prop := Own w base v l ∧ Own w base u m ∧ ∀ k, v.ownBlock = some k → u.ownBlock ≠ some k

theorem Two.alloc {w : World} {base : Nat} {v u : Value} {l m : List Mo} (h : Two w base v u l m) (o : Obj) : Two (w.alloc o) base v u l m := ⟨World.ownsRow.alloc h.1 o, World.ownsRow.alloc h.2.1 o, h.2.2⟩
theorem Two.first {w w' : World} {base : Nat} {v u v' : Value} {l m l' : List Mo} (h : Two w base v u l m) (ho : Own w' base v' l') (hg : w.grownBy w' v.ownBlock) (hat : v'.ownBlock = v.ownBlock ∨ v'.ownBlock = some w.heap.size) : Two w' base v' u l' m := by
  refine ⟨ho, World.ownsRow.kept h.2.1 hg ?_, fun k hk hu => ?_⟩
  · cases e : u.ownBlock with
    | none => exact .inl rfl
    | some k => exact .inr fun e2 => h.2.2 k e2.symm e
  · rcases hat with e | e
    · exact h.2.2 k (by rw [← e]; exact hk) hu
    · rw [e] at hk
      have := (World.ownsRow.lt h.2.1 k hu).2
      cases hk
      omega
theorem Two.swap {w : World} {base : Nat} {v u : Value} {l m : List Mo} (h : Two w base v u l m) : Two w base u v m l := ⟨h.2.1, h.1, fun k hk hv => h.2.2 k hv hk⟩

theorem key_quiet (x : Mo) (k : Nat) (hk : x.key = k) (w : World) (q : Nat) : Calls Try.prog 17 #[.float .f64 x.v] (w.drewN q) fun e w' => e = .returned (.int .u64 (k : Int)) ∧ ∃ n, w' = w.drewN n := by
  rw [← hk]
  exact (key_any x.v x.lt (w.drewN q)).mono fun e w' ⟨he, hw⟩ => ⟨he, q, hw⟩

set_option maxHeartbeats 1600000 in
set_option maxRecDepth 100000 in
theorem sorted_long (a : Option Addr) (cap : Nat) (l : List Mo) (w : World) (hl : 300 < l.length) (hm : l.length ≤ 9223372036854775807) : Calls Try.prog 8 #[.slice a l.length cap] w (Truth w) := by
  have K := Lib.hid alive_run
  have hlz : (300 : Int) < (l.length : Int) := by omega
  go_enter Try.func8, Try.ntmps8
  go_wp2_with fail
  refine (K.out _).mono ?_
  rintro _ _ ⟨rfl, rfl⟩
  go_wp2
  go_ret
  exact ⟨rfl, Below.refl _ _⟩

set_option maxHeartbeats 1600000 in
set_option maxRecDepth 100000 in
theorem sorted_short (a : Option Addr) (cap : Nat) (l : List Mo) (w : World) (hU : Us w a l) (hl : l.length ≤ 300) : Calls Try.prog 8 #[.slice a l.length cap] w (Truth w) := by
  obtain ⟨n, hn⟩ : ∃ n, n = l.length := ⟨_, rfl⟩
  rw [← hn] at hl ⊢
  have HN : Aside (n = l.length) := hn
  have HU := Lib.hid hU
  clear hU hn
  have hlz : ¬ (300 : Int) < (n : Int) := by omega
  go_enter Try.func8, Try.ntmps8
  go_wp2
  go_loopg [3, 4, 5, 15] n (fun gk vo vt vj vi wr => ∃ (i co ct : Nat) (ao at' : Option Addr), vi = .int .i64 (i : Int) ∧ vo = .slice ao i co ∧ vt = .slice at' i ct ∧ i ≤ n ∧ n - i ≤ gk ∧ Aside (Two wr w.heap.size (.slice ao i co) (.slice at' i ct) (l.take i) (l.reverse.take i) ∧ Below w.heap.size w wr))
  case atStart => exact ⟨0, 0, 0, none, none, rfl, rfl, rfl, Nat.zero_le _, by omega, ⟨by rw [List.take_zero]; exact World.ownsRow_nil _ _ _ _, by rw [List.take_zero]; exact World.ownsRow_nil _ _ _ _, fun k hk => by cases hk⟩, Below.refl _ _⟩
  case round =>
    obtain ⟨i, co, ct, ao, at', rfl, rfl, rfl, hin, hg, HS⟩ := hrel
    by_cases hlt : i < n
    · have hltz : (i : Int) < (n : Int) := by omega
      obtain ⟨u, hu⟩ : ∃ u, u = n - 1 - i := ⟨_, rfl⟩
      have eu : (n : Int) - 1 - (i : Int) = (u : Int) := by omega
      have un : (u : Int) < (n : Int) := by omega
      obtain ⟨b, off, rfl, hb, hcs⟩ : ∃ b off, a = some ⟨b, off, none⟩ ∧ b < w.heap.size ∧ ∀ j, j < l.length → w.cell? ⟨b, off + j, none⟩ = some (.int .u64 ((l[j]!).v : Int)) := HU.out (by intro e; have := HN.out; rw [e] at this; simp at this; omega)
      obtain ⟨x, hx⟩ : ∃ x, x = l[i]! := ⟨_, rfl⟩
      obtain ⟨y, hy⟩ : ∃ y, y = l[u]! := ⟨_, rfl⟩
      have hc : wr.cell? ⟨b, off + i, none⟩ = some (.int .u64 (x.v : Int)) := by
        rw [HS.out.2.cell (p := ⟨b, off + i, none⟩) hb, hx]
        exact hcs i (by have := HN.out; omega)
      have HC : Aside (∀ W, Below w.heap.size w W → W.cell? ⟨b, off + u, none⟩ = some (.int .u64 (y.v : Int))) := by
        intro W hW
        rw [hW.cell (p := ⟨b, off + u, none⟩) hb, hy]
        exact hcs u (by have := HN.out; omega)
      have HX : Aside (x = l[i]! ∧ y = l.reverse[i]!) := by
        refine ⟨hx, ?_⟩
        have := HN.out
        rw [hy, getElem!_pos l u (by omega), getElem!_pos l.reverse i (by simp; omega), List.getElem_reverse]
        congr 1
        omega
      have fx := from_run x.v
      have fy := from_run y.v
      have hsz := HS.out.2.size
      clear hx hy hcs hu
      go_wp2_with (first
        | (at_builtin
           refine wpList_app rfl (.tmp 18) (.tmp 24) rfl w.heap.size _ (l.take i) rfl (HS.out.1.alloc _).1 (some ⟨wr.heap.size, 0, none⟩) 1 [x] rfl (one_ms wr x) (fun h => by cases h) (by have := HN.out; simp; omega) (by rw [World.size_alloc]; omega) ?_
           intro y1 w1 hown1 hg1 hat1
           have HS1 : Aside (Two w1 w.heap.size y1 (.slice at' i ct) (l.take i ++ [x]) (l.reverse.take i) ∧ Below w.heap.size w w1) := ⟨(HS.out.1.alloc _).first hown1 hg1 hat1, (HS.out.2.alloc hsz _).grown hg1 (by rw [World.size_alloc]; omega) (own_base HS.out.1.1)⟩
           have hc2 := HC.out w1 HS1.out.2
           have hs1 := HS1.out.2.size
           clear hown1 hg1 hat1 HS hc)
        | (at_builtin
           refine wpList_app rfl (.tmp 26) (.tmp 36) rfl w.heap.size _ (l.reverse.take i) rfl (HS1.out.1.alloc _).2.1 (some ⟨w1.heap.size, 0, none⟩) 1 [y] rfl (one_ms w1 y) (fun h => by cases h) (by have := HN.out; simp; omega) (by rw [World.size_alloc]; omega) ?_
           intro y2 w2 hown2 hg2 hat2
           have HS2 : Aside (Two w2 w.heap.size y1 y2 (l.take i ++ [x]) (l.reverse.take i ++ [y]) ∧ Below w.heap.size w w2) := ⟨((HS1.out.1.alloc _).swap.first hown2 hg2 hat2).swap, (HS1.out.2.alloc hs1 _).grown hg2 (by rw [World.size_alloc]; omega) (own_base HS1.out.1.2.1)⟩
           clear hown2 hg2 hat2 HS1 hc2))
      go_roundg (n - (i + 1))
      case measure => omega
      case rel =>
        have h1 := HS2.out.1
        have hl1 := HN.out
        rw [HX.out.1, HX.out.2, snoc_take l i (by omega), snoc_take l.reverse i (by simp; omega)] at h1
        obtain ⟨a1, c1, e1, _, _⟩ := h1.1.ms
        obtain ⟨a2, c2, e2, _, _⟩ := h1.2.1.ms
        have e3 : (l.take (i + 1)).length = i + 1 := by rw [List.length_take]; omega
        have e4 : (l.reverse.take (i + 1)).length = i + 1 := by rw [List.length_take, List.length_reverse]; omega
        rw [e3] at e1
        rw [e4] at e2
        exact ⟨i + 1, c1, c2, a1, a2, by go_num, e1, e2, by omega, by omega, by rw [← e1, ← e2]; exact h1, HS2.out.2⟩
    · have hltz : ¬ (i : Int) < (n : Int) := by omega
      obtain rfl : i = n := by omega
      have hM : MsIn wr w.heap.size ao l ∧ (ao = none → co = 0) ∧ MsIn wr w.heap.size at' l.reverse ∧ (at' = none → ct = 0) ∧ Below w.heap.size w wr := by
        obtain ⟨⟨h1, h3, _⟩, h2⟩ := HS.out
        have hl1 := HN.out
        rw [List.take_of_length_le (by omega)] at h1
        rw [List.take_of_length_le (by simp; omega)] at h3
        obtain ⟨a', cap', e1, e2, e3⟩ := h1.ms
        obtain ⟨a2, cap2, f1, f2, f3⟩ := h3.ms
        simp only [Value.slice.injEq] at e1 f1
        obtain ⟨rfl, _, rfl⟩ := e1
        obtain ⟨rfl, _, rfl⟩ := f1
        exact ⟨e2, e3, f2, f3, h2⟩
      clear HS HU
      have K1 := Lib.hid (sort_any ao co l wr hM.1.ms hM.2.1 (by have := HN.out; omega))
      rw [← HN.out] at K1
      have HM := Lib.hid hM
      clear hM
      go_wp2_with fail
      refine K1.out.mono ?_
      rintro _ w1 ⟨ga, gc, z, rfl, hz, hgm, hgz, hb1⟩
      have K2 := Lib.hid (sort_any at' ct l.reverse w1 (HM.out.2.2.1.below hb1).ms HM.out.2.2.2.1 (by have := HN.out; simp; omega))
      rw [List.length_reverse, ← HN.out] at K2
      have H1 := Lib.hid (And.intro hz (And.intro hgm (And.intro hb1 (HM.out.2.2.2.2.trans (hb1.mono HM.out.2.2.2.2.size)))))
      clear K1 hz hgm hb1 HM
      go_wp2_with fail
      refine K2.out.mono ?_
      rintro _ w2 ⟨ra, rc, z', rfl, hz', hrm, hrz, hb2⟩
      have HK : Aside (z.length = i ∧ z'.length = i ∧ (∀ j, j + 1 < i → (z[j]!).key ≤ (z[j + 1]!).key) ∧ ∀ j, j < i → (z[j]!).key = (z'[j]!).key) := by
        have h1 := H1.out.1
        have l1 := h1.2.1
        have l2 := hz'.2.1
        rw [List.length_reverse] at l2
        have hl1 := HN.out
        have hk := keys_uniq z z' h1.1 hz'.1 (h1.2.keys.symm.trans ((keys_reverse l).trans hz'.2.keys))
        exact ⟨by omega, by omega, fun j hj => sorted_at h1.1 j (by omega), fun j hj => keys_at hk j (by omega) (by omega)⟩
      have H2 := Lib.hid (And.intro (H1.out.2.1.below hb2) (And.intro hrm (H1.out.2.2.2.trans (hb2.mono H1.out.2.2.2.size))))
      clear K2 hz' hrm hb2 H1
      have K3 := Lib.hid alive_run
      rw [HK.out.1, HK.out.2.1]
      go_wp2_with fail
      refine (K3.out _).mono ?_
      rintro _ w3 ⟨rfl, hw3⟩
      subst hw3
      clear K3
      go_wp2
      go_loopg [8, 61] i (fun gk vj vi wr => ∃ (j : Nat), vi = .int .i64 (j : Int) ∧ j ≤ i ∧ i - j ≤ gk ∧ Aside (Ms wr ga z ∧ Ms wr ra z' ∧ Below w.heap.size w wr))
      case atStart => exact ⟨0, rfl, Nat.zero_le _, by omega, H2.out.1.ms, H2.out.2.1.ms, H2.out.2.2⟩
      case round =>
        clear H2
        obtain ⟨j, rfl, hjk, hgj, H2⟩ := hrel
        by_cases hlt : j < i
        · have hltz : (j : Int) < (i : Int) := by omega
          obtain ⟨k1, k2, k3, k4⟩ := HK.out
          have hne : z ≠ [] := by intro e; rw [e] at k1; simp at k1; omega
          have hne' : z' ≠ [] := by intro e; rw [e] at k2; simp at k2; omega
          obtain ⟨gb, goff, rfl, hgc⟩ := H2.out.1 hne
          obtain ⟨rb, roff, rfl, hrc⟩ := H2.out.2.1 hne'
          have c2 := hrc j (by omega)
          have kk := k4 j hlt
          obtain ⟨y, hy⟩ : ∃ y, y = z'[j]! := ⟨_, rfl⟩
          rw [← hy] at c2 kk
          by_cases j0 : 0 < j
          · obtain ⟨jp, rfl⟩ : ∃ p, j = p + 1 := ⟨j - 1, by omega⟩
            have zj : ((jp + 1 : Nat) : Int) = (jp : Int) + 1 := by omega
            have g1 : decide ((jp : Int) + 1 > 0) = true := decide_eq_true (by omega)
            have g2 : (0 : Int) < (jp : Int) + 1 := by omega
            have c1 := hgc (jp + 1) (by omega)
            have c0 := hgc jp (by omega)
            have so := k3 jp (by omega)
            obtain ⟨x, hx⟩ : ∃ x, x = z[jp + 1]! := ⟨_, rfl⟩
            obtain ⟨x0, hx0⟩ : ∃ x, x = z[jp]! := ⟨_, rfl⟩
            rw [← hx] at c1 so kk
            rw [← hx0] at c0 so
            obtain ⟨qq, hq⟩ : ∃ p, p = jp + 1 := ⟨_, rfl⟩
            rw [← hq] at c1 c2
            have ea : ((jp : Int)).toNat = jp := by omega
            have pa : (0 : Int) ≤ (jp : Int) := by omega
            have ba : (jp : Int) < (i : Int) := by omega
            have eb : ((jp : Int) + 1).toNat = qq := by omega
            have pb : (0 : Int) ≤ (jp : Int) + 1 := by omega
            have bb : (jp : Int) + 1 < (i : Int) := by omega
            have rb' : IntKind.i64.wrap ((jp : Int) + 1) = (jp : Int) + 1 := by rw [IntKind.wrap_i64]; omega
            have ra' : IntKind.i64.wrap (jp : Int) = (jp : Int) := by rw [IntKind.wrap_i64]; omega
            have CQ := compare_quiet x0 x wr
            have v1 : ¬ 0 < cmpN x0.v x.v := by
              have : cmpN x0.v x.v ≤ 0 := by
                unfold cmpN cmpK
                unfold Mo.key at so
                (repeat' split) <;> omega
              omega
            have v2 : decide (cmpN x0.v x.v > 0) = false := decide_eq_false v1
            have KX := key_quiet x y.key kk wr
            have KY := key_quiet y y.key rfl wr
            generalize y.key = kn at KX KY
            clear hgc hrc hx hx0 hy hne hne' so kk k1 k2 k3 k4 hq
            go_wp2_with fail
            go_quiet (first | (go_at_call 12; exact CQ _) | (go_at_call_of 17 (x.v); exact KX _) | (go_at_call_of 17 (y.v); exact KY _))
            have H3 : Aside (Ms (wr.drewN nq) (some ⟨gb, goff, none⟩) z ∧ Ms (wr.drewN nq) (some ⟨rb, roff, none⟩) z' ∧ Below w.heap.size w (wr.drewN nq)) := ⟨H2.out.1.below (below_drewN' _ nq _), H2.out.2.1.below (below_drewN' _ nq _), H2.out.2.2.trans (below_drewN' _ nq _)⟩
            clear H2 c0 c1 c2 CQ KX KY
            generalize wr.drewN nq = w4 at H3 ⊢
            go_wp2
            go_roundg (i - (jp + 1 + 1))
            case measure => omega
            case rel => exact ⟨jp + 1 + 1, by go_num, by omega, by omega, H3⟩
          · have g1 : decide ((j : Int) > 0) = false := decide_eq_false (by omega)
            have g2 : ¬ (0 : Int) < (j : Int) := by omega
            have c1 := hgc j (by omega)
            obtain ⟨x, hx⟩ : ∃ x, x = z[j]! := ⟨_, rfl⟩
            rw [← hx] at c1 kk
            have KX := key_quiet x y.key kk wr
            have KY := key_quiet y y.key rfl wr
            generalize y.key = kn at KX KY
            clear hgc hrc hx hy hne hne' kk k1 k2 k3 k4
            go_wp2_with fail
            go_quiet (first | (go_at_call_of 17 (x.v); exact KX _) | (go_at_call_of 17 (y.v); exact KY _))
            have H3 : Aside (Ms (wr.drewN nq) (some ⟨gb, goff, none⟩) z ∧ Ms (wr.drewN nq) (some ⟨rb, roff, none⟩) z' ∧ Below w.heap.size w (wr.drewN nq)) := ⟨H2.out.1.below (below_drewN' _ nq _), H2.out.2.1.below (below_drewN' _ nq _), H2.out.2.2.trans (below_drewN' _ nq _)⟩
            clear H2 c1 c2 KX KY
            generalize wr.drewN nq = w4 at H3 ⊢
            go_wp2
            go_roundg (i - (j + 1))
            case measure => omega
            case rel => exact ⟨j + 1, by go_num, by omega, by omega, H3⟩
        · have hltz : ¬ (j : Int) < (i : Int) := by omega
          go_wp2
          go_ret
          exact ⟨rfl, H2.out.2.2⟩
end Go.Proofs.Ytbipkelocbkccaa
