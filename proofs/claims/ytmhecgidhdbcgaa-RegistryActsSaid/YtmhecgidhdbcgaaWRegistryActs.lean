/-
  RegistryActs, walked.
-/
import Derived.Test.YtmhecgidhdbcgaaRefM
namespace Go.Proofs.Ytmhecgidhdbcgaa
open Go.RowKit Go.Lib Go.Maps
set_option linter.unusedVariables false

/-- The registry, and the document's list beside it. -/
structure Ax (w wr : World) (r : Nat) (vm : Value) (L : List Ent) : Prop where
  ex : ∃ F m v D, Rx wr F r m v D L ∧ Stp [] w F wr
  row : MOwn wr 0 vm L
theorem Ax.stays {w wr wr' : World} {r : Nat} {vm : Value} {L : List Ent} (h : Ax w wr r vm L) (hs : Stp [] wr [] wr') : Ax w wr' r vm L := by
  obtain ⟨F, m, v, D, X, st⟩ := h.ex
  exact ⟨⟨F, m, v, D, X.stays hs, st.trans (hs.widen (fun k h => .inl h))⟩, h.row.other hs (fun _ _ h => by cases h)⟩
theorem As.at {w wr : World} {a : Option Addr} {l : List Ac} (h : As w a l) {F : List Nat} (hs : Stp [] w F wr) {i : Nat} (hi : i < l.length) : ∃ b off, a = some ⟨b, off, none⟩ ∧
    wr.cell? ⟨b, off + i * 3, none⟩ = some (.int .i64 (l[i]!).k) ∧ wr.cell? ⟨b, off + i * 3 + 1, none⟩ = some (.int .i64 (l[i]!).n) ∧ wr.cell? ⟨b, off + i * 3 + 2, none⟩ = some (.string (l[i]!).s) ∧ (l[i]!).s.size ≤ maxLen := by
  obtain ⟨b, off, h1, hb, h2⟩ := h (by intro e; rw [e] at hi; simp at hi)
  obtain ⟨c0, c1, c2, c3⟩ := h2 i hi
  have hn : b ∉ ([] : List Nat) := fun h => by cases h
  exact ⟨b, off, h1, (hs.cell (a := ⟨b, _, none⟩) hb hn).trans c0, (hs.cell (a := ⟨b, _, none⟩) hb hn).trans c1, (hs.cell (a := ⟨b, _, none⟩) hb hn).trans c2, c3⟩
/-- Make of no more, by the document's code. -/
theorem make_err {W : World} {F : List Nat} {r m : Nat} {v : Value} {D : DataW Unit} {L : List Ent} (h : Rx W F r m v D L) (s : ByteArray) (hs : s.size ≤ maxLen) (z c : Int) (hc : rcode L s z = c) (hn : c ≠ 0) :
    Calls Try.prog 10 #[.pointer (some ⟨r, 0, none⟩), .string s, .int .i64 z] W (Gives (.tuple #[.pointer none, .int .i64 c]) W) := by
  subst hc
  by_cases h1 : refuse L s = 0
  · have h2 : z < 1 ∨ 4096 < z := by
      rcases Classical.em (z < 1 ∨ 4096 < z) with e | e
      · exact e
      · simp [rcode, h1, e] at hn
    have e : rcode L s z = 3 := by simp only [rcode, h1]; simp [h2]
    rw [e]
    exact make_out h s hs z h1 h2
  · have e : rcode L s z = refuse L s := by simp [rcode, h1]
    rw [e]
    exact make_no h s hs z _ rfl h1
theorem rcode_zero {L : List Ent} {s : ByteArray} {z : Int} (h : rcode L s z = 0) : refuse L s = 0 ∧ 1 ≤ z ∧ z ≤ 4096 := by
  unfold rcode at h
  split at h
  · rename_i h1
    exact absurd h h1
  · rename_i h1
    split at h
    · cases h
    · rename_i h2
      exact ⟨Classical.not_not.1 h1, by omega, by omega⟩
theorem rmake_err {W : World} {base : Nat} {v : Value} {L : List Ent} (h : MOwn W base v L) (hl : L.length ≤ 16) (s : ByteArray) (z c : Int) (hc : rcode L s z = c) (hn : c ≠ 0) :
    Calls Try.prog 11 #[v, .string s, .int .i64 z] W (Gives (.tuple #[v, .int .i64 c]) W) := (rmake_run h hl s z).mono (by
  rintro e w' (⟨_, hg⟩ | ⟨h0, _⟩)
  · rw [hc] at hg
    exact hg
  · rw [hc] at h0
    exact absurd h0 hn)
theorem rmake_yes {W : World} {base : Nat} {v : Value} {L : List Ent} (h : MOwn W base v L) (hl : L.length ≤ 16) (s : ByteArray) (n : Nat) (hc : rcode L s (n : Int) = 0) :
    Calls Try.prog 11 #[v, .string s, .int .i64 (n : Int)] W (RMade W L s n) := (rmake_run h hl s n).mono (by
  rintro e w' (⟨h0, _⟩ | ⟨_, hg⟩)
  · exact absurd hc h0
  · simpa using hg)
theorem has_some {L : List Ent} {s : ByteArray} {y : Ent} (h : has L s = some y) : y ∈ L ∧ y.name = s := ⟨List.mem_of_find?_eq_some h, by simpa using List.find?_some h⟩
theorem has_none {L : List Ent} {s : ByteArray} (h : has L s = none) : ∀ x ∈ L, x.name ≠ s := fun x hx => by simpa using List.find?_eq_none.1 h x hx

set_option maxHeartbeats 16000000 in
set_option maxRecDepth 100000 in
theorem acts_at (a : Option Addr) (cap n : Nat) (l : List Ac) (w : World) (hU : As w a l) (hn : l.length = n) (h200 : n ≤ 200) :
    Calls Try.prog 3 #[.slice a n cap] w (Truth w) := by
  have HU := Lib.hid (And.intro hU hn)
  have h200z : ¬ (200 : Int) < (n : Int) := by omega
  clear hU hn
  go_enter Try.func3, Try.ntmps3
  go_wp2_with fail
  refine (newr_run _).mono ?_
  rintro _ w1 ⟨r, F1, rfl, hR1, st1⟩
  have H1 := Lib.hid (And.intro hR1 st1)
  clear hR1 st1
  go_wp2_with fail
  refine (aliver_run _).mono ?_
  rintro _ w2 ⟨rfl, st2⟩
  have H2 : Aside (Ax w w2 r (.slice none 0 0) []) := by
    obtain ⟨⟨m, v, D, X⟩, st⟩ := H1.out
    exact ⟨⟨F1, m, v, D, X.stays st2, st.trans (st2.widen (fun k h => .inl h))⟩, MOwn.nil _ _⟩
  clear H1 st2
  go_wp2
  go_loopg [4, 32] n (fun gk vm vi wr => ∃ (k : Nat) (L : List Ent), vi = .int .i64 (k : Int) ∧ k ≤ n ∧ n - k ≤ gk ∧ Aside (Ax w wr r vm L))
  case atStart => exact ⟨0, [], rfl, by omega, by omega, H2⟩
  case round =>
    clear H2
    obtain ⟨k, L, rfl, hk, hg, HS⟩ := hrel
    by_cases hlt : k < n
    · have hltz : (k : Int) < (n : Int) := by omega
      have hil : k < l.length := by have := HU.out.2; omega
      obtain ⟨F, m, v, D, X, st⟩ := HS.out.ex
      obtain ⟨ab, off, rfl, c0, c1, c2, hsz⟩ := HU.out.1.at st (i := k) hil
      generalize l[k]! = ac at *
      obtain ⟨kd, z, s⟩ := ac
      dsimp only at c0 c1 c2 hsz
      obtain ⟨am, cm, hvm, _⟩ := HS.out.row.form
      have hl16 := X.top
      have HA0 : Aside (Ax w (wr.alloc (.cells #[.int .i64 kd, .int .i64 z, .string s] 28)) r u4 L) := HS.out.stays (Stp.alloc [] wr _)
      have HNN : Aside ((wr.alloc (.cells #[.int .i64 kd, .int .i64 z, .string s] 28)).heap[wr.heap.size]? = some (.cells #[.int .i64 kd, .int .i64 z, .string s] 28 (0, 0))) := heap_alloc_new _ _
      clear X st HS hil
      subst hvm
      by_cases k0 : kd = 0
      · subst k0
        go_wp2_with fail
        generalize wr.alloc (.cells #[.int .i64 0, .int .i64 z, .string s] 28) = wA at *
        generalize wr.heap.size = NB at *
        have d1 : wA.cell? ⟨NB, 1, none⟩ = some (.int .i64 z) := by rw [cell_of_row wA NB 1 _ _ _ HNN.out]; rfl
        have d2 : wA.cell? ⟨NB, 2, none⟩ = some (.string s) := by rw [cell_of_row wA NB 2 _ _ _ HNN.out]; rfl
        obtain ⟨⟨F, m, v, D, X, st⟩, row⟩ := HA0.out
        obtain ⟨c, hc⟩ : ∃ c, rcode L s z = c := ⟨_, rfl⟩
        by_cases hcn : c = 0
        · subst hcn
          obtain ⟨hr, hz1, hz2⟩ := rcode_zero hc
          obtain ⟨nz, rfl⟩ : ∃ nz : Nat, z = (nz : Int) := ⟨z.toNat, by omega⟩
          have K1 := Lib.hid (make_at X.exact s hsz (nz : Int) nz rfl hr (by omega) (by omega))
          have HX := Lib.hid (And.intro X (And.intro st (And.intro row hc)))
          clear X st row hr hc
          refine K1.out.mono ?_
          rintro _ wB ⟨b, g, F2, rfl, ⟨m2, v2, D2, X2⟩, st2, hb, hg2⟩
          have HY : Aside (MOwn wB 0 (.slice am L.length cm) L ∧ Stp [] w F2 wB ∧ wB.heap[NB]? = some (.cells #[.int .i64 0, .int .i64 (nz : Int), .string s] 28 (0, 0))) := by
            obtain ⟨X, st, row, hc⟩ := HX.out
            refine ⟨row.other st2 (fun q hq => ?_), (X.exact_stp st).trans st2, ?_⟩
            · obtain ⟨cur, hcu⟩ := own_obj row hq
              exact X.foot_ne hcu (by decide) (by decide) (by decide) (by decide)
            · exact (st2.block NB (Array.getElem?_eq_some_iff.1 HNN.out).1 (X.foot_ne HNN.out (by decide) (by decide) (by decide) (by decide))).trans HNN.out
          have e1 : wB.cell? ⟨NB, 1, none⟩ = some (.int .i64 (nz : Int)) := by rw [cell_of_row wB NB 1 _ _ _ HY.out.2.2]; rfl
          have e2 : wB.cell? ⟨NB, 2, none⟩ = some (.string s) := by rw [cell_of_row wB NB 2 _ _ _ HY.out.2.2]; rfl
          have K2 := Lib.hid (rmake_yes HY.out.1 hl16 s nz HX.out.2.2.2)
          have HX2 := Lib.hid X2
          clear X2 st2 hb hg2 K1 HX d1 d2
          go_wp2_with fail
          refine K2.out.mono ?_
          rintro _ wC ⟨vC, rfl, hoC, stC⟩
          obtain ⟨aC, cC, hvC, _⟩ := (hoC b g).form
          rw [List.length_append, List.length_cons, List.length_nil] at hvC
          have HC : Aside (Ax w wC r vC (L ++ [⟨s, b, g, nz, []⟩])) := ⟨⟨F2, m2, v2, D2, HX2.out.stays stC, HY.out.2.1.trans (stC.widen (fun q h => .inl h))⟩, (hoC b g).mono (Nat.zero_le _)⟩
          have HB : Aside (wC.heap[NB]? = some (.cells #[.int .i64 0, .int .i64 (nz : Int), .string s] 28 (0, 0))) := (stC.block NB (Array.getElem?_eq_some_iff.1 HY.out.2.2).1 (fun h => by cases h)).trans HY.out.2.2
          have f1 : ∀ q, (wC.drewN q).cell? ⟨NB, 1, none⟩ = some (.int .i64 (nz : Int)) := fun q => by
            have : wC.cell? ⟨NB, 1, none⟩ = some (.int .i64 (nz : Int)) := by rw [cell_of_row wC NB 1 _ _ _ HB.out]; rfl
            exact this
          have hAr : ∀ q, Calls Try.prog 12 #[.pointer (some ⟨b, 0, none⟩)] (wC.drewN q) fun e w' => e = .returned (.int .i64 (nz : Int)) ∧ ∃ q2, w' = wC.drewN q2 := fun q => (cap_cl ((HX2.out.ars ⟨s, b, g, nz, []⟩ (by simp)).stays (stC.trans (Stp.drewN [] wC q)))).mono (by
            rintro e w' ⟨rfl, rfl⟩
            exact ⟨rfl, q, rfl⟩)
          have HK := Lib.hid hAr
          clear hoC stC K2 HX2 e1 e2 HY hAr HB
          subst hvC
          go_wp2_with fail
          go_quiet ((go_at_call 12; exact HK.out _))
          have HA : Aside (Ax w (wC.drewN nq) r (.slice aC (L.length + 1) cC) (L ++ [⟨s, b, g, nz, []⟩])) := HC.out.stays (Stp.drewN [] wC nq)
          obtain ⟨L', hL'⟩ : ∃ L', L' = L ++ [(⟨s, b, g, nz, []⟩ : Ent)] := ⟨_, rfl⟩
          have hlen : L.length + 1 = L'.length := by rw [hL']; simp
          rw [← hL', hlen] at HA
          rw [hlen]
          clear HA0 HNN f1 HK HC hL' hlen hl16
          generalize wC.drewN nq = wT at *
          obtain ⟨⟨F5, m5, v5, D5, X5, st5⟩, row5⟩ := HA.out
          have K5 := Lib.hid (names_run X5)
          have hN5 : ∀ x ∈ L', x.N ≤ 4096 := fun x hx => (X5.ars x hx).top
          have h16 : L'.length ≤ 16 := X5.top
          obtain ⟨T, hT⟩ : ∃ T, T = (L'.map Ent.N).sum := ⟨_, rfl⟩
          have H5 := Lib.hid (And.intro X5 (And.intro row5 (And.intro hN5 hT)))
          clear X5 st5 row5 hN5 hT
          go_wp2_with fail
          refine K5.out.mono ?_
          rintro _ w6 ⟨v6, rfl, ho6, st6⟩
          obtain ⟨a6, c6, hv6, hnil6, _, _, hcs6⟩ := ho6.form
          rw [List.length_map] at hv6
          have H6 := Lib.hid (And.intro st6 (And.intro hnil6 hcs6))
          have K6 := Lib.hid (cells_at (H5.out.1.stays st6) (T : Int) (by rw [H5.out.2.2.2]))
          clear K5 ho6 st6 hnil6 hcs6
          subst hv6
          go_wp2_with fail
          refine K6.out.mono ?_
          rintro _ w7 ⟨rfl, st7⟩
          have K7 := Lib.hid (rcells_run (H5.out.2.1.other (H6.out.1.trans st7) (fun _ _ h => by cases h)) h16 H5.out.2.2.1)
          rw [← H5.out.2.2.2] at K7
          have HA7 : Aside (Ax w w7 r (.slice aC L'.length cC) L') := HA.out.stays (H6.out.1.trans st7)
          have H7 : Aside ((a6 = none → c6 = 0 ∧ L'.map Ent.name = []) ∧ ∀ ad, a6 = some ad → ∃ g, ad = ⟨g, 0, none⟩ ∧ ∀ i (hi : i < L'.length), w7.cell? ⟨g, i, none⟩ = some (.string (L'[i]).name)) := by
            refine ⟨H6.out.2.1, fun ad e => ?_⟩
            obtain ⟨g6, e6, _, hg6, _, hc6⟩ := H6.out.2.2 ad e
            refine ⟨g6, e6, fun i hi => ?_⟩
            have := hc6 i (by simpa using hi)
            rw [getElem!_pos _ i (by simpa using hi), List.getElem_map] at this
            exact (st7.cell (a := ⟨g6, i, none⟩) hg6 (fun h => by cases h)).trans this
          clear K6 st7 H5 H6 HA
          go_wp2_with fail
          refine K7.out.mono ?_
          rintro _ w7 ⟨rfl, rfl⟩
          clear K7
          go_wp2
          go_loopg [132] L'.length (fun gk vi wr => ∃ j : Nat, vi = .int .i64 (j : Int) ∧ j ≤ L'.length ∧ L'.length - j ≤ gk ∧ Aside (Stp [] w7 [] wr))
          case atStart => exact ⟨0, rfl, by omega, by omega, Stp.refl _ _⟩
          case round =>
            obtain ⟨j, rfl, hj, hgj, HJ⟩ := hrel
            by_cases hlj : j < L'.length
            · have hljz : (j : Int) < (L'.length : Int) := by omega
              rcases a6 with _ | ad6
              · have := congrArg List.length (H7.out.1 rfl).2
                simp at this
                rw [this] at hlj
                simp at hlj
              · obtain ⟨g6, rfl, hc6⟩ := H7.out.2 ad6 rfl
                obtain ⟨a7, c7, hv7, hnil7, hcs7⟩ := HA7.out.row.form
                rcases aC with _ | ad7
                · cases hv7
                  have := (hnil7 rfl).2
                  rw [this] at hlj
                  simp at hlj
                · cases hv7
                  obtain ⟨g7, rfl, hg7, hc7⟩ := hcs7 ad7 rfl
                  have hg6' : g6 < w7.heap.size := block_lt_of_cell (hc6 j hlj)
                  have q1 : ∀ q, (wr.drewN q).cell? ⟨g6, j, none⟩ = some (.string (L'[j]).name) := fun q => ((HJ.out.trans (Stp.drewN [] wr q)).cell (a := ⟨g6, j, none⟩) hg6' (fun h => by cases h)).trans (hc6 j hlj)
                  have q2 : ∀ q, (wr.drewN q).cell? ⟨g7, j * 2, none⟩ = some (.string (L'[j]).name) := fun q => ((HJ.out.trans (Stp.drewN [] wr q)).cell (a := ⟨g7, j * 2, none⟩) hg7 (fun h => by cases h)).trans (hc7 j hlj).1
                  generalize (L'[j]).name = nm at *
                  clear hc6 hc7 hnil7 hcs7 hg6' hg7
                  go_wp2_with fail
                  go_quiet (fail)
                  have HJ2 : Aside (Stp [] w7 [] (wr.drewN nq)) := HJ.out.trans (Stp.drewN [] wr nq)
                  clear HJ q1 q2
                  go_wp2
                  go_roundg (L'.length - (j + 1))
                  case measure => omega
                  case rel => exact ⟨j + 1, by go_num, by omega, by omega, HJ2⟩
            · have hljz : ¬ (j : Int) < (L'.length : Int) := by omega
              have HA8 : Aside (Ax w wr r (.slice aC L'.length cC) L') := HA7.out.stays HJ.out
              clear HJ HA7 H7
              go_wp2
              go_roundg (n - (k + 1))
              case measure => omega
              case rel => exact ⟨k + 1, L', by go_num, by omega, by omega, HA8⟩
        · have K1 := Lib.hid (make_err X s hsz z c hc hcn)
          have K2 := Lib.hid (rmake_err row hl16 s z c hc hcn)
          have hc0 : (c == 0) = false := beq_eq_false_iff_ne.2 hcn
          clear X st row hc
          refine K1.out.mono ?_
          rintro _ wA ⟨rfl, rfl⟩
          clear K1
          go_wp2_with fail
          refine K2.out.mono ?_
          rintro _ wA ⟨rfl, rfl⟩
          clear K2
          go_wp2_with fail
          go_quiet (fail)
          have HA : Aside (Ax w (wA.drewN nq) r (.slice am L.length cm) L) := HA0.out.stays (Stp.drewN [] wA nq)
          clear HA0 HNN d1 d2
          generalize wA.drewN nq = wT at *
          obtain ⟨⟨F5, m5, v5, D5, X5, st5⟩, row5⟩ := HA.out
          have K5 := Lib.hid (names_run X5)
          have hN5 : ∀ x ∈ L, x.N ≤ 4096 := fun x hx => (X5.ars x hx).top
          have h16 : L.length ≤ 16 := X5.top
          obtain ⟨T, hT⟩ : ∃ T, T = (L.map Ent.N).sum := ⟨_, rfl⟩
          have H5 := Lib.hid (And.intro X5 (And.intro row5 (And.intro hN5 hT)))
          clear X5 st5 row5 hN5 hT
          go_wp2_with fail
          refine K5.out.mono ?_
          rintro _ w6 ⟨v6, rfl, ho6, st6⟩
          obtain ⟨a6, c6, hv6, hnil6, _, _, hcs6⟩ := ho6.form
          rw [List.length_map] at hv6
          have H6 := Lib.hid (And.intro st6 (And.intro hnil6 hcs6))
          have K6 := Lib.hid (cells_at (H5.out.1.stays st6) (T : Int) (by rw [H5.out.2.2.2]))
          clear K5 ho6 st6 hnil6 hcs6
          subst hv6
          go_wp2_with fail
          refine K6.out.mono ?_
          rintro _ w7 ⟨rfl, st7⟩
          have K7 := Lib.hid (rcells_run (H5.out.2.1.other (H6.out.1.trans st7) (fun _ _ h => by cases h)) h16 H5.out.2.2.1)
          rw [← H5.out.2.2.2] at K7
          have HA7 : Aside (Ax w w7 r (.slice am L.length cm) L) := HA.out.stays (H6.out.1.trans st7)
          have H7 : Aside ((a6 = none → c6 = 0 ∧ L.map Ent.name = []) ∧ ∀ ad, a6 = some ad → ∃ g, ad = ⟨g, 0, none⟩ ∧ ∀ i (hi : i < L.length), w7.cell? ⟨g, i, none⟩ = some (.string (L[i]).name)) := by
            refine ⟨H6.out.2.1, fun ad e => ?_⟩
            obtain ⟨g6, e6, _, hg6, _, hc6⟩ := H6.out.2.2 ad e
            refine ⟨g6, e6, fun i hi => ?_⟩
            have := hc6 i (by simpa using hi)
            rw [getElem!_pos _ i (by simpa using hi), List.getElem_map] at this
            exact (st7.cell (a := ⟨g6, i, none⟩) hg6 (fun h => by cases h)).trans this
          clear K6 st7 H5 H6 HA
          go_wp2_with fail
          refine K7.out.mono ?_
          rintro _ w7 ⟨rfl, rfl⟩
          clear K7
          go_wp2
          go_loopg [132] L.length (fun gk vi wr => ∃ j : Nat, vi = .int .i64 (j : Int) ∧ j ≤ L.length ∧ L.length - j ≤ gk ∧ Aside (Stp [] w7 [] wr))
          case atStart => exact ⟨0, rfl, by omega, by omega, Stp.refl _ _⟩
          case round =>
            obtain ⟨j, rfl, hj, hgj, HJ⟩ := hrel
            by_cases hlj : j < L.length
            · have hljz : (j : Int) < (L.length : Int) := by omega
              rcases a6 with _ | ad6
              · have := congrArg List.length (H7.out.1 rfl).2
                simp at this
                rw [this] at hlj
                simp at hlj
              · obtain ⟨g6, rfl, hc6⟩ := H7.out.2 ad6 rfl
                obtain ⟨a7, c7, hv7, hnil7, hcs7⟩ := HA7.out.row.form
                rcases am with _ | ad7
                · cases hv7
                  have := (hnil7 rfl).2
                  rw [this] at hlj
                  simp at hlj
                · cases hv7
                  obtain ⟨g7, rfl, hg7, hc7⟩ := hcs7 ad7 rfl
                  have hg6' : g6 < w7.heap.size := block_lt_of_cell (hc6 j hlj)
                  have q1 : ∀ q, (wr.drewN q).cell? ⟨g6, j, none⟩ = some (.string (L[j]).name) := fun q => ((HJ.out.trans (Stp.drewN [] wr q)).cell (a := ⟨g6, j, none⟩) hg6' (fun h => by cases h)).trans (hc6 j hlj)
                  have q2 : ∀ q, (wr.drewN q).cell? ⟨g7, j * 2, none⟩ = some (.string (L[j]).name) := fun q => ((HJ.out.trans (Stp.drewN [] wr q)).cell (a := ⟨g7, j * 2, none⟩) hg7 (fun h => by cases h)).trans (hc7 j hlj).1
                  generalize (L[j]).name = nm at *
                  clear hc6 hc7 hnil7 hcs7 hg6' hg7
                  go_wp2_with fail
                  go_quiet (fail)
                  have HJ2 : Aside (Stp [] w7 [] (wr.drewN nq)) := HJ.out.trans (Stp.drewN [] wr nq)
                  clear HJ q1 q2
                  go_wp2
                  go_roundg (L.length - (j + 1))
                  case measure => omega
                  case rel => exact ⟨j + 1, by go_num, by omega, by omega, HJ2⟩
            · have hljz : ¬ (j : Int) < (L.length : Int) := by omega
              have HA8 : Aside (Ax w wr r (.slice am L.length cm) L) := HA7.out.stays HJ.out
              clear HJ HA7 H7
              go_wp2
              go_roundg (n - (k + 1))
              case measure => omega
              case rel => exact ⟨k + 1, L, by go_num, by omega, by omega, HA8⟩
      · have k0b : (kd == 0) = false := beq_eq_false_iff_ne.2 k0
        go_wp2_with fail
        generalize wr.alloc (.cells #[.int .i64 kd, .int .i64 z, .string s] 28) = wA at *
        generalize wr.heap.size = NB at *
        have d1 : wA.cell? ⟨NB, 1, none⟩ = some (.int .i64 z) := by rw [cell_of_row wA NB 1 _ _ _ HNN.out]; rfl
        have d2 : wA.cell? ⟨NB, 2, none⟩ = some (.string s) := by rw [cell_of_row wA NB 2 _ _ _ HNN.out]; rfl
        obtain ⟨⟨F, m, v, D, X, st⟩, row⟩ := HA0.out
        cases hh : has L s with
        | some y =>
          obtain ⟨hyL, hyn⟩ := has_some hh
          have K1 := Lib.hid (get_yes X hyL)
          have K2 := Lib.hid (rhas_run row hl16 s)
          have K3 := Lib.hid (cap_cl (X.ars y hyL))
          rw [hh] at K2
          rw [hyn] at K1
          clear X st row hyL hyn hh
          generalize y.b = yb at *
          obtain ⟨yN, hyN⟩ : ∃ yN, yN = y.N := ⟨_, rfl⟩
          have K2' : Hid (Calls Try.prog 14 #[.slice am L.length cm, .string s] wA (Gives (.tuple #[.int .i64 (yN : Int), .bool true]) wA)) := by rw [hyN]; exact K2
          rw [← hyN] at K3
          clear K2 hyN
          refine K1.out.mono ?_
          rintro _ wA ⟨rfl, rfl⟩
          clear K1
          go_wp2_with fail
          refine K2'.out.mono ?_
          rintro _ wA ⟨rfl, rfl⟩
          clear K2'
          go_wp2_with fail
          refine K3.out.mono ?_
          rintro _ wA ⟨rfl, rfl⟩
          clear K3
          have HA : Aside (Ax w wA r (.slice am L.length cm) L) := HA0.out
          clear HA0 HNN d1 d2
          generalize wA = wT at *
          obtain ⟨⟨F5, m5, v5, D5, X5, st5⟩, row5⟩ := HA.out
          have K5 := Lib.hid (names_run X5)
          have hN5 : ∀ x ∈ L, x.N ≤ 4096 := fun x hx => (X5.ars x hx).top
          have h16 : L.length ≤ 16 := X5.top
          obtain ⟨T, hT⟩ : ∃ T, T = (L.map Ent.N).sum := ⟨_, rfl⟩
          have H5 := Lib.hid (And.intro X5 (And.intro row5 (And.intro hN5 hT)))
          clear X5 st5 row5 hN5 hT
          go_wp2_with fail
          refine K5.out.mono ?_
          rintro _ w6 ⟨v6, rfl, ho6, st6⟩
          obtain ⟨a6, c6, hv6, hnil6, _, _, hcs6⟩ := ho6.form
          rw [List.length_map] at hv6
          have H6 := Lib.hid (And.intro st6 (And.intro hnil6 hcs6))
          have K6 := Lib.hid (cells_at (H5.out.1.stays st6) (T : Int) (by rw [H5.out.2.2.2]))
          clear K5 ho6 st6 hnil6 hcs6
          subst hv6
          go_wp2_with fail
          refine K6.out.mono ?_
          rintro _ w7 ⟨rfl, st7⟩
          have K7 := Lib.hid (rcells_run (H5.out.2.1.other (H6.out.1.trans st7) (fun _ _ h => by cases h)) h16 H5.out.2.2.1)
          rw [← H5.out.2.2.2] at K7
          have HA7 : Aside (Ax w w7 r (.slice am L.length cm) L) := HA.out.stays (H6.out.1.trans st7)
          have H7 : Aside ((a6 = none → c6 = 0 ∧ L.map Ent.name = []) ∧ ∀ ad, a6 = some ad → ∃ g, ad = ⟨g, 0, none⟩ ∧ ∀ i (hi : i < L.length), w7.cell? ⟨g, i, none⟩ = some (.string (L[i]).name)) := by
            refine ⟨H6.out.2.1, fun ad e => ?_⟩
            obtain ⟨g6, e6, _, hg6, _, hc6⟩ := H6.out.2.2 ad e
            refine ⟨g6, e6, fun i hi => ?_⟩
            have := hc6 i (by simpa using hi)
            rw [getElem!_pos _ i (by simpa using hi), List.getElem_map] at this
            exact (st7.cell (a := ⟨g6, i, none⟩) hg6 (fun h => by cases h)).trans this
          clear K6 st7 H5 H6 HA
          go_wp2_with fail
          refine K7.out.mono ?_
          rintro _ w7 ⟨rfl, rfl⟩
          clear K7
          go_wp2
          go_loopg [132] L.length (fun gk vi wr => ∃ j : Nat, vi = .int .i64 (j : Int) ∧ j ≤ L.length ∧ L.length - j ≤ gk ∧ Aside (Stp [] w7 [] wr))
          case atStart => exact ⟨0, rfl, by omega, by omega, Stp.refl _ _⟩
          case round =>
            obtain ⟨j, rfl, hj, hgj, HJ⟩ := hrel
            by_cases hlj : j < L.length
            · have hljz : (j : Int) < (L.length : Int) := by omega
              rcases a6 with _ | ad6
              · have := congrArg List.length (H7.out.1 rfl).2
                simp at this
                rw [this] at hlj
                simp at hlj
              · obtain ⟨g6, rfl, hc6⟩ := H7.out.2 ad6 rfl
                obtain ⟨a7, c7, hv7, hnil7, hcs7⟩ := HA7.out.row.form
                rcases am with _ | ad7
                · cases hv7
                  have := (hnil7 rfl).2
                  rw [this] at hlj
                  simp at hlj
                · cases hv7
                  obtain ⟨g7, rfl, hg7, hc7⟩ := hcs7 ad7 rfl
                  have hg6' : g6 < w7.heap.size := block_lt_of_cell (hc6 j hlj)
                  have q1 : ∀ q, (wr.drewN q).cell? ⟨g6, j, none⟩ = some (.string (L[j]).name) := fun q => ((HJ.out.trans (Stp.drewN [] wr q)).cell (a := ⟨g6, j, none⟩) hg6' (fun h => by cases h)).trans (hc6 j hlj)
                  have q2 : ∀ q, (wr.drewN q).cell? ⟨g7, j * 2, none⟩ = some (.string (L[j]).name) := fun q => ((HJ.out.trans (Stp.drewN [] wr q)).cell (a := ⟨g7, j * 2, none⟩) hg7 (fun h => by cases h)).trans (hc7 j hlj).1
                  generalize (L[j]).name = nm at *
                  clear hc6 hc7 hnil7 hcs7 hg6' hg7
                  go_wp2_with fail
                  go_quiet (fail)
                  have HJ2 : Aside (Stp [] w7 [] (wr.drewN nq)) := HJ.out.trans (Stp.drewN [] wr nq)
                  clear HJ q1 q2
                  go_wp2
                  go_roundg (L.length - (j + 1))
                  case measure => omega
                  case rel => exact ⟨j + 1, by go_num, by omega, by omega, HJ2⟩
            · have hljz : ¬ (j : Int) < (L.length : Int) := by omega
              have HA8 : Aside (Ax w wr r (.slice am L.length cm) L) := HA7.out.stays HJ.out
              clear HJ HA7 H7
              go_wp2
              go_roundg (n - (k + 1))
              case measure => omega
              case rel => exact ⟨k + 1, L, by go_num, by omega, by omega, HA8⟩
        | none =>
          have K1 := Lib.hid (get_no X (has_none hh) hsz)
          have K2 := Lib.hid (rhas_run row hl16 s)
          rw [hh] at K2
          have K2' : Hid (Calls Try.prog 14 #[.slice am L.length cm, .string s] wA (Gives (.tuple #[.int .i64 0, .bool false]) wA)) := K2
          clear X st row hh K2
          refine K1.out.mono ?_
          rintro _ wA ⟨rfl, rfl⟩
          clear K1
          go_wp2_with fail
          refine K2'.out.mono ?_
          rintro _ wA ⟨rfl, rfl⟩
          clear K2'
          have HA : Aside (Ax w wA r (.slice am L.length cm) L) := HA0.out
          clear HA0 HNN d1 d2
          generalize wA = wT at *
          obtain ⟨⟨F5, m5, v5, D5, X5, st5⟩, row5⟩ := HA.out
          have K5 := Lib.hid (names_run X5)
          have hN5 : ∀ x ∈ L, x.N ≤ 4096 := fun x hx => (X5.ars x hx).top
          have h16 : L.length ≤ 16 := X5.top
          obtain ⟨T, hT⟩ : ∃ T, T = (L.map Ent.N).sum := ⟨_, rfl⟩
          have H5 := Lib.hid (And.intro X5 (And.intro row5 (And.intro hN5 hT)))
          clear X5 st5 row5 hN5 hT
          go_wp2_with fail
          refine K5.out.mono ?_
          rintro _ w6 ⟨v6, rfl, ho6, st6⟩
          obtain ⟨a6, c6, hv6, hnil6, _, _, hcs6⟩ := ho6.form
          rw [List.length_map] at hv6
          have H6 := Lib.hid (And.intro st6 (And.intro hnil6 hcs6))
          have K6 := Lib.hid (cells_at (H5.out.1.stays st6) (T : Int) (by rw [H5.out.2.2.2]))
          clear K5 ho6 st6 hnil6 hcs6
          subst hv6
          go_wp2_with fail
          refine K6.out.mono ?_
          rintro _ w7 ⟨rfl, st7⟩
          have K7 := Lib.hid (rcells_run (H5.out.2.1.other (H6.out.1.trans st7) (fun _ _ h => by cases h)) h16 H5.out.2.2.1)
          rw [← H5.out.2.2.2] at K7
          have HA7 : Aside (Ax w w7 r (.slice am L.length cm) L) := HA.out.stays (H6.out.1.trans st7)
          have H7 : Aside ((a6 = none → c6 = 0 ∧ L.map Ent.name = []) ∧ ∀ ad, a6 = some ad → ∃ g, ad = ⟨g, 0, none⟩ ∧ ∀ i (hi : i < L.length), w7.cell? ⟨g, i, none⟩ = some (.string (L[i]).name)) := by
            refine ⟨H6.out.2.1, fun ad e => ?_⟩
            obtain ⟨g6, e6, _, hg6, _, hc6⟩ := H6.out.2.2 ad e
            refine ⟨g6, e6, fun i hi => ?_⟩
            have := hc6 i (by simpa using hi)
            rw [getElem!_pos _ i (by simpa using hi), List.getElem_map] at this
            exact (st7.cell (a := ⟨g6, i, none⟩) hg6 (fun h => by cases h)).trans this
          clear K6 st7 H5 H6 HA
          go_wp2_with fail
          refine K7.out.mono ?_
          rintro _ w7 ⟨rfl, rfl⟩
          clear K7
          go_wp2
          go_loopg [132] L.length (fun gk vi wr => ∃ j : Nat, vi = .int .i64 (j : Int) ∧ j ≤ L.length ∧ L.length - j ≤ gk ∧ Aside (Stp [] w7 [] wr))
          case atStart => exact ⟨0, rfl, by omega, by omega, Stp.refl _ _⟩
          case round =>
            obtain ⟨j, rfl, hj, hgj, HJ⟩ := hrel
            by_cases hlj : j < L.length
            · have hljz : (j : Int) < (L.length : Int) := by omega
              rcases a6 with _ | ad6
              · have := congrArg List.length (H7.out.1 rfl).2
                simp at this
                rw [this] at hlj
                simp at hlj
              · obtain ⟨g6, rfl, hc6⟩ := H7.out.2 ad6 rfl
                obtain ⟨a7, c7, hv7, hnil7, hcs7⟩ := HA7.out.row.form
                rcases am with _ | ad7
                · cases hv7
                  have := (hnil7 rfl).2
                  rw [this] at hlj
                  simp at hlj
                · cases hv7
                  obtain ⟨g7, rfl, hg7, hc7⟩ := hcs7 ad7 rfl
                  have hg6' : g6 < w7.heap.size := block_lt_of_cell (hc6 j hlj)
                  have q1 : ∀ q, (wr.drewN q).cell? ⟨g6, j, none⟩ = some (.string (L[j]).name) := fun q => ((HJ.out.trans (Stp.drewN [] wr q)).cell (a := ⟨g6, j, none⟩) hg6' (fun h => by cases h)).trans (hc6 j hlj)
                  have q2 : ∀ q, (wr.drewN q).cell? ⟨g7, j * 2, none⟩ = some (.string (L[j]).name) := fun q => ((HJ.out.trans (Stp.drewN [] wr q)).cell (a := ⟨g7, j * 2, none⟩) hg7 (fun h => by cases h)).trans (hc7 j hlj).1
                  generalize (L[j]).name = nm at *
                  clear hc6 hc7 hnil7 hcs7 hg6' hg7
                  go_wp2_with fail
                  go_quiet (fail)
                  have HJ2 : Aside (Stp [] w7 [] (wr.drewN nq)) := HJ.out.trans (Stp.drewN [] wr nq)
                  clear HJ q1 q2
                  go_wp2
                  go_roundg (L.length - (j + 1))
                  case measure => omega
                  case rel => exact ⟨j + 1, by go_num, by omega, by omega, HJ2⟩
            · have hljz : ¬ (j : Int) < (L.length : Int) := by omega
              have HA8 : Aside (Ax w wr r (.slice am L.length cm) L) := HA7.out.stays HJ.out
              clear HJ HA7 H7
              go_wp2
              go_roundg (n - (k + 1))
              case measure => omega
              case rel => exact ⟨k + 1, L, by go_num, by omega, by omega, HA8⟩
    · have hltz : ¬ (k : Int) < (n : Int) := by omega
      obtain ⟨F, m, v, D, X, st⟩ := HS.out.ex
      have H9 := Lib.hid st.none
      clear X st HS
      go_wp2
      go_ret
      exact ⟨rfl, H9.out.under⟩
set_option maxRecDepth 100000 in
theorem acts_walk (a0 : Option Addr) (cap0 : Nat) (l : List Ac) (w : World) (hU : As w a0 l) (hn : l.length ≤ 9223372036854775807) :
    Calls Try.prog 3 #[.slice a0 l.length cap0] w (Truth w) := by
  by_cases h200 : l.length ≤ 200
  · exact acts_at a0 cap0 l.length l w hU rfl h200
  · have h200z : (200 : Int) < (l.length : Int) := by omega
    generalize l.length = n at *
    clear hU
    go_enter Try.func3, Try.ntmps3
    go_wp2_with fail
    refine (newr_run _).mono ?_
    rintro _ w1 ⟨r, F1, rfl, hR1, st1⟩
    have H1 := Lib.hid st1.none
    clear hR1 st1
    go_wp2_with fail
    refine (aliver_run _).mono ?_
    rintro _ w2 ⟨rfl, st2⟩
    have H2 := Lib.hid (H1.out.trans st2)
    clear st2 H1
    go_wp2_with fail
    refine (aliver_run _).mono ?_
    rintro _ w3 ⟨rfl, st3⟩
    have H3 := Lib.hid (H2.out.trans st3)
    clear st3 H2
    go_wp2
    go_ret
    exact ⟨rfl, H3.out.under⟩
end Go.Proofs.Ytmhecgidhdbcgaa
