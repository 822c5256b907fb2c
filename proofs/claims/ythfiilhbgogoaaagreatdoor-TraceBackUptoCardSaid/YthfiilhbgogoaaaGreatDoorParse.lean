/-
  trace.Parse: the effects of a text.
-/
import Derived.Test.YthfiilhbgogoaaaGreatDoorBk2
import Derived.Test.YthfiilhbgogoaaaGreatDoorSame
namespace Go.Proofs.YthfiilhbgogoaaaGreatDoor
open Go.RowKit Go.Lib
set_option linter.unusedVariables false

/-- What Parse answers. -/
def ParTo (r : Option (List (Nat × Ef)) × Nat) (w : World) (e : Ending) (w' : World) : Prop := Stp [] w [] w' ∧ match r.1 with
  | none => e = .returned (.tuple #[.slice none 0 0, .int .i64 (r.2 : Int), .int .i64 8])
  | some Y => ∃ a cap L, e = .returned (.tuple #[.slice a L.length cap, .int .i64 (r.2 : Int), .int .i64 0]) ∧ Er w' a L ∧ Mts L Y
/-- What has been parsed, and what is parsed of the rest. -/
def pre (D : List (Nat × Ef)) (r : Option (List (Nat × Ef)) × Nat) : Option (List (Nat × Ef)) × Nat := (r.1.map (D ++ ·), r.2)
theorem pre_nil (r : Option (List (Nat × Ef)) × Nat) : pre [] r = r := by
  obtain ⟨o, n⟩ := r
  cases o <;> rfl
theorem prs_not {s : List UInt8} (h : s ≠ []) (hc : (cutc 10 s).2.2 = false) (k : Nat) : prs (spl 10 s) k = (none, k) := by
  have h1 : (cutc 10 s).1 = s := by
    rcases cutc_index 10 s with ⟨_, h2⟩ | ⟨i, _, _, h2⟩
    · rw [h2]
    · rw [h2] at hc
      cases hc
  rw [cutc_spl, hc, h1]
  simp [prs, h]
theorem prs_bad {s : List UInt8} (hc : (cutc 10 s).2.2 = true) (hr : rdAll (cutc 10 s).1 = none) (k : Nat) : prs (spl 10 s) k = (none, k) := by
  rw [cutc_spl, hc]
  simp only [if_true]
  cases e : spl 10 (cutc 10 s).2.1 with
  | nil => exact absurd e (spl_ne 10 _)
  | cons q r => simp only [prs, hr]
theorem prs_next {s : List UInt8} {y : Nat × Ef} (hc : (cutc 10 s).2.2 = true) (hr : rdAll (cutc 10 s).1 = some y) (k : Nat) (D : List (Nat × Ef)) : pre D (prs (spl 10 s) k) = pre (D ++ [y]) (prs (spl 10 (cutc 10 s).2.1) (k + 1)) := by
  rw [cutc_spl 10 s, hc]
  simp only [if_true]
  cases e : spl 10 (cutc 10 s).2.1 with
  | nil => exact absurd e (spl_ne 10 _)
  | cons q r =>
    simp only [prs, hr, pre, Prod.mk.injEq, and_true]
    cases (prs (q :: r) (k + 1)).1 <;> simp
theorem cut_shorter {s : List UInt8} (hc : (cutc 10 s).2.2 = true) : (cutc 10 s).2.1.length < s.length := by
  rcases cutc_index 10 s with ⟨_, h2⟩ | ⟨i, h1, _, h2⟩
  · rw [h2] at hc
    cases hc
  · rw [h2]
    simp
    omega
theorem cut_pieces {s : List UInt8} {P : List UInt8 → Prop} (hc : (cutc 10 s).2.2 = true) (h : ∀ p ∈ spl 10 s, P p) : P (cutc 10 s).1 ∧ ∀ p ∈ spl 10 (cutc 10 s).2.1, P p := by
  rw [cutc_spl 10 s, hc] at h
  simp only [if_true, List.mem_cons] at h
  exact ⟨h _ (.inl rfl), fun p hp => h p (.inr hp)⟩
theorem cut_head {s : List UInt8} : (cutc 10 s).1 ∈ spl 10 s := by
  rw [cutc_spl 10 s]
  simp
theorem prs_ge : ∀ (R : List (List UInt8)) (n : Nat), n ≤ (prs R n).2
  | [], n => Nat.le_refl _
  | [p], n => by
    unfold prs
    split <;> exact Nat.le_refl _
  | p :: q :: r, n => by
    unfold prs
    split
    · exact Nat.le_refl _
    · have := prs_ge (q :: r) (n + 1)
      simp only
      omega
/-- One effect, as a row of its own. -/
theorem one_cells (W : World) (x : Ev) : ∀ j u, (evs [x])[j]? = some u → (W.alloc (.cells (ev7 x).toArray 43)).cell? ((⟨W.heap.size, 0, none⟩ : Addr).add j) = some u := fun j u hu => by
  have e : evs [x] = ev7 x := by simp [evs]
  rw [e] at hu
  rw [addr_add, cell_of_row _ W.heap.size _ _ _ _ (heap_alloc_new W _)]
  simpa using hu
theorem stp_grown {w w' : World} {v : Value} (hg : w.grownBy w' v.ownBlock) : Stp v.ownBlock.toList w [] w' :=
  ⟨hg.os, hg.tape, hg.output, hg.size, fun k hk hF => hg.block k hk (fun e => hF (by rw [← e]; simp)), fun _ h => by cases h⟩
theorem wpList_appE5 {w : World} {ops : Array Oper} {rest : List Oper} {o : Oper} {a : Act} {Q : Exit → Act → World → Prop} (hgd : o.guard = none) (s x : Operand)
    (ho : o.op = .call { callee := .builtin .append, args := #[s, x], argTypes := #[22, 22] }) (base : Nat) (v : Value) (xs : List Ev) (hs : a.eval s = v) (hown : EOwn w base v xs)
    (ad : Addr) (c n : Nat) (l : List Ev) (hn : n = l.length) (hx : a.eval x = .slice (some ad) n c) (hl : ∀ j u, (evs l)[j]? = some u → w.cell? (ad.add j) = some u) (h63 : xs.length + l.length ≤ 1000000) (hbase : base ≤ w.heap.size)
    (h : ∀ v' w', EOwn w' base v' (xs ++ l) → w.grownBy w' v.ownBlock → (v'.ownBlock = v.ownBlock ∨ v'.ownBlock = some w.heap.size) → wpList Tryz.prog ops Q rest (a.put o.dst v') w') : wpList Tryz.prog ops Q (o :: rest) a w := by
  subst hn
  refine wpList_plain hgd fun K hK => ?_
  obtain ⟨i0, hi0, hz0, hz1, hz2⟩ := info_parts eff_parts
  obtain ⟨v', w', hrun, h2, h3, _, h5⟩ := run_append_own_at (P := Tryz.prog) w base _ o.type _ i0 _ 7 56 Tryz.underlying22 hi0 hz0 hz1 hz2 rfl (by omega) v _ _ hown ad l.length c (evs l) (evs_length l) hl
    (evs_one l) (by unfold maxLen; omega) (by omega) hbase
  have h2' : EOwn w' base v' (xs ++ l) := by
    unfold EOwn
    rw [evs_app, List.length_append]
    exact h2
  unfold Oper.wp execOp
  simp only [ho, resolve, invoke, builtin, Sem.run_bind, Sem.run_pure, Result.andThen_ok, List.map_toArray, List.map_cons, List.map_nil, hs, hx, hrun]
  exact hK _ _ (h v' w' h2' h3 h5)
/-- The data of the effects read so far lie in no block of the row that holds them. -/
def Dts (w : World) (v : Value) (L : List Ev) : Prop := ∀ x ∈ L, Ed w x ∧ (x.l ≠ [] → ∀ ad, x.a = some ad → v.ownBlock ≠ some ad.block)
theorem Dts.app {w W W' : World} {v v' : Value} {L : List Ev} {x : Ev} (h : Dts w v L) (hs : Stp [] w [] W) (hx : Ed W x) (hx2 : x.l ≠ [] → ∀ ad, x.a = some ad → v.ownBlock ≠ some ad.block) (hg : W.grownBy W' v.ownBlock) (hv : v'.ownBlock = v.ownBlock ∨ v'.ownBlock = some W.heap.size) : Dts W' v' (L ++ [x]) := by
  have key : ∀ z, Ed W z → (z.l ≠ [] → ∀ ad, z.a = some ad → v.ownBlock ≠ some ad.block) → Ed W' z ∧ (z.l ≠ [] → ∀ ad, z.a = some ad → v'.ownBlock ≠ some ad.block) := by
    intro z hz hz2
    refine ⟨⟨hz.1.other (stp_grown hg) (fun hn ad e hm => hz2 hn ad e (by simpa using hm)), hz.2⟩, fun hn ad e => ?_⟩
    rcases hv with e2 | e2
    · rw [e2]
      exact hz2 hn ad e
    · rw [e2]
      intro e3
      have := hz.1.apart (Nat.le_refl _) hn ad e
      simp at e3
      omega
  intro z hz
  rcases List.mem_append.1 hz with hm | hm
  · exact key z ((h z hm).1.stays hs) (h z hm).2
  · simp at hm
    subst hm
    exact key _ hx hx2
set_option maxHeartbeats 1000000 in
set_option maxRecDepth 100000 in
theorem parse_run (s : List UInt8) (w : World) (hT : Tabs w) (hl : s.length ≤ 100000000) (hp : ∀ p ∈ spl 10 s, p.length ≤ 100000) (hk : (prs (spl 10 s) 0).2 ≤ 100000) :
    Calls Tryz.prog 9 #[.string (st s)] w (ParTo (prs (spl 10 s) 0) w) := by
  have KA := Lib.hid all_run
  have HT : Aside (Tabs w) := hT
  have HP := Lib.hid (And.intro hl hp)
  clear hT hl hp
  go_enter Tryz.func9, Tryz.ntmps9
  go_wp2_with fail
  refine (KA.out _).mono ?_
  rintro _ w1 ⟨X, rfl, h1, h2⟩
  have hsc := store_all w1 X h1.1
  have hcl : (closures X).length = 14 := by rw [closures_len, h1.1]
  have H1 : Aside (AllAt (w1.alloc (.cells (closures X).toArray 52)) X ∧ (w1.alloc (.cells (closures X).toArray 52)).heap[w1.heap.size]? = some (.cells (closures X).toArray 52 (0, 0)) ∧ Stp [] w [] (w1.alloc (.cells (closures X).toArray 52))) :=
    ⟨h1.stays (Stp.alloc [] _ _), heap_alloc_new _ _, h2.trans (Stp.alloc [] _ _)⟩
  clear h1 h2 KA
  generalize w1.alloc (.cells (closures X).toArray 52) = w2 at *
  go_wp2
  generalize w1.heap.size = ga at *
  have KE : Hid (∀ (p : List UInt8), p.length ≤ 100000 → ∀ W, Stp [] w2 [] W → Calls Tryz.prog 22 #[.pointer (some ⟨ga, 0, none⟩), .string (st p)] W (EffTo (rdAll p) W)) := Lib.hid fun p hp W hs =>
    eff_run X ga p hp W ((HT.out.stays H1.out.2.2).stays hs) (H1.out.1.stays hs) ((hs.block ga (Array.getElem?_eq_some_iff.1 H1.out.2.1).1 (by simp)).trans H1.out.2.1)
  clear hsc hcl
  have HK := Lib.hid hk
  clear hk
  go_loopg [0, 6] s.length (fun gk v0 v6 wr => ∃ (sr : List UInt8) (a : Option Addr) (cap : Nat) (L : List Ev), v0 = .string (st sr) ∧ v6 = .slice a L.length cap ∧ sr.length ≤ gk ∧
    Aside (EOwn wr w2.heap.size (.slice a L.length cap) L ∧ Dts wr (.slice a L.length cap) L ∧ (∃ D, Mts L D ∧ prs (spl 10 s) 0 = pre D (prs (spl 10 sr) L.length)) ∧ Stp [] w2 [] wr ∧ (∀ p ∈ spl 10 sr, p.length ≤ 100000) ∧ sr.length ≤ 100000000))
  case atStart => exact ⟨s, none, 0, [], rfl, rfl, Nat.le_refl _, EOwn.nil _ _, (fun x hx => by cases hx), ⟨[], Mts.nil, (pre_nil _).symm⟩, Stp.refl _ _, HP.out.2, HP.out.1⟩
  case round =>
    obtain ⟨sr, a, cap, L, rfl, rfl, hg, HS⟩ := hrel
    by_cases hne : sr = []
    · subst hne
      have hq : ((st []).toList == ([] : List UInt8)) = true := by rw [st_toList]; rfl
      have HN : Aside (∃ D, Mts L D ∧ prs (spl 10 s) 0 = (some D, L.length)) := by
        obtain ⟨D, hD, e⟩ := HS.out.2.2.1
        refine ⟨D, hD, ?_⟩
        rw [e]
        simp [spl, prs, pre]
      go_wp2
      go_ret3
      obtain ⟨D, hD, e⟩ := HN.out
      obtain ⟨a', cap', ea, hEr, _⟩ := HS.out.1.er (fun x hx => (HS.out.2.1 x hx).1)
      rw [e]
      refine ⟨H1.out.2.2.trans HS.out.2.2.2.1, a', cap', L, ?_, hEr, hD⟩
      rw [ea]
      rfl
    · have hq : ((st sr).toList == ([] : List UInt8)) = false := by rw [st_toList]; simp [hne]
      obtain ⟨hO, hd, ⟨D, hD, hpr⟩, hSt, hpc, hsl⟩ := HS.out
      obtain ⟨⟨p, r, en⟩, hcut⟩ : ∃ q, cutc 10 sr = q := ⟨_, rfl⟩
      have KC : Hid (∀ W, Calls Tryz.prog 21 #[.string (st sr), .string ⟨#[10]⟩] W (Tells (.tuple #[.string (st p), .string (st r), .bool en]) W)) := Lib.hid fun W => by
        have := cut_run sr 10 W (by omega)
        rw [hcut] at this
        exact this
      have hpl : p.length ≤ 100000 := by
        have := hpc _ cut_head
        rw [hcut] at this
        exact this
      have hLn : L.length ≤ 100000 := by
        have h1 := prs_ge (spl 10 sr) L.length
        have h2 := HK.out
        rw [hpr] at h2
        simp only [pre] at h2
        omega
      have HBad : Aside ((en = false ∨ rdAll p = none) → prs (spl 10 s) 0 = (none, L.length)) := fun hb => by
        rw [hpr]
        have e : prs (spl 10 sr) L.length = (none, L.length) := by
          cases en with
          | false => exact prs_not hne (by rw [hcut]) _
          | true => exact prs_bad (by rw [hcut]) (by rw [hcut]; exact hb.resolve_left (by decide)) _
        rw [e]
        rfl
      have HNx : Aside (en = true → ∀ y, rdAll p = some y → r.length < sr.length ∧ (∀ q ∈ spl 10 r, q.length ≤ 100000) ∧ prs (spl 10 s) 0 = pre (D ++ [y]) (prs (spl 10 r) (L.length + 1))) := fun he y hy => by
        subst he
        have e1 : (cutc 10 sr).2.2 = true := by rw [hcut]
        have k1 := cut_shorter e1
        have k2 := (cut_pieces e1 hpc).2
        have k3 := prs_next e1 (by rw [hcut]; exact hy) L.length D
        rw [hcut] at k1 k2 k3
        exact ⟨k1, k2, hpr.trans k3⟩
      have HG : Aside (EOwn wr w2.heap.size (.slice a L.length cap) L ∧ Dts wr (.slice a L.length cap) L ∧ Mts L D ∧ Stp [] w2 [] wr) := ⟨hO, hd, hD, hSt⟩
      clear HS hO hd hD hpr hSt hpc hcut
      go_wp2_with fail
      refine (KC.out _).mono ?_
      rintro _ w3 ⟨rfl, h3⟩
      have H3 : Aside (Stp [] wr [] w3) := h3
      clear h3 KC
      go_wp2_with fail
      refine (KE.out p hpl w3 (HG.out.2.2.2.trans H3.out)).mono ?_
      rintro _ w4 ⟨h4, hm⟩
      have H4 : Aside (Stp [] wr [] w4) := H3.out.trans h4
      have h3s : wr.heap.size ≤ w3.heap.size := H3.out.size
      clear h4 H3
      cases hr : rdAll p with
      | none =>
        rw [hr] at hm
        subst hm
        have HB := Lib.hid (HBad.out (.inr hr))
        clear HBad HNx hr h3s
        unfold evv
        cases en
        all_goals
          go_wp2
          go_ret3
          rw [HB.out]
          exact ⟨(H1.out.2.2.trans (HG.out.2.2.2.trans H4.out)).trans (Stp.alloc [] _ _), rfl⟩
      | some y =>
        rw [hr] at hm
        obtain ⟨d, rfl, a4, c4, rfl, hb1, hb2, hb3, hb4⟩ := hm
        have HB : Aside (Bts w4 a4 y.2.d ∧ y.2.d.length ≤ c4 ∧ (a4 = none → c4 = 0) ∧ ∀ ad, a4 = some ad → wr.heap.size ≤ ad.block) := ⟨hb1, hb2, hb3, fun ad e => Nat.le_trans h3s (hb4 ad e)⟩
        clear hb1 hb2 hb3 hb4 h3s
        unfold evv
        cases en with
        | false =>
          have HB := Lib.hid (HBad.out (.inl rfl))
          clear HBad HNx hr
          go_wp2
          go_ret3
          rw [HB.out]
          exact ⟨(H1.out.2.2.trans (HG.out.2.2.2.trans H4.out)).trans (Stp.alloc [] _ _), rfl⟩
        | true =>
          obtain ⟨n1, n2, n3⟩ := HNx.out rfl y hr
          have HN : Aside ((∀ q ∈ spl 10 r, q.length ≤ 100000) ∧ prs (spl 10 s) 0 = pre (D ++ [y]) (prs (spl 10 r) (L.length + 1))) := ⟨n2, n3⟩
          clear HBad HNx hr n2 n3
          obtain ⟨x, hx⟩ : ∃ x : Ev, x = ⟨(y.1 : Int), y.2.f, y.2.m, y.2.t, a4, c4, y.2.d, (y.2.n : Int), y.2.ok⟩ := ⟨_, rfl⟩
          have HX : Aside (Mt x y ∧ Ed w4 x ∧ (x.l ≠ [] → ∀ ad, x.a = some ad → (Value.slice a L.length cap).ownBlock ≠ some ad.block)) := by
            subst hx
            refine ⟨⟨rfl, rfl, rfl, rfl, rfl, rfl, rfl⟩, ⟨HB.out.1, HB.out.2.1, HB.out.2.2.1⟩, fun _ ad e e2 => ?_⟩
            have h1 := HB.out.2.2.2 ad e
            have h2 := (HG.out.1.lt _ e2).2
            omega
          have x0 : (y.1 : Int) = x.k := by rw [hx]
          have x1 : y.2.f = x.f := by rw [hx]
          have x2 : y.2.m = x.m := by rw [hx]
          have x3 : y.2.t = x.t := by rw [hx]
          have x4 : a4 = x.a := by rw [hx]
          have x5 : c4 = x.c := by rw [hx]
          have x6 : y.2.d = x.l := by rw [hx]
          have x7 : (y.2.n : Int) = x.n := by rw [hx]
          have x8 : y.2.ok = x.ok := by rw [hx]
          rw [x0, x1, x2, x3, x4, x5, x6, x7, x8]
          clear x0 x1 x2 x3 x4 x5 x6 x7 x8 hx HB
          go_upto_region 6 with fail
          have H5 : Aside (EAt (w4.alloc (.cells #[.int .i64 x.k, .int .u32 (x.f : Int), .int .u8 (x.m : Int), .int .u8 (x.t : Int), .slice x.a x.l.length x.c, .int .i64 x.n, .bool x.ok] 43)) w4.heap.size x.k x.f x.m x.t (.slice x.a x.l.length x.c) x.n x.ok ∧ Stp [] wr [] (w4.alloc (.cells #[.int .i64 x.k, .int .u32 (x.f : Int), .int .u8 (x.m : Int), .int .u8 (x.t : Int), .slice x.a x.l.length x.c, .int .i64 x.n, .bool x.ok] 43)) ∧ Ed (w4.alloc (.cells #[.int .i64 x.k, .int .u32 (x.f : Int), .int .u8 (x.m : Int), .int .u8 (x.t : Int), .slice x.a x.l.length x.c, .int .i64 x.n, .bool x.ok] 43)) x) :=
            ⟨heap_alloc_new _ _, H4.out.trans (Stp.alloc [] _ _), HX.out.2.1.stays (Stp.alloc [] _ _)⟩
          generalize w4.alloc (.cells #[.int .i64 x.k, .int .u32 (x.f : Int), .int .u8 (x.m : Int), .int .u8 (x.t : Int), .slice x.a x.l.length x.c, .int .i64 x.n, .bool x.ok] 43) = w5 at *
          generalize w4.heap.size = ge at *
          have c0 := H5.out.1.c0
          have c1 := H5.out.1.c1
          have c2 := H5.out.1.c2
          have c3 := H5.out.1.c3
          have c4 := H5.out.1.c4
          have c5 := H5.out.1.c5
          have c6 := H5.out.1.c6
          go_wp2_with (at_builtin
                       refine wpList_appE5 rfl (.tmp 34) (.tmp 36) rfl w2.heap.size (.slice a L.length cap) L rfl (HG.out.1.other (H5.out.2.1.trans (Stp.alloc [] _ _)) (by simp)) ⟨w5.heap.size, 0, none⟩ 1 1 [x] rfl rfl (fun j u hj => one_cells w5 x j u hj) (by simp; omega) (by have h2 := HG.out.2.2.2.size; have h3 := H5.out.2.1.size; rw [World.size_alloc]; omega) ?_
                       intro v' w' ho' hg' hv5
                       have hA : Aside (Stp [] w2 [] w' ∧ Dts w' v' (L ++ [x])) := ⟨(HG.out.2.2.2.trans (H5.out.2.1.trans (Stp.alloc [] _ _))).app hg' (fun k hk => (HG.out.1.lt k hk).1), HG.out.2.1.app (H5.out.2.1.trans (Stp.alloc [] _ _)) (H5.out.2.2.stays (Stp.alloc [] _ _)) HX.out.2.2 hg' hv5⟩
                       obtain ⟨a', cap', hv', _⟩ := ho'.er (fun z hz => (hA.out.2 z hz).1)
                       subst hv'
                       have HQ : Aside (EOwn w' w2.heap.size (.slice a' (L ++ [x]).length cap') (L ++ [x]) ∧ Dts w' (.slice a' (L ++ [x]).length cap') (L ++ [x]) ∧ Stp [] w2 [] w') := ⟨ho', hA.out.2, hA.out.1⟩
                       clear ho' hg' hv5 hA)
          go_roundg r.length
          case measure => omega
          case rel =>
            obtain ⟨q1, q2, q3⟩ := HQ.out
            exact ⟨r, a', cap', L ++ [x], rfl, by rw [List.length_append]; rfl, Nat.le_refl _, q1, q2, ⟨D ++ [y], HG.out.2.2.1.snoc HX.out.1, by rw [List.length_append]; exact HN.out.2⟩, q3, HN.out.1, by omega⟩
end Go.Proofs.YthfiilhbgogoaaaGreatDoor
