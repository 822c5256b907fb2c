/-
  Feed: a screen is fed.
-/
import Derived.Test.YtdaenaoagejgeaaGreatDoorDo3
namespace Go.Proofs.YtdaenaoagejgeaaGreatDoor
open Go.RowKit Go.Lib
set_option linter.unusedVariables false

theorem Own.base {w : World} {b b' : Nat} {v : Value} {l : List UInt8} (h : Own w b v l) (hb : b' ≤ b) : Own w b' v l := by
  refine ⟨h.1, ?_⟩
  rcases h.2 with hn | ⟨g, cap, cur, rfl, hg, rest⟩
  · exact .inl hn
  · exact .inr ⟨g, cap, cur, rfl, by omega, rest⟩
theorem Own.form {w : World} {b : Nat} {v : Value} {l : List UInt8} (h : Own w b v l) : ∃ a cap, v = .slice a l.length cap ∧ Bts w a l ∧ (a = none → cap = 0) ∧ l.length ≤ cap ∧ cap ≤ maxLen ∧ ∀ ad, a = some ad → v.ownBlock = some ad.block ∧ ∃ C, w.heap[ad.block]? = some (.cells C 5 (0, 0)) := by
  obtain ⟨a, cap, e, hb, h0, hc, _⟩ := h.bts
  refine ⟨a, cap, e, hb, h0, hc, ?_, ?_⟩
  · rcases h.2 with ⟨e2, _⟩ | ⟨g, cap', cur, e2, hg, hh, hnc, hm, _⟩
    · rw [e2] at e
      injection e with _ _ e5
      rw [← e5]
      unfold maxLen
      omega
    · rw [e2] at e
      cases e
      exact hm
  · rintro ad rfl
    refine ⟨by rw [e]; rfl, ?_⟩
    rcases h.2 with ⟨e2, _⟩ | ⟨g, cap', cur, e2, hg, hh, _⟩
    · rw [e2] at e
      cases e
    · rw [e2] at e
      cases e
      exact ⟨_, hh⟩
theorem Own.typ {w : World} {b : Nat} {v : Value} {l : List UInt8} (h : Own w b v l) : ∀ k, v.ownBlock = some k → ∃ C, w.heap[k]? = some (.cells C 5 (0, 0)) := by
  intro k hk
  obtain ⟨a, cap, e, _, _, _, _, hf⟩ := h.form
  rw [e] at hk
  rcases a with _ | ad
  · cases hk
  · cases hk
    exact (hf ad rfl).2
/-- bytes.Clone of a row. -/
theorem clone_run (a : Option Addr) (n cap : Nat) (l : List UInt8) (w : World) (hb : Bts w a l) (hn : n = l.length) (hl : n ≤ 1000000) : Calls Tryz.prog 24 #[.slice a n cap] w
    (fun e w' => ∃ v', e = .returned v' ∧ Own w' 0 v' l ∧ (∀ k, v'.ownBlock = some k → w.heap.size ≤ k) ∧ Stp [] w [] w') := by
  subst hn
  rcases a with _ | ad
  · have : l = [] := by
      rcases Classical.em (l = []) with e | e
      · exact e
      · obtain ⟨b, off, h, _⟩ := hb e
        cases h
    subst this
    refine (Tryz.bytes_Clone_nil 0 cap w).mono ?_
    rintro e w' ⟨rfl, rfl⟩
    exact ⟨_, rfl, Own.nil _ _, (fun k hk => by cases hk), Stp.refl _ _⟩
  · refine (Tryz.bytes_Clone_at ad l.length cap (l.map fun x => (x.toNat : Int)) w (by simp) (by omega) (fun i hi => ?_)).mono ?_
    · obtain ⟨b, off, e, hc⟩ := hb (by intro e; subst e; simp at hi)
      cases e
      rw [addr_add, hc i hi]
      simp [bval, hi]
    · rintro e w' ⟨v', rfl, hown, _, hbl⟩
      have ho : Own w' w.heap.size v' l := by
        unfold Own
        have e1 : l.map bval = (l.map fun x => (x.toNat : Int)).map (Value.int .u8) := by rw [List.map_map]; rfl
        rw [e1]
        exact hown
      exact ⟨v', rfl, ho.base (Nat.zero_le _), fun k hk => (ho.lt k hk).1, Stp.of_below hbl⟩
/-- The tables stand, whatever turns from B on. -/
def Tb (W : World) (B : Nat) : Prop := ∀ W', Below B W W' → Tabs W'
theorem Tb.of {w : World} (h : Tabs w) : Tb w w.heap.size := fun W' hb => h.stays (Stp.of_below hb)
theorem Tb.tabs {W : World} {B : Nat} (h : Tb W B) : Tabs W := h W (Below.refl _ _)
theorem Tb.step {W W' : World} {B : Nat} {F F' : List Nat} (h : Tb W B) (hs : Stp F W F' W') (hF : ∀ j ∈ F, B ≤ j) (hB : B ≤ W.heap.size) : Tb W' B := fun W2 hb => h W2 ((hs.below hF hB).trans hb)
/-- A screen at s, new since B, in the blocks F, that was fed l. -/
def Scn (W : World) (B s : Nat) (F : List Nat) (l : List UInt8) : Prop := ∃ X bv, Sx W s X bv (seen l) ∧ Own W 0 bv (held l) ∧ F = bv.ownBlock.toList ++ X.foot s ∧ ∀ j ∈ F, B ≤ j
/-- What a round of Feed keeps. -/
structure FdS (W1 : World) (s : Nat) (X0 : Sc) (bv : Value) (R : Fd) (M : Nat) (a : Option Addr) (n cap : Nat) (wr : World) : Prop where
  ex : ∃ lr S X T, Bts wr a lr ∧ n = lr.length ∧ (lr ≠ [] → ∀ ad, a = some ad → ∃ C, wr.heap[ad.block]? = some (.cells C 5 (0, 0))) ∧ R = fd S lr ∧ Sx wr s X bv S ∧ Stp (X0.foot s) W1 (X.foot s) wr ∧ Oks S T ∧ T + n ≤ M
  nc : n ≤ cap
  cm : cap ≤ maxLen
theorem oneN_bd (S : Sn) (l : List UInt8) : oneN S l ≤ l.length := by
  unfold oneN
  cases h : one S l with
  | none => simp
  | some f => exact (one_bd h).2
section
variable {W W' : World} {s : Nat} {X0 : Sc} {bv : Value} {R : Fd} {M : Nat} {a : Option Addr} {n cap : Nat} {wr : World}
/-- A round: do. -/
theorem FdS.do (h : FdS W s X0 bv R M a n cap wr) (hn : 0 < n) (hM : M ≤ 99999) (hTb : Tabs wr) : Calls Tryz.prog 23 #[.pointer (some ⟨s, 0, none⟩), .slice a n cap] wr
    (fun e w' => ∃ m : Nat, e = .returned (.int .i64 (m : Int)) ∧ m ≤ n ∧ ((m = 0 ∧ ∃ X, Bts w' a R.h ∧ n = R.h.length ∧ Sx w' s X bv R.S ∧ Stp (X0.foot s) W (X.foot s) w') ∨ (0 < m ∧ FdS W s X0 bv R M (cutp a m cap) (n - m) (cap - m) w'))) := by
  obtain ⟨⟨lr, S, X, T, h1, h2, h3, h4, h5, h6, h7, h8⟩, h9, h10⟩ := h
  refine (do_run h5 h7 (by omega) a n cap lr (by intro e; subst e; simp at h2; omega) h1 h2 h9 h10 (by omega) hTb).mono ?_
  rintro e w' ⟨rfl, X', g1, g2⟩
  have hbt : Bts w' a lr := h1.other g2 (fun hne ad e => fun hj => by
    obtain ⟨C, hC⟩ := h3 hne ad e
    exact (h5.foot_lt _ hj).2 C hC)
  refine ⟨oneN S lr, rfl, by have := oneN_bd S lr; omega, ?_⟩
  cases ho : one S lr with
  | none =>
    left
    have e1 : oneN S lr = 0 := by unfold oneN; rw [ho]
    have e2 : oneX S lr = S := by unfold oneX; rw [ho]
    rw [fd_none ho] at h4
    rw [e2] at g1
    subst h4
    exact ⟨e1, X', hbt, h2, g1, h6.trans g2⟩
  | some f =>
    right
    have e1 : oneN S lr = f.n := by unfold oneN; rw [ho]
    have e2 : oneX S lr = f.x := by unfold oneX; rw [ho]
    have hb := one_bd ho
    rw [e2] at g1
    rw [e1]
    have hcut := hbt.cut (i := f.n) (j := lr.length) (N := cap) hb.2 (Nat.le_refl _) (by omega)
    rw [List.take_of_length_le (by simp)] at hcut
    refine ⟨by omega, ⟨lr.drop f.n, f.x, X', T + f.n, hcut, by simp; omega, fun hne ad e => ?_, by rw [h4, fd_some ho], g1, h6.trans g2, h7.one ho, by omega⟩, by omega, by omega⟩
    have hne2 : lr ≠ [] := fun e => hne (by rw [e]; simp)
    obtain ⟨b, off, ea, _⟩ := h1 hne2
    subst ea
    have : ad.block = b := by
      unfold cutp at e
      split at e
      · cases e; rfl
      · cases e
        show ((⟨b, off, none⟩ : Addr).add f.n).block = b
        rw [addr_add]
    rw [this]
    obtain ⟨C, hC⟩ := h3 hne2 _ rfl
    exact ⟨C, (g2.block b (Array.getElem?_eq_some_iff.1 hC).1 (fun hj => (h5.foot_lt _ hj).2 C hC)).trans hC⟩
/-- The end of Feed. -/
def Fed (W : World) (B s : Nat) (F : List Nat) (l : List UInt8) (e : Ending) (w' : World) : Prop := e = .returned (.int .i64 0) ∧ ∃ F', Scn w' B s F' l ∧ Stp F W F' w'
end
theorem Scn.lt {W : World} {B s : Nat} {F : List Nat} {l : List UInt8} (h : Scn W B s F l) : s < W.heap.size ∧ B ≤ s ∧ (∀ j ∈ F, j < W.heap.size ∧ B ≤ j) := by
  obtain ⟨X, bv, h1, h2, rfl, h4⟩ := h
  refine ⟨h1.lt, h4 s (List.mem_append_right _ List.mem_cons_self), fun j hj => ⟨?_, h4 j hj⟩⟩
  rcases List.mem_append.1 hj with g | g
  · exact (h2.lt j (by simpa using g)).2
  · exact (h1.foot_lt j g).1
theorem Scn.other {W W' : World} {B s : Nat} {F G G' : List Nat} {l : List UInt8} (h : Scn W B s F l) (hs : Stp G W G' W') (hG : ∀ j ∈ F, j ∉ G) : Scn W' B s F l := by
  obtain ⟨X, bv, h1, h2, rfl, h4⟩ := h
  exact ⟨X, bv, h1.other hs (fun j hj => hG j (List.mem_append_right _ hj)), h2.other hs (fun k hk => hG k (List.mem_append_left _ (by simpa using hk))), rfl, h4⟩
theorem Scn.stays {W W' : World} {B s : Nat} {F G' : List Nat} {l : List UInt8} (h : Scn W B s F l) (hs : Stp [] W G' W') : Scn W' B s F l := h.other hs (fun _ _ h => by cases h)
theorem feed_nil (v : Value) (W : World) : Calls Tryz.prog 9 #[.pointer none, v] W (Gives (.int .i64 1) W) := by
  go_enter Tryz.func9, Tryz.ntmps9
  go_wp2
  go_ret
  exact ⟨rfl, rfl⟩
/-- What Feed leaves. -/
theorem fed_of {W w1 w3 w4 : World} {B s : Nat} {F : List Nat} {l b : List UInt8} {X X' : Sc} {bv v' : Value} (hB : B ≤ W.heap.size) (hBF : ∀ j ∈ F, B ≤ j) (s1 : Stp bv.ownBlock.toList W [] w1) (hbv : ∀ j ∈ bv.ownBlock.toList, j ∈ F) (hft : ∀ j ∈ X.foot s, j ∈ F)
    (h3 : Sx w3 s X' bv (fd (seen l) (held l ++ b)).S) (s3 : Stp (X.foot s) w1 (X'.foot s) w3) (ho : Own w4 0 v' (fd (seen l) (held l ++ b)).h) (hnew : ∀ k, v'.ownBlock = some k → w3.heap.size ≤ k) (s4 : Stp [] w3 [] w4) :
    Fed W B s F (l ++ b) (.returned (.int .i64 0)) (w4.setCell ⟨s, 5, none⟩ v') := by
  have hX : ∀ j ∈ X'.foot s, j ∈ F ∨ W.heap.size ≤ j := fun j hj => by
    rcases s3.foot j hj with g | g
    · exact .inl (hft j g)
    · exact .inr (Nat.le_trans s1.size g)
  have hS : Stp F W (v'.ownBlock.toList ++ X'.foot s) (w4.setCell ⟨s, 5, none⟩ v') := by
    have s5 := stp_one w4 s 5 v'
    refine ⟨s5.os.trans (s4.os.trans (s3.os.trans s1.os)), s5.tape.trans (s4.tape.trans (s3.tape.trans s1.tape)), s5.output.trans (s4.output.trans (s3.output.trans s1.output)), Nat.le_trans s1.size (Nat.le_trans s3.size (Nat.le_trans s4.size s5.size)), fun j hj hF => ?_, fun j hj => ?_⟩
    · have g1 : j < w1.heap.size := Nat.lt_of_lt_of_le hj s1.size
      have g3 : j < w3.heap.size := Nat.lt_of_lt_of_le g1 s3.size
      have g4 : j < w4.heap.size := Nat.lt_of_lt_of_le g3 s4.size
      rw [s5.block j g4 (fun e => hF (by rw [List.mem_singleton.1 e]; exact hft s List.mem_cons_self)), s4.block j g3 (by simp), s3.block j g1 (fun e => hF (hft j e)), s1.block j hj (fun e => hF (hbv j e))]
    · rcases List.mem_append.1 hj with g | g
      · exact .inr (Nat.le_trans s1.size (Nat.le_trans s3.size (hnew j (by simpa using g))))
      · exact hX j g
  refine ⟨rfl, _, ⟨X', v', ?_, ?_, rfl, fun j hj => ?_⟩, hS⟩
  · rw [seen_app]
    exact (h3.stays s4).setBv v'
  · rw [held_app]
    refine ho.other (stp_one w4 s 5 v') (fun k hk e => ?_)
    have h1 := hnew k hk
    have h2 := h3.lt
    rw [List.mem_singleton.1 e] at h1
    omega
  · rcases hS.foot j hj with g | g
    · exact hBF j g
    · exact Nat.le_trans hB g
set_option maxHeartbeats 2000000 in
set_option maxRecDepth 100000 in
theorem feed_run {W : World} {B s : Nat} {F : List Nat} {l : List UInt8} (h : Scn W B s F l) (hB : B ≤ W.heap.size) (a : Option Addr) (n cap : Nat) (b : List UInt8) (hb : Bts W a b) (hn : n = b.length) (ha : a = none → cap = 0) (hl : l.length + b.length ≤ 90000) (hT : Tb W B) :
    Calls Tryz.prog 9 #[.pointer (some ⟨s, 0, none⟩), .slice a n cap] W (Fed W B s F (l ++ b)) := by
  have hBF := fun j hj => (h.lt.2.2 j hj).2
  obtain ⟨X, bv, h1, h2, hF, _⟩ := h
  have hh : (held l).length ≤ 34 := fd_held _ _
  obtain ⟨T, hO, hTl⟩ := Oks.fd sn0 l 0 Oks.zero
  have c5 := h1.c5
  have hlt := h1.lt
  obtain ⟨ab, cb, rfl, _⟩ := h2.form
  have HE := Lib.hid (And.intro h1 (And.intro h2 (And.intro hF hBF)))
  have HO := Lib.hid (And.intro hO hTl)
  have HB := Lib.hid (And.intro hb (And.intro ha hT))
  have HN := Lib.hid hn
  clear h1 h2 hF hBF hO hTl hb ha hT hn
  go_enter Tryz.func9, Tryz.ntmps9
  go_wp2_with (at_builtin; go_loud (refine wpList_app rfl (.tmp 12) (.tmp 13) rfl 0 (.slice ab (held l).length cb) (held l) rfl HE.out.2.1 a cap n b HN.out rfl HB.out.1 HB.out.2.1 (by omega) (Nat.zero_le _) ?_; intro v5 w1 hown hgr))
  obtain ⟨a5, c5', rfl, hb5, h05, hc5, hm5, ht5⟩ := hown.form
  have s1 : Stp (Value.slice ab (held l).length cb).ownBlock.toList W [] w1 := ⟨hgr.os, hgr.tape, hgr.output, hgr.size, fun k hk hF => hgr.block k hk (fun e => hF (by rw [← e]; simp)), fun _ g => by cases g⟩
  have hx1 : Sx w1 s X (.slice ab (held l).length cb) (seen l) := HE.out.1.other s1 (fun j hj hF => by
    obtain ⟨C, hC⟩ := HE.out.2.1.typ j (by simpa using hF)
    exact (HE.out.1.foot_lt j hj).2 C hC)
  have H1 : Aside (FdS w1 s X (.slice ab (held l).length cb) (fd (seen l) (held l ++ b)) 99999 a5 (held l ++ b).length c5' w1) := by
    obtain ⟨hO, hTl⟩ := HO.out
    refine ⟨⟨held l ++ b, seen l, X, T, hb5, rfl, fun hne ad e => ?_, rfl, hx1, Stp.refl _ _, hO, ?_⟩, hc5, hm5⟩
    · exact (ht5 ad e).2
    · have : (held l).length = (fd sn0 l).h.length := rfl
      simp
      omega
  obtain ⟨M0, hM0⟩ : ∃ M0, M0 = (held l ++ b).length := ⟨_, rfl⟩
  have hbv : ∀ j ∈ (Value.slice ab (held l).length cb).ownBlock.toList, j ∈ F := fun j hj => by rw [HE.out.2.2.1]; exact List.mem_append_left _ hj
  have hft : ∀ j ∈ X.foot s, j ∈ F := fun j hj => by rw [HE.out.2.2.1]; exact List.mem_append_right _ hj
  have HTB : Aside (∀ W' F', Stp (X.foot s) w1 F' W' → Tabs W') := fun W' F' hs => HB.out.2.2 W' ((s1.below (fun j hj => HE.out.2.2.2 j (hbv j hj)) hB).trans (hs.below (fun j hj => HE.out.2.2.2 j (hft j hj)) (Nat.le_trans hB s1.size)))
  have HS1 := Lib.hid (And.intro s1 (And.intro hbv hft))
  rw [← hM0] at H1 ⊢
  have HM := Lib.hid hM0
  clear hb5 h05 hc5 hm5 ht5 hown hgr hM0 c5 s1 hbv hft hx1
  go_loopg [5] M0 (fun gk v5 wr => ∃ (a' : Option Addr) (n' c' : Nat), v5 = .slice a' n' c' ∧ n' ≤ gk ∧ Aside (FdS w1 s X (.slice ab (held l).length cb) (fd (seen l) (held l ++ b)) 99999 a' n' c' wr))
  case atStart => exact ⟨_, _, _, rfl, Nat.le_refl _, H1⟩
  case round =>
    obtain ⟨a', n', c', rfl, hg, HS⟩ := hrel
    by_cases hn0 : 0 < n'
    · have hz : (0 : Int) < (n' : Int) := by omega
      have hTb : Tabs wr := by
        obtain ⟨lr, S, X', T', _, _, _, _, _, g6, _⟩ := HS.out.ex
        exact HTB.out _ _ g6
      have KD := Lib.hid (HS.out.do hn0 (by omega) hTb)
      clear hTb
      go_wp2_with fail
      refine KD.out.mono ?_
      rintro _ w3 ⟨m, rfl, hm, ⟨rfl, hq⟩ | ⟨hm0, hq⟩⟩
      · have HQ := Lib.hid hq
        clear KD hq HS
        obtain ⟨X', q1, q2, q3, q4⟩ := HQ.out
        have KC := Lib.hid (clone_run a' n' c' _ w3 q1 q2 (by have := fd_held (seen l) (held l ++ b); omega))
        have HX := Lib.hid (And.intro q3 q4)
        clear q1 q2 q3 q4 HQ
        go_wp2_with fail
        refine KC.out.mono ?_
        rintro _ w4 ⟨v', rfl, ho, hnew, s4⟩
        obtain ⟨a9, c9, rfl, _⟩ := ho.form
        have hx4 := HX.out.1.stays s4
        have c5 := hx4.c5
        have f5 := hx4.fz 5
        have hl4 := hx4.lt
        have HF := Lib.hid (fed_of hB HE.out.2.2.2 HS1.out.1 HS1.out.2.1 HS1.out.2.2 HX.out.1 HX.out.2 ho hnew s4)
        clear KC ho hnew s4 hx4 HX
        go_wp2_with fail
        go_ret
        exact HF.out
      · have HQ : Aside (FdS w1 s X (.slice ab (held l).length cb) (fd (seen l) (held l ++ b)) 99999 (cutp a' m c') (n' - m) (c' - m) w3) := hq
        have e0 : ((m : Int) == 0) = false := beq_eq_false_iff_ne.2 (by omega)
        have hcl := cut_l a' n' c' m hm w3
        clear KD hq HS
        go_wp2_with fail
        go_roundg (n' - m)
        case measure => omega
        case rel => exact ⟨_, _, _, rfl, Nat.le_refl _, HQ⟩
    · have hz : ¬ (0 : Int) < (n' : Int) := by omega
      have hq : ∃ X', Bts wr a' (fd (seen l) (held l ++ b)).h ∧ n' = (fd (seen l) (held l ++ b)).h.length ∧ Sx wr s X' (.slice ab (held l).length cb) (fd (seen l) (held l ++ b)).S ∧ Stp (X.foot s) w1 (X'.foot s) wr := by
        obtain ⟨lr, S, X', T', g1, g2, g3, g4, g5, g6, _⟩ := HS.out.ex
        obtain rfl : lr = [] := List.length_eq_zero_iff.1 (by omega)
        rw [g4, fd_nil]
        exact ⟨X', g1, g2, g5, g6⟩
      have HQ := Lib.hid hq
      clear hq HS
      go_wp2_with fail
      obtain ⟨X', q1, q2, q3, q4⟩ := HQ.out
      have KC := Lib.hid (clone_run a' n' c' _ wr q1 q2 (by have := fd_held (seen l) (held l ++ b); omega))
      have HX := Lib.hid (And.intro q3 q4)
      clear q1 q2 q3 q4 HQ
      go_wp2_with fail
      refine KC.out.mono ?_
      rintro _ w4 ⟨v', rfl, ho, hnew, s4⟩
      obtain ⟨a9, c9, rfl, _⟩ := ho.form
      have hx4 := HX.out.1.stays s4
      have c5 := hx4.c5
      have f5 := hx4.fz 5
      have hl4 := hx4.lt
      have HF := Lib.hid (fed_of hB HE.out.2.2.2 HS1.out.1 HS1.out.2.1 HS1.out.2.2 HX.out.1 HX.out.2 ho hnew s4)
      clear KC ho hnew s4 hx4 HX
      go_wp2_with fail
      go_ret
      exact HF.out
end Go.Proofs.YtdaenaoagejgeaaGreatDoor
