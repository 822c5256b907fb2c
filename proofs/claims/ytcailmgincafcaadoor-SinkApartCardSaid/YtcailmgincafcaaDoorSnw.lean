/-
  The statements' helpers: a buffer with a text, the text that it has, the document's example; the sink that is new since a call.
-/
import Derived.Test.YtcailmgincafcaaDoorSnk
import Derived.Test.YtcailmgincafcaaDoorRefF
import Derived.Lib.SlBytesConst
namespace Go.Proofs.YtcailmgincafcaaDoor
open Go.RowKit Go.Lib
set_option linter.unusedVariables false

/-- The text that a buffer has. -/
def rt (l : List UInt8) : List UInt8 := if fiB l = true ∧ l.length ≤ 1024 then l else []
/-- Its characters. -/
def rc (l : List UInt8) : List Nat := if fiB l = true ∧ l.length ≤ 1024 then chs l else []
theorem fl_rc (l : List UInt8) : fl (rc l ++ []) = rt l := by
  unfold rc rt
  by_cases h : fiB l = true ∧ l.length ≤ 1024
  · rw [if_pos h, if_pos h, List.append_nil]
    exact ((fi_iff l).1 h.1).of.2
  · rw [if_neg h, if_neg h]
    rfl
theorem rt_le (l : List UInt8) : (rt l).length ≤ 1024 := by
  unfold rt
  split
  · exact (‹_ ∧ _›).2
  · simp
theorem ins_yes {l : List UInt8} (h : fiB l = true) (hl : l.length ≤ 1024) : insS 1024 l [] [] = ⟨0, rc l, []⟩ := by
  have hf := (fi_iff l).1 h
  rw [insS_yes hf]
  unfold layS rc
  rw [hf.of.2, if_pos (by simp [fl]; omega), if_pos ⟨h, hl⟩]
  rfl
theorem rc_no {l : List UInt8} (h : ¬ (fiB l = true ∧ l.length ≤ 1024)) : rc l = [] := if_neg h
theorem rt_no {l : List UInt8} (h : ¬ (fiB l = true ∧ l.length ≤ 1024)) : rt l = [] := if_neg h
theorem rt_yes {l : List UInt8} (h : fiB l = true ∧ l.length ≤ 1024) : rt l = l := if_pos h
theorem tabs_stays' {w w' : World} (hT : U.Tabs w) (hs : Stp [] w [] w') : U.Tabs w' := tabs_stays hT hs
theorem ins_new {w W : World} {e b g N : Nat} {A B : List Nat} (h : Eb w W e b g N A B) (hT : U.Tabs w) (p : Option Addr) (n c : Nat) (l : List UInt8) (hb : Bts w p l) (hn : n = l.length) (hcap : n ≤ c) (hm : c ≤ maxLen) :
    Calls Tryd.prog 21 #[.pointer (some ⟨e, 0, none⟩), .slice p n c] W fun en w' => en = .returned (.int .i64 (insS N l A B).e) ∧ Eb w w' e b g N (insS N l A B).A (insS N l A B).B :=
  (ins_run h.bu (tabs_stays hT h.stp) p n c l (hb.stays h.stp) hn hcap hm (fun hne ad e => by
    obtain ⟨bb, off, e2, hlt⟩ := hb.blk hne
    rw [e2] at e
    cases e
    have := h.new
    show bb ≠ g
    omega)).mono fun _ _ ⟨h1, h2, h3⟩ => ⟨h1, h.act h2 h3⟩
/-- What buffer answers. -/
def Buf0 (l : List UInt8) (W : World) (en : Ending) (w' : World) : Prop := ∃ e b g, en = .returned (.pointer (some ⟨e, 0, none⟩)) ∧ Eb W w' e b g 1024 (rc l) []
set_option maxHeartbeats 1000000 in
set_option maxRecDepth 100000 in
theorem buffer_run (p : Option Addr) (n c : Nat) (l : List UInt8) (w : World) (hb : Bts w p l) (hn : n = l.length) (hcap : n ≤ c) (hm : c ≤ maxLen) (hT : U.Tabs w) :
    Calls Tryd.prog 12 #[.slice p n c] w (Buf0 l w) := by
  have H := Lib.hid (And.intro hb (And.intro hn (And.intro hcap (And.intro hm hT))))
  have K1 : Calls Tryd.prog 18 #[.int .i64 1024] w (Newed w 1024) := new_run 1024 w (by omega) (by omega)
  have K1 := Lib.hid K1
  have HL := Lib.hid hn
  clear hb hcap hm hT hn
  go_enter Tryd.func12, Tryd.ntmps12
  go_wp2_with fail
  refine K1.out.mono ?_
  rintro _ w1 ⟨b, g, rfl, h1, h2, ha, s1⟩
  have K2 := Lib.hid (enew_run ha)
  have H1 := Lib.hid (And.intro h1 (And.intro h2 s1))
  clear K1 h1 h2 ha s1
  go_wp2_with fail
  refine K2.out.mono ?_
  rintro _ w2 ⟨e, rfl, he, hbu, s2⟩
  have HE : Aside (Eb w w2 e b g 1024 [] []) := ⟨hbu, (H1.out.2.2.trans s2).none, by have := H1.out.2.2.size; omega, H1.out.1, H1.out.2.1⟩
  have KF := Lib.hid (rfine_run p n c l w2 (H.out.1.stays HE.out.stp) HL.out H.out.2.2.1 H.out.2.2.2.1)
  clear K2 he hbu s2 H1
  cases hf : fiB l with
  | false =>
    rw [hf] at KF
    go_wp2_with fail
    refine KF.out.mono ?_
    rintro _ w3 ⟨rfl, s3⟩
    have H3 := Lib.hid s3
    clear s3 KF
    go_wp2
    go_ret
    refine ⟨e, b, g, rfl, ?_⟩
    rw [rc_no (fun h => by rw [hf] at h; cases h.1)]
    exact HE.out.stays H3.out
  | true =>
    rw [hf] at KF
    go_wp2_with fail
    refine KF.out.mono ?_
    rintro _ w3 ⟨rfl, s3⟩
    have H3 : Aside (Eb w w3 e b g 1024 [] []) := HE.out.stays s3
    clear s3 KF HE
    by_cases hle : n ≤ 1024
    · have hlz : (n : Int) ≤ 1024 := by omega
      have KI := ins_new H3.out H.out.2.2.2.2 p n c l H.out.1 H.out.2.1 H.out.2.2.1 H.out.2.2.2.1
      rw [ins_yes hf (by rw [← HL.out]; exact hle)] at KI
      have KI := Lib.hid KI
      clear hf
      go_wp2_with fail
      refine KI.out.mono ?_
      rintro _ w4 ⟨rfl, h4⟩
      have H4 := Lib.hid h4
      clear h4 KI
      go_wp2
      go_ret
      exact ⟨e, b, g, rfl, H4.out⟩
    · have hlz : ¬ (n : Int) ≤ 1024 := by omega
      go_wp2
      go_ret
      refine ⟨e, b, g, rfl, ?_⟩
      rw [rc_no (fun h => by have := HL.out; omega)]
      exact H3.out
/-- What right answers: the bytes themselves, or none. -/
def Rgt (p : Option Addr) (c : Nat) (l : List UInt8) (w : World) (en : Ending) (w' : World) : Prop :=
  ∃ p' c', en = .returned (.slice p' (rt l).length c') ∧ Bts w' p' (rt l) ∧ (rt l).length ≤ c' ∧ c' ≤ maxLen ∧ ((p = none → c = 0) → p' = none → c' = 0) ∧ Stp [] w [] w' ∧ (p' = p ∨ p' = none)
set_option maxHeartbeats 1000000 in
set_option maxRecDepth 100000 in
theorem right_run (p : Option Addr) (n c : Nat) (l : List UInt8) (w : World) (hb : Bts w p l) (hn : n = l.length) (hcap : n ≤ c) (hm : c ≤ maxLen) :
    Calls Tryd.prog 14 #[.slice p n c] w (Rgt p c l w) := by
  have KF := Lib.hid (rfine_run p n c l w hb hn hcap hm)
  have H := Lib.hid (And.intro hb (And.intro hn (And.intro hcap hm)))
  have HL := Lib.hid hn
  clear hb hcap hm hn
  cases hf : fiB l with
  | false =>
    rw [hf] at KF
    go_enter Tryd.func14, Tryd.ntmps14
    go_wp2_with fail
    refine KF.out.mono ?_
    rintro _ w3 ⟨rfl, s3⟩
    have H3 := Lib.hid s3
    clear s3 KF
    go_wp2
    go_ret
    have e0 : rt l = [] := rt_no (fun h => by rw [hf] at h; cases h.1)
    unfold Rgt
    rw [e0]
    exact ⟨none, 0, rfl, Bts.nil _ _, Nat.le_refl _, Nat.zero_le _, fun _ _ => rfl, H3.out, .inr rfl⟩
  | true =>
    rw [hf] at KF
    by_cases hle : n ≤ 1024
    · have hlz : (n : Int) ≤ 1024 := by omega
      go_enter Tryd.func14, Tryd.ntmps14
      go_wp2_with fail
      refine KF.out.mono ?_
      rintro _ w3 ⟨rfl, s3⟩
      have H3 := Lib.hid s3
      clear s3 KF
      go_wp2
      go_ret
      unfold Rgt
      rw [rt_yes ⟨hf, by rw [← HL.out]; exact hle⟩, ← HL.out]
      exact ⟨p, c, rfl, H.out.1.stays H3.out, H.out.2.2.1, H.out.2.2.2, fun h => h, H3.out, .inl rfl⟩
    · have hlz : ¬ (n : Int) ≤ 1024 := by omega
      go_enter Tryd.func14, Tryd.ntmps14
      go_wp2_with fail
      refine KF.out.mono ?_
      rintro _ w3 ⟨rfl, s3⟩
      have H3 := Lib.hid s3
      clear s3 KF
      go_wp2
      go_ret
      unfold Rgt
      rw [rt_no (fun h => by have := HL.out; omega)]
      exact ⟨none, 0, rfl, Bts.nil _ _, Nat.le_refl _, Nat.zero_le _, fun _ _ => rfl, H3.out, .inr rfl⟩

/-! ### The sink that is new since a call -/
structure Sn (w W : World) (s k n x : Nat) (gv : Bool) (T : List UInt8) : Prop where
  sk : Sk W s k n x gv T
  stp : Stp [] w [] W
  new : w.heap.size ≤ s ∧ w.heap.size ≤ k
/-- What Deliver answers, and leaves. -/
structure Rd where
  k : Nat
  e : Nat
  x : Nat
  gv : Bool
  T : List UInt8
def dvS (n x : Nat) (gv : Bool) (T l : List UInt8) : Rd := if gv = true then ⟨0, 11, x, gv, T⟩ else if n < l.length then ⟨0, 12, x, gv, T⟩ else ⟨l.length, 0, l.length, true, lay T 0 l⟩
section
variable {w W W' : World} {s k n x : Nat} {gv : Bool} {T : List UInt8}
theorem Sn.stays {F : List Nat} (h : Sn w W s k n x gv T) (hs : Stp [] W F W') : Sn w W' s k n x gv T := ⟨h.sk.stays hs, h.stp.trans hs.none, h.new⟩
theorem Sn.act {x' : Nat} {gv' : Bool} {T' : List UInt8} (h : Sn w W s k n x gv T) (hk : Sk W' s k n x' gv' T') (hs : Stp [s, k] W [s, k] W') : Sn w W' s k n x' gv' T' :=
  ⟨hk, (h.stp.fresh hs (fun i hi => by have := h.new; simp at hi; omega)).none, h.new⟩
/-- A secret is delivered, or refused. -/
def Dlv (w W : World) (s k n : Nat) (r : Rd) (en : Ending) (w' : World) : Prop := en = .returned (.tuple #[.int .i64 (r.k : Int), .int .i64 (r.e : Int)]) ∧ Sn w w' s k n r.x r.gv r.T ∧ Stp [s, k] W [s, k] w'
theorem deliver_run {e b g : Nat} {l : List UInt8} (h : Sn w W s k n x gv T) (hb : Bu W e b g 1024 (rc l) []) (hk : k ≠ g) :
    Calls Tryd.prog 11 #[.pointer (some ⟨s, 0, none⟩), .pointer (some ⟨e, 0, none⟩)] W (Dlv w W s k n (dvS n x gv T (rt l))) := by
  unfold dvS
  cases gv with
  | true =>
    rw [if_pos rfl]
    refine (dl_given h.sk e).mono ?_
    rintro _ _ ⟨rfl, rfl⟩
    exact ⟨rfl, h, Stp.refl _ _⟩
  | false =>
    rw [if_neg (by simp), ← fl_rc l]
    by_cases hlt : n < (fl (rc l ++ [])).length
    · rw [if_pos hlt]
      refine (dl_small h.sk hb hlt).mono ?_
      rintro _ _ ⟨rfl, hs⟩
      exact ⟨rfl, h.stays hs, (hs.more (fun k hk => by cases hk))⟩
    · rw [if_neg hlt]
      refine (dl_ok h.sk hb (by omega) hk).mono ?_
      rintro _ _ ⟨rfl, h2, h3⟩
      exact ⟨rfl, h.act h2 h3, h3⟩
/-- The same, of a buffer that was made behind the sink. -/
theorem deliver_new {e b g : Nat} {l : List UInt8} (h : Sn w W s k n x gv T) (hb : Eb W W' e b g 1024 (rc l) []) :
    Calls Tryd.prog 11 #[.pointer (some ⟨s, 0, none⟩), .pointer (some ⟨e, 0, none⟩)] W' (Dlv w W' s k n (dvS n x gv T (rt l))) :=
  deliver_run (h.stays hb.stp) hb.bu (by have := h.sk.dst.lt; have := hb.new; omega)
theorem new_new {cap : Nat} (hD : Dst W k T) (hs : Stp [] w [] W) (hk : w.heap.size ≤ k) (hn : n ≤ T.length) (hc : n ≤ cap) : Calls Tryd.prog 9 #[.slice (some ⟨k, 0, none⟩) n cap] W
    fun en w' => ∃ s, en = .returned (.pointer (some ⟨s, 0, none⟩)) ∧ Sn w w' s k n 0 false T ∧ Stp [] W [] w' := by
  refine (snew_run hD hn hc).mono ?_
  rintro _ w' ⟨s, rfl, h1, h2, h3⟩
  exact ⟨s, rfl, ⟨h2, hs.trans h3, by have := hs.size; omega, hk⟩, h3⟩
end

/-! ### Bytes of the caller's own -/
theorem dst_const (w : World) (L : List UInt8) (m : Nat) (hm : L.length ≤ m) : Dst (w.alloc (.cells (L.map bval).toArray 5 (m, m + 1))) w.heap.size L := by
  have hg := heap_alloc_new w (.cells (L.map bval).toArray 5 (m, m + 1))
  have hz : w.heap.size < (w.alloc (.cells (L.map bval).toArray 5 (m, m + 1))).heap.size := by simp
  generalize w.alloc (.cells (L.map bval).toArray 5 (m, m + 1)) = W at *
  refine ⟨hz, fun i hi => ?_, fun i hi => ?_⟩
  · rw [cell_of_row _ _ i _ _ _ hg, getElem!_pos L i hi]
    simp [hi]
  · simp [World.frozen?, hg]
    omega
theorem wpList_own {w : World} {ops : Array Oper} {rest : List Oper} {o : Oper} {a : Act} {Q : Exit → Act → World → Prop} (hgd : o.guard = none) (s x : Operand)
    (ho : o.op = .call { callee := .builtin .append, args := #[s, x], argTypes := #[22, 22] }) (hs : a.eval s = .slice (some ⟨w.heap.size, 0, none⟩) 0 0)
    (A : Option Addr) (c n : Nat) (l : List UInt8) (hn : n = l.length) (hx : a.eval x = .slice A n c) (hl : Bts w A l) (hA : A = none → c = 0) (h63 : l.length ≤ 1000000)
    (h : ∀ k cap w', w.heap.size ≤ k → n ≤ cap → Dst w' k l → Stp [] w [] w' → wpList Tryd.prog ops Q rest (a.put o.dst (.slice (some ⟨k, 0, none⟩) n cap)) w') : wpList Tryd.prog ops Q (o :: rest) a (w.alloc (.cells #[] 5)) := by
  subst hn
  have hown := Own.new w
  have hs0 := Stp.alloc [] w (.cells #[] 5)
  refine wpList_plain hgd fun K hK => ?_
  obtain ⟨v', w', hrun, h2, h3, h4⟩ := run_app o.type hown (hl.stays hs0) hA (by simp; omega) (by simp)
  have hob : ∃ k, v'.ownBlock = some k := by
    rcases h4 with e | e
    · exact ⟨_, e⟩
    · exact ⟨_, e⟩
  obtain ⟨k, hk⟩ := hob
  obtain ⟨cap, rfl, hk1, hcap, hD⟩ := h2.dst hk
  rw [List.nil_append] at hD hcap
  unfold Oper.wp execOp
  simp only [ho, resolve, invoke, builtin, Sem.run_bind, Sem.run_pure, Result.andThen_ok, List.map_toArray, List.map_cons, List.map_nil, hs, hx, hrun]
  exact hK _ _ (h k cap w' hk1 hcap hD (hs0.app h3 (fun q hq => by cases hq; exact Nat.le_refl _)))

/-! ### The example -/
theorem fi_abc : fiB [97, 98, 99] = true := (fi_iff _).2 ⟨[97, 98, 99], fun c hc => by
  simp only [List.mem_cons, List.not_mem_nil, or_false] at hc
  rcases hc with rfl | rfl | rfl <;> decide, by decide⟩
theorem fi_six : fiB [97, 98, 99, 100, 101, 102] = true := (fi_iff _).2 ⟨[97, 98, 99, 100, 101, 102], fun c hc => by
  simp only [List.mem_cons, List.not_mem_nil, or_false] at hc
  rcases hc with rfl | rfl | rfl | rfl | rfl | rfl <;> decide, by decide⟩
theorem rt_abc : rt [97, 98, 99] = [97, 98, 99] := rt_yes ⟨fi_abc, by decide⟩
theorem rt_six : rt [97, 98, 99, 100, 101, 102] = [97, 98, 99, 100, 101, 102] := rt_yes ⟨fi_six, by decide⟩
theorem buf_const (w W : World) (L : List UInt8) (m : Nat) (hm : L.length = m) (h2 : m ≤ 1000) (hT : U.Tabs w) (hs : Stp [] w [] W) :
    Calls Tryd.prog 12 #[.slice (some ⟨W.heap.size, 0, none⟩) m m] (W.alloc (.cells (L.map bval).toArray 5 (m, m + 1))) (fun en w' => ∃ e b g, en = .returned (.pointer (some ⟨e, 0, none⟩)) ∧ Eb W w' e b g 1024 (rc L) []) := by
  have hs0 : Stp [] W [] (W.alloc (.cells (L.map bval).toArray 5 (m, m + 1))) := Stp.alloc [] W _
  refine (buffer_run _ m m L _ (dst_const W L m (by omega)).bts hm.symm (Nat.le_refl _) (by unfold maxLen; omega) (tabs_stays hT (hs.trans hs0))).mono ?_
  rintro _ w' ⟨e, b, g, rfl, h⟩
  exact ⟨e, b, g, rfl, h.bu, hs0.trans h.stp, by have := h.new; have := hs0.size; omega⟩
set_option maxHeartbeats 1000000 in
set_option maxRecDepth 100000 in
theorem alive_run (w : World) (hT : U.Tabs w) : Calls Tryd.prog 8 #[] w (Tells (.bool true) w) := by
  have HT := Lib.hid hT
  clear hT
  have hc0 := Go.Lib.run_convert_bytes_const (P := Tryd.prog) w 22 5 #[.int .u8 49, .int .u8 50, .int .u8 51, .int .u8 52, .int .u8 53] 5 5 Tryd.underlying22 Tryd.underlying5
  have KN := Lib.hid (new_new (w := w) (cap := 5) (n := 5) (dst_const w [49, 50, 51, 52, 53] 5 (by decide)) (Stp.alloc [] w _) (Nat.le_refl _) (by decide) (by decide))
  go_enter Tryd.func8, Tryd.ntmps8
  go_wp2_with fail
  refine KN.out.mono ?_
  rintro _ w1 ⟨s, rfl, h1, s1⟩
  have H1 := Lib.hid h1
  clear h1 s1 KN hc0
  generalize w.heap.size = k at *
  have hc1 := Go.Lib.run_convert_bytes_const (P := Tryd.prog) w1 22 5 #[.int .u8 97, .int .u8 98, .int .u8 99] 3 3 Tryd.underlying22 Tryd.underlying5
  have KB := Lib.hid (buf_const w w1 [97, 98, 99] 3 rfl (by omega) HT.out H1.out.stp)
  go_wp2_with fail
  refine KB.out.mono ?_
  rintro _ w2 ⟨e, b, g, rfl, h2⟩
  have H2 := Lib.hid (And.intro h2 (H1.out.stays h2.stp))
  clear h2 KB hc1
  have hc2 := Go.Lib.run_convert_bytes_const (P := Tryd.prog) w2 22 5 #[.int .u8 97, .int .u8 98, .int .u8 99, .int .u8 100, .int .u8 101, .int .u8 102] 6 6 Tryd.underlying22 Tryd.underlying5
  have KC := Lib.hid (buf_const w w2 [97, 98, 99, 100, 101, 102] 6 rfl (by omega) HT.out H2.out.2.stp)
  go_wp2_with fail
  refine KC.out.mono ?_
  rintro _ w3 ⟨e3, b3, g3, rfl, h3⟩
  have KD := deliver_new H2.out.2 h3
  have hD : dvS 5 0 false [49, 50, 51, 52, 53] [97, 98, 99, 100, 101, 102] = ⟨0, 12, 0, false, [49, 50, 51, 52, 53]⟩ := rfl
  rw [rt_six, hD] at KD
  have HB : Aside (Bu w3 e b g 1024 (rc [97, 98, 99]) [] ∧ e ≠ s ∧ e ≠ k ∧ b ≠ s ∧ b ≠ k ∧ g ≠ s ∧ g ≠ k) := by
    have i1 := H1.out.sk.lt
    have i2 := H1.out.sk.dst.lt
    have i3 := H2.out.1.new
    exact ⟨H2.out.1.bu.stays h3.stp, by omega, by omega, by omega, by omega, by omega, by omega⟩
  have KD := Lib.hid KD
  clear h3 KC hc2 hD
  go_wp2_with fail
  refine KD.out.mono ?_
  rintro _ w4 ⟨rfl, h4, s4⟩
  have hb4 := HB.out.1.other s4 (by have := HB.out; simp; omega) (by have := HB.out; simp; omega) (by have := HB.out; simp; omega)
  have KE := deliver_run h4 hb4 (by have := HB.out; omega)
  have hD : dvS 5 0 false [49, 50, 51, 52, 53] [97, 98, 99] = ⟨3, 0, 3, true, [97, 98, 99, 52, 53]⟩ := rfl
  rw [rt_abc, hD] at KE
  have KE := Lib.hid KE
  clear h4 s4 hb4 KD hD
  go_wp2_with fail
  refine KE.out.mono ?_
  rintro _ w5 ⟨rfl, h5, s5⟩
  have hv := conv_bts 5 5 h5.sk.dst.bts rfl
  have e1 : ((st [97, 98, 99, 52, 53]).toList == [97, 98, 99, 52, 53]) = true := by rw [st_toList]; rfl
  have H5 := Lib.hid h5.stp
  clear h5 s5 KE
  go_wp2
  go_ret
  exact ⟨rfl, H5.out⟩
end Go.Proofs.YtcailmgincafcaaDoor
