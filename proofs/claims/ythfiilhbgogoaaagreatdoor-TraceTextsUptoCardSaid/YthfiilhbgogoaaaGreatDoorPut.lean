/-
  What the fields put into a line: the four closures 'put', each of which takes off the effect what it tells.
-/
import Derived.Test.YthfiilhbgogoaaaGreatDoorEr
import Derived.Deep.RegionLaw
namespace Go.Proofs.YthfiilhbgogoaaaGreatDoor
open Go.RowKit Go.Lib
set_option linter.unusedVariables false

/-- An effect in a block of its own. -/
structure XAt (W : World) (g : Nat) (x : Ev) : Prop where
  at7 : EAt W g x.k x.f x.m x.t (.slice x.a x.l.length x.c) x.n x.ok
  ed : Ed W x
  ap : x.l ≠ [] → ∀ ad, x.a = some ad → ad.block ≠ g
theorem XAt.stays {W W' : World} {F : List Nat} {g : Nat} {x : Ev} (h : XAt W g x) (hs : Stp [] W F W') : XAt W' g x := ⟨h.at7.other hs (by simp), h.ed.stays hs, h.ap⟩
theorem Ed.own {w w' : World} {g : Nat} {x : Ev} (h : Ed w x) (ha : x.l ≠ [] → ∀ ad, x.a = some ad → ad.block ≠ g) (hs : Stp [g] w [g] w') : Ed w' x := ⟨h.1.other hs (fun hl ad e => by simpa using ha hl ad e), h.2⟩
def hexd (n : Nat) : UInt8 := dch n
/-- The text of bytes. -/
def hext (l : List UInt8) : List UInt8 := if l = [] then [45] else l.flatMap fun c => [hexd (c.toNat / 16), hexd (c.toNat % 16)]
/-- What a field puts. -/
def wt : FK → Ev → List UInt8
  | .ok, x => if x.ok then [111, 107] else [102, 97, 105, 108]
  | .attrs, x => text x.f x.m x.t
  | .data, x => hext x.l
  | .num, x => dig 10 x.n.toNat
/-- And the effect without it. -/
def off : FK → Ev → Ev
  | .ok, x => { x with ok := false }
  | .attrs, x => { x with f := 0, m := 0, t := 0 }
  | .data, x => { x with a := none, c := 0, l := [] }
  | .num, x => { x with n := 0 }
def Putd (k : FK) (x : Ev) (g : Nat) (W : World) (e : Ending) (w' : World) : Prop := e = .returned (.string (st (wt k x))) ∧ XAt w' g (off k x) ∧ Stp [g] W [g] w'
set_option maxHeartbeats 1000000 in
set_option maxRecDepth 100000 in
theorem okp_run (x : Ev) (W : World) (g : Nat) (hx : XAt W g x) : Calls Tryz.prog 45 #[.pointer (some ⟨g, 0, none⟩)] W (Putd .ok x g W) := by
  have c6 := hx.at7.c6
  have z6 := hx.at7.fz 6
  have HH : Aside (XAt (W.setCell ⟨g, 6, none⟩ (.bool false)) g (off .ok x)) := ⟨hx.at7.setO false, hx.ed.own hx.ap (stp_one _ _ _ _), hx.ap⟩
  have HV : Aside (wt .ok x = if x.ok then [111, 107] else [102, 97, 105, 108]) := rfl
  clear hx
  cases hk : x.ok
  · rw [hk] at c6 HV
    clear hk
    go_enter Tryz.func45, Tryz.ntmps45
    go_wp2
    go_ret
    exact ⟨by rw [HV.out]; rfl, HH.out, stp_one _ _ _ _⟩
  · rw [hk] at c6 HV
    clear hk
    go_enter Tryz.func45, Tryz.ntmps45
    go_wp2
    go_ret
    exact ⟨by rw [HV.out]; rfl, HH.out, stp_one _ _ _ _⟩
set_option maxHeartbeats 1000000 in
set_option maxRecDepth 100000 in
theorem atp_run (x : Ev) (ho : Ok x.f x.m x.t) (W : World) (hT : Tabs W) (g : Nat) (hx : XAt W g x) : Calls Tryz.prog 47 #[.pointer (some ⟨g, 0, none⟩)] W (Putd .attrs x g W) := by
  have K : Hid (Calls Tryz.prog 48 #[.agg #[.int .u32 (x.f : Int), .int .u8 (x.m : Int), .int .u8 (x.t : Int)]] W (Tells (.string (st (text x.f x.m x.t))) W)) := Lib.hid (text_run ho W hT)
  have HX : Aside (XAt W g x) := hx
  have c1 := hx.at7.c1
  have c2 := hx.at7.c2
  have c3 := hx.at7.c3
  clear hT ho hx
  go_enter Tryz.func47, Tryz.ntmps47
  go_wp2_with fail
  refine K.out.mono ?_
  rintro _ w1 ⟨rfl, h1⟩
  have X1 := HX.out.stays h1
  have d1 := X1.at7.c1
  have d2 := X1.at7.c2
  have d3 := X1.at7.c3
  have z1 := X1.at7.fz 1
  have z2 := X1.at7.fz 2
  have z3 := X1.at7.fz 3
  have s3 : Stp [g] w1 [g] (((w1.setCell ⟨g, 1, none⟩ (.int .u32 0)).setCell ⟨g, 2, none⟩ (.int .u8 0)).setCell ⟨g, 3, none⟩ (.int .u8 0)) := ((stp_one _ _ _ _).trans (stp_one _ _ _ _)).trans (stp_one _ _ _ _)
  have HH : Aside (XAt (((w1.setCell ⟨g, 1, none⟩ (.int .u32 0)).setCell ⟨g, 2, none⟩ (.int .u8 0)).setCell ⟨g, 3, none⟩ (.int .u8 0)) g (off .attrs x) ∧ Stp [g] W [g] (((w1.setCell ⟨g, 1, none⟩ (.int .u32 0)).setCell ⟨g, 2, none⟩ (.int .u8 0)).setCell ⟨g, 3, none⟩ (.int .u8 0))) := ⟨⟨X1.at7.setA 0 0 0, X1.ed.own X1.ap s3, X1.ap⟩, stp_then h1 s3⟩
  clear X1 HX K h1 s3 c1 c2 c3
  go_wp2
  go_ret
  exact ⟨rfl, HH.out.1, HH.out.2⟩
set_option maxHeartbeats 1000000 in
set_option maxRecDepth 100000 in
theorem nup_run (x : Ev) (hn : 0 ≤ x.n) (hm : x.n ≤ 9223372036854775807) (W : World) (hT : Tabs W) (g : Nat) (hx : XAt W g x) : Calls Tryz.prog 55 #[.pointer (some ⟨g, 0, none⟩)] W (Putd .num x g W) := by
  have K : Hid (Calls Tryz.prog 56 #[.int .i64 x.n] W (Tells (.string (st (dig 10 x.n.toNat))) W)) := Lib.hid (by
    have := itoa_big x.n.toNat (by omega) W hT.pow
    rw [show ((x.n.toNat : Nat) : Int) = x.n by omega] at this
    exact this)
  have HX : Aside (XAt W g x) := hx
  have c5 := hx.at7.c5
  clear hT hx hn hm
  go_enter Tryz.func55, Tryz.ntmps55
  go_wp2_with fail
  refine K.out.mono ?_
  rintro _ w1 ⟨rfl, h1⟩
  have X1 := HX.out.stays h1
  have d5 := X1.at7.c5
  have z5 := X1.at7.fz 5
  have HH : Aside (XAt (w1.setCell ⟨g, 5, none⟩ (.int .i64 0)) g (off .num x) ∧ Stp [g] W [g] (w1.setCell ⟨g, 5, none⟩ (.int .i64 0))) := ⟨⟨X1.at7.setN 0, X1.ed.own X1.ap (stp_one _ _ _ _), X1.ap⟩, stp_then h1 (stp_one _ _ _ _)⟩
  clear X1 HX K h1 c5
  go_wp2
  go_ret
  exact ⟨rfl, HH.out.1, HH.out.2⟩
theorem make0 (w : World) (n : Nat) (hn : n ≤ 1000000) :
    (Instr.makeSlice 35 (.int .i64 0) (.int .i64 (n : Int))).run Tryz.prog w = .ok (.slice (some ⟨w.heap.size, 0, none⟩) 0 n) (w.alloc (.cells ((List.replicate n (0 : UInt8)).map bval).toArray 5)) := by
  obtain ⟨i0, hi0, hz0, hz1, hz2⟩ := info_parts byte_info
  have hr := run_make (P := Tryz.prog) w 35 5 i0 _ Tryz.underlying35 hi0 hz0 .i64 .i64 (0 : Nat) n (by omega) (by omega) (by rw [hz2]; omega) (by omega)
  have e0 : ((0 : Nat) : Int) = 0 := rfl
  rw [e0] at hr
  rw [hr]
  simp only [Int.toNat_natCast, hz1, Nat.mul_one, Int.toNat_zero]
  refine congrArg (fun C => Result.ok (Value.slice (some ⟨w.heap.size, 0, none⟩) 0 n) (w.alloc (Obj.cells C 5))) ?_
  apply Array.ext
  · simp [madeCells]
  · intro i h1 h2
    simp [madeCells, Value.cells, bval, Nat.mod_one]
theorem Own.made0 (w : World) (n : Nat) (hn : n ≤ 1000000) : Own (w.alloc (.cells ((List.replicate n (0 : UInt8)).map bval).toArray 5)) w.heap.size (.slice (some ⟨w.heap.size, 0, none⟩) 0 n) [] :=
  ⟨by simp, .inr ⟨w.heap.size, n, _, rfl, Nat.le_refl _, heap_alloc_new w _, by simp, by unfold maxLen; omega, by simp, by simp⟩⟩
theorem step_app {w : World} {ops : Array Oper} {o : Oper} {a : Act} {K : Act → World → Prop} {Q : Exit → Act → World → Prop} {E : Prop} (hgd : o.guard = none) (s x : Operand)
    (ho : o.op = .call { callee := .builtin .append, args := #[s, x], argTypes := #[35, 35] }) (base : Nat) (v : Value) (xs : List UInt8) (hs : a.eval s = v) (hown : Own w base v xs)
    (A : Option Addr) (c n : Nat) (l : List UInt8) (hn : n = l.length) (hx : a.eval x = .slice A n c) (hl : Bts w A l) (hA : A = none → c = 0) (h63 : xs.length + l.length ≤ 1000000) (hbase : base ≤ w.heap.size)
    (h : ∀ v' w', Own w' base v' (xs ++ l) → w.grownBy w' v.ownBlock → K (a.put o.dst v') w') :
    if Region.wanted o (yielded ops a.tmps) = true then Oper.wp Tryz.prog o a w K Q else E := by
  have hw : Region.wanted o (yielded ops a.tmps) = true := by simp [Region.wanted, hgd]
  rw [if_pos hw]
  subst hn
  obtain ⟨v', w', hrun, h2, h3, h4⟩ := run_app o.type hown hl hA h63 hbase
  unfold Oper.wp execOp
  simp only [ho, resolve, invoke, builtin, Sem.run_bind, Sem.run_pure, Result.andThen_ok, List.map_toArray, List.map_cons, List.map_nil, hs, hx, hrun]
  exact h v' w' h2 h3
def D16s : ByteArray := ⟨#[48, 49, 50, 51, 52, 53, 54, 55, 56, 57, 97, 98, 99, 100, 101, 102]⟩
theorem d16sa : ∀ d : Nat, d < 16 → D16s.data.toList[d]? = some (dch d) := by decide +kernel
theorem d16s (d : Nat) (hd : d < 16) : ∃ h : d < D16s.size, D16s[d]'h = dch d := by
  obtain ⟨h, e⟩ := List.getElem?_eq_some_iff.1 (d16sa d hd)
  have h' : d < D16s.size := Nat.lt_of_lt_of_le hd (by decide)
  refine ⟨h', ?_⟩
  rw [← e]
  rfl
theorem digit8 (d : Nat) (hd : d < 16) (w : World) : (Instr.index 9 (.string D16s) (.int .u8 (d : Int))).run Tryz.prog w = .ok (.int .u8 ((dch d).toNat : Int)) w := by
  obtain ⟨h, e⟩ := d16s d hd
  rw [run_index_string w 9 D16s .u8 d Tryz.underlying9, dif_pos ⟨by omega, by omega⟩]
  simp only [Int.toNat_natCast, e]
theorem and15b : ∀ c : Nat, c < 256 → bits BinOp.and IntKind.u8 (c : Int) 15 = ((c % 16 : Nat) : Int) := by decide +kernel
def hexs (l : List UInt8) : List UInt8 := l.flatMap fun c => [hexd (c.toNat / 16), hexd (c.toNat % 16)]
theorem hexs_snoc (l : List UInt8) (i : Nat) (h : i < l.length) : hexs (l.take (i + 1)) = hexs (l.take i) ++ [hexd ((l[i]!).toNat / 16), hexd ((l[i]!).toNat % 16)] := by
  have e : ∀ A B : List UInt8, hexs (A ++ B) = hexs A ++ hexs B := fun A B => by simp [hexs]
  rw [List.take_succ_eq_append_getElem h, getElem!_pos l i h, e]
  rfl
theorem hexs_len (l : List UInt8) : (hexs l).length = 2 * l.length := by
  induction l with
  | nil => rfl
  | cons c l ih =>
    have e : hexs (c :: l) = hexd (c.toNat / 16) :: hexd (c.toNat % 16) :: hexs l := rfl
    rw [e]
    simp [ih]
    omega
set_option maxHeartbeats 1000000 in
set_option maxRecDepth 100000 in
theorem btext_run (a : Option Addr) (cap : Nat) (l : List UInt8) (hl : l.length ≤ 100000) (w : World) (h : Bts w a l) : Calls Tryz.prog 52 #[.slice a l.length cap] w (Tells (.string (st (hext l))) w) := by
  by_cases h0 : l = []
  · subst h0
    clear h
    go_enter Tryz.func52, Tryz.ntmps52
    go_wp2
    go_ret
    exact ⟨rfl, Stp.refl _ _⟩
  have hp : 0 < l.length := List.length_pos_iff.2 h0
  have hz : ¬ (l.length : Int) = 0 := by omega
  have hzb : ((l.length : Int) == 0) = false := beq_eq_false_iff_ne.2 hz
  have hmk : (Instr.makeSlice 35 (.int .i64 0) (.int .i64 (2 * (l.length : Int)))).run Tryz.prog w = .ok (.slice (some ⟨w.heap.size, 0, none⟩) 0 (2 * l.length)) (w.alloc (.cells ((List.replicate (2 * l.length) (0 : UInt8)).map bval).toArray 5)) := make0 w (2 * l.length) (by omega)
  have H0 : Aside (Own (w.alloc (.cells ((List.replicate (2 * l.length) (0 : UInt8)).map bval).toArray 5)) w.heap.size (.slice (some ⟨w.heap.size, 0, none⟩) 0 (2 * l.length)) [] ∧ Stp [] w [] (w.alloc (.cells ((List.replicate (2 * l.length) (0 : UInt8)).map bval).toArray 5)) ∧ Bts w a l ∧ hext l = hexs l) := ⟨Own.made0 w _ (by omega), Stp.alloc _ _ _, h, by unfold hext hexs; rw [if_neg h0]⟩
  generalize w.alloc (.cells ((List.replicate (2 * l.length) (0 : UInt8)).map bval).toArray 5) = w0 at *
  clear h h0
  go_enter Tryz.func52, Tryz.ntmps52
  go_wp2
  go_loopg [3, 15] l.length (fun gk v3 v15 wr => ∃ i : Nat, v15 = .int .i64 (i : Int) ∧ i ≤ l.length ∧ l.length - i ≤ gk ∧ Aside (Own wr w.heap.size v3 (hexs (l.take i)) ∧ Stp [] w [] wr))
  case atStart => exact ⟨0, rfl, by omega, by omega, H0.out.1, H0.out.2.1⟩
  case round =>
    obtain ⟨i, rfl, hi, hg, HS⟩ := hrel
    obtain ⟨a3, c3, hv3, _, _, _, _⟩ := HS.out.1.bts
    subst hv3
    by_cases hlt : i < l.length
    · have hltz : (i : Int) < (l.length : Int) := by omega
      obtain ⟨b2, o2, ha2, hc2⟩ := H0.out.2.2.1.at hlt
      subst ha2
      have e0 := HS.out.2.keepsAny hc2
      unfold bval at e0
      have hsn := hexs_snoc l i hlt
      generalize hcc : (l[i]!).toNat = cv at e0 hsn
      have hcv : cv < 256 := by rw [← hcc]; exact UInt8.toNat_lt _
      clear hcc hc2
      have d1 : ∀ W, (Instr.index 9 (.string ⟨#[48, 49, 50, 51, 52, 53, 54, 55, 56, 57, 97, 98, 99, 100, 101, 102]⟩) (.int .u8 ((cv : Int) / 16))).run Tryz.prog W = .ok (.int .u8 ((dch (cv / 16)).toNat : Int)) W := fun W => digit8 (cv / 16) (by omega) W
      have d2 : ∀ W, (Instr.index 9 (.string ⟨#[48, 49, 50, 51, 52, 53, 54, 55, 56, 57, 97, 98, 99, 100, 101, 102]⟩) (.int .u8 (bits BinOp.and IntKind.u8 (cv : Int) 15))).run Tryz.prog W = .ok (.int .u8 ((dch (cv % 16)).toNat : Int)) W := fun W => by
        rw [and15b cv hcv]
        exact digit8 (cv % 16) (by omega) W
      have HP : Aside (hexs (l.take (i + 1)) = hexs (l.take i) ++ [dch (cv / 16), dch (cv % 16)] ∧ (hexs (l.take i)).length ≤ 200000) := ⟨hsn, by rw [hexs_len, List.length_take]; omega⟩
      have H2 : Aside (∀ W, Stp [] wr [] W → Own W w.heap.size (.slice a3 (hexs (l.take i)).length c3) (hexs (l.take i)) ∧ Stp [] w [] W) := fun W hs => ⟨HS.out.1.other hs (by simp), HS.out.2.trans hs⟩
      clear hsn
      generalize dch (cv / 16) = x1 at *
      generalize dch (cv % 16) = x2 at *
      go_wp2_with fail
      go_region_law
        (first
          | (refine step_app (by rfl) (.tmp 19) (.tmp 26) (by rfl) w.heap.size (.slice a3 (hexs (l.take i)).length c3) (hexs (l.take i)) (by rfl) (H2.out _ ((Stp.alloc [] _ _).trans (Stp.drew [] _))).1 (some ⟨wr.heap.size, 0, none⟩) 2 2 [x1, x2] rfl (by rfl) (Blk.bts (C := [x1, x2]) (heap_alloc_new wr _)) (fun h => by cases h) (by have := HP.out.2; simp; omega) (by have := (H2.out _ (Stp.refl [] wr)).2.size; simp; omega) ?_
             intro v' w' ho' hg'
             have HQ : Aside (Own w' w.heap.size v' (hexs (l.take i) ++ [x1, x2]) ∧ Stp [] w [] w') := ⟨ho', (H2.out _ ((Stp.alloc [] _ _).trans (Stp.drew [] _))).2.app hg' (fun k hk => ((H2.out _ (Stp.refl [] wr)).1.lt k hk).1)⟩
             clear ho' hg'))
      all_goals
        go_wp2
        go_roundg (l.length - (i + 1))
        case measure => omega
        case rel => exact ⟨i + 1, by go_num, by omega, by omega, by rw [HP.out.1]; exact HQ.out.1, HQ.out.2⟩
    · have hltz : ¬ (i : Int) < (l.length : Int) := by omega
      obtain rfl : i = l.length := by omega
      have HP : Aside (hexs (l.take l.length) = hext l) := by
        show hexs (l.take l.length) = hext l
        rw [List.take_length, H0.out.2.2.2]
      have hb5 : Bts wr a3 (hexs (l.take l.length)) := by assumption
      have cv := conv_bts c3 _ hb5 rfl
      rw [List.take_length] at cv
      have e1 : hexs l = hext l := by rw [← HP.out, List.take_length]
      have HZ : Aside (Stp [] w [] wr ∧ hexs l = hext l) := ⟨HS.out.2, e1⟩
      rw [List.take_length]
      clear HS H0 hb5 HP e1
      go_wp2
      go_ret
      exact ⟨by rw [← HZ.out.2]; rfl, HZ.out.1⟩
set_option maxHeartbeats 1000000 in
set_option maxRecDepth 100000 in
theorem dap_run (x : Ev) (hl : x.l.length ≤ 100000) (W : World) (g : Nat) (hx : XAt W g x) : Calls Tryz.prog 51 #[.pointer (some ⟨g, 0, none⟩)] W (Putd .data x g W) := by
  have K := Lib.hid (btext_run x.a x.c x.l hl W hx.ed.1)
  have HX : Aside (XAt W g x) := hx
  have c4 := hx.at7.c4
  clear hx hl
  go_enter Tryz.func51, Tryz.ntmps51
  go_wp2_with fail
  refine K.out.mono ?_
  rintro _ w1 ⟨rfl, h1⟩
  have X1 := HX.out.stays h1
  have d4 := X1.at7.c4
  have z4 := X1.at7.fz 4
  have HH : Aside (XAt (w1.setCell ⟨g, 4, none⟩ (.slice none 0 0)) g (off .data x) ∧ Stp [g] W [g] (w1.setCell ⟨g, 4, none⟩ (.slice none 0 0))) := ⟨⟨X1.at7.setD _, ⟨Bts.nil _ _, by simp [off], fun _ => rfl⟩, fun h => absurd rfl h⟩, stp_then h1 (stp_one _ _ _ _)⟩
  clear X1 HX K h1 c4
  go_wp2
  go_ret
  exact ⟨rfl, HH.out.1, HH.out.2⟩
end Go.Proofs.YthfiilhbgogoaaaGreatDoor
