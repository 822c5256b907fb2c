/-
  Characters are typed: the closure of ScreenTyped; the document's text of a row.
-/
import Derived.Test.YtdaenaoagejgeaaDoorSIs
import Derived.Test.YtdaenaoagejgeaaDoorIts
import Derived.Test.YtdaenaoagejgeaaDoorSays
namespace Go.Proofs.YtdaenaoagejgeaaDoor
open Go.RowKit Go.Lib
set_option linter.unusedVariables false

theorem Is.at {w wr : World} {a : Option Addr} {l : List Int} (h : Is w a l) {F : List Nat} (hs : Stp [] w F wr) {i : Nat} (hi : i < l.length) : ∃ b off, a = some ⟨b, off, none⟩ ∧ wr.cell? ⟨b, off + i, none⟩ = some (.int .i64 (l[i]!)) := by
  obtain ⟨b, off, h1, hb, h2⟩ := h (by intro e; subst e; simp at hi)
  exact ⟨b, off, h1, (hs.cell (a := ⟨b, off + i, none⟩) hb (by simp)).trans (h2 i hi)⟩
/-- The characters among numbers that may be shown. -/
def shw (l : List Int) : List Nat := (l.filter (fun c => U.prB c)).map Int.toNat
theorem shw_yes {l : List Int} {i q : Nat} (hi : i < l.length) (hq : l[i]! = (q : Int)) (hp : U.prB (q : Int) = true) : shw (l.take (i + 1)) = shw (l.take i) ++ [q] := by
  unfold shw
  rw [getElem!_pos l i hi] at hq
  rw [List.take_succ_eq_append_getElem hi, List.filter_append, List.map_append]
  simp [hq, hp]
theorem shw_no {l : List Int} {i : Nat} (hi : i < l.length) (hp : U.prB (l[i]!) = false) : shw (l.take (i + 1)) = shw (l.take i) := by
  unfold shw
  rw [getElem!_pos l i hi] at hp
  rw [List.take_succ_eq_append_getElem hi, List.filter_append, List.map_append]
  simp [hp]
theorem shw_len (l : List Int) : (shw l).length ≤ l.length := by
  unfold shw
  rw [List.length_map]
  exact List.length_filter_le _ _
theorem shw_pr (l : List Int) : Pr (shw l) := fun c hc => by
  obtain ⟨z, hz, rfl⟩ := List.mem_map.1 hc
  have h1 : U.prB z = true := by simpa using (List.mem_filter.1 hz).2
  have h2 := of_decide_eq_true h1
  rw [Int.toNat_of_nonneg (by omega)]
  exact h1
/-- Characters laid one behind another. -/
def typ (S : Sn) (cs : List Nat) : Sn := cs.foldl (fun S c => { S with cur := laid S.cur S.col c, col := S.col + 1 }) S
theorem typ_snoc (S : Sn) (cs : List Nat) (c : Nat) : typ S (cs ++ [c]) = { typ S cs with cur := laid (typ S cs).cur (typ S cs).col c, col := (typ S cs).col + 1 } := by
  unfold typ
  rw [List.foldl_append]
  rfl
theorem laid_at (P R : List Nat) (c : Nat) : laid (P ++ R) P.length c = (P ++ [c]) ++ R.drop 1 := by
  unfold laid
  cases R with
  | nil =>
    rw [if_neg (by simp), List.append_nil, Nat.sub_self]
    simp
  | cons x R =>
    rw [if_pos (by simp), List.set_append_right P.length c (Nat.le_refl _)]
    simp
theorem typ_mid (up : List (List Nat)) (be : Nat) (pa : Bool) (od : Nat) : ∀ (Y P R : List Nat), typ ⟨up, P ++ R, P.length, be, pa, od⟩ Y = ⟨up, P ++ Y ++ R.drop Y.length, P.length + Y.length, be, pa, od⟩
  | [], P, R => by simp [typ]
  | c :: Y, P, R => by
    have h1 : typ ⟨up, P ++ R, P.length, be, pa, od⟩ (c :: Y) = typ ⟨up, (P ++ [c]) ++ R.drop 1, (P ++ [c]).length, be, pa, od⟩ Y := by
      unfold typ
      rw [List.foldl_cons]
      simp only [laid_at, List.length_append, List.length_singleton]
    rw [h1, typ_mid up be pa od Y (P ++ [c]) (R.drop 1)]
    simp
    omega
/-- A screen, and the variable that holds it. -/
structure TyR (w W : World) (bs s : Nat) (F : List Nat) (S : Sn) (B : Nat) : Prop where
  ex : ∃ L, Ks w W s F L ∧ seen L = S ∧ held L = [] ∧ L.length ≤ B
  lo : w.heap.size ≤ bs
  nF : bs ∉ F
  lt : bs < W.heap.size
  cl : W.cell? ⟨bs, 0, none⟩ = some (.pointer (some ⟨s, 0, none⟩))
section
variable {w W W' : World} {bs s B : Nat} {F G' : List Nat} {S : Sn}
theorem TyR.stp (h : TyR w W bs s F S B) : Stp [] w [] W := by
  obtain ⟨L, h1, _⟩ := h.ex
  exact h1.stp
theorem TyR.low (h : TyR w W bs s F S B) : ∀ j ∈ F, w.heap.size ≤ j ∧ j < W.heap.size := by
  obtain ⟨L, h1, _⟩ := h.ex
  exact fun j hj => ⟨h1.low j hj, h1.lt j hj⟩
theorem TyR.stays (h : TyR w W bs s F S B) (hs : Stp [] W G' W') : TyR w W' bs s F S B := by
  obtain ⟨L, h1, h2⟩ := h.ex
  exact ⟨⟨L, h1.stays hs, h2⟩, h.lo, h.nF, Nat.lt_of_lt_of_le h.lt hs.size, hs.keeps rfl h.cl⟩
/-- Bytes that are whole are fed. -/
theorem TyR.feed (h : TyR w W bs s F S B) (hT : Tabs w) {b : List UInt8} {S' : Sn} (hx : ∀ L, seen L = S → held L = [] → seen (L ++ b) = S' ∧ held (L ++ b) = []) (a : Option Addr) (n cap : Nat) (hb : Bts W a b) (hn : n = b.length) (ha : a = none → cap = 0) (hl : B + b.length ≤ 90000) :
    Calls Tryd.prog 11 #[.pointer (some ⟨s, 0, none⟩), .slice a n cap] W (fun e w' => e = .returned (.int .i64 0) ∧ ∃ F', TyR w w' bs s F' S' (B + b.length) ∧ Stp F W F' w') := by
  obtain ⟨L, h1, h2, h3, h4⟩ := h.ex
  refine (h1.feed hT a n cap b hb hn ha (by omega)).mono ?_
  rintro e w' ⟨rfl, F', k, hs⟩
  obtain ⟨g1, g2⟩ := hx L h2 h3
  refine ⟨rfl, F', ⟨⟨_, k, g1, g2, by rw [List.length_append]; omega⟩, h.lo, fun hj => ?_, Nat.lt_of_lt_of_le h.lt hs.size, ?_⟩, hs⟩
  · rcases hs.foot bs hj with g | g
    · exact h.nF g
    · have := h.lt
      omega
  · rw [hs.cell (a := ⟨bs, 0, none⟩) h.lt h.nF]
    exact h.cl
end
theorem Stp.late {F F2 K G' : List Nat} {W w3 w5 : World} (h : Stp F W F2 w3) (s : Stp K w3 G' w5) (hK : ∀ j ∈ K, W.heap.size ≤ j) : Stp F W F2 w5 :=
  ⟨s.os.trans h.os, s.tape.trans h.tape, s.output.trans h.output, Nat.le_trans h.size s.size, fun j hj hF => (s.block j (Nat.lt_of_lt_of_le hj h.size) (fun g => by have := hK j g; omega)).trans (h.block j hj hF), h.foot⟩
/-- A step in blocks that are neither the screen's nor the variable's. -/
theorem TyR.other {w W W' : World} {bs s B : Nat} {F G G' : List Nat} {S : Sn} (h : TyR w W bs s F S B) (hs : Stp G W G' W') (hG : ∀ j ∈ G, w.heap.size ≤ j ∧ j ∉ F ∧ j ≠ bs) : TyR w W' bs s F S B := by
  obtain ⟨L, h1, h2⟩ := h.ex
  refine ⟨⟨L, h1.other hs (fun j hj => (hG j hj).1) (fun j hj hk => (hG j hk).2.1 hj), h2⟩, h.lo, h.nF, Nat.lt_of_lt_of_le h.lt hs.size, ?_⟩
  rw [hs.cell (a := ⟨bs, 0, none⟩) h.lt (fun g => (hG bs g).2.2 rfl)]
  exact h.cl
theorem wpList_appN2 {w : World} {ops : Array Oper} {rest : List Oper} {o : Oper} {a : Act} {Q : Exit → Act → World → Prop} (hgd : o.guard = none) (s x : Operand)
    (ho : o.op = .call { callee := .builtin .append, args := #[s, x], argTypes := #[39, 39] }) (base : Nat) (v : Value) (xs : List Nat) (hs : a.eval s = v) (hown : U.OwnI w base v xs)
    (A : Option Addr) (c n : Nat) (l : List Nat) (hn : n = l.length) (hx : a.eval x = .slice A n c) (hl : Its w A l) (hA : A = none → c = 0) (h63 : xs.length + l.length ≤ 1000000) (hbase : base ≤ w.heap.size)
    (h : ∀ v' w', U.OwnI w' base v' (xs ++ l) → Stp v.ownBlock.toList w [] w' → (v'.ownBlock = v.ownBlock ∨ v'.ownBlock = some w.heap.size) → wpList Tryd.prog ops Q rest (a.put o.dst v') w') : wpList Tryd.prog ops Q (o :: rest) a w := by
  subst hn
  refine wpList_plain hgd fun K hK => ?_
  obtain ⟨v', w', hrun, h2, h3, h4⟩ := run_appN o.type hown hl hA h63 hbase
  have hs3 : Stp v.ownBlock.toList w [] w' := ⟨h3.os, h3.tape, h3.output, h3.size, fun k hk hF => h3.block k hk (fun e => hF (by rw [← e]; simp)), fun _ g => by cases g⟩
  unfold Oper.wp execOp
  simp only [ho, resolve, invoke, builtin, Sem.run_bind, Sem.run_pure, Result.andThen_ok, List.map_toArray, List.map_cons, List.map_nil, hs, hx, hrun]
  exact hK _ _ (h v' w' h2 hs3 h4)
theorem one_its (w : World) (c : Nat) : Its (w.alloc (.cells #[.int .i64 (c : Int)] 3)) (some ⟨w.heap.size, 0, none⟩) [c] := by
  obtain ⟨a, k, e2, hi, _⟩ := OwnI.its (OwnI.one w c)
  cases e2
  exact hi
/-- What the closure answers: the characters that it laid, in memory of its own. -/
def Layd (w W : World) (bs s : Nat) (F : List Nat) (S : Sn) (X : List Nat) (B : Nat) (e : Ending) (w' : World) : Prop := ∃ v F', e = .returned v ∧ U.OwnI w' W.heap.size v X ∧ TyR w w' bs s F' (typ S X) B ∧ Stp F W F' w' ∧ ∀ k, v.ownBlock = some k → k ∉ F'
set_option maxHeartbeats 2000000 in
set_option maxRecDepth 100000 in
theorem lay_run {w W : World} {bs s B : Nat} {F : List Nat} {S : Sn} (h : TyR w W bs s F S B) (hT : Tabs w) (a0 : Option Addr) (n cap0 : Nat) (l : List Int) (hb : Is w a0 l) (hn : n = l.length) (hn3 : n ≤ 300) (hB : B ≤ 80000) :
    Calls Tryd.prog 25 #[.slice a0 n cap0, .pointer (some ⟨bs, 0, none⟩)] W (Layd w W bs s F S (shw l) (B + 4 * n)) := by
  have HT : Aside (Is w a0 l ∧ n = l.length ∧ Tabs w ∧ TyR w W bs s F S B ∧ B ≤ 80000) := ⟨hb, hn, hT, h, hB⟩
  clear h hT hb hn hB
  go_enter Tryd.func25, Tryd.ntmps25
  go_wp2_with fail
  go_loopg [4, 11] n (fun gk v4 vi wr => ∃ (i : Nat) (ao : Option Addr) (no co : Nat), vi = .int .i64 (i : Int) ∧ v4 = .slice ao no co ∧ i ≤ n ∧ n - i ≤ gk ∧ Aside (∃ F', U.OwnI wr W.heap.size (.slice ao no co) (shw (l.take i)) ∧ TyR w wr bs s F' (typ S (shw (l.take i))) (B + 4 * i) ∧ Stp F W F' wr ∧ ∀ k, (Value.slice ao no co).ownBlock = some k → k ∉ F'))
  case atStart => exact ⟨0, none, 0, 0, rfl, rfl, by omega, by omega, F, World.ownsRow_nil _ _ _ _, HT.out.2.2.2.1, Stp.refl _ _, fun k hk => by cases hk⟩
  case round =>
    obtain ⟨i, ao, no, co, rfl, rfl, hi, hg, HS⟩ := hrel
    by_cases hlt : i < n
    · have hltz : (i : Int) < (n : Int) := by omega
      have hil : i < l.length := by rw [← HT.out.2.1]; exact hlt
      obtain ⟨F1, q1, q2, q3, q4⟩ := HS.out
      obtain ⟨ab, off, rfl, c0⟩ := HT.out.1.at q2.stp hil
      have HS1 : Aside (U.OwnI wr W.heap.size (.slice ao no co) (shw (l.take i)) ∧ TyR w wr bs s F1 (typ S (shw (l.take i))) (B + 4 * i) ∧ Stp F W F1 wr ∧ ∀ k, (Value.slice ao no co).ownBlock = some k → k ∉ F1) := ⟨q1, q2, q3, q4⟩
      have hsl : (shw (l.take i)).length ≤ 300 := by have := shw_len (l.take i); simp at this; omega
      have HX := Lib.hid (And.intro hil (And.intro hlt hsl))
      have KP := Lib.hid (fun W => U.pr_any (l[i]!) W)
      have cb := q2.cl
      clear q1 q2 q3 q4 HS hil hsl
      by_cases hp : U.prB (l[i]!) = true
      · obtain ⟨q, hq⟩ : ∃ q : Nat, l[i]! = (q : Int) := ⟨(l[i]!).toNat, by have := of_decide_eq_true hp; omega⟩
        have HQ := Lib.hid (shw_yes HX.out.1 hq (hq ▸ hp))
        rw [hq] at KP c0 hp
        rw [hp] at KP
        have hch := (pr_ch hp).1
        have KU := Lib.hid (U.put_yes q wr hch)
        have HPR := Lib.hid hp
        clear hq hch hp
        go_wp2_with fail
        refine KU.out.mono ?_
        rintro _ w1 ⟨v1, rfl, ho1, hb1⟩
        have ho1 := own_of_U ho1 (U.enc_lt q (pr_ch HPR.out).2)
        rw [show (U.enc q).map UInt8.ofNat = enc8 q from rfl] at ho1
        obtain ⟨a5, c5, rfl, hbt5, hz5, _, _⟩ := ho1.bts
        have s1 := Stp.of_below hb1
        have c1 : w1.cell? ⟨bs, 0, none⟩ = some (.pointer (some ⟨s, 0, none⟩)) := s1.keeps rfl cb
        have KF := Lib.hid ((HS1.out.2.1.stays s1).feed HT.out.2.2.1 (fun L e1 e2 => by
          have := seen_chr e2 HPR.out
          rw [e1] at this
          exact this) a5 (enc8 q).length c5 hbt5 rfl hz5 (by have := (enc8_len q).2; have := HT.out.2.2.2.2; omega))
        have H1 : Aside (U.OwnI w1 W.heap.size (.slice ao no co) (shw (l.take i)) ∧ Stp F W F1 w1 ∧ ∀ k, (Value.slice ao no co).ownBlock = some k → k ∉ F1) := ⟨OwnI.other HS1.out.1 s1 (fun _ _ h => by cases h), HS1.out.2.2.1.trans (s1.widen (fun k hk => .inl hk)), HS1.out.2.2.2⟩
        clear KU ho1 hb1 hbt5 hz5 s1 HS1
        go_wp2_with fail
        refine (KP.out _).mono ?_
        rintro _ _ ⟨rfl, rfl⟩
        go_wp2_with fail
        refine KF.out.mono ?_
        rintro _ w2 ⟨rfl, F2, t2, s2⟩
        have H2 : Aside (U.OwnI w2 W.heap.size (.slice ao no co) (shw (l.take i)) ∧ Stp F W F2 w2 ∧ (∀ k, (Value.slice ao no co).ownBlock = some k → k ∉ F2) ∧ TyR w w2 bs s F2 { typ S (shw (l.take i)) with cur := laid (typ S (shw (l.take i))).cur (typ S (shw (l.take i))).col q, col := (typ S (shw (l.take i))).col + 1 } (B + 4 * i + (enc8 q).length)) := by
          obtain ⟨g1, g2, g3⟩ := H1.out
          refine ⟨OwnI.other g1 s2 g3, g2.trans s2, fun k hk hj => ?_, t2⟩
          rcases s2.foot k hj with g | g
          · exact g3 k hk g
          · have := (World.ownsRow.lt g1 k hk).2
            omega
        clear KF H1 s2 t2
        go_wp2_with (at_builtin; refine wpList_appN2 rfl (.tmp 29) (.tmp 31) rfl W.heap.size (.slice ao no co) (shw (l.take i)) rfl (OwnI.other H2.out.1 (Stp.alloc [] w2 _) (fun _ _ h => by cases h)) (some ⟨w2.heap.size, 0, none⟩) 1 1 [q] rfl rfl (one_its w2 q) (fun h => by cases h) (by have := HX.out.2.2; simp; omega) (by have := H2.out.2.1.size; rw [World.size_alloc]; omega) ?_; intro v5 w5 ho5 hs5 hbl5)
        have H5 : Aside (∃ F', U.OwnI w5 W.heap.size v5 (shw (l.take (i + 1))) ∧ TyR w w5 bs s F' (typ S (shw (l.take (i + 1)))) (B + 4 * (i + 1)) ∧ Stp F W F' w5 ∧ ∀ k, v5.ownBlock = some k → k ∉ F') := by
          obtain ⟨g1, g2, g3, g4⟩ := H2.out
          have e4 := (enc8_len q).2
          have g5 := g4.stays (Stp.alloc [] w2 (.cells #[.int .i64 (q : Int)] 3))
          have hk : ∀ j ∈ (Value.slice ao no co).ownBlock.toList, W.heap.size ≤ j ∧ j ∉ F2 := fun j hj => ⟨(World.ownsRow.lt g1 j (by simpa using hj)).1, g3 j (by simpa using hj)⟩
          have hW := HT.out.2.2.2.1
          rw [HQ.out, typ_snoc]
          refine ⟨F2, ho5, ?_, (g2.trans ((Stp.alloc F2 w2 _))).late hs5 (fun j hj => (hk j hj).1), fun k hk2 => ?_⟩
          · have g6 := g5.other hs5 (fun j hj => ⟨Nat.le_trans hW.stp.size (hk j hj).1, (hk j hj).2, fun e => by have := (hk j hj).1; have := hW.lt; omega⟩)
            obtain ⟨L, r1, r2, r3, r4⟩ := g6.ex
            exact ⟨⟨L, r1, r2, r3, by omega⟩, g6.lo, g6.nF, g6.lt, g6.cl⟩
          · rcases hbl5 with e | e
            · exact g3 k (e ▸ hk2)
            · rw [e] at hk2
              cases hk2
              intro hj
              have := (g4.low _ hj).2
              rw [World.size_alloc] at this
              omega
        clear ho5 hs5 hbl5 H2
        go_roundg (n - (i + 1))
        case measure => have := HX.out.2.1; omega
        case rel =>
          obtain ⟨F', r1, r2⟩ := H5.out
          obtain ⟨a6, c6, e6, _⟩ := OwnI.its r1
          subst e6
          exact ⟨i + 1, a6, _, c6, by go_num, rfl, by have := HX.out.2.1; omega, by omega, F', r1, r2⟩
      · have hp : U.prB (l[i]!) = false := by simpa using hp
        have HQ := Lib.hid (shw_no HX.out.1 hp)
        rw [hp] at KP
        generalize l[i]! = x at *
        cases hc : U.isCh x with
        | true =>
          obtain ⟨q, rfl⟩ : ∃ q : Nat, x = (q : Int) := ⟨x.toNat, by have := of_decide_eq_true hc; omega⟩
          have KU := Lib.hid (U.put_yes q wr hc)
          clear hc hp
          go_wp2_with fail
          refine KU.out.mono ?_
          rintro _ w1 ⟨v1, rfl, ho1, hb1⟩
          have s1 := Stp.of_below hb1
          have H1 : Aside (U.OwnI w1 W.heap.size (.slice ao no co) (shw (l.take i)) ∧ TyR w w1 bs s F1 (typ S (shw (l.take i))) (B + 4 * i) ∧ Stp F W F1 w1 ∧ ∀ k, (Value.slice ao no co).ownBlock = some k → k ∉ F1) := ⟨OwnI.other HS1.out.1 s1 (fun _ _ h => by cases h), HS1.out.2.1.stays s1, HS1.out.2.2.1.trans (s1.widen (fun k hk => .inl hk)), HS1.out.2.2.2⟩
          clear KU ho1 hb1 s1 HS1
          go_wp2_with fail
          refine (KP.out _).mono ?_
          rintro _ _ ⟨rfl, rfl⟩
          go_wp2_with fail
          go_roundg (n - (i + 1))
          case measure => have := HX.out.2.1; omega
          case rel =>
            obtain ⟨r1, r2, r3⟩ := H1.out
            rw [← HQ.out] at r1 r2
            obtain ⟨L, t1, t2, t3, t4⟩ := r2.ex
            exact ⟨i + 1, ao, no, co, by go_num, rfl, by have := HX.out.2.1; omega, by omega, F1, r1, ⟨⟨L, t1, t2, t3, by omega⟩, r2.lo, r2.nF, r2.lt, r2.cl⟩, r3⟩
        | false =>
          have KU := Lib.hid (U.put_no x wr hc)
          clear hc hp
          go_wp2_with fail
          refine KU.out.mono ?_
          rintro _ _ ⟨rfl, rfl⟩
          go_wp2_with fail
          go_roundg (n - (i + 1))
          case measure => have := HX.out.2.1; omega
          case rel =>
            obtain ⟨r1, r2, r3⟩ := HS1.out
            rw [← HQ.out] at r1 r2
            obtain ⟨L, t1, t2, t3, t4⟩ := r2.ex
            exact ⟨i + 1, ao, no, co, by go_num, rfl, by have := HX.out.2.1; omega, by omega, F1, r1, ⟨⟨L, t1, t2, t3, by omega⟩, r2.lo, r2.nF, r2.lt, r2.cl⟩, r3⟩
    · have hltz : ¬ (i : Int) < (n : Int) := by omega
      have hl2 : l.take i = l := List.take_of_length_le (by have := HT.out.2.1; omega)
      have HS2 := Lib.hid HS.out
      rw [hl2, show i = n by omega] at HS2
      clear HS hl2
      go_wp2
      go_ret
      obtain ⟨F', r1, r2, r3, r4⟩ := HS2.out
      exact ⟨_, F', rfl, r1, r2, r3, r4⟩
end Go.Proofs.YtdaenaoagejgeaaDoor
