/-
  Layer 14: what came is taken.
  Conditions: none.
-/
import Derived.Test.YtccdpgbmkiapdaaL19
import Derived.Test.YtccdpgbmkiapdaaL20
import Derived.Test.YtccdpgbmkiapdaaL21
import Derived.Test.YtccdpgbmkiapdaaL22
namespace Go.Proofs.Ytccdpgbmkiapdaa.Ses
set_option maxRecDepth 100000
open Go.RowKit Go.Deep Go.Proofs.Ytccdpgbmkiapdaa.Mem Go.Proofs.Ytccdpgbmkiapdaa.Win
def ackO (S : Sm) (x : Int) (kn q : Int) : Ot := ⟨x, 2, S.epoch, kn, q, ⟨#[]⟩⟩
/-- Behind the epoch: what came is taken: the payload, what goes out, the error, the session. -/
def tailM (S : Sm) (x : Int) (e : Ev) (out : List Ot) : ByteArray × List Ot × Int × Sm :=
  if e.peer ≠ 0 ∧ e.peer ≠ S.epoch then (⟨#[]⟩, out ++ [ackO S x (peerOf S x).known 0], 11, S)
  else if e.kind = 2 then (⟨#[]⟩, out, 0, if e.peer = 0 then S else putP S x (goP (peerOf S x) e.seq))
  else if seenL (peerOf S x).L e.seq = true then (⟨#[]⟩, out ++ [ackO S x (peerOf S x).known e.seq], 9, S)
  else (e.pay, out ++ [ackO S x (peerOf S x).known e.seq], 0, putP S x ⟨(peerOf S x).L ++ [e.seq], (peerOf S x).known, (peerOf S x).last, (peerOf S x).held⟩)
/-- What is owed at the end of Take. -/
def TakeEnds (B sb : Nat) (F0 : Nat → Prop) (w : World) (R : ByteArray × List Ot × Int × Sm) (e : Ending) (w' : World) : Prop :=
  ∃ V vn vc F', e = .returned (.tuple #[.string R.1, .slice V vn vc, .int .i64 R.2.2.1]) ∧ OwnG 89 6 Ot.vals w.heap.size w' (.slice V vn vc) R.2.1 ∧ SStep B F0 w sb R.2.2.2 F' w' ∧ ∀ k, blk V = some k → ¬ F' k
/-- An Ack is appended to what goes out. -/
theorem appAck {B sb pb : Nat} {F F0 : Nat → Prop} {w wr w1 : World} {S : Sm} {As : Nat → Option Addr} {cs : Nat → Nat} {V0 : Option Addr} {vn vc : Nat} {out : List Ot} (hx : SAtX B F wr sb S pb As cs) (hst : SStep B F0 w sb S F wr)
    (hv : OwnG 89 6 Ot.vals w.heap.size wr (.slice V0 vn vc) out) (hvf : ∀ k, blk V0 = some k → ¬ F k) (hol : out.length ≤ 40) (hb1 : Below wr.heap.size wr w1) (o : Ot) :
    ∃ V' n' c' w5, (Builtin.append_ #[48, 48] 48 #[.slice V0 vn vc, .slice (some ⟨w1.heap.size, 0, none⟩) 1 1]).run Try.prog (w1.alloc (.cells #[.int .i64 o.dst, .int .i64 o.e.kind, .int .i64 o.e.epoch, .int .i64 o.e.peer, .int .i64 o.e.seq, .string o.e.pay] 89)) = .ok (.slice V' n' c') w5 ∧
      OwnG 89 6 Ot.vals w.heap.size w5 (.slice V' n' c') (out ++ [o]) ∧ SAtX B F w5 sb S pb As cs ∧ SStep B F0 w sb S F w5 ∧ (∀ k, blk V' = some k → ¬ F k) ∧ Only (fun k => blk V0 = some k) wr w5 := by
  obtain ⟨wd, hwd⟩ : ∃ W, W = w1.alloc (.cells #[.int .i64 o.dst, .int .i64 o.e.kind, .int .i64 o.e.epoch, .int .i64 o.e.peer, .int .i64 o.e.seq, .string o.e.pay] 89) := ⟨_, rfl⟩
  have hbd : Below w1.heap.size w1 wd := by rw [hwd]; exact below_alloc _ _
  have hcd : Cells wd w1.heap.size 89 o.vals := by rw [hwd]; exact cells_new _ _ _ _ rfl
  have hbw : Below wr.heap.size wr wd := hb1.trans (hbd.mono hb1.size)
  have hsl1 : Sl wd (some ⟨w1.heap.size, 0, none⟩) 6 ([o].map Ot.vals) := cells_sl (by simpa using hcd) (fun v hv => (fit_ot [_]).len v hv)
  obtain ⟨V', n', c', w5, hrun, hrow, hn', hon, hnb⟩ := OwnG.appS el_ot fit_ot (hv.later hbw) (m := [o]) (c := 1) hsl1 (fun e => by cases e) (Nat.le_trans hst.only.size hbw.size) (by simp only [List.length_singleton]; omega)
  rw [← hwd]
  have hon2 : Only (fun k => blk V0 = some k) wr w5 := (Only.of_below hbw).trans hon fun k _ e => by rw [own_blk] at e; exact e
  have hx5 := hx.only hon2 fun k e e2 => hvf k e2 e
  refine ⟨V', n', c', w5, hrun, hrow, hx5, ⟨⟨pb, As, cs, hx5⟩, hst.only.trans2 hon2 fun k e => (hv.lt k (by rw [own_blk]; exact e)).1, hst.new⟩, fun k e e2 => ?_, hon2⟩
  rcases hnb k e with e3 | e3
  · rw [own_blk] at e3
    exact hvf k e3 e2
  · have h1 := hx.lt k e2
    have h2 := hbw.size
    omega
def sesTake16S (pb o eb : Nat) (q : Int) : Nat → Value → World → Prop
  | 0, v, _ => v = .pointer (some ⟨pb, o, none⟩)
  | 1, v, _ => v = .pointer (some ⟨pb, o, none⟩)
  | 2, v, _ => v = .pointer (some ⟨pb, o, none⟩)
  | 3, v, _ => v = .pointer (some ⟨eb, 3, none⟩)
  | 4, v, _ => v = .int .i64 q
  | 5, v, w => ∃ kk, v = .slice (some ⟨kk, 0, none⟩) 1 1 ∧ Cells w kk 3 [.int .i64 q] ∧ kk ≠ pb
  | 6, v, _ => v = .int .i64 0
  | 7, v, _ => v = .bool true
  | _, _, _ => True
theorem sesTake16S_later {pb o eb : Nat} {q : Int} {j : Nat} {v : Value} {w w' : World} (hb : Below w.heap.size w w') (h : sesTake16S pb o eb q j v w) : sesTake16S pb o eb q j v w' := by
  match j, h with
  | 0, h | 1, h | 2, h | 3, h | 4, h | 6, h | 7, h => exact h
  | 5, h =>
    obtain ⟨kk, h1, h2, h3⟩ := h
    exact ⟨kk, h1, h2.later hb, h3⟩
  | _ + 8, _ => exact trivial
theorem sesTake16S_keep {pb o eb : Nat} {q : Int} {j : Nat} {v : Value} {w w' : World} (h5 : j ≠ 5) (h : sesTake16S pb o eb q j v w) : sesTake16S pb o eb q j v w' := by
  match j, h with
  | 0, h | 1, h | 2, h | 3, h | 4, h | 6, h | 7, h => exact h
  | 5, _ => exact absurd rfl h5
  | _ + 8, _ => exact trivial
def sesTake16N (pb o eb : Nat) (q : Int) : Nat → Value → World → Prop
  | 0, v, _ => v = .pointer (some ⟨pb, o, none⟩)
  | 1, v, _ => v = .pointer (some ⟨pb, o, none⟩)
  | 2, v, _ => v = .pointer (some ⟨pb, o, none⟩)
  | 3, v, _ => v = .pointer (some ⟨eb, 3, none⟩)
  | 4, v, _ => v = .int .i64 q
  | 5, v, w => ∃ kk, v = .slice (some ⟨kk, 0, none⟩) 1 1 ∧ Cells w kk 3 [.int .i64 q] ∧ kk ≠ pb
  | 6, v, _ => v = .int .i64 1
  | 7, v, _ => v = .bool false
  | _, _, _ => True
theorem sesTake16N_later {pb o eb : Nat} {q : Int} {j : Nat} {v : Value} {w w' : World} (hb : Below w.heap.size w w') (h : sesTake16N pb o eb q j v w) : sesTake16N pb o eb q j v w' := by
  match j, h with
  | 0, h | 1, h | 2, h | 3, h | 4, h | 6, h | 7, h => exact h
  | 5, h =>
    obtain ⟨kk, h1, h2, h3⟩ := h
    exact ⟨kk, h1, h2.later hb, h3⟩
  | _ + 8, _ => exact trivial
theorem sesTake16N_keep {pb o eb : Nat} {q : Int} {j : Nat} {v : Value} {w w' : World} (h5 : j ≠ 5) (h : sesTake16N pb o eb q j v w) : sesTake16N pb o eb q j v w' := by
  match j, h with
  | 0, h | 1, h | 2, h | 3, h | 4, h | 6, h | 7, h => exact h
  | 5, _ => exact absurd rfl h5
  | _ + 8, _ => exact trivial
set_option maxHeartbeats 2000000 in
theorem takeTail {B sb pb N eb : Nat} {F F0 : Nat → Prop} {w wr : World} {S : Sm} {As : Nat → Option Addr} {cs : Nat → Nat} {V0 : Option Addr} {vn vc : Nat} {out : List Ot} {e : Ev} (hx : SAtX B F wr sb S pb As cs) (hn16 : S.peers.length ≤ 16) (i : Nat) (hi : i < S.peers.length) (hnode : (i : Int) + 1 ≠ S.node) (hok : Pok N S.peers[i]) (hB : B ≤ w.heap.size)
    (hst : SStep B F0 w sb S F wr) (hv : OwnG 89 6 Ot.vals w.heap.size wr (.slice V0 vn vc) out) (hvf : ∀ k, blk V0 = some k → ¬ F k ∧ k ≠ eb) (hol : out.length ≤ 40) (heb : Cells wr eb 23 e.vals) (hef : ¬ F eb) (hr : rightE e = true)
    {cc : Code} (hc : cc = sub [1, 1, 1, 1, 1, 1] ((Try.f21.body).getD .skip)) {s2 s3 s4 s6 s7 s8 s11 s12 s13 s14 s15 s16 s17 s18 s19 s20 s21 s22 s23 s24 s25 s26 s27 s28 s29 s30 s31 s32 s33 s34 s35 s36 s37 s38 s39 s40 s41 s42 s43 s44 s45 s46 s47 s48 s49 s50 s51 s52 s53 s54 s55 s56 s57 s58 s59 s60 s61 s62 s63 s64 s65 s66 s67 s68 s69 s70 s71 s72 s73 s74 s75 s76 s77 s78 s79 s80 s81 s82 s83 s84 s85 s86 s87 s88 s89 s90 s91 s92 s93 s94 s95 s96 s97 s98 s99 : Value} :
    cc.wp Try.prog (bodyPost Try.prog Try.f21 (fun r w' => TakeEnds B sb F0 w (tailM S ((i : Int) + 1) e out) r w')) { tmps := List.toArray ((.pointer (some ⟨sb, 0, none⟩))::(.int .i64 ((i : Int) + 1))::s2::s3::s4::(.pointer (some ⟨eb, 0, none⟩))::s6::s7::s8::(.pointer (some ⟨pb, i * 5, none⟩))::(.slice V0 vn vc)::s11::s12::s13::s14::s15::s16::s17::s18::s19::s20::s21::s22::s23::s24::s25::s26::s27::s28::s29::s30::s31::s32::s33::s34::s35::s36::s37::s38::s39::s40::s41::s42::s43::s44::s45::s46::s47::s48::s49::s50::s51::s52::s53::s54::s55::s56::s57::s58::s59::s60::s61::s62::s63::s64::s65::s66::s67::s68::s69::s70::s71::s72::s73::s74::s75::s76::s77::s78::s79::s80::s81::s82::s83::s84::s85::s86::s87::s88::s89::s90::s91::s92::s93::s94::s95::s96::s97::s98::s99::[]), defers := [] } wr := by
  conv at hc => rhs; whnf
  subst hc
  have HX := Lib.hid hx
  have HST := Lib.hid hst
  have HV := Lib.hid hv
  have HVF := Lib.hid hvf
  have HEB := Lib.hid heb
  have HEF := Lib.hid hef
  have HOL := Lib.hid hol
  have HBW := Lib.hid hB
  have HAPP := Lib.hid (fun (w1 : World) (hb1 : Below wr.heap.size wr w1) (o : Ot) => appAck hx hst hv (fun k e => (hvf k e).1) hol hb1 o)
  have HACK := Lib.hid (fun (wi : World) (hb : Below wr.heap.size wr wi) (q : Int) => ack_any (hx.later hb) hn16 i hi hnode q)
  have HPAY : Hid (e.pay.size ≤ 4032) := Lib.hid (by have := of_decide_eq_true hr; omega)
  unfold tailM
  rw [peerOf_at hi]
  obtain ⟨p1, hp1⟩ : ∃ p, S.peers[i]'hi = p := ⟨_, rfl⟩
  have hpi0 := hp1
  have hpi := hx.peer i hi
  rw [hp1] at hpi hok HACK ⊢
  have HP1 := Lib.hid hpi
  have HWK := Lib.hid hok.win
  have HL32 := Lib.hid hok.len
  obtain ⟨ep, hep⟩ : ∃ x, S.epoch = x := ⟨_, rfl⟩
  rw [hep] at HACK
  have HEP := Lib.hid hep
  have c1 : wr.cell? ⟨sb, 1, none⟩ = _ := hx.cel.cell (j := 1) rfl
  rw [hep] at c1
  have y0 := heb.cell (j := 0) rfl
  have y2 := heb.cell (j := 2) rfl
  have y3 := heb.cell (j := 3) rfl
  obtain ⟨kd, hkd⟩ : ∃ x, e.kind = x := ⟨_, rfl⟩
  obtain ⟨pe, hpe⟩ : ∃ x, e.peer = x := ⟨_, rfl⟩
  rw [hkd] at y0
  rw [hpe] at y2
  rw [hkd, hpe, hep]
  have HKD := Lib.hid hkd
  have HPE := Lib.hid hpe
  obtain ⟨n, hpn⟩ : ∃ x : Int, (i : Int) + 1 = x := ⟨_, rfl⟩
  rw [hpn] at HACK ⊢
  have HPN := Lib.hid hpn
  have HPU : Hid (∀ {p' : Pm} {A' : Option Addr} {ac' : Nat} {w' : World}, PStep B pb (i * 5) (As i) wr p' A' ac' w' → B ≤ wr.heap.size → SStep B F wr sb (putP S n p') (fun k => F k ∨ wr.heap.size ≤ k ∧ some k = blk A') w') := Lib.hid fun hp hb => by
    have h1 := hx.turn hi hp hb
    rw [← hpn, putP_at]
    exact h1
  clear hx hst hv hvf hol heb hef hr hpi hok hp1 hep hkd hpe hpn hB hnode hn16
  by_cases hstale : pe ≠ 0 ∧ pe ≠ ep
  · rw [if_pos hstale]
    have e1 : (pe == 0) = false := by simpa using hstale.1
    have e2 : (pe == ep) = false := by simpa using hstale.2
    have e3 : (pe != 0) = true := by simpa using hstale.1
    have e4 : (pe != ep) = true := by simpa using hstale.2
    apply wp_seq_k
    intro K hK
    have HKT := Lib.hid hK
    clear hK
    clear hstale y0 y3
    go_wp2_with fail
    go_quiet (fail)
    go_wp2_with fail
    refine (HACK.out _ (below_drewN (Below.refl _ _) _) 0).mono ?_
    rintro r w1 ⟨rfl, hb1⟩
    obtain ⟨V', n', c', w5, hrun, hrow, hx5, hst5, hvf5, _⟩ := HAPP.out w1 ((below_drewN (Below.refl _ _) _).trans hb1) (ackO S n p1.known 0)
    unfold ackO at hrun hrow
    dsimp only at hrun hrow
    rw [HEP.out] at hrun hrow
    have HRUN := Lib.hid hrun
    have HFIN : Hid (TakeEnds B sb F0 w (⟨#[]⟩, out ++ [ackO S n p1.known 0], 11, S) (.returned (.tuple #[.string ⟨#[]⟩, .slice V' n' c', .int .i64 11])) w5) := Lib.hid ⟨V', n', c', F, rfl, by unfold ackO; rw [HEP.out]; exact hrow, hst5, hvf5⟩
    clear hrun hrow hx5 hst5 hvf5 hb1 y2 c1
    go_wp2_with (at_builtin
                 refine Lib.wpList_append_run (w1.alloc (.cells #[.int .i64 n, .int .i64 2, .int .i64 ep, .int .i64 p1.known, .int .i64 0, .string ⟨#[]⟩] 89)) rfl (.tmp 61) (.tmp 65) 48 48 rfl (.slice V0 vn vc) (.slice (some ⟨w1.heap.size, 0, none⟩) 1 1) rfl rfl _ _ HRUN.out ?_)
    go_returns
    exact HFIN.out
  · rw [if_neg hstale]
    have hpe2 : pe = 0 ∨ pe = ep := by
      by_cases h0 : pe = 0
      · exact Or.inl h0
      · exact Or.inr (by by_cases h1 : pe = ep; exact h1; exact absurd ⟨h0, h1⟩ hstale)
    clear hstale
    by_cases hk2 : kd = 2
    · subst hk2
      rw [if_pos rfl]
      by_cases hp0 : pe = 0
      · subst hp0
        rw [if_pos rfl]
        have HFIN : Hid (∀ n2, TakeEnds B sb F0 w (⟨#[]⟩, out, 0, S) (.returned (.tuple #[.string ⟨#[]⟩, .slice V0 vn vc, .int .i64 0])) (wr.drewN n2)) := Lib.hid fun n2 => ⟨V0, vn, vc, F, rfl, HV.out.later (below_drewN (Below.refl _ _) _), HST.out.after (below_drewN (Below.refl _ _) _), fun k e2 => (HVF.out k e2).1⟩
        apply wp_seq_k
        intro K hK
        have HKT := Lib.hid hK
        clear hK
        clear hpe2 y3 c1
        go_wp2_with fail
        go_quiet (fail)
        go_wp2_with fail
        go_returns
        exact HFIN.out _
      · rw [if_neg hp0]
        obtain rfl : pe = ep := hpe2.resolve_left hp0
        have e1 : (pe == 0) = false := by simpa using hp0
        have e3 : (pe != 0) = true := by simpa using hp0
        have HLG := Lib.hid (fun (wi : World) (hb : Below wr.heap.size wr wi) => letGo_any (HP1.out.later hb) (by have := HL32.out; omega) e.seq)
        apply wp_seq_k
        intro K hK
        have HKT := Lib.hid hK
        clear hK
        clear hpe2 hp0
        go_wp2_with fail
        go_quiet (fail)
        go_wp2_with fail
        refine (HLG.out _ (below_drewN (Below.refl _ _) _)).mono ?_
        rintro r w1 ⟨rfl, A', ac', hps⟩
        have HFIN : Hid (TakeEnds B sb F0 w (⟨#[]⟩, out, 0, putP S n (goP p1 e.seq)) (.returned (.tuple #[.string ⟨#[]⟩, .slice V0 vn vc, .int .i64 0])) w1) := Lib.hid (by
          have hps2 := hps.before (below_drewN (Below.refl _ _) _)
          have hss := HPU.out hps2 (Nat.le_trans HBW.out HST.out.only.size)
          refine ⟨V0, vn, vc, _, rfl, row_only HV.out hss.only fun k e2 e3 => (HVF.out k (by rw [own_blk] at e2; exact e2)).1 e3, HST.out.trans hss, fun k e2 e3 => ?_⟩
          rcases e3 with e3 | e3
          · exact (HVF.out k e2).1 e3
          · have h1 := (HV.out.lt k (by rw [own_blk]; exact e2)).2
            omega)
        clear hps y0 y2 y3 c1
        go_wp2_with fail
        go_returns
        exact HFIN.out
    · rw [if_neg hk2]
      have ek : (kd == 2) = false := by simpa using hk2
      clear hk2
      obtain ⟨sn, hsn⟩ : ∃ s, seenL p1.L e.seq = s := ⟨_, rfl⟩
      have HPI := Lib.hid hpi0
      have HSQ := Lib.hid hsn
      have hs1 := seeL_one p1.L e.seq
      rw [hsn] at hs1 ⊢
      by_cases hp0 : pe = 0
      · subst hp0
        apply wp_seq_k
        intro K hK
        have HKT := Lib.hid hK
        clear hK
        clear hpe2
        go_wp2_with fail
        go_quiet (fail)
        go_wp2_with fail
        refine HKT.out _ _ ?_
        clear HKT
        go_wp2_with fail
        refine (HACK.out _ (below_drewN (Below.refl _ _) _) e.seq).mono ?_
        rintro r w1 ⟨rfl, hb1⟩
        have hbw : Below wr.heap.size wr w1 := (below_drewN (Below.refl _ _) _).trans (hb1.mono ((below_drewN (Below.refl _ _) _) : Below wr.heap.size wr _).size)
        obtain ⟨V', n', c', we, hrun, hrow, hx5, hst5, hvf5, hon5⟩ := HAPP.out w1 hbw (ackO S n p1.known e.seq)
        unfold ackO at hrun hrow
        dsimp only at hrun hrow
        rw [HEP.out] at hrun hrow
        have HRUN := Lib.hid hrun
        have HROW := Lib.hid hrow
        have HX5 := Lib.hid hx5
        have HST5 := Lib.hid hst5
        have HVF5 := Lib.hid hvf5
        have heb5 : Cells we eb 23 e.vals := cells_only HEB.out hon5 fun e2 => (HVF.out eb e2).2 rfl
        have z3 := heb5.cell (j := 3) rfl
        have z4 := heb5.cell (j := 4) rfl
        have HEB5 := Lib.hid heb5
        have hp5 := hx5.peer i hi
        rw [HPI.out] at hp5
        have HP5 := Lib.hid hp5
        clear hrun hrow hx5 hst5 hvf5 hon5 heb5 hp5 hbw hb1 y0 y2
        go_wp2_with (at_builtin
                     refine Lib.wpList_append_run (w1.alloc (.cells #[.int .i64 n, .int .i64 2, .int .i64 ep, .int .i64 p1.known, .int .i64 e.seq, .string ⟨#[]⟩] 89)) rfl (.tmp 79) (.tmp 85) 48 48 rfl (.slice V0 vn vc) (.slice (some ⟨w1.heap.size, 0, none⟩) 1 1) rfl rfl _ _ HRUN.out ?_)
        cases sn with
        | true =>
          rw [if_pos rfl] at hs1
          have HSN : Hid ((seeL p1.L [e.seq]).1 = 0) := Lib.hid (by rw [hs1])
          have HSL : Hid ((seeL p1.L [e.seq]).2 = p1.L) := Lib.hid (by rw [hs1])
          have HP1' := HP5
          clear HP1 hs1 hsn HEB
          have HP1 := HP1'
          have HEB := HEB5
          clear HP1' HEB5 HP5
          refine Reg.region_heavy (by kernel_rfl) 6 [7] (sesTake16S pb (i * 5) eb e.seq) (fun a => Below we.heap.size we a) (fun a => WinAt a pb (i * 5) (seeL p1.L [e.seq]).2 ∧ Upd pb (i * 5) 2 we a) (fun V => [(some 87, V 0), (some 88, V 1), (some 89, V 2), (some 90, V 3), (some 91, V 4), (some 92, V 5), (some 93, V 6), (some 94, V 7)]) (by kernel_rfl) (by kernel_rfl) (by kernel_rfl) (fun V => rfl) ?_ ?_ ?_
          · exact (Below.refl _ _).drew
          · intro i o ho
            have hi : i < 8 := (Array.getElem?_eq_some_iff.1 ho).1
            rcases i with _ | _ | _ | _ | _ | _ | _ | _ | i
            rotate_right
            · omega
            all_goals obtain rfl := Option.some.inj ho
            all_goals intro ρ wi hE hI hs hd
            all_goals try dsimp only at hI
            · have e9 : ρ (.tmp 9) = .pointer (some ⟨pb, i * 5, none⟩) := hs 9; exact Reg.gw hI
            · obtain ⟨_, rfl, e87⟩ := hd 0 87; exact Reg.gw hI
            · obtain ⟨_, rfl, e88⟩ := hd 1 88; exact Reg.gw hI
            · have e5 : ρ (.tmp 5) = .pointer (some ⟨eb, 0, none⟩) := hs 5; exact Reg.gw hI
            · obtain ⟨_, rfl, e90⟩ := hd 3 90; have x0 := (HEB.out.later hI).cell (j := 3) rfl; exact Reg.gw hI
            · obtain ⟨_, rfl, e91⟩ := hd 4 91; have hal := below_alloc wi (.cells #[.int .i64 e.seq] 3); have hlt := (HP1.out.later hI).win.lt
              exact Reg.Gives.value (v := .slice (some ⟨wi.heap.size, 0, none⟩) 1 1) (w' := wi.alloc (.cells #[.int .i64 e.seq] 3)) (by go_simp) ⟨⟨_, rfl, cells_new _ _ _ _ rfl, by omega⟩, hI.trans (hal.mono hI.size), fun j u _ _ h => sesTake16S_later hal h⟩
            · obtain ⟨_, rfl, e89⟩ := hd 2 89; obtain ⟨u92, g92, e92⟩ := hd 5 92; have hf := hE.func; obtain ⟨kk, hx, hck, hkp⟩ := g92
              rw [hx] at e92
              refine Reg.Gives.call (f := 55) (args := #[.pointer (some ⟨pb, i * 5, none⟩), .slice (some ⟨kk, 0, none⟩) 1 1]) (w' := wi) (by go_simp) ?_
              refine (See_any (HP1.out.later hI).win HWK.out 1 (ks := [e.seq]) (A := some ⟨kk, 0, none⟩) (fun j hj => ⟨kk, 0, rfl, by rw [Nat.zero_add]; exact hck.cell (by match j, hj with | 0, _ => rfl)⟩) (fun g off e2 _ => by cases e2; exact hkp) (by simp)).mono ?_
              rintro e' w'' ⟨rfl, hwn, hup⟩
              rw [HSN.out]
              exact ⟨_, rfl, ⟨rfl, ⟨hwn, hup.before hI⟩, fun j u _ hal h => sesTake16S_keep (fun e => by subst e; rw [show Reg.alive _ _ 6 5 = false by kernel_rfl] at hal; cases hal) h⟩⟩
            · obtain ⟨_, rfl, e93⟩ := hd 6 93; have hc := hE.const; exact Reg.gw hI
          · intro V wf hV hI
            have hV7 : V 7 = .bool true := hV 7 (by decide) rfl
            simp only [Reg.putsO, List.foldl_cons, List.foldl_nil, Act.put, List.setIfInBounds_toArray, List.set_cons_succ, List.set_cons_zero, hV7]
            replace hI : (fun a => WinAt a pb (i * 5) (seeL p1.L [e.seq]).2 ∧ Upd pb (i * 5) 2 we a) wf := hI
            clear hV hV7
            obtain ⟨hw1, hu1⟩ := hI
            rw [HSL.out] at hw1
            have hps := HP1.out.winTurn hw1 hu1
            have HFIN : Hid (TakeEnds B sb F0 w (⟨#[]⟩, out ++ [ackO S n p1.known e.seq], 9, S) (.returned (.tuple #[.string ⟨#[]⟩, .slice V' n' c', .int .i64 9])) wf) := Lib.hid (by
              have hss := HX5.out.turn hi hps (Nat.le_trans HBW.out HST5.out.only.size)
              have heq : ({ S with peers := S.peers.set i (⟨p1.L, p1.known, p1.last, p1.held⟩ : Pm) } : Sm) = S := by
                rw [show (⟨p1.L, p1.known, p1.last, p1.held⟩ : Pm) = S.peers[i]'hi from HPI.out.symm, List.set_getElem_self]
              rw [heq] at hss
              have hlt := HROW.out
              refine ⟨V', n', c', _, rfl, by unfold ackO; rw [HEP.out]; exact row_only HROW.out hss.only fun k e2 e3 => HVF5.out k (by rw [own_blk] at e2; exact e2) e3, HST5.out.trans hss, fun k e2 e3 => ?_⟩
              rcases e3 with e3 | e3
              · exact HVF5.out k e2 e3
              · have h1 := (HROW.out.lt k (by rw [own_blk]; exact e2)).2
                omega)
            clear hw1 hu1 hps z3 z4 c1 y3
            go_wp2_with fail
            go_returns
            exact HFIN.out
        | false =>
          rw [if_neg (by decide)] at hs1
          have HSN : Hid ((seeL p1.L [e.seq]).1 = 1) := Lib.hid (by rw [hs1])
          have HSL : Hid ((seeL p1.L [e.seq]).2 = p1.L ++ [e.seq]) := Lib.hid (by rw [hs1])
          have HP1' := HP5
          clear HP1 hs1 hsn HEB
          have HP1 := HP1'
          have HEB := HEB5
          clear HP1' HEB5 HP5
          refine Reg.region_heavy (by kernel_rfl) 6 [7] (sesTake16N pb (i * 5) eb e.seq) (fun a => Below we.heap.size we a) (fun a => WinAt a pb (i * 5) (seeL p1.L [e.seq]).2 ∧ Upd pb (i * 5) 2 we a) (fun V => [(some 87, V 0), (some 88, V 1), (some 89, V 2), (some 90, V 3), (some 91, V 4), (some 92, V 5), (some 93, V 6), (some 94, V 7)]) (by kernel_rfl) (by kernel_rfl) (by kernel_rfl) (fun V => rfl) ?_ ?_ ?_
          · exact (Below.refl _ _).drew
          · intro i o ho
            have hi : i < 8 := (Array.getElem?_eq_some_iff.1 ho).1
            rcases i with _ | _ | _ | _ | _ | _ | _ | _ | i
            rotate_right
            · omega
            all_goals obtain rfl := Option.some.inj ho
            all_goals intro ρ wi hE hI hs hd
            all_goals try dsimp only at hI
            · have e9 : ρ (.tmp 9) = .pointer (some ⟨pb, i * 5, none⟩) := hs 9; exact Reg.gw hI
            · obtain ⟨_, rfl, e87⟩ := hd 0 87; exact Reg.gw hI
            · obtain ⟨_, rfl, e88⟩ := hd 1 88; exact Reg.gw hI
            · have e5 : ρ (.tmp 5) = .pointer (some ⟨eb, 0, none⟩) := hs 5; exact Reg.gw hI
            · obtain ⟨_, rfl, e90⟩ := hd 3 90; have x0 := (HEB.out.later hI).cell (j := 3) rfl; exact Reg.gw hI
            · obtain ⟨_, rfl, e91⟩ := hd 4 91; have hal := below_alloc wi (.cells #[.int .i64 e.seq] 3); have hlt := (HP1.out.later hI).win.lt
              exact Reg.Gives.value (v := .slice (some ⟨wi.heap.size, 0, none⟩) 1 1) (w' := wi.alloc (.cells #[.int .i64 e.seq] 3)) (by go_simp) ⟨⟨_, rfl, cells_new _ _ _ _ rfl, by omega⟩, hI.trans (hal.mono hI.size), fun j u _ _ h => sesTake16N_later hal h⟩
            · obtain ⟨_, rfl, e89⟩ := hd 2 89; obtain ⟨u92, g92, e92⟩ := hd 5 92; have hf := hE.func; obtain ⟨kk, hx, hck, hkp⟩ := g92
              rw [hx] at e92
              refine Reg.Gives.call (f := 55) (args := #[.pointer (some ⟨pb, i * 5, none⟩), .slice (some ⟨kk, 0, none⟩) 1 1]) (w' := wi) (by go_simp) ?_
              refine (See_any (HP1.out.later hI).win HWK.out 1 (ks := [e.seq]) (A := some ⟨kk, 0, none⟩) (fun j hj => ⟨kk, 0, rfl, by rw [Nat.zero_add]; exact hck.cell (by match j, hj with | 0, _ => rfl)⟩) (fun g off e2 _ => by cases e2; exact hkp) (by simp)).mono ?_
              rintro e' w'' ⟨rfl, hwn, hup⟩
              rw [HSN.out]
              exact ⟨_, rfl, ⟨rfl, ⟨hwn, hup.before hI⟩, fun j u _ hal h => sesTake16N_keep (fun e => by subst e; rw [show Reg.alive _ _ 6 5 = false by kernel_rfl] at hal; cases hal) h⟩⟩
            · obtain ⟨_, rfl, e93⟩ := hd 6 93; have hc := hE.const; exact Reg.gw hI
          · intro V wf hV hI
            have hV7 : V 7 = .bool false := hV 7 (by decide) rfl
            simp only [Reg.putsO, List.foldl_cons, List.foldl_nil, Act.put, List.setIfInBounds_toArray, List.set_cons_succ, List.set_cons_zero, hV7]
            replace hI : (fun a => WinAt a pb (i * 5) (seeL p1.L [e.seq]).2 ∧ Upd pb (i * 5) 2 we a) wf := hI
            clear hV hV7
            obtain ⟨hw1, hu1⟩ := hI
            rw [HSL.out] at hw1
            have hps := HP1.out.winTurn hw1 hu1
            have heb6 : Cells wf eb 23 e.vals := cells_only HEB.out hu1.only fun e2 => HEF.out (by rw [e2]; exact HX5.out.fp)
            have y4 := heb6.cell (j := 4) rfl
            have HCL := Lib.hid (clone_any e.pay wf (by have := HPAY.out; omega))
            have HFIN : Hid (∀ w9, Below wf.heap.size wf w9 → TakeEnds B sb F0 w (e.pay, out ++ [ackO S n p1.known e.seq], 0, putP S n ⟨p1.L ++ [e.seq], p1.known, p1.last, p1.held⟩) (.returned (.tuple #[.string e.pay, .slice V' n' c', .int .i64 0])) w9) := Lib.hid (fun w9 hb9 => by
              have hss := HX5.out.turn hi hps (Nat.le_trans HBW.out HST5.out.only.size)
              rw [← putP_at, HPN.out] at hss
              refine ⟨V', n', c', _, rfl, by unfold ackO; rw [HEP.out]; exact OwnG.later (row_only HROW.out hss.only fun k e2 e3 => HVF5.out k (by rw [own_blk] at e2; exact e2) e3) hb9, (HST5.out.trans hss).after hb9, fun k e2 e3 => ?_⟩
              rcases e3 with e3 | e3
              · exact HVF5.out k e2 e3
              · have h1 := (HROW.out.lt k (by rw [own_blk]; exact e2)).2
                omega)
            clear hw1 hu1 hps heb6 z3 z4 c1 y3
            go_wp2_with fail
            refine HCL.out.mono ?_
            rintro r w9 ⟨rfl, hb9⟩
            have HF9 := Lib.hid (HFIN.out w9 hb9)
            clear hb9
            go_wp2_with fail
            go_returns
            exact HF9.out
      · obtain rfl : ep = pe := (hpe2.resolve_left hp0).symm
        have e1 : (ep == 0) = false := by simpa using hp0
        have e3 : (ep != 0) = true := by simpa using hp0
        apply wp_seq_k
        intro K hK
        have HKT := Lib.hid hK
        clear hK
        clear hpe2 hp0
        go_wp2_with fail
        go_quiet (fail)
        go_wp2_with fail
        refine HKT.out _ _ ?_
        clear HKT
        go_wp2_with fail
        refine (HACK.out _ (below_drewN (Below.refl _ _) _) e.seq).mono ?_
        rintro r w1 ⟨rfl, hb1⟩
        have hbw : Below wr.heap.size wr w1 := (below_drewN (Below.refl _ _) _).trans (hb1.mono ((below_drewN (Below.refl _ _) _) : Below wr.heap.size wr _).size)
        obtain ⟨V', n', c', we, hrun, hrow, hx5, hst5, hvf5, hon5⟩ := HAPP.out w1 hbw (ackO S n p1.known e.seq)
        unfold ackO at hrun hrow
        dsimp only at hrun hrow
        rw [HEP.out] at hrun hrow
        have HRUN := Lib.hid hrun
        have HROW := Lib.hid hrow
        have HX5 := Lib.hid hx5
        have HST5 := Lib.hid hst5
        have HVF5 := Lib.hid hvf5
        have heb5 : Cells we eb 23 e.vals := cells_only HEB.out hon5 fun e2 => (HVF.out eb e2).2 rfl
        have z3 := heb5.cell (j := 3) rfl
        have z4 := heb5.cell (j := 4) rfl
        have HEB5 := Lib.hid heb5
        have hp5 := hx5.peer i hi
        rw [HPI.out] at hp5
        have HP5 := Lib.hid hp5
        clear hrun hrow hx5 hst5 hvf5 hon5 heb5 hp5 hbw hb1 y0 y2
        go_wp2_with (at_builtin
                     refine Lib.wpList_append_run (w1.alloc (.cells #[.int .i64 n, .int .i64 2, .int .i64 ep, .int .i64 p1.known, .int .i64 e.seq, .string ⟨#[]⟩] 89)) rfl (.tmp 79) (.tmp 85) 48 48 rfl (.slice V0 vn vc) (.slice (some ⟨w1.heap.size, 0, none⟩) 1 1) rfl rfl _ _ HRUN.out ?_)
        cases sn with
        | true =>
          rw [if_pos rfl] at hs1
          have HSN : Hid ((seeL p1.L [e.seq]).1 = 0) := Lib.hid (by rw [hs1])
          have HSL : Hid ((seeL p1.L [e.seq]).2 = p1.L) := Lib.hid (by rw [hs1])
          have HP1' := HP5
          clear HP1 hs1 hsn HEB
          have HP1 := HP1'
          have HEB := HEB5
          clear HP1' HEB5 HP5
          refine Reg.region_heavy (by kernel_rfl) 6 [7] (sesTake16S pb (i * 5) eb e.seq) (fun a => Below we.heap.size we a) (fun a => WinAt a pb (i * 5) (seeL p1.L [e.seq]).2 ∧ Upd pb (i * 5) 2 we a) (fun V => [(some 87, V 0), (some 88, V 1), (some 89, V 2), (some 90, V 3), (some 91, V 4), (some 92, V 5), (some 93, V 6), (some 94, V 7)]) (by kernel_rfl) (by kernel_rfl) (by kernel_rfl) (fun V => rfl) ?_ ?_ ?_
          · exact (Below.refl _ _).drew
          · intro i o ho
            have hi : i < 8 := (Array.getElem?_eq_some_iff.1 ho).1
            rcases i with _ | _ | _ | _ | _ | _ | _ | _ | i
            rotate_right
            · omega
            all_goals obtain rfl := Option.some.inj ho
            all_goals intro ρ wi hE hI hs hd
            all_goals try dsimp only at hI
            · have e9 : ρ (.tmp 9) = .pointer (some ⟨pb, i * 5, none⟩) := hs 9; exact Reg.gw hI
            · obtain ⟨_, rfl, e87⟩ := hd 0 87; exact Reg.gw hI
            · obtain ⟨_, rfl, e88⟩ := hd 1 88; exact Reg.gw hI
            · have e5 : ρ (.tmp 5) = .pointer (some ⟨eb, 0, none⟩) := hs 5; exact Reg.gw hI
            · obtain ⟨_, rfl, e90⟩ := hd 3 90; have x0 := (HEB.out.later hI).cell (j := 3) rfl; exact Reg.gw hI
            · obtain ⟨_, rfl, e91⟩ := hd 4 91; have hal := below_alloc wi (.cells #[.int .i64 e.seq] 3); have hlt := (HP1.out.later hI).win.lt
              exact Reg.Gives.value (v := .slice (some ⟨wi.heap.size, 0, none⟩) 1 1) (w' := wi.alloc (.cells #[.int .i64 e.seq] 3)) (by go_simp) ⟨⟨_, rfl, cells_new _ _ _ _ rfl, by omega⟩, hI.trans (hal.mono hI.size), fun j u _ _ h => sesTake16S_later hal h⟩
            · obtain ⟨_, rfl, e89⟩ := hd 2 89; obtain ⟨u92, g92, e92⟩ := hd 5 92; have hf := hE.func; obtain ⟨kk, hx, hck, hkp⟩ := g92
              rw [hx] at e92
              refine Reg.Gives.call (f := 55) (args := #[.pointer (some ⟨pb, i * 5, none⟩), .slice (some ⟨kk, 0, none⟩) 1 1]) (w' := wi) (by go_simp) ?_
              refine (See_any (HP1.out.later hI).win HWK.out 1 (ks := [e.seq]) (A := some ⟨kk, 0, none⟩) (fun j hj => ⟨kk, 0, rfl, by rw [Nat.zero_add]; exact hck.cell (by match j, hj with | 0, _ => rfl)⟩) (fun g off e2 _ => by cases e2; exact hkp) (by simp)).mono ?_
              rintro e' w'' ⟨rfl, hwn, hup⟩
              rw [HSN.out]
              exact ⟨_, rfl, ⟨rfl, ⟨hwn, hup.before hI⟩, fun j u _ hal h => sesTake16S_keep (fun e => by subst e; rw [show Reg.alive _ _ 6 5 = false by kernel_rfl] at hal; cases hal) h⟩⟩
            · obtain ⟨_, rfl, e93⟩ := hd 6 93; have hc := hE.const; exact Reg.gw hI
          · intro V wf hV hI
            have hV7 : V 7 = .bool true := hV 7 (by decide) rfl
            simp only [Reg.putsO, List.foldl_cons, List.foldl_nil, Act.put, List.setIfInBounds_toArray, List.set_cons_succ, List.set_cons_zero, hV7]
            replace hI : (fun a => WinAt a pb (i * 5) (seeL p1.L [e.seq]).2 ∧ Upd pb (i * 5) 2 we a) wf := hI
            clear hV hV7
            obtain ⟨hw1, hu1⟩ := hI
            rw [HSL.out] at hw1
            have hps := HP1.out.winTurn hw1 hu1
            have HFIN : Hid (TakeEnds B sb F0 w (⟨#[]⟩, out ++ [ackO S n p1.known e.seq], 9, S) (.returned (.tuple #[.string ⟨#[]⟩, .slice V' n' c', .int .i64 9])) wf) := Lib.hid (by
              have hss := HX5.out.turn hi hps (Nat.le_trans HBW.out HST5.out.only.size)
              have heq : ({ S with peers := S.peers.set i (⟨p1.L, p1.known, p1.last, p1.held⟩ : Pm) } : Sm) = S := by
                rw [show (⟨p1.L, p1.known, p1.last, p1.held⟩ : Pm) = S.peers[i]'hi from HPI.out.symm, List.set_getElem_self]
              rw [heq] at hss
              have hlt := HROW.out
              refine ⟨V', n', c', _, rfl, by unfold ackO; rw [HEP.out]; exact row_only HROW.out hss.only fun k e2 e3 => HVF5.out k (by rw [own_blk] at e2; exact e2) e3, HST5.out.trans hss, fun k e2 e3 => ?_⟩
              rcases e3 with e3 | e3
              · exact HVF5.out k e2 e3
              · have h1 := (HROW.out.lt k (by rw [own_blk]; exact e2)).2
                omega)
            clear hw1 hu1 hps z3 z4 c1 y3
            go_wp2_with fail
            go_returns
            exact HFIN.out
        | false =>
          rw [if_neg (by decide)] at hs1
          have HSN : Hid ((seeL p1.L [e.seq]).1 = 1) := Lib.hid (by rw [hs1])
          have HSL : Hid ((seeL p1.L [e.seq]).2 = p1.L ++ [e.seq]) := Lib.hid (by rw [hs1])
          have HP1' := HP5
          clear HP1 hs1 hsn HEB
          have HP1 := HP1'
          have HEB := HEB5
          clear HP1' HEB5 HP5
          refine Reg.region_heavy (by kernel_rfl) 6 [7] (sesTake16N pb (i * 5) eb e.seq) (fun a => Below we.heap.size we a) (fun a => WinAt a pb (i * 5) (seeL p1.L [e.seq]).2 ∧ Upd pb (i * 5) 2 we a) (fun V => [(some 87, V 0), (some 88, V 1), (some 89, V 2), (some 90, V 3), (some 91, V 4), (some 92, V 5), (some 93, V 6), (some 94, V 7)]) (by kernel_rfl) (by kernel_rfl) (by kernel_rfl) (fun V => rfl) ?_ ?_ ?_
          · exact (Below.refl _ _).drew
          · intro i o ho
            have hi : i < 8 := (Array.getElem?_eq_some_iff.1 ho).1
            rcases i with _ | _ | _ | _ | _ | _ | _ | _ | i
            rotate_right
            · omega
            all_goals obtain rfl := Option.some.inj ho
            all_goals intro ρ wi hE hI hs hd
            all_goals try dsimp only at hI
            · have e9 : ρ (.tmp 9) = .pointer (some ⟨pb, i * 5, none⟩) := hs 9; exact Reg.gw hI
            · obtain ⟨_, rfl, e87⟩ := hd 0 87; exact Reg.gw hI
            · obtain ⟨_, rfl, e88⟩ := hd 1 88; exact Reg.gw hI
            · have e5 : ρ (.tmp 5) = .pointer (some ⟨eb, 0, none⟩) := hs 5; exact Reg.gw hI
            · obtain ⟨_, rfl, e90⟩ := hd 3 90; have x0 := (HEB.out.later hI).cell (j := 3) rfl; exact Reg.gw hI
            · obtain ⟨_, rfl, e91⟩ := hd 4 91; have hal := below_alloc wi (.cells #[.int .i64 e.seq] 3); have hlt := (HP1.out.later hI).win.lt
              exact Reg.Gives.value (v := .slice (some ⟨wi.heap.size, 0, none⟩) 1 1) (w' := wi.alloc (.cells #[.int .i64 e.seq] 3)) (by go_simp) ⟨⟨_, rfl, cells_new _ _ _ _ rfl, by omega⟩, hI.trans (hal.mono hI.size), fun j u _ _ h => sesTake16N_later hal h⟩
            · obtain ⟨_, rfl, e89⟩ := hd 2 89; obtain ⟨u92, g92, e92⟩ := hd 5 92; have hf := hE.func; obtain ⟨kk, hx, hck, hkp⟩ := g92
              rw [hx] at e92
              refine Reg.Gives.call (f := 55) (args := #[.pointer (some ⟨pb, i * 5, none⟩), .slice (some ⟨kk, 0, none⟩) 1 1]) (w' := wi) (by go_simp) ?_
              refine (See_any (HP1.out.later hI).win HWK.out 1 (ks := [e.seq]) (A := some ⟨kk, 0, none⟩) (fun j hj => ⟨kk, 0, rfl, by rw [Nat.zero_add]; exact hck.cell (by match j, hj with | 0, _ => rfl)⟩) (fun g off e2 _ => by cases e2; exact hkp) (by simp)).mono ?_
              rintro e' w'' ⟨rfl, hwn, hup⟩
              rw [HSN.out]
              exact ⟨_, rfl, ⟨rfl, ⟨hwn, hup.before hI⟩, fun j u _ hal h => sesTake16N_keep (fun e => by subst e; rw [show Reg.alive _ _ 6 5 = false by kernel_rfl] at hal; cases hal) h⟩⟩
            · obtain ⟨_, rfl, e93⟩ := hd 6 93; have hc := hE.const; exact Reg.gw hI
          · intro V wf hV hI
            have hV7 : V 7 = .bool false := hV 7 (by decide) rfl
            simp only [Reg.putsO, List.foldl_cons, List.foldl_nil, Act.put, List.setIfInBounds_toArray, List.set_cons_succ, List.set_cons_zero, hV7]
            replace hI : (fun a => WinAt a pb (i * 5) (seeL p1.L [e.seq]).2 ∧ Upd pb (i * 5) 2 we a) wf := hI
            clear hV hV7
            obtain ⟨hw1, hu1⟩ := hI
            rw [HSL.out] at hw1
            have hps := HP1.out.winTurn hw1 hu1
            have heb6 : Cells wf eb 23 e.vals := cells_only HEB.out hu1.only fun e2 => HEF.out (by rw [e2]; exact HX5.out.fp)
            have y4 := heb6.cell (j := 4) rfl
            have HCL := Lib.hid (clone_any e.pay wf (by have := HPAY.out; omega))
            have HFIN : Hid (∀ w9, Below wf.heap.size wf w9 → TakeEnds B sb F0 w (e.pay, out ++ [ackO S n p1.known e.seq], 0, putP S n ⟨p1.L ++ [e.seq], p1.known, p1.last, p1.held⟩) (.returned (.tuple #[.string e.pay, .slice V' n' c', .int .i64 0])) w9) := Lib.hid (fun w9 hb9 => by
              have hss := HX5.out.turn hi hps (Nat.le_trans HBW.out HST5.out.only.size)
              rw [← putP_at, HPN.out] at hss
              refine ⟨V', n', c', _, rfl, by unfold ackO; rw [HEP.out]; exact OwnG.later (row_only HROW.out hss.only fun k e2 e3 => HVF5.out k (by rw [own_blk] at e2; exact e2) e3) hb9, (HST5.out.trans hss).after hb9, fun k e2 e3 => ?_⟩
              rcases e3 with e3 | e3
              · exact HVF5.out k e2 e3
              · have h1 := (HROW.out.lt k (by rw [own_blk]; exact e2)).2
                omega)
            clear hw1 hu1 hps heb6 z3 z4 c1 y3
            go_wp2_with fail
            refine HCL.out.mono ?_
            rintro r w9 ⟨rfl, hb9⟩
            have HF9 := Lib.hid (HFIN.out w9 hb9)
            clear hb9
            go_wp2_with fail
            go_returns
            exact HF9.out
end Go.Proofs.Ytccdpgbmkiapdaa.Ses
