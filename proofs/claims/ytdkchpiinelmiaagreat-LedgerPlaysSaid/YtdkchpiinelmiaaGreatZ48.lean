/- Part 48 of the proof. Conditions: none. -/
import Derived.Test.YtdkchpiinelmiaaGreatZ47
namespace Go.Proofs.YtdkchpiinelmiaaGreat.Led
set_option maxRecDepth 100000
open Go.RowKit Go.Deep Mem fN Rec
def TU (g2 g6 qb nq qc ii : Nat) (tu u : cT) : Nat -> Value -> World -> Prop := N.tb [.inl (.int .i64 (ii : Int)), .inl (.pointer (some ⟨g6, 5, none⟩)), .inl (.slice (some ⟨qb, 0, none⟩) nq qc), .inl (.int .i64 (nq : Int)), .inl (.bool true), .inl (.bool true), .inl (.pointer (some ⟨g6, 5, none⟩)), .inl (.slice (some ⟨qb, 0, none⟩) nq qc), .inl (.int .i64 (ii : Int)), .inl (.pointer (some ⟨qb, ii * 5, none⟩)), .inl (.pointer (some ⟨qb, ii * 5, none⟩)), .inl (.agg #[.int .i64 tu.node, .int .i64 tu.epoch, .int .i64 tu.seq]), .inl (.pointer (some ⟨g2 + 1, 1, none⟩)), .inl (.agg #[.int .i64 u.node, .int .i64 u.epoch, .int .i64 u.seq]), .inl (.int .i64 (ord tu u)), .inl (.bool (decide (ord tu u < 0))), .inl (.bool (decide (ord tu u < 0)))]
def J_ (g6 qb nq qc : Nat) : Nat -> Value -> World -> Prop := N.tb [.inl (.int .i64 (nq : Int)), .inl (.pointer (some ⟨g6, 5, none⟩)), .inl (.slice (some ⟨qb, 0, none⟩) nq qc), .inl (.int .i64 (nq : Int)), .inl (.bool false), .inl (.bool false), .inl (undef), .inl (undef), .inl (undef), .inl (undef), .inl (undef), .inl (undef), .inl (undef), .inl (undef), .inl (undef), .inl (undef), .inl (.bool false)]
theorem Ek {s : St} (h : Good s) (u : cT) : ∀ a b : Nat, a <= b -> ((s.ay.map fun x => ord x.tid u)[b]?).getD 0 < 0 -> ((s.ay.map fun x => ord x.tid u)[a]?).getD 0 < 0 := by
 intro a b hab hb; rcases Nat.lt_or_ge b s.ay.length with hlt | hge
 ·have hla : a < s.ay.length := by omega
  rw [List.getElem?_map, List.getElem?_eq_getElem hlt] at hb; rw [List.getElem?_map, List.getElem?_eq_getElem hla]; have hb' : ord s.ay[b].tid u < 0 := hb; show ord s.ay[a].tid u < 0
  by_cases e : a = b
  ·subst e; exact hb'
  have h1 := List.pairwise_iff_getElem.1 h.ps a b hla hlt (by omega)
  exact (bT _ _).2 (jY ((bT _ _).1 h1) ((bT _ _).1 hb'))
 rw [List.getElem?_eq_none (by rw [List.length_map]; exact hge)] at hb
 exact absurd hb (by decide)
set_option maxHeartbeats 4000000 in
theorem T5 {B0 : Nat} {w0 : World} {g2 g6 : Nat} {s : St} {y : Sy} {r : Rc} {z : Lay} (hk : r.kind = 4) (hkn : known s r.tid = false) (hal : jB s r.items = true) (hab : above s [r.tid.node] = false) (ha2 : above s r.nodes = false) (hpt : cX s r.nodes = true) (hfz : bK s r.items = 0) (Xf : room s = true) : xq [1, 1, 1, 1, 1, 1, 1, 1, 1, 0, 1, 0, 1, 1, 1, 1, 1, 1, 1, 1] B0 w0 g2 g6 s y r z := by
 intro wr h Q hQ cc hc; iterate 546 intro _
 conv at hc => rhs; whnf
 subst hc; have HQ := ak hQ; have aN := ak h
 apply wp_seq_k
 intro K hK; have ju := ak hK; clear hK; clear h hQ; obtain ⟨wa, cM⟩ := aj wr; subst cM; have HF : Hid (aC s r = bq s r) := ak (by rw [bN aN.o.rt]; unfold aV; rw [hk]; rfl); have kX : Hid (aC s r = (eN s r, 0)) := ak (by
  rw [HF.o]; unfold bq; rw [if_neg (by rw [hkn]; decide), if_neg (by rw [hal]; decide), if_neg (by rw [hab]; decide), if_neg (by rw [ha2]; decide), if_neg (by rw [hpt]; decide), if_pos hfz, if_neg (by rw [Xf]; decide)])
 clear hk hkn hal hab ha2 hpt hfz Xf HF; obtain ⟨kk, hkk⟩ := ah (jO s.ay (jy r)); have YQ := ak hkk; have HQR := HQ; obtain ⟨_, ⟨qb, hQ, UN⟩, _, _⟩ := aN.o.there; obtain ⟨nq, IZ⟩ := ah s.ay.length; obtain ⟨qc, wZ⟩ := ah y.q; have Le := ak hQ; have Li := ak IZ; have Xz := ak wZ; have wV : Hid (kk <= nq) := ak (by rw [<- hkk, <- IZ]; exact vT _ _); have F8 : Hid (nq <= qc /\ nq <= 512) := ak ⟨by rw [<- IZ, <- wZ]; exact UN, by have := aN.o.gd.room; omega⟩
 have hsp := lT _ (Ek aN.o.gd r.tid); rw [show fC (s.ay.map fun x => ord x.tid r.tid) = kk from hkk] at hsp
 have Vi := ak hsp; have I4 := ak F8.o.2; clear hkk hQ UN IZ wZ hsp
 go_wp2_with fail
 refine ju.o _ _ ?_
 go_upto_block 6 with (fail)
 go_cut [15] from 226 to 244 (fun v wx => v = iv (kk : Int) /\ Hid (Below wa.heap.size wa wx))
 case first =>
  go_wp2_with fail
  go_loopw [15] (fun v wq => ∃ ii : Nat, v = iv (ii : Int) /\ Hid (ii <= nq) /\ Hid (∀ j, j < ii -> ((s.ay.map fun x => ord x.tid r.tid)[j]?).getD 0 < 0) /\ Hid (Below wa.heap.size wa wq)) (fun v _ => nq - (intOf v).toNat)
  case atStart => exact ⟨0, rfl, ak (Nat.zero_le _), ak (fun j hj => absurd hj (by omega)), ak (Below.refl _ _)⟩
  case round =>
   obtain ⟨ii, rfl, Jl, HD, lX⟩ := hrel; have jt : Hid (∀ wi, Below wr.heap.size wr wi -> wi.cell? ⟨g6, 5, none⟩ = some (.slice (some ⟨qb, 0, none⟩) nq qc)) := ak fun wi hb => by
    have h1 := ((aN.o.later lX.o).later hb).fi.own.br.cell (j := 5) rfl; rw [Le.o, Li.o, Xz.o] at h1; exact h1
   by_cases hlt : ii < nq
   ·have Gb : Hid (ii < s.ay.length) := ak (by rw [Li.o]; exact hlt)
    obtain ⟨tu, htu⟩ := ah ((s.ay[ii]'Gb.o).tid); have mS : Hid (∀ wi, Below wr.heap.size wr wi -> wi.rangeAt qb (ii * 5) [iv tu.node, iv tu.epoch, iv tu.seq]) := ak fun wi hb => by
     have hf := ((aN.o.later lX.o).later hb).fi; have hps := hf.own.lists.ps; have hil := Gb.o; obtain ⟨b, off, e, hr⟩ := hf.W8 ii (by rw [List.length_map, List.length_zip]; omega); rw [Le.o] at e; obtain ⟨rfl, rfl, _⟩ := Addr.mk.inj (Option.some.inj e); rw [Nat.zero_add] at hr; refine fun j v hv => hr j v ?_
     have hj : j < 3 := (List.getElem?_eq_some_iff.1 hv).1; rw [List.getElem_map, List.getElem_zip]; unfold pv Pr.vals
     dsimp only
     rw [htu]
     match j, hj with
     | 0, _ | 1, _ | 2, _ => exact hv
    have tX : Hid (∀ wi, Below wr.heap.size wr wi -> Cells wi (g2 + 1) 55 (r.vals z)) := ak fun wi hb => ((aN.o.later lX.o).later hb).dF
    have HI := ak hlt; have Lg : Hid (((s.ay.map fun x => ord x.tid r.tid)[ii]?).getD 0 = ord tu r.tid) := ak (by
     rw [List.getElem?_map, List.getElem?_eq_getElem Gb.o]; show ord (s.ay[ii]'Gb.o).tid r.tid = ord tu r.tid
     rw [htu])
    clear htu
    go_upto_region 52 with (fail)
    refine N.rb 16 [16] (TU g2 g6 qb nq qc ii tu r.tid) wr (fun V => [(some 226, V 0), (some 227, V 1), (some 228, V 2), (some 229, V 3), (some 230, V 4), (some 231, V 5), (some 232, V 6), (some 233, V 7), (some 234, V 8), (some 235, V 9), (some 236, V 10), (some 237, V 11), (some 238, V 12), (some 239, V 13), (some 240, V 14), (some 241, V 15), (some 242, V 16)]) ?_ ?_
    ·intro i o ho
     have hi : i < 17 := (Array.getElem?_eq_some_iff.1 ho).1; rcases i with _ | _ | _ | _ | _ | _ | _ | _ | _ | _ | _ | _ | _ | _ | _ | _ | _ | i
     rotate_right
     ·omega
     all_goals obtain rfl := Option.some.inj ho
     all_goals intro ρ wi hE hI hs hd
     all_goals try dsimp only at hI
     all_goals (have mY : ρ (.tmp 15) = iv (ii : Int) := hs 15; have e6 : ρ (.tmp 6) = (au g6) := hs 6; have hc := hE.const)
     iterate 2 ·exact N.gw hI
     ·obtain ⟨_, rfl, ZM⟩ := hd 1 227; have x0 := jt.o _ hI; exact N.gw hI
     ·obtain ⟨_, rfl, ZK⟩ := hd 2 228; exact N.gw hI
     ·obtain ⟨_, rfl, ZN⟩ := hd 0 226; obtain ⟨_, rfl, ZJ⟩ := hd 3 229
      have z2 : (ii : Int) < (nq : Int) := by have := HI.o; omega
      have z3 : ii < nq := HI.o; exact N.gw hI
     ·obtain ⟨_, rfl, ZI⟩ := hd 4 230; exact N.gw hI
     ·refine N.yes ?_
      exact N.gw hI
     ·obtain ⟨_, rfl, afl⟩ := hd 6 232
      refine N.yes ?_; have x0 := jt.o _ hI; exact N.gw hI
     ·refine N.yes ?_
      exact N.gw hI
     ·obtain ⟨_, rfl, afk⟩ := hd 7 233; obtain ⟨_, rfl, afj⟩ := hd 8 234
      refine N.yes ?_; have z1 : (0 : Int) <= (ii : Int) := by omega
      have z2 : (ii : Int) < (nq : Int) := by have := HI.o; omega
      have z3 : ii < nq := HI.o; exact N.gw hI
     ·obtain ⟨_, rfl, afi⟩ := hd 9 235
      refine N.yes ?_; exact N.gw hI
     ·obtain ⟨_, rfl, afh⟩ := hd 10 236
      refine N.yes ?_; have q0 := mS.o _ hI 0 _ rfl; rw [Nat.add_zero] at q0; have q1 := mS.o _ hI 1 _ rfl; have q2 := mS.o _ hI 2 _ rfl; exact N.gw hI
     ·have e3 : ρ (.tmp 3) = (au (g2 + 1)) := hs 3
      refine N.yes ?_; exact N.gw hI
     ·obtain ⟨_, rfl, aff⟩ := hd 12 238
      refine N.yes ?_; have hq := tX.o _ hI; have q0 := hq.cell (j := 1) rfl; have q1 := hq.cell (j := 2) rfl; have q2 := hq.cell (j := 3) rfl; exact N.gw hI
     ·obtain ⟨_, rfl, afg⟩ := hd 11 237; obtain ⟨_, rfl, afe⟩ := hd 13 239; have hf := hE.func
      refine N.yes ?_; refine N.Gives.call (f := 33) (args := #[.agg #[iv tu.node, iv tu.epoch, iv tu.seq], .agg #[iv r.tid.node, iv r.tid.epoch, iv r.tid.seq]]) (w' := wi) (by go_simp) ?_; refine (mJ tu r.tid wi).mono ?_; rintro e w'' ⟨rfl, hbb⟩; exact ⟨_, rfl, ⟨rfl, hI.trans (hbb.mono hI.size), fun j u _ _ h => N.tz h⟩⟩
     ·obtain ⟨_, rfl, afd⟩ := hd 14 240
      refine N.yes ?_; exact N.gw hI
     obtain ⟨_, rfl, ZH⟩ := hd 5 231; obtain ⟨_, rfl, ZG⟩ := hd 15 241; exact N.gw hI
    intro V wf hV hI
    have jz : V 16 = .bool (decide (ord tu r.tid < 0)) := hV 16 (by decide) rfl; simp only [N.aP, List.foldl_cons, List.foldl_nil, Act.put, List.setIfInBounds_toArray, List.set_cons_succ, List.set_cons_zero, jz]; replace hI : (fun a => Below wr.heap.size wr a) wf := hI; clear hV jz; have jM := ak (lX.o.trans (hI.mono lX.o.size)); clear hI; obtain ⟨b, hb⟩ := ah (decide (ord tu r.tid < 0)); rw [hb]; have mV := ak hb; clear hb
    cases b with
    | true =>
     have jL : Hid (∀ j, j < ii + 1 -> ((s.ay.map fun x => ord x.tid r.tid)[j]?).getD 0 < 0) := ak fun j hj => by
      by_cases e : j = ii
      ·rw [e, Lg.o]
       exact of_decide_eq_true mV.o
      exact HD.o j (by omega)
     clear jt mS tX; have hnl := I4.o
     go_wp2_with fail
     go_roundw
     case rel => exact ⟨ii + 1, by go_num, ak (by omega), jL, jM⟩
     case measure => simp [intOf]; omega
    | false =>
     have sH : Hid (kk = ii) := ak (by
      have h1 := Vi.o; have h2 : ¬ ord tu r.tid < 0 := of_decide_eq_false mV.o; rcases Nat.lt_trichotomy kk ii with e | e | e
      ·exact absurd (HD.o _ e) (by have := h1.2 _ (Nat.le_refl _); omega)
      ·exact e
      exact absurd (by rw [<- Lg.o]; exact h1.1 _ e) h2)
     clear hlt HI mV Lg mS tX jt
     go_wp2_with fail
     go_meet
     exact ⟨by rw [sH.o], jM⟩
   obtain rfl : nq = ii := by have := Jl.o; omega
   have sH : Hid (kk = nq) := ak (by
    have h1 := Vi.o; have h2 := wV.o; rcases Nat.lt_or_ge kk nq with e | e
    ·exact absurd (HD.o _ e) (by have := h1.2 _ (Nat.le_refl _); omega)
    omega)
   clear hlt
   go_upto_region 52 with (fail)
   refine N.rb 16 [16] (J_ g6 qb nq qc) wr (fun V => [(some 226, V 0), (some 227, V 1), (some 228, V 2), (some 229, V 3), (some 230, V 4), (some 231, V 5), (some 232, V 6), (some 233, V 7), (some 234, V 8), (some 235, V 9), (some 236, V 10), (some 237, V 11), (some 238, V 12), (some 239, V 13), (some 240, V 14), (some 241, V 15), (some 242, V 16)]) ?_ ?_
   ·intro i o ho
    have hi : i < 17 := (Array.getElem?_eq_some_iff.1 ho).1; rcases i with _ | _ | _ | _ | _ | _ | _ | _ | _ | _ | _ | _ | _ | _ | _ | _ | _ | i
    rotate_right
    ·omega
    all_goals obtain rfl := Option.some.inj ho
    all_goals intro ρ wi hE hI hs hd
    all_goals try dsimp only at hI
    ·have mY : ρ (.tmp 15) = iv (nq : Int) := hs 15; exact N.gw hI
    ·have e6 : ρ (.tmp 6) = (au g6) := hs 6; exact N.gw hI
    ·obtain ⟨_, rfl, ZM⟩ := hd 1 227; have x0 := jt.o _ hI; exact N.gw hI
    ·obtain ⟨_, rfl, ZK⟩ := hd 2 228; exact N.gw hI
    ·obtain ⟨_, rfl, ZN⟩ := hd 0 226; obtain ⟨_, rfl, ZJ⟩ := hd 3 229
     have z1 : ¬ (nq : Int) < (nq : Int) := by omega
     have z2 : ¬ nq < nq := by omega
     exact N.gw hI
    ·obtain ⟨_, rfl, ZI⟩ := hd 4 230; exact N.gw hI
    iterate 10 ·exact N.no hI
    obtain ⟨_, rfl, ZH⟩ := hd 5 231; obtain ⟨_, rfl, ZG⟩ := hd 15 241; have hc := hE.const; exact N.gw hI
   intro V wf hV hI
   have jz : V 16 = .bool false := hV 16 (by decide) rfl; simp only [N.aP, List.foldl_cons, List.foldl_nil, Act.put, List.setIfInBounds_toArray, List.set_cons_succ, List.set_cons_zero, jz]; replace hI : (fun a => Below wr.heap.size wr a) wf := hI; clear hV jz; have jM := ak (lX.o.trans (hI.mono lX.o.size)); clear hI jt
   go_wp2_with fail
   go_meet
   exact ⟨by rw [sH.o], jM⟩
 obtain ⟨rfl, rR⟩ := hcut; have aN := ak (aN.o.later rR.o); obtain ⟨we, jf⟩ := aj wc; subst jf; obtain ⟨ii, Ui⟩ := aj kk; subst Ui; obtain ⟨zl, hzl⟩ := ah (s.ay.zip y.ps); obtain ⟨px, hpx⟩ : ∃ x : PL, x = (jy r, z) := ⟨_, rfl⟩; have HPX := ak hpx; have aar : Hid ((#[Value.int .i64 r.tid.node, iv r.tid.epoch, iv r.tid.seq, .slice z.A r.items.length z.c, .slice z.B r.nodes.length z.d] : Array Value).toList = pv px) := ak (by rw [hpx]; rfl); have F5 : Hid (zl.length = nq /\ zl.map Prod.fst = s.ay) := ak (by
  have h1 := aN.o.fi.own.lists.ps; refine ⟨?_, ?_⟩
  ·rw [<- hzl, List.length_zip, h1, Nat.min_self]; exact Li.o
  rw [<- hzl, zip_fst h1])
 have Ge : Hid (∀ wi, Below we.heap.size we wi -> Sl wi (some ⟨qb, 0, none⟩) 5 (zl.map pv)) := ak fun wi hb => by
  have h1 := (aN.o.later hb).fi.W8; rw [Le.o, hzl] at h1; exact h1
 have XF : Hid (∀ p ∈ zl, Fr (fun j => uM B0 g6 j \/ rowsOf y j) we p.1.items p.1.nodes p.2) := ak (by
  rw [<- hzl]; exact aN.o.fi.K9)
 have zo : Hid (∀ wi, Below we.heap.size we wi -> Cells wi g6 41 (s.vals y)) := ak fun wi hb => (aN.o.later hb).fi.own.br
 have F7 : Hid (∀ wi, Below we.heap.size we wi -> Cells wi (g2 + 1) 55 (r.vals z)) := ak fun wi hb => (aN.o.later hb).dF
 have jt : Hid (∀ wi, Below we.heap.size we wi -> wi.cell? ⟨g6, 5, none⟩ = some (.slice (some ⟨qb, 0, none⟩) nq qc)) := ak fun wi hb => by
  have h1 := (zo.o wi hb).cell (j := 5) rfl; rw [Le.o, Li.o, Xz.o] at h1; exact h1
 have La : Hid (∀ wi, Below we.heap.size we wi -> Sl wi (some ⟨qb, 0, none⟩) 5 ((zl.take ii).map pv)) := ak fun wi hb => by rw [List.map_take]; exact mC (Ge.o wi hb) ii
 have zV : Hid (∃ AD : Addr, (if qc = ii then some ⟨qb, 0, none⟩ else some ⟨qb, ii * 5, none⟩ : Option Addr) = some AD /\ ∀ wi, Below we.heap.size we wi -> Sl wi (some AD) 5 ((zl.drop ii).map pv)) := ak (by
  by_cases he : qc = ii
  ·refine ⟨_, if_pos he, fun wi hb => ?_⟩
   have h0 : zl.drop ii = [] := List.drop_eq_nil_iff.2 (by have := F5.o; have := F8.o; omega)
   rw [h0]; exact gN _ _ _
  refine ⟨_, if_neg he, fun wi hb => ?_⟩
  have := mD (Ge.o wi hb) ii; rw [Nat.zero_add] at this; rw [List.map_drop]; exact this)
 obtain ⟨AD, FZ, FX⟩ := zV.o; have HAD := ak FZ; have Lr := ak FX; have HQ : Hid (ii <= nq /\ nq <= qc /\ nq <= 512 /\ (zl.take ii).length = ii /\ (zl.drop ii).length = nq - ii /\ zl.length = nq) := ak ⟨wV.o, F8.o.1, F8.o.2, by rw [List.length_take, F5.o.1]; have := wV.o; omega, by rw [List.length_drop, F5.o.1], F5.o.1⟩; clear FZ FX hzl hpx
 go_upto_region 54 with (fail)
 refine N.bk (by kernel_rfl) (fun i => ([none, some (.pointer (some ⟨g6, 5, none⟩)), some (.slice (some ⟨qb, 0, none⟩) nq qc), some (iv (ii : Int)), some (.slice (some ⟨qb, 0, none⟩) ii qc), none, some (.pointer (some ⟨g2 + 1, 1, none⟩)), some (.agg #[iv r.tid.node, iv r.tid.epoch, iv r.tid.seq]), some (.pointer (some ⟨g2 + 1, 4, none⟩)), some (.slice z.A r.items.length z.c), some (.pointer (some ⟨g2 + 1, 5, none⟩)), some (.slice z.B r.nodes.length z.d), some (.agg #[iv r.tid.node, iv r.tid.epoch, iv r.tid.seq, .slice z.A r.items.length z.c, .slice z.B r.nodes.length z.d]), none, none, some (.pointer (some ⟨g6, 5, none⟩)), some (.slice (some ⟨qb, 0, none⟩) nq qc), some (iv (ii : Int)), some (.slice (some AD) (nq - ii) (qc - ii)), none, some (.pointer (some ⟨g6, 5, none⟩)), none] : List (Option Value)).getD i none) (fun D V W => ((D 21) = false -> dG 71 5 pv we (D 0) (cond (D 19) (V 19) (cond (D 14) (V 14) (cond (D 5) (V 5) (V 0)))) (cond (D 19) (zl.take ii ++ [px] ++ zl.drop ii) (cond (D 14) (zl.take ii ++ [px]) (cond (D 5) (zl.take ii) []))) (D 13) (V 13) px W) /\ ((D 21) = true -> ∃ W0 A n c, dG 71 5 pv we true (.slice A n c) (zl.take ii ++ [px] ++ zl.drop ii) true (V 13) px W0 /\ W = W0.setCell ⟨g6, 5, none⟩ (.slice A n c))) (fun V => [(some 245, V 0), (some 246, V 1), (some 247, V 2), (some 248, V 3), (some 249, V 4), (some 250, V 5), (some 251, V 6), (some 252, V 7), (some 253, V 8), (some 254, V 9), (some 255, V 10), (some 256, V 11), (some 257, V 12), (some 258, V 13), (some 259, V 14), (some 260, V 15), (some 261, V 16), (some 262, V 17), (some 263, V 18), (some 264, V 19), (some 265, V 20), (none, V 21)]) (by kernel_rfl) (by kernel_rfl) (fun V => rfl) ?_ ?_ ?_
 ·intro V
  exact ⟨fun _ => dG.start (Below.refl _ _).drew _ _ _ _, fun e => (by cases e)⟩
 ·intro i o ho
  have hi : i < 22 := (Array.getElem?_eq_some_iff.1 ho).1; rcases i with _ | _ | _ | _ | _ | _ | _ | _ | _ | _ | _ | _ | _ | _ | _ | _ | _ | _ | _ | _ | _ | _ | i
  rotate_right
  ·omega
  all_goals obtain rfl := Option.some.inj ho
  all_goals intro D V ρ wi hE hI cP hT hF hs hd hk
  all_goals (have e6 : ρ (.tmp 6) = (au g6) := hs 6; have mY : ρ (.tmp 15) = iv (ii : Int) := hs 15; have e3 : ρ (.tmp 3) = (au (g2 + 1)) := hs 3)
  ·have iL : D 0 = false := cP; have dg : D 5 = false := hF 1 5; have eJ : D 14 = false := hF 2 14; have rL : D 19 = false := hF 3 19; have gY : D 21 = false := hF 1 21; clear hT hF; have h1 := hI.1 gY
   rw [iL, dg, eJ, rL] at h1; simp only [cond_false] at h1; exact N.Gives.value (v := .slice (some ⟨wi.heap.size, 0, none⟩) 0 0) (w' := wi.alloc (.cells #[] 71)) (by go_simp) ⟨fun x h => (by cases h), by show ((D 21) = false -> dG 71 5 pv we true (cond (D 19) (V 19) (cond (D 14) (V 14) (cond (D 5) (V 5) (Value.slice (some ⟨wi.heap.size, 0, none⟩) 0 0)))) (cond (D 19) (zl.take ii ++ [px] ++ zl.drop ii) (cond (D 14) (zl.take ii ++ [px]) (cond (D 5) (zl.take ii) []))) (D 13) (V 13) px (wi.alloc (.cells #[] 71))) /\ ((D 21) = true -> ∃ W0 A n c, dG 71 5 pv we true (.slice A n c) (zl.take ii ++ [px] ++ zl.drop ii) true (V 13) px W0 /\ (wi.alloc (.cells #[] 71)) = W0.setCell ⟨g6, 5, none⟩ (.slice A n c)); rw [dg, eJ, rL]; simp only [cond_false]; exact ⟨fun _ => h1.W9, fun e => (by rw [gY] at e; cases e)⟩⟩
  ·clear hT hF hk
   exact N.gi _ ⟨fun _ => N.oi, hI⟩
  ·have afc := (hd 1 246).trans (hk 1 _ rfl); have gY : D 21 = false := hF 1 21; clear hT hF; have hL : Below we.heap.size we wi := (hI.1 gY).low; have x0 := jt.o _ hL
   exact N.gi _ ⟨fun _ => N.oi, hI⟩
  ·clear hT hF hk
   exact N.gi _ ⟨fun _ => N.oi, hI⟩
  ·have e247 := (hd 2 247).trans (hk 2 _ rfl); have afb := (hd 3 248).trans (hk 3 _ rfl); clear hT hF
   have z0 : (0 : Int) <= (ii : Int) := by omega
   have z1 : (ii : Int) <= (qc : Int) := by have := HQ.o; omega
   have z2 : ii <= qc := by have := HQ.o; omega
   exact N.gi _ ⟨fun _ => N.oi, hI⟩
  ·have e245 : ρ (.tmp 245) = V 0 := hd 0 245; have ZF := (hd 4 249).trans (hk 4 _ rfl); have iL : D 0 = true := hT 1 0; have dg : D 5 = false := cP; have eJ : D 14 = false := hF 1 14; have rL : D 19 = false := hF 2 19; have gY : D 21 = false := hF 1 21; clear hT hF; have h1 := hI.1 gY
   rw [iL, dg, eJ, rL] at h1
   try simp only [cond_false] at h1
   try simp only [cond_true] at h1
   obtain ⟨A2, n2, c2, w2, hrun, hn⟩ := dG.app (fM 1) qD h1 (m := zl.take ii) (La.o wi h1.low) (fun e => by cases e) (by have := HQ.o; simp; omega)
   rw [HQ.o.2.2.2.1] at hrun; rw [List.nil_append] at hn; exact N.Gives.value (v := .slice A2 n2 c2) (w' := w2) (N.cH rfl e245 ZF hrun) ⟨fun x h => (by cases h), by show ((D 21) = false -> dG 71 5 pv we (D 0) (cond (D 19) (V 19) (cond (D 14) (V 14) (cond true (Value.slice A2 n2 c2) (V 0)))) (cond (D 19) (zl.take ii ++ [px] ++ zl.drop ii) (cond (D 14) (zl.take ii ++ [px]) (cond true (zl.take ii) []))) (D 13) (V 13) px w2) /\ ((D 21) = true -> ∃ W0 A n c, dG 71 5 pv we true (.slice A n c) (zl.take ii ++ [px] ++ zl.drop ii) true (V 13) px W0 /\ w2 = W0.setCell ⟨g6, 5, none⟩ (.slice A n c)); rw [iL, eJ, rL]; (try simp only [cond_false]); (try simp only [cond_true]); exact ⟨fun _ => hn, fun e => (by rw [gY] at e; cases e)⟩⟩
  ·clear hT hF hk
   exact N.gi _ ⟨fun _ => N.oi, hI⟩
  ·have afa := (hd 6 251).trans (hk 6 _ rfl); have gY : D 21 = false := hF 1 21; clear hT hF; have hL : Below we.heap.size we wi := (hI.1 gY).low; have hq := F7.o _ hL; have q0 := hq.cell (j := 1) rfl; have q1 := hq.cell (j := 2) rfl; have q2 := hq.cell (j := 3) rfl
   exact N.gi _ ⟨fun _ => N.oi, hI⟩
  ·clear hT hF hk
   exact N.gi _ ⟨fun _ => N.oi, hI⟩
  ·have ae8 := (hd 8 253).trans (hk 8 _ rfl); have gY : D 21 = false := hF 1 21; clear hT hF; have hL : Below we.heap.size we wi := (hI.1 gY).low; have hq := F7.o _ hL; have q0 := hq.cell (j := 4) rfl
   exact N.gi _ ⟨fun _ => N.oi, hI⟩
  ·clear hT hF hk
   exact N.gi _ ⟨fun _ => N.oi, hI⟩
  ·have ae6 := (hd 10 255).trans (hk 10 _ rfl); have gY : D 21 = false := hF 1 21; clear hT hF; have hL : Below we.heap.size we wi := (hI.1 gY).low; have hq := F7.o _ hL; have q0 := hq.cell (j := 5) rfl
   exact N.gi _ ⟨fun _ => N.oi, hI⟩
  ·have ae9 := (hd 7 252).trans (hk 7 _ rfl); have ae7 := (hd 9 254).trans (hk 9 _ rfl); have ae5 := (hd 11 256).trans (hk 11 _ rfl); clear hT hF hk
   exact N.gi _ ⟨fun _ => N.oi, hI⟩
  ·have ae4 := (hd 12 257).trans (hk 12 _ rfl); have dD : D 13 = false := cP; have gY : D 21 = false := hF 1 21; clear hT hF; have h1 := hI.1 gY
   rw [dD] at h1; exact N.Gives.value (v := .slice (some ⟨wi.heap.size, 0, none⟩) 1 1) (w' := wi.alloc (.cells #[iv r.tid.node, iv r.tid.epoch, iv r.tid.seq, .slice z.A r.items.length z.c, .slice z.B r.nodes.length z.d] 71)) (by go_simp) ⟨fun x h => (by cases h), by show ((D 21) = false -> dG 71 5 pv we (D 0) (cond (D 19) (V 19) (cond (D 14) (V 14) (cond (D 5) (V 5) (V 0)))) (cond (D 19) (zl.take ii ++ [px] ++ zl.drop ii) (cond (D 14) (zl.take ii ++ [px]) (cond (D 5) (zl.take ii) []))) true (Value.slice (some ⟨wi.heap.size, 0, none⟩) 1 1) px (wi.alloc (.cells #[iv r.tid.node, iv r.tid.epoch, iv r.tid.seq, .slice z.A r.items.length z.c, .slice z.B r.nodes.length z.d] 71))) /\ ((D 21) = true -> ∃ W0 A n c, dG 71 5 pv we true (.slice A n c) (zl.take ii ++ [px] ++ zl.drop ii) true (Value.slice (some ⟨wi.heap.size, 0, none⟩) 1 1) px W0 /\ (wi.alloc (.cells #[iv r.tid.node, iv r.tid.epoch, iv r.tid.seq, .slice z.A r.items.length z.c, .slice z.B r.nodes.length z.d] 71)) = W0.setCell ⟨g6, 5, none⟩ (.slice A n c)); exact ⟨fun _ => h1.XK _ aar.o, fun e => (by rw [gY] at e; cases e)⟩⟩
  ·have ZE : ρ (.tmp 250) = V 5 := hd 5 250; have VQ : ρ (.tmp 258) = V 13 := hd 13 258; have iL : D 0 = true := hT 2 0; have dg : D 5 = true := hT 1 5; have dD : D 13 = true := hT 1 13; have eJ : D 14 = false := cP; have rL : D 19 = false := hF 1 19; have gY : D 21 = false := hF 1 21; clear hT hF; have h1 := hI.1 gY
   rw [iL, dg, dD, eJ, rL] at h1
   try simp only [cond_false] at h1
   try simp only [cond_true] at h1
   obtain ⟨g8, A2, n2, c2, w2, hx2, hrun, hn⟩ := dG.one (fM 1) qD h1 (by have := HQ.o; simp; omega)
   rw [hx2] at VQ; exact N.Gives.value (v := .slice A2 n2 c2) (w' := w2) (N.cH rfl ZE VQ hrun) ⟨fun x h => (by cases h), by show ((D 21) = false -> dG 71 5 pv we (D 0) (cond (D 19) (V 19) (cond true (Value.slice A2 n2 c2) (cond (D 5) (V 5) (V 0)))) (cond (D 19) (zl.take ii ++ [px] ++ zl.drop ii) (cond true (zl.take ii ++ [px]) (cond (D 5) (zl.take ii) []))) (D 13) (V 13) px w2) /\ ((D 21) = true -> ∃ W0 A n c, dG 71 5 pv we true (.slice A n c) (zl.take ii ++ [px] ++ zl.drop ii) true (V 13) px W0 /\ w2 = W0.setCell ⟨g6, 5, none⟩ (.slice A n c)); rw [iL, dg, dD, rL]; (try simp only [cond_false]); (try simp only [cond_true]); exact ⟨fun _ => hn, fun e => (by rw [gY] at e; cases e)⟩⟩
  ·clear hT hF hk
   exact N.gi _ ⟨fun _ => N.oi, hI⟩
  ·have ae3 := (hd 15 260).trans (hk 15 _ rfl); have gY : D 21 = false := hF 1 21; clear hT hF; have hL : Below we.heap.size we wi := (hI.1 gY).low; have x0 := jt.o _ hL
   exact N.gi _ ⟨fun _ => N.oi, hI⟩
  ·clear hT hF hk
   exact N.gi _ ⟨fun _ => N.oi, hI⟩
  ·have ae2 := (hd 16 261).trans (hk 16 _ rfl); have ae1 := (hd 17 262).trans (hk 17 _ rfl); clear hT hF; have z1 : ii <= nq := HQ.o.1
   have z2 : ii <= qc := by have := HQ.o; omega
   have z3 : (0 : Int) <= (ii : Int) := by omega
   have z4 : (ii : Int) <= (nq : Int) := by have := HQ.o; omega
   have z5 := HAD.o; exact N.gi _ ⟨fun _ => N.oi, hI⟩
  ·have ZC : ρ (.tmp 259) = V 14 := hd 14 259; have ZB := (hd 18 263).trans (hk 18 _ rfl); have iL : D 0 = true := hT 3 0; have dg : D 5 = true := hT 2 5; have eJ : D 14 = true := hT 1 14; have rL : D 19 = false := cP; have gY : D 21 = false := hF 1 21; clear hT hF; have h1 := hI.1 gY
   rw [iL, dg, eJ, rL] at h1
   try simp only [cond_false] at h1
   try simp only [cond_true] at h1
   obtain ⟨A2, n2, c2, w2, hrun, hn⟩ := dG.app (fM 1) qD h1 (m := zl.drop ii) (Lr.o wi h1.low) (fun e => by cases e) (by have := HQ.o; simp; omega)
   rw [HQ.o.2.2.2.2.1] at hrun; exact N.Gives.value (v := .slice A2 n2 c2) (w' := w2) (N.cH rfl ZC ZB hrun) ⟨fun x h => (by cases h), by show ((D 21) = false -> dG 71 5 pv we (D 0) (cond true (Value.slice A2 n2 c2) (cond (D 14) (V 14) (cond (D 5) (V 5) (V 0)))) (cond true (zl.take ii ++ [px] ++ zl.drop ii) (cond (D 14) (zl.take ii ++ [px]) (cond (D 5) (zl.take ii) []))) (D 13) (V 13) px w2) /\ ((D 21) = true -> ∃ W0 A n c, dG 71 5 pv we true (.slice A n c) (zl.take ii ++ [px] ++ zl.drop ii) true (V 13) px W0 /\ w2 = W0.setCell ⟨g6, 5, none⟩ (.slice A n c)); rw [iL, dg, eJ]; (try simp only [cond_false]); (try simp only [cond_true]); exact ⟨fun _ => hn, fun e => (by rw [gY] at e; cases e)⟩⟩
  ·clear hT hF hk
   exact N.gi _ ⟨fun _ => N.oi, hI⟩
  have ae0 := (hd 20 265).trans (hk 20 _ rfl); have Zz : ρ (.tmp 264) = V 19 := hd 19 264; have iL : D 0 = true := hT 1 0; have dg : D 5 = true := hT 1 5; have dD : D 13 = true := hT 1 13; have eJ : D 14 = true := hT 1 14; have rL : D 19 = true := hT 1 19; have gY : D 21 = false := cP; clear hT hF; have h1 := hI.1 gY
  rw [iL, dg, dD, eJ, rL] at h1; simp only [cond_true] at h1; obtain ⟨A2, c2, hv⟩ := bD (h1.acc rfl); obtain ⟨n3, t_⟩ := ah ((zl.take ii ++ [px] ++ zl.drop ii).length); rw [t_] at hv; rw [hv] at Zz h1; have hcs := zo.o _ h1.low; have x1 := hcs.cell (j := 5) rfl; have x2 := hcs.frozen (j := 5) (by unfold St.vals; simp); exact N.Gives.skip (w' := wi.setCell ⟨g6, 5, none⟩ (.slice A2 n3 c2)) (by go_simp) ⟨fun x h => (by cases h), by show (true = false -> dG 71 5 pv we (D 0) (cond (D 19) (V 19) (cond (D 14) (V 14) (cond (D 5) (V 5) (V 0)))) (cond (D 19) (zl.take ii ++ [px] ++ zl.drop ii) (cond (D 14) (zl.take ii ++ [px]) (cond (D 5) (zl.take ii) []))) (D 13) (V 13) px (wi.setCell ⟨g6, 5, none⟩ (.slice A2 n3 c2))) /\ (true = true -> ∃ W0 A n c, dG 71 5 pv we true (.slice A n c) (zl.take ii ++ [px] ++ zl.drop ii) true (V 13) px W0 /\ (wi.setCell ⟨g6, 5, none⟩ (.slice A2 n3 c2)) = W0.setCell ⟨g6, 5, none⟩ (.slice A n c)); exact ⟨fun e => (by cases e), fun _ => ⟨wi, A2, n3, c2, h1, rfl⟩⟩⟩
 intro V wf hk hI
 simp only [N.aP, List.foldl_cons, List.foldl_nil, Act.put, List.setIfInBounds_toArray, List.set_cons_succ, List.set_cons_zero]; replace hI : (true = false -> dG 71 5 pv we true (cond true (V 19) (cond true (V 14) (cond true (V 5) (V 0)))) (cond true (zl.take ii ++ [px] ++ zl.drop ii) (cond true (zl.take ii ++ [px]) (cond true (zl.take ii) []))) true (V 13) px wf) /\ (true = true -> ∃ W0 A n c, dG 71 5 pv we true (.slice A n c) (zl.take ii ++ [px] ++ zl.drop ii) true (V 13) px W0 /\ wf = W0.setCell ⟨g6, 5, none⟩ (.slice A n c)) := hI; clear hk; obtain ⟨W0, A9, n9, c9, hap, hwf⟩ := hI.2 rfl; have hrow := hap.acc rfl; obtain ⟨tZ, hnew⟩ := aN.o.fi.D2 hap.low (zl.take ii ++ [px] ++ zl.drop ii) hrow (fun p hp => by
  rcases List.mem_append.1 hp with h1 | h1
  ·rcases List.mem_append.1 h1 with h1 | h1
   ·exact XF.o p (List.mem_of_mem_take h1)
   rw [List.mem_singleton.1 h1, HPX.o]
   exact aN.o.fr.next (Only.refl _ _) fun j e => by
    rcases e with e | e
    ·exact Or.inl e
    exact Or.inl (Nat.le_trans (by have := aN.o.fi.gt; omega) (aN.o.fi.far j e))
  exact XF.o p (List.mem_of_mem_drop h1))
 rw [<- hwf] at hnew; obtain ⟨s', hs'⟩ : ∃ x, ({ s with ay := (zl.take ii ++ [px] ++ zl.drop ii).map Prod.fst } : St) = x := ⟨_, rfl⟩; obtain ⟨y', hy'⟩ : ∃ x, ({ y with Q := A9, q := c9, ps := (zl.take ii ++ [px] ++ zl.drop ii).map Prod.snd } : Sy) = x := ⟨_, rfl⟩; rw [hs', hy'] at hnew; have eY := ak hnew; have aay : Hid (aC s r = (s', 0)) := ak (by
  rw [kX.o, <- hs']; unfold eN fU; rw [YQ.o, List.map_append, List.map_append, List.map_take, List.map_drop, F5.o.2, HPX.o, List.append_assoc]
  rfl)
 clear hI hap hwf hrow tZ hnew hs' hy'
 go_upto_region 55 with (fail)
 apply wp_region_lit
 refine aD rfl 41 _ rfl g6 (s'.va y') rfl rfl (eY.o.own.br) Tryz.underlying41 rfl (by kernel_rfl) ?_; refine aA rfl 41 _ _ rfl (g2 + 2) (s'.va y') (s'.vl y') rfl rfl rfl (eY.o).res rfl (by kernel_rfl) (by kernel_rfl) fun w5 hpt hov => ?_
 have bU := ak hpt; have cj := ak hov; clear hpt hov
 go_wp2_with fail
 refine HQR.o _ _ ?_; refine bodyPost_ret (v := .tuple #[.agg (s'.va y'), iv 0]) ((aI (p := 4) (q := 5) (ty := 41) (by rfl) _ bU.o _ (by rfl) Tryz.underlying41 rfl (by kernel_rfl)).trans (by rfl)) rfl ?_; exact jS (eY.o) cj.o (aay.o) rfl
set_option maxHeartbeats 4000000 in
theorem WT {B0 : Nat} {w0 : World} {g2 g6 : Nat} {s : St} {y : Sy} {r : Rc} {z : Lay} (hn : r.kind ≠ 4 -> je [1, 1, 1, 1, 1, 1, 1, 1, 1, 1] B0 w0 g2 g6 s y r z) : je [1, 1, 1, 1, 1, 1, 1, 1, 1] B0 w0 g2 g6 s y r z := by
 intro wr h cc hc; iterate 546 intro _
 conv at hc => rhs; whnf
 subst hc
 apply wp_seq_k
 intro K hK; have ju := ak hK; clear hK; have aN := ak h; have iu := ak hn; have q0 := h.dF.cell (j := 0) rfl; clear h hn
 go_upto_region 22 with (fail)
 by_cases hk : r.kind = 4
 ·have HK := ak hk
  have HB : Hid (aC s r = aV s r) := ak (bN aN.o.rt); rw [hk] at q0; clear hk iu; have HF : Hid (aC s r = bq s r) := ak (by rw [HB.o]; unfold aV; rw [HK.o]; rfl); obtain ⟨kn, hkn⟩ := ah (known s r.tid); have qX := ak hkn; rw [hkn]; clear hkn
  cases kn with
  | true =>
   have fJ : Hid ((aC s r).2 = 9) := ak (by rw [HF.o]; unfold bq; rw [if_pos qX.o])
   go_upto_region 24 with (fail)
   apply wp_region_lit
   refine Go.Great.wpList_runTo rfl (some 123) rfl (.agg ZA) wr (by go_simp) ?_; refine aA rfl 41 _ _ rfl (g2 + 2) ZA ZL rfl rfl rfl (aN.o.fi).res rfl (by kernel_rfl) (by simp [Value.oneCell']) fun w5 hpt hov => ?_
   have bU := ak hpt; have cj := ak hov; clear hpt hov
   go_wp2_with fail
   refine bodyPost_ret (v := .tuple #[.agg ZA, iv 9]) ((aI (p := 4) (q := 5) (ty := 41) (by rfl) _ bU.o _ (by rfl) Tryz.underlying41 rfl (by kernel_rfl)).trans (by rfl)) rfl ?_; exact bC (aN.o.fi) cj.o (fJ.o) (by decide)
  | false =>
   have fL := ak (T8 HK.o qX.o fun hal => T7 HK.o qX.o hal fun hab ha2 hpt => T6 HK.o qX.o hal hab ha2 hpt fun hfz Xf => T5 (B0 := B0) (w0 := w0) (g2 := g2) (g6 := g6) (y := y) (z := z) HK.o qX.o hal hab ha2 hpt hfz Xf)
   go_upto_region 23 with (fail)
   go_cut [122] from 123 to 123 (fun v wx => v = .bool false /\ wx = wr)
   case first =>
    go_wp2_with fail
    go_meet
    exact ⟨rfl, rfl⟩
   obtain ⟨rfl, rfl⟩ := hcut; apply_assumption
   go_cut [122] from 123 to 123 (fun v wx => v = .bool false /\ wx = wc)
   case first =>
    go_wp2_with fail
    go_meet
    exact ⟨rfl, rfl⟩
   obtain ⟨rfl, rfl⟩ := hcut; apply_assumption; have hnx := fL.o; unfold xq at hnx; rw [qX.o] at hnx; refine hnx _ aN.o _ ?_ _ (by kernel_rfl) _ _ _ _ _ _ _ _ _ _ _ _ _ _ _ _ _ _ _ _ _ _ _ _ _ _ _ _ _ _ _ _ _ _ _ _ _ _ _ _ _ _ _ _ _ _ _ _ _ _ _ _ _ _ _ _ _ _ _ _ _ _ _ _ _ _ _ _ _ _ _ _ _ _ _ _ _ _ _ _ _ _ _ _ _ _ _ _ _ _ _ _ _ _ _ _ _ _ _ _ _ _ _ _ _ _ _ _ _ _ _ _ _ _ _ _ _ _ _ _ _ _ _ _ _ _ _ _ _ _ _ _ _ _ _ _ _ _ _ _ _ _ _ _ _ _ _ _ _ _ _ _ _ _ _ _ _ _ _ _ _ _ _ _ _ _ _ _ _ _ _ _ _ _ _ _ _ _ _ _ _ _ _ _ _ _ _ _ _ _ _ _ _ _ _ _ _ _ _ _ _ _ _ _ _ _ _ _ _ _ _ _ _ _ _ _ _ _ _ _ _ _ _ _ _ _ _ _ _ _ _ _ _ _ _ _ _ _ _ _ _ _ _ _ _ _ _ _ _ _ _ _ _ _ _ _ _ _ _ _ _ _ _ _ _ _ _ _ _ _ _ _ _ _ _ _ _ _ _ _ _ _ _ _ _ _ _ _ _ _ _ _ _ _ _ _ _ _ _ _ _ _ _ _ _ _ _ _ _ _ _ _ _ _ _ _ _ _ _ _ _ _ _ _ _ _ _ _ _ _ _ _ _ _ _ _ _ _ _ _ _ _ _ _ _ _ _ _ _ _ _ _ _ _ _ _ _ _ _ _ _ _ _ _ _ _ _ _ _ _ _ _ _ _ _ _ _ _ _ _ _ _ _ _ _ _ _ _ _ _ _ _ _ _ _ _ _ _ _ _ _ _ _ _ _ _ _ _ _ _ _ _ _ _ _ _ _ _ _ _ _ _ _ _ _ _ _ _ _ _ _ _ _ _ _ _ _ _ _ _ _ _ _ _ _ _ _ _ _ _ _ _ _ _ _ _ _ _ _ _ _ _ _ _ _ _ _ _ _ _ _ _ _ _ _ _ _ _ _ _ _ _ _ _ _ _ _ _ _ _ _ _ _ _ _ _ _ _ _ _ _ _ _ _ _ _ _ _ _ _ _ _ _ _ _ _ _ _ _ _ _ _ _ _ _ _ _ _ _ _ _ _ _ _ _ _ _ _ _ _ _ _ _ _ _ _; intro a w h; exact h
 have fL := ak (iu.o hk)
 go_wp2_with fail
 exact ju.o _ _ (by apply fL.o _ aN.o _ (by kernel_rfl))
