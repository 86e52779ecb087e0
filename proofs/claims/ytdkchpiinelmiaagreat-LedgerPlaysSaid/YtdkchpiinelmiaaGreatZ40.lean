/- Part 40 of the proof. Conditions: none. -/
import Derived.Test.YtdkchpiinelmiaaGreatZ11
import Derived.Test.YtdkchpiinelmiaaGreatZ39
namespace Go.Proofs.YtdkchpiinelmiaaGreat.Led
set_option maxRecDepth 100000
open Go.RowKit Go.Deep Mem fN Rec
structure Cp (W : World) (g : Nat) (a b c d : Int) (J : Nat) (V : Nat -> Value) (L : Nat -> List (List Value)) (wr : World) : Prop where
  low : Below W.heap.size W wr
  gt : W.heap.size = g /\ g + 2 <= wr.heap.size
  br : Cells wr g 41 (Fq a b c d V)
  res : Cells wr (g + 1) 41 tS
  row : ∀ k, k < J -> k < 4 -> wr.ownsRow (g + 2) (eT k) (I_ k) (V k) (L k).length (L k).flatten
  Ji : ∀ j k, j < J -> k < J -> j < 4 -> k < 4 -> j ≠ k -> ∀ i, (V j).ownBlock = some i -> (V k).ownBlock ≠ some i
  there : ∀ k, k < J -> k < 4 -> (V k).ownBlock ≠ none
section
variable {W wr : World} {g : Nat} {a b c d : Int} {V : Nat -> Value} {L : Nat -> List (List Value)} {J : Nat}
theorem Cp.more (h : Cp W g a b c d J V L wr) (hJ : J < 4) (A : Option Addr) (m : Nat) (n : Nat) (hV : V J = .slice A n m) (hn : (L J).length = n) (hA : A = none -> m = 0) (hs : ∀ w', Below W.heap.size W w' -> Sl w' A (I_ J) (L J)) (hf : Fit (I_ J) (L J)) (hl : (L J).length <= 100000) (wb : World) (hwb : wb = wr.alloc (.cells #[] (eT J))) :
    ∃ A' n' m' w', (Builtin.append_ #[sT J, sT J] (sT J) #[.slice (some ⟨wr.heap.size, 0, none⟩) 0 0, .slice A n m]).run Tryz.prog wb = .ok (.slice A' n' m') w' /\ w'.cell? ⟨g, 4 + J, none⟩ = some (.slice A n m) /\ w'.frozen? ⟨g, 4 + J, none⟩ = false /\
      Cp W g a b c d (J + 1) (upd V J (.slice A' n' m')) L (w'.setCell ⟨g, 4 + J, none⟩ (.slice A' n' m')) := by
  have hb : Below wr.heap.size wr wb := by rw [hwb]; exact av _ _
  have hz : wb.heap.size = wr.heap.size + 1 := by rw [hwb, World.size_alloc]
  have hgt := h.gt; have h0 : wb.ownsRow wr.heap.size (eT J) (I_ J) (.slice (some ⟨wr.heap.size, 0, none⟩) 0 0) 0 [] := by
    rw [hwb]; exact World.ownsRow_made (base := wr.heap.size) wr #[] 0 (Nat.le_refl _) (Nat.zero_le _) (by simp)
  have fO : Below W.heap.size W wb := h.low.trans (hb.mono h.low.size); obtain ⟨v', w', hrun, hrow, hgr, hat⟩ := aZ (fM J) wb (sT J) wr.heap.size (.slice (some ⟨wr.heap.size, 0, none⟩) 0 0) [] (L J) A m (Fit.nil _) hf h0 (hs wb fO) hA (by rw [List.length_nil]; omega) (by omega); rw [List.nil_append] at hrow; obtain ⟨A', m', hv, _⟩ := f_ hrow hf.len; obtain ⟨n', hn'⟩ : ∃ n', (L J).length = n' := ⟨_, rfl⟩; rw [hn'] at hv; subst hv; have ho := Only.fP hgr; have ho' : Only (fun i => i = wr.heap.size) wb w' := ho.mono fun i _ e => by
    have e2 : some i = some wr.heap.size := e; exact Option.some.inj e2
  have hc := aJ (h.br.later hb) ho' fun e => by omega
  have Gm : (Fq a b c d V)[4 + J]? = some (.slice A n m) := by
    rw [<- hV]; rcases Fp hJ with rfl | rfl | rfl | rfl <;> rfl
  have eZ : (Fq a b c d V).set (4 + J) (.slice A' n' m') = Fq a b c d (upd V J (.slice A' n' m')) := by
    rcases Fp hJ with rfl | rfl | rfl | rfl <;> rfl
  rw [hn] at hrun; refine ⟨A', n', m', w', hrun, hc.cell Gm, hc.frozen (by show 4 + J < 8; omega), ?_⟩
  have hs3 := Only.b_ w' ⟨g, 4 + J, none⟩ (.slice A' n' m'); have iH : Only (fun i => i = wr.heap.size \/ i = g) wb (w'.setCell ⟨g, 4 + J, none⟩ (.slice A' n' m')) := (ho'.mono fun _ _ e => Or.inl e).trans hs3 fun _ _ e => Or.inr e
  have hos := iH.size; have zY : ∀ i, (Value.slice A' n' m').ownBlock = some i -> wr.heap.size <= i := fun i hi => (hrow.lt i hi).1
  refine ⟨fO.trans (iH.below fO.size fun i hi => by omega), ⟨hgt.1, by omega⟩, ?_, aJ (h.res.later hb) iH (by omega), fun k hk hk4 => ?_, fun i j hi hj hi4 hj4 hij q hq => ?_, fun k hk hk4 => ?_⟩
  · rw [<- eZ]; exact hc.fB (4 + J) _
  · by_cases hjk : k = J
    · subst hjk
      rw [upd_same]; exact cS (by omega) (aF hrow hs3 fun i hi e => by have := zY i hi; have e2 : i = g := e; omega)
    rw [bE _ _ hjk]
    have hr := h.row k (by omega) hk4; exact aF (aF hr (Only.of_below (S := fun _ => False) hb) fun _ _ e => e) iH fun i hi e => by have := hr.lt i hi; omega
  · by_cases hik : i = J
    · subst hik
      rw [upd_same] at hq; rw [bE _ _ (fun e => hij e.symm)]; intro e2; have h1 := (h.row j (by omega) hj4).lt q e2; have h2 := zY q hq
      omega
    rw [bE _ _ hik] at hq
    by_cases hjk : j = J
    · subst hjk
      rw [upd_same]; intro e2; have h1 := (h.row i (by omega) hi4).lt q hq; have h2 := zY q e2
      omega
    rw [bE _ _ hjk]
    exact h.Ji i j (by omega) (by omega) hi4 hj4 hij q hq
  by_cases hjk : k = J
  · subst hjk
    rw [upd_same]; rcases hat with e | e
    · rw [e]; intro e2; cases e2
    rw [e]; intro e2; cases e2
  rw [bE _ _ hjk]
  exact h.there k (by omega) hk4
end
theorem kR {w : World} {B n c sz : Nat} {eT : TypeId} {A : Option Addr} {xs : List Value} (h : w.ownsRow B eT sz (.slice A n c) n xs) (hne : (Value.slice A n c).ownBlock ≠ none) : ∃ g, A = some ⟨g, 0, none⟩ /\ n <= c := by
  rcases h.2 with ⟨h1, _⟩ | ⟨g, cap, cur, h1, h2, h3, h4, _⟩
  · obtain ⟨rfl, _, _⟩ := Value.slice.inj h1
    exact absurd rfl hne
  obtain ⟨rfl, _, rfl⟩ := Value.slice.inj h1
  exact ⟨g, rfl, h4⟩
def There (s : St) (y : Sy) : Prop := (∃ g, y.P = some ⟨g, 0, none⟩ /\ s.places.length <= y.p) /\ (∃ g, y.Q = some ⟨g, 0, none⟩ /\ s.ay.length <= y.q) /\ (∃ g, y.D = some ⟨g, 0, none⟩ /\ s.dec.length <= y.d) /\ ∃ g, y.C = some ⟨g, 0, none⟩ /\ s.com.length <= y.c
set_option maxHeartbeats 4000000 in
theorem IX (s : St) (y : Sy) (w : World) (h : cL w s y) (hs : Small s) :
    Calls Tryz.prog 32 #[s.val y] w fun e w' => (∃ z, e = .returned (s.val z) /\ fq (fun k => w.heap.size <= k) w.heap.size w' s z /\ There s z /\ z.ps = y.ps /\ z.cs = y.cs) /\ Below w.heap.size w w' := by
  obtain ⟨yP, yp, yQ, yq, yD, yd, yC, yc, wG, wH⟩ := y; have D_ := ak h; obtain ⟨nP, FQ⟩ := ah s.places.length; obtain ⟨nQ, FP⟩ := ah s.ay.length; obtain ⟨nD, FR⟩ := ah s.dec.length; obtain ⟨nC, FT⟩ := ah s.com.length; have HN : Hid (s.places.length = nP /\ s.ay.length = nQ /\ s.dec.length = nD /\ s.com.length = nC) := ak ⟨FQ, FP, FR, FT⟩; obtain ⟨L, hL⟩ := aj (ke (s.places.map Pl.vals) (List.zipWith Pr.vals s.ay wG) (s.dec.map De.vals) (List.zipWith Co.vals s.com wH)); have lC := ak hL; have uh : Hid ((L 0).length = nP /\ (L 1).length = nQ /\ (L 2).length = nD /\ (L 3).length = nC) := ak (by
    rw [hL]; exact ⟨by show (s.places.map Pl.vals).length = nP; rw [List.length_map]; exact FQ, by show (List.zipWith Pr.vals s.ay wG).length = nQ; rw [cY _ h.ps]; exact FP, by show (s.dec.map De.vals).length = nD; rw [List.length_map]; exact FR, by show (List.zipWith Co.vals s.com wH).length = nC; rw [cY _ h.cs]; exact FT⟩)
  have HF : Hid (Fit 5 (L 0) /\ Fit 5 (L 1) /\ Fit 4 (L 2) /\ Fit 6 (L 3)) := ak (by
    rw [hL]; exact ⟨aU _, h_ _ _, fG _, iI _ _⟩)
  have FB : Hid ((L 0).length <= 100000 /\ (L 1).length <= 100000 /\ (L 2).length <= 100000 /\ (L 3).length <= 100000) := ak (by
    have e := uh.o; rw [e.1, e.2.1, e.2.2.1, e.2.2.2, <- FQ, <- FP, <- FR, <- FT]; exact ⟨hs.places, hs.ay, hs.dec, hs.com⟩)
  have HSL : Hid (∀ w', Below w.heap.size w w' -> Sl w' yP 5 (L 0) /\ Sl w' yQ 5 (L 1) /\ Sl w' yD 4 (L 2) /\ Sl w' yC 6 (L 3)) := ak (fun w' hb => by
    rw [hL]; exact ⟨h.places.later hb, h.ay.later hb, h.dec.later hb, h.com.later hb⟩)
  have UF : Hid ((yP = none -> yp = 0) /\ (yQ = none -> yq = 0) /\ (yD = none -> yd = 0) /\ (yC = none -> yc = 0)) := ak ⟨h.JA, h.Jz, h.JB, h.JC⟩; unfold St.val; simp only [FQ, FP, FR, FT]; obtain ⟨w1, hw1⟩ := aj (w.alloc (.cells #[iv s.node, iv s.nodes, iv s.cells, iv s.epoch, .slice yP nP yp, .slice yQ nQ yq, .slice yD nD yd, .slice yC nC yc] 41)); obtain ⟨w3, hw3⟩ := aj (w1.alloc (.cells #[iv 0, iv 0, iv 0, iv 0, .slice none 0 0, .slice none 0 0, .slice none 0 0, .slice none 0 0] 41)); obtain ⟨g, hg⟩ := ah w.heap.size; obtain ⟨V0, X6⟩ : ∃ V : Nat -> Value, V = fun k => match k with | 0 => .slice yP nP yp | 1 => .slice yQ nQ yq | 2 => .slice yD nD yd | _ => .slice yC nC yc := ⟨_, rfl⟩
  have kW : Hid (Cp w g s.node s.nodes s.cells s.epoch 0 V0 L w3) := ak (by
    have z1 : w1.heap.size = g + 1 := by rw [hw1, World.size_alloc, hg]
    have z3 : w3.heap.size = g + 2 := by rw [hw3, World.size_alloc, z1]
    have b1 : Below w.heap.size w w1 := by rw [hw1]; exact av _ _
    have b3 : Below w1.heap.size w1 w3 := by rw [hw3]; exact av _ _
    refine ⟨b1.trans (b3.mono (by omega)), ⟨hg, by omega⟩, ?_, ?_, fun k hk _ => absurd hk (by omega), fun i j hi _ => absurd hi (by omega), fun k hk _ => absurd hk (by omega)⟩
    · have q : Cells w1 w.heap.size 41 (Fq s.node s.nodes s.cells s.epoch V0) := by rw [hw1, X6]; exact aB w 41 _ _ rfl
      rw [hg] at q; exact q.later b3
    have q : Cells w3 w1.heap.size 41 tS := by rw [hw3]; exact aB w1 41 tS _ rfl
    rw [z1] at q; exact q)
  have Vf : Hid (V0 0 = .slice yP nP yp /\ V0 1 = .slice yQ nQ yq /\ V0 2 = .slice yD nD yd /\ V0 3 = .slice yC nC yc) := ak (by rw [X6]; exact ⟨rfl, rfl, rfl, rfl⟩); have HG := ak hg; clear h hs FQ FP FR FT hL X6
  go_enter Tryz.func32, Tryz.ntmps32
  go_upto_region 1 with (fail)
  rw [<- hw1]; rw [<- hw3]
  try rw [hg]
  clear hw1 hw3 hg; have hcx := (kW.o).br.cell (j := 4) rfl; rw [Vf.o.1] at hcx; have DF : g < w3.heap.size := by have := kW.o.gt; omega
  obtain ⟨wb0, hwb⟩ := aj (w3.alloc (.cells #[] 69)); obtain ⟨A0, m0, q0, w0', hrun, hcell, hfro, mR⟩ := kW.o.more (by decide) yP yp nP Vf.o.1 uh.o.1 UF.o.1 (fun w' hb => (HSL.o w' hb).1) HF.o.1 FB.o.1 wb0 hwb; obtain ⟨x1, hx1⟩ := aj (w0'.setCell ⟨g, 4, none⟩ (.slice A0 m0 q0)); have dQ : Hid ((Builtin.append_ #[36, 36] 36 #[.slice (some ⟨w3.heap.size, 0, none⟩) 0 0, .slice yP nP yp]).run Tryz.prog wb0 = .ok (.slice A0 m0 q0) w0') := ak hrun; have lY := ak (And.intro hcell hfro); obtain ⟨V1, hV⟩ := aj (upd V0 0 (.slice A0 m0 q0)); have Ve : Hid (V1 0 = .slice A0 m0 q0 /\ V1 1 = .slice yQ nQ yq /\ V1 2 = .slice yD nD yd /\ V1 3 = .slice yC nC yc) := ak (by
    rw [hV]; exact ⟨upd_same _ _ _, (bE _ _ (by decide)).trans Vf.o.2.1, (bE _ _ (by decide)).trans Vf.o.2.2.1, (bE _ _ (by decide)).trans Vf.o.2.2.2⟩)
  have Lf : Hid (Cp w g s.node s.nodes s.cells s.epoch 1 V1 L x1) := ak (by
    rw [hx1, hV]; exact mR)
  clear mR hrun hcell hfro hV
  go_upto_region 2 with (at_builtin
                         rw [<- hwb]; have hcell := lY.o.1; have hfro := lY.o.2; refine Lib.wpList_append_run _ rfl _ _ 36 36 rfl _ _ rfl rfl _ _ dQ.o ?_)
  rw [<- hx1]; clear hx1 hwb dQ lY hcx DF; have hcx := (Lf.o).br.cell (j := 5) rfl; rw [Ve.o.2.1] at hcx; have DF : g < x1.heap.size := by have := Lf.o.gt; omega
  obtain ⟨wb1, hwb⟩ := aj (x1.alloc (.cells #[] 71)); obtain ⟨A1, m1, q1, w1', hrun, hcell, hfro, mR⟩ := Lf.o.more (by decide) yQ yq nQ Ve.o.2.1 uh.o.2.1 UF.o.2.1 (fun w' hb => (HSL.o w' hb).2.1) HF.o.2.1 FB.o.2.1 wb1 hwb; obtain ⟨x2, hx2⟩ := aj (w1'.setCell ⟨g, 5, none⟩ (.slice A1 m1 q1)); have dQ : Hid ((Builtin.append_ #[37, 37] 37 #[.slice (some ⟨x1.heap.size, 0, none⟩) 0 0, .slice yQ nQ yq]).run Tryz.prog wb1 = .ok (.slice A1 m1 q1) w1') := ak hrun; have lY := ak (And.intro hcell hfro); obtain ⟨V2, hV⟩ := aj (upd V1 1 (.slice A1 m1 q1)); have KD : Hid (V2 0 = .slice A0 m0 q0 /\ V2 1 = .slice A1 m1 q1 /\ V2 2 = .slice yD nD yd /\ V2 3 = .slice yC nC yc) := ak (by
    rw [hV]; exact ⟨(bE _ _ (by decide)).trans Ve.o.1, upd_same _ _ _, (bE _ _ (by decide)).trans Ve.o.2.2.1, (bE _ _ (by decide)).trans Ve.o.2.2.2⟩)
  have YI : Hid (Cp w g s.node s.nodes s.cells s.epoch 2 V2 L x2) := ak (by
    rw [hx2, hV]; exact mR)
  clear mR hrun hcell hfro hV
  go_upto_region 3 with (at_builtin
                         rw [<- hwb]; have hcell := lY.o.1; have hfro := lY.o.2; refine Lib.wpList_append_run _ rfl _ _ 37 37 rfl _ _ rfl rfl _ _ dQ.o ?_)
  rw [<- hx2]; clear hx2 hwb dQ lY hcx DF; have hcx := (YI.o).br.cell (j := 6) rfl; rw [KD.o.2.2.1] at hcx; have DF : g < x2.heap.size := by have := YI.o.gt; omega
  obtain ⟨wb2, hwb⟩ := aj (x2.alloc (.cells #[] 75)); obtain ⟨A2, m2, q2, w2', hrun, hcell, hfro, mR⟩ := YI.o.more (by decide) yD yd nD KD.o.2.2.1 uh.o.2.2.1 UF.o.2.2.1 (fun w' hb => (HSL.o w' hb).2.2.1) HF.o.2.2.1 FB.o.2.2.1 wb2 hwb; obtain ⟨x3, hx3⟩ := aj (w2'.setCell ⟨g, 6, none⟩ (.slice A2 m2 q2)); have dQ : Hid ((Builtin.append_ #[38, 38] 38 #[.slice (some ⟨x2.heap.size, 0, none⟩) 0 0, .slice yD nD yd]).run Tryz.prog wb2 = .ok (.slice A2 m2 q2) w2') := ak hrun; have lY := ak (And.intro hcell hfro); obtain ⟨V3, hV⟩ := aj (upd V2 2 (.slice A2 m2 q2)); have Vd : Hid (V3 0 = .slice A0 m0 q0 /\ V3 1 = .slice A1 m1 q1 /\ V3 2 = .slice A2 m2 q2 /\ V3 3 = .slice yC nC yc) := ak (by
    rw [hV]; exact ⟨(bE _ _ (by decide)).trans KD.o.1, (bE _ _ (by decide)).trans KD.o.2.1, upd_same _ _ _, (bE _ _ (by decide)).trans KD.o.2.2.2⟩)
  have YH : Hid (Cp w g s.node s.nodes s.cells s.epoch 3 V3 L x3) := ak (by
    rw [hx3, hV]; exact mR)
  clear mR hrun hcell hfro hV
  go_upto_region 4 with (at_builtin
                         rw [<- hwb]; have hcell := lY.o.1; have hfro := lY.o.2; refine Lib.wpList_append_run _ rfl _ _ 38 38 rfl _ _ rfl rfl _ _ dQ.o ?_)
  rw [<- hx3]; clear hx3 hwb dQ lY hcx DF; have hcx := (YH.o).br.cell (j := 7) rfl; rw [Vd.o.2.2.2] at hcx; have DF : g < x3.heap.size := by have := YH.o.gt; omega
  obtain ⟨wb3, hwb⟩ := aj (x3.alloc (.cells #[] 77)); obtain ⟨A3, m3, q3, w3', hrun, hcell, hfro, mR⟩ := YH.o.more (by decide) yC yc nC Vd.o.2.2.2 uh.o.2.2.2 UF.o.2.2.2 (fun w' hb => (HSL.o w' hb).2.2.2) HF.o.2.2.2 FB.o.2.2.2 wb3 hwb; obtain ⟨x4, KV⟩ := aj (w3'.setCell ⟨g, 7, none⟩ (.slice A3 m3 q3)); have dQ : Hid ((Builtin.append_ #[39, 39] 39 #[.slice (some ⟨x3.heap.size, 0, none⟩) 0 0, .slice yC nC yc]).run Tryz.prog wb3 = .ok (.slice A3 m3 q3) w3') := ak hrun; have lY := ak (And.intro hcell hfro); obtain ⟨V4, hV⟩ := aj (upd V3 3 (.slice A3 m3 q3)); have I0 : Hid (V4 0 = .slice A0 m0 q0 /\ V4 1 = .slice A1 m1 q1 /\ V4 2 = .slice A2 m2 q2 /\ V4 3 = .slice A3 m3 q3) := ak (by
    rw [hV]; exact ⟨(bE _ _ (by decide)).trans Vd.o.1, (bE _ _ (by decide)).trans Vd.o.2.1, (bE _ _ (by decide)).trans Vd.o.2.2.1, upd_same _ _ _⟩)
  have I3 : Hid (Cp w g s.node s.nodes s.cells s.epoch 4 V4 L x4) := ak (by
    rw [KV, hV]; exact mR)
  clear mR hrun hcell hfro hV
  go_upto_region 5 with (at_builtin
                         rw [<- hwb]; have hcell := lY.o.1; have hfro := lY.o.2; refine Lib.wpList_append_run _ rfl _ _ 39 39 rfl _ _ rfl rfl _ _ dQ.o ?_)
  rw [<- KV]; clear KV hwb dQ lY hcx DF; have bS := I3.o.row 0 (by decide) (by decide); have hr1 := I3.o.row 1 (by decide) (by decide); have hr2 := I3.o.row 2 (by decide) (by decide); have hr3 := I3.o.row 3 (by decide) (by decide); rw [I0.o.1, uh.o.1] at bS; obtain rfl : m0 = nP := (bD bS).elim fun _ h => h.elim fun _ e => (Value.slice.inj e).2.1
  rw [I0.o.2.1, uh.o.2.1] at hr1; obtain rfl : m1 = nQ := (bD hr1).elim fun _ h => h.elim fun _ e => (Value.slice.inj e).2.1
  rw [I0.o.2.2.1, uh.o.2.2.1] at hr2; obtain rfl : m2 = nD := (bD hr2).elim fun _ h => h.elim fun _ e => (Value.slice.inj e).2.1
  rw [I0.o.2.2.2, uh.o.2.2.2] at hr3; obtain rfl : m3 = nC := (bD hr3).elim fun _ h => h.elim fun _ e => (Value.slice.inj e).2.1
  have HR := ak (And.intro bS (And.intro hr1 (And.intro hr2 hr3))); have Fv : Hid (There s ⟨A0, q0, A1, q1, A2, q2, A3, q3, wG, wH⟩) := ak (by
    have hn := HN.o; have ht := I3.o.there; have hv := I0.o; refine ⟨?_, ?_, ?_, ?_⟩
    · rw [hn.1]; exact kR bS (by rw [<- hv.1]; exact ht 0 (by decide) (by decide))
    · rw [hn.2.1]; exact kR hr1 (by rw [<- hv.2.1]; exact ht 1 (by decide) (by decide))
    · rw [hn.2.2.1]; exact kR hr2 (by rw [<- hv.2.2.1]; exact ht 2 (by decide) (by decide))
    rw [hn.2.2.2]; exact kR hr3 (by rw [<- hv.2.2.2]; exact ht 3 (by decide) (by decide)))
  have cV := I3.o.br; unfold Fq at cV; rw [I0.o.1, I0.o.2.1, I0.o.2.2.1, I0.o.2.2.2] at cV; have I8 := ak cV; have sF := ak I3.o.res; clear bS hr1 hr2 hr3 cV
  apply wp_region_lit
  refine aD rfl 41 _ rfl g #[iv s.node, iv s.nodes, iv s.cells, iv s.epoch, .slice A0 m0 q0, .slice A1 m1 q1, .slice A2 m2 q2, .slice A3 m3 q3] rfl rfl I8.o Tryz.underlying41 rfl (by kernel_rfl) ?_; refine aA rfl 41 _ _ rfl (g + 1) #[iv s.node, iv s.nodes, iv s.cells, iv s.epoch, .slice A0 m0 q0, .slice A1 m1 q1, .slice A2 m2 q2, .slice A3 m3 q3] [iv s.node, iv s.nodes, iv s.cells, iv s.epoch, .slice A0 m0 q0, .slice A1 m1 q1, .slice A2 m2 q2, .slice A3 m3 q3] rfl rfl rfl sF.o rfl (by kernel_rfl) (by kernel_rfl) fun wv hpt hov => ?_
  have bU := ak hpt; have HO := ak hov; clear hpt hov
  go_wp2_with fail
  refine bodyPost_ret (v := .agg #[iv s.node, iv s.nodes, iv s.cells, iv s.epoch, .slice A0 m0 q0, .slice A1 m1 q1, .slice A2 m2 q2, .slice A3 m3 q3]) ?_ rfl ?_
  · exact (g_ (p := 2) (ty := 41) (by rfl) _ bU.o _ (by rfl) Tryz.underlying41 rfl (by kernel_rfl)).trans (by rfl)
  have hg := I3.o.gt
  have fO := I3.o.low; have xB : Below w.heap.size w wv := fO.trans (HO.o.below fO.size fun i hi => by omega); have hle := lC.o; have hn := HN.o; have hv4 := I0.o; have hR := HR.o; have Ja := D_.o; obtain ⟨r0, r1, r2, r3⟩ := hR; have hd := I3.o.Ji; have hup : ∀ {e : TypeId} {sz n : Nat} {v : Value} {xs : List Value}, x4.ownsRow (g + 2) e sz v n xs -> wv.ownsRow w.heap.size e sz v n xs := fun hr => cS (by omega) (aF hr HO.o fun i hi e => by have := (hr.lt i hi).1; have e2 : i = g + 1 := e; omega)
  have hbk : ∀ {e : TypeId} {sz n : Nat} {v : Value} {xs : List Value}, x4.ownsRow (g + 2) e sz v n xs -> ∀ i, v.ownBlock = some i -> w.heap.size <= i := fun hr i hi => by have := (hr.lt i hi).1; omega
  refine ⟨⟨⟨A0, q0, A1, q1, A2, q2, A3, q3, wG, wH⟩, rfl, ?_, Fv.o, rfl, rfl⟩, xB⟩; have hro : ∀ k, rowsOf ⟨A0, q0, A1, q1, A2, q2, A3, q3, wG, wH⟩ k -> w.heap.size <= k := fun k hk => by
    rcases hk with e | e | e | e
    · exact hbk r0 k (by rw [aK]; exact e.symm)
    · exact hbk r1 k (by rw [aK]; exact e.symm)
    · exact hbk r2 k (by rw [aK]; exact e.symm)
    exact hbk r3 k (by rw [aK]; exact e.symm)
  have D7 : ∀ (j k : Nat) (A B : Option Addr) (n m p q : Nat), j < 4 -> k < 4 -> j ≠ k -> V4 j = .slice A n p -> V4 k = .slice B m q -> um (blk A) (blk B) := fun j k A B n m p q hj hk hjk ej ek i hi => by
    have := hd j k hj hk hj hk hjk i (by rw [ej, aK]; exact hi); rw [ek, aK] at this; exact this
  refine ⟨?_, ?_, ?_, ?_, Ja.ps, Ja.cs, fun k h1 h2' => ?_, fun k h1 h2' => ?_, D7 0 1 _ _ _ _ _ _ (by decide) (by decide) (by decide) hv4.1 hv4.2.1, D7 0 2 _ _ _ _ _ _ (by decide) (by decide) (by decide) hv4.1 hv4.2.2.1, D7 0 3 _ _ _ _ _ _ (by decide) (by decide) (by decide) hv4.1 hv4.2.2.2, D7 1 2 _ _ _ _ _ _ (by decide) (by decide) (by decide) hv4.2.1 hv4.2.2.1, D7 1 3 _ _ _ _ _ _ (by decide) (by decide) (by decide) hv4.2.1 hv4.2.2.2, D7 2 3 _ _ _ _ _ _ (by decide) (by decide) (by decide) hv4.2.2.1 hv4.2.2.2⟩
  · rw [hn.1]; rw [hle] at r0; exact hup r0
  · rw [hn.2.1]; rw [hle] at r1; exact hup r1
  · rw [hn.2.2.1]; rw [hle] at r2; exact hup r2
  · rw [hn.2.2.2]; rw [hle] at r3; exact hup r3
  · intro w2 h2
    exact (Ja.pin k h1 h2').later (xB.trans (h2.below xB.size fun j e => e.elim id (hro j)))
  intro w2 h2
  exact (Ja.cin k h1 h2').later (xB.trans (h2.below xB.size fun j e => e.elim id (hro j)))
