/- Part 11 of the proof. Conditions: none. -/
import Derived.Test.YtdkchpiinelmiaaGreatZ10
namespace Go.Proofs.YtdkchpiinelmiaaGreat.Led
set_option maxRecDepth 100000
open Go.RowKit Go.Deep Mem fN Rec
def sT : Nat -> TypeId
  | 0 => 36
  | 1 => 37
  | 2 => 38
  | _ => 39
def eT : Nat -> TypeId
  | 0 => 69
  | 1 => 71
  | 2 => 75
  | _ => 77
def I_ : Nat -> Nat
  | 0 => 5
  | 1 => 5
  | 2 => 4
  | _ => 6
def byT : Nat -> Nat
  | 0 => 40
  | 1 => 72
  | 2 => 32
  | _ => 80
def zT : Nat -> Value
  | 0 => .agg #[iv 0, iv 0, iv 0, iv 0, iv 0]
  | 1 => .agg #[iv 0, iv 0, iv 0, .slice none 0 0, .slice none 0 0]
  | 2 => .agg #[iv 0, iv 0, iv 0, .bool false]
  | _ => .agg #[iv 0, iv 0, iv 0, .slice none 0 0, .slice none 0 0, .bool false]
theorem fM : ∀ k, Elem (sT k) (eT k) (zT k) (I_ k) (byT k)
  | 0 => ⟨Tryz.underlying36, by kernel_rfl, rfl, by decide, by decide⟩
  | 1 => ⟨Tryz.underlying37, by kernel_rfl, rfl, by decide, by decide⟩
  | 2 => ⟨Tryz.underlying38, by kernel_rfl, rfl, by decide, by decide⟩
  | _ + 3 => ⟨Tryz.underlying39, by kernel_rfl, rfl, by show 0 < 6; decide, by show 80 <= 100; decide⟩
def upd {α : Type} (f : Nat -> α) (k : Nat) (v : α) : Nat -> α := fun j => if j = k then v else f j
theorem upd_same {α : Type} (f : Nat -> α) (k : Nat) (v : α) : upd f k v k = v := if_pos rfl
theorem bE {α : Type} (f : Nat -> α) {j k : Nat} (v : α) (h : j ≠ k) : upd f k v j = f j := if_neg h
def tS : List Value := [.int .i64 0, .int .i64 0, .int .i64 0, .int .i64 0, .slice none 0 0, .slice none 0 0, .slice none 0 0, .slice none 0 0]
def Fq (a b c d : Int) (V : Nat -> Value) : List Value := [.int .i64 a, .int .i64 b, .int .i64 c, .int .i64 d, V 0, V 1, V 2, V 3]
def Wf (g : Nat) (w : World) (A : Option Addr) (sz : Nat) (vs : List (List Value)) : Prop := ∀ w', Only (fun k => k <= g) w w' -> Sl w' A sz vs
theorem rV {g g2 : Nat} {w w' : World} {A : Option Addr} {sz : Nat} {vs : List (List Value)} (h : Wf g w A sz vs) (ho : Only (fun k => k = g2) w w') (hg : g2 <= g) : Sl w' A sz vs := h w' (ho.mono fun k _ e => by omega)
structure Pn (W : World) (g2 g3 : Nat) (a b c d : Int) (V : Nat -> Value) (L : Nat -> List (List Value)) (wr : World) : Prop where
  low : Below W.heap.size W wr
  gt : W.heap.size <= g2 /\ g2 < g3 /\ g3 < wr.heap.size
  res : Cells wr g2 41 tS
  br : Cells wr g3 41 (Fq a b c d V)
  row : ∀ k, k < 4 -> wr.ownsRow (g3 + 1) (eT k) (I_ k) (V k) (L k).length (L k).flatten
  fit : ∀ k, k < 4 -> Fit (I_ k) (L k)
  Ji : ∀ j k, j < 4 -> k < 4 -> j ≠ k -> ∀ i, (V j).ownBlock = some i -> (V k).ownBlock ≠ some i
section
variable {W wr wq : World} {g2 g3 : Nat} {a b c d : Int} {V : Nat -> Value} {L : Nat -> List (List Value)}
theorem Pn.later (h : Pn W g2 g3 a b c d V L wr) (hb : Below wr.heap.size wr wq) : Pn W g2 g3 a b c d V L wq :=
  ⟨h.low.trans (hb.mono h.low.size), ⟨h.gt.1, h.gt.2.1, Nat.lt_of_lt_of_le h.gt.2.2 hb.size⟩, h.res.later hb, h.br.later hb, fun k hk => aF (h.row k hk) (Only.of_below (S := fun _ => False) hb) fun _ _ e => e, h.fit, h.Ji⟩
theorem Pn.more (h : Pn W g2 g3 a b c d V L wr) (k : Nat) (hk : k < 4) (x : List Value) (hx : Fit (I_ k) [x]) (hl : (L k).length <= 100000) (wb : World) (hb : Below wr.heap.size wr wb) (g : Nat) (hg : Cells wb g (eT k) x) :
    ∃ A n m w', (Builtin.append_ #[sT k, sT k] (sT k) #[V k, .slice (some ⟨g, 0, none⟩) 1 1]).run Tryz.prog wb = .ok (.slice A n m) w' /\ w'.cell? ⟨g3, 4 + k, none⟩ = some (V k) /\ w'.frozen? ⟨g3, 4 + k, none⟩ = false /\
      Pn W g2 g3 a b c d (upd V k (.slice A n m)) (upd L k (L k ++ [x])) (w'.setCell ⟨g3, 4 + k, none⟩ (.slice A n m)) := by
  have h1 := h.later hb; obtain ⟨v', w', hrun, hrow, hgr, hat⟩ := aZ (fM k) wb (sT k) (g3 + 1) (V k) (L k) [x] (some ⟨g, 0, none⟩) 1 (h.fit k hk) hx (h1.row k hk) (cW (by simpa using hg) hx.len) (fun e => by cases e) (by rw [List.length_singleton]; omega) h1.gt.2.2; obtain ⟨A, m, hv, _⟩ := f_ hrow ((h.fit k hk).app hx).len; obtain ⟨n, hn⟩ := ah ((L k ++ [x]).length); rw [hn] at hv; subst hv; have ho := Only.fP hgr; have hV : ∀ j i, j < 4 -> (V j).ownBlock = some i -> g3 + 1 <= i /\ i < wb.heap.size := fun j i hj hi => (h1.row j hj).lt i hi
  have hc := aJ h1.br ho fun e => by have := (hV k _ hk e.symm).1; omega
  have Gm : (Fq a b c d V)[4 + k]? = some (V k) := by
    rcases (show k = 0 \/ k = 1 \/ k = 2 \/ k = 3 by omega) with rfl | rfl | rfl | rfl <;> rfl
  have eZ : (Fq a b c d V).set (4 + k) (.slice A n m) = Fq a b c d (upd V k (.slice A n m)) := by
    rcases (show k = 0 \/ k = 1 \/ k = 2 \/ k = 3 by omega) with rfl | rfl | rfl | rfl <;> rfl
  refine ⟨A, n, m, w', hrun, hc.cell Gm, hc.frozen (by show 4 + k < 8; omega), ?_⟩
  have iH : Only (fun i => some i = (V k).ownBlock \/ i = g3) wb (w'.setCell ⟨g3, 4 + k, none⟩ (.slice A n m)) := (ho.mono fun _ _ e => Or.inl e).trans (Only.b_ w' ⟨g3, 4 + k, none⟩ _) fun _ _ e => Or.inr e
  have hs3 := Only.b_ w' ⟨g3, 4 + k, none⟩ (.slice A n m); refine ⟨h1.low.trans (iH.below h1.low.size fun i hi => ?_), ⟨h1.gt.1, h1.gt.2.1, Nat.lt_of_lt_of_le h1.gt.2.2 iH.size⟩, aJ h1.res iH ?_, ?_, fun j hj => ?_, fun j hj => ?_, fun i j hi hj hij q hq => ?_⟩
  · rcases hi with e | e
    · have := (hV k i hk e.symm).1; have := h1.gt; omega
    have := h1.gt; omega
  · rintro (e | e)
    · have := (hV k _ hk e.symm).1; have := h1.gt; omega
    have := h1.gt; omega
  · rw [<- eZ]; exact hc.fB (4 + k) _
  · by_cases hjk : j = k
    · subst hjk
      rw [upd_same, upd_same]; exact aF hrow hs3 fun i hi e => by have := (hrow.lt i hi).1; have e2 : i = g3 := e; omega
    rw [bE _ _ hjk, bE _ _ hjk]
    refine aF (h1.row j hj) iH fun i hi e => ?_
    rcases e with e | e
    · exact h.Ji j k hj hk hjk i hi e.symm
    have := (hV j i hj hi).1; omega
  · by_cases hjk : j = k
    · subst hjk; rw [upd_same]; exact (h.fit j hj).app hx
    rw [bE _ _ hjk]; exact h.fit j hj
  have hnew : ∀ q, (Value.slice A n m).ownBlock = some q -> (V k).ownBlock = some q \/ wb.heap.size <= q := fun q hq => by
    rcases hat with e | e
    · exact Or.inl (e.symm.trans hq)
    exact Or.inr (by have := Option.some.inj (e.symm.trans hq); omega)
  by_cases hik : i = k
  · subst hik
    rw [upd_same] at hq; rw [bE _ _ (fun e => hij e.symm)]; rcases hnew q hq with e | e
    · exact h.Ji i j hi hj hij q e
    intro e2; have := (hV j q hj e2).2; omega
  rw [bE _ _ hik] at hq
  by_cases hjk : j = k
  · subst hjk
    rw [upd_same]; intro e2; rcases hnew q e2 with e | e
    · exact h.Ji i j hi hj hij q hq e
    have := (hV i q hi hq).2; omega
  rw [bE _ _ hjk]
  exact h.Ji i j hi hj hij q hq
theorem Pn.fin (h : Pn W g2 g3 a b c d V L wr) (k : Nat) (hk : k < 4) : ∃ A m, V k = .slice A (L k).length m /\ Wf g3 wr A (I_ k) (L k) /\ (A = none -> m = 0) := by
  have h0 := h.row k hk; obtain ⟨A, m, e, h1, h2, h3⟩ := f_ h0 (h.fit k hk).len; refine ⟨A, m, e, fun w' ho => ?_, h2⟩; obtain ⟨A', m', e', h1', _, _⟩ := f_ (aF h0 ho fun i hi hs => by have := (h0.lt i hi).1; omega) (h.fit k hk).len
  rw [e] at e'; simp only [Value.slice.injEq] at e'; obtain ⟨rfl, _, _⟩ := e'; exact h1'
end
def ke (l0 l1 l2 l3 : List (List Value)) : Nat -> List (List Value)
  | 0 => l0
  | 1 => l1
  | 2 => l2
  | _ => l3
theorem Pn.cast {W wr : World} {g2 g3 : Nat} {a b c d : Int} {V : Nat -> Value} {L L' : Nat -> List (List Value)} (h : Pn W g2 g3 a b c d V L wr) (e : ∀ k, k < 4 -> L k = L' k) : Pn W g2 g3 a b c d V L' wr :=
  ⟨h.low, h.gt, h.res, h.br, fun k hk => (by rw [<- e k hk]; exact h.row k hk), fun k hk => (by rw [<- e k hk]; exact h.fit k hk), h.Ji⟩
theorem Fp {k : Nat} (h : k < 4) : k = 0 \/ k = 1 \/ k = 2 \/ k = 3 := by omega
set_option maxHeartbeats 4000000 in
theorem jZ (s : St) (y : Sy) (w : World) (h : cL w s y) (hs : Small s) :
    Calls Tryz.prog 9 #[s.val y] w fun e w' => (∃ z, e = .returned (s.val z) /\ cL w' s z) /\ Below w.heap.size w w' := by
  obtain ⟨yP, yp, yQ, yq, yD, yd, yC, yc, wG, wH⟩ := y; have HP := ak h.places; have HQ := ak h.ay; have HD := ak h.dec; have HC := ak h.com; have D_ := ak h; have dU := ak hs; obtain ⟨nP, FQ⟩ := ah s.places.length; obtain ⟨nQ, FP⟩ := ah s.ay.length; obtain ⟨nD, FR⟩ := ah s.dec.length; obtain ⟨nC, FT⟩ := ah s.com.length; have HN : Hid (s.places.length = nP /\ s.ay.length = nQ /\ s.dec.length = nD /\ s.com.length = nC) := ak ⟨FQ, FP, FR, FT⟩; obtain ⟨v0, hv0⟩ := ah (s.places.map Pl.vals); obtain ⟨v1, hv1⟩ := ah (List.zipWith Pr.vals s.ay wG); obtain ⟨v2, hv2⟩ := ah (s.dec.map De.vals); obtain ⟨v3, hv3⟩ := ah (List.zipWith Co.vals s.com wH); have HV : Hid (s.places.map Pl.vals = v0 /\ List.zipWith Pr.vals s.ay wG = v1 /\ s.dec.map De.vals = v2 /\ List.zipWith Co.vals s.com wH = v3) := ak ⟨hv0, hv1, hv2, hv3⟩; have HL : Hid (v0.length = nP /\ v1.length = nQ /\ v2.length = nD /\ v3.length = nC) := ak (by
    refine ⟨by rw [<- hv0, List.length_map]; exact FQ, by rw [<- hv1, cY _ h.ps]; exact FP, by rw [<- hv2, List.length_map]; exact FR, by rw [<- hv3, cY _ h.cs]; exact FT⟩)
  have HF : Hid (Fit 5 v0 /\ Fit 5 v1 /\ Fit 4 v2 /\ Fit 6 v3) := ak ⟨by rw [<- hv0]; exact aU _, by rw [<- hv1]; exact h_ _ _, by rw [<- hv2]; exact fG _, by rw [<- hv3]; exact iI _ _⟩; have FB : Hid (nP <= 100000 /\ nQ <= 100000 /\ nD <= 100000 /\ nC <= 100000) := ak ⟨by rw [<- FQ]; exact hs.places, by rw [<- FP]; exact hs.ay, by rw [<- FR]; exact hs.dec, by rw [<- FT]; exact hs.com⟩; rw [hv0] at HP; rw [hv1] at HQ; rw [hv2] at HD; rw [hv3] at HC; unfold St.val; simp only [FQ, FP, FR, FT]; obtain ⟨w1, hw1⟩ := aj (w.alloc (.cells #[iv s.node, iv s.nodes, iv s.cells, iv s.epoch, .slice yP nP yp, .slice yQ nQ yq, .slice yD nD yd, .slice yC nC yc] 32)); obtain ⟨w3, hw3⟩ := aj ((w1.alloc (.cells #[iv 0, iv 0, iv 0, iv 0, .slice none 0 0, .slice none 0 0, .slice none 0 0, .slice none 0 0] 41)).alloc (.cells #[iv s.node, iv s.nodes, iv s.cells, iv s.epoch, .slice none 0 0, .slice none 0 0, .slice none 0 0, .slice none 0 0] 41)); have hb1 : Below w.heap.size w w1 := by rw [hw1]; exact av _ _
  have hz1 : w1.heap.size = w.heap.size + 1 := by rw [hw1, World.size_alloc]
  have hb3 : Below w1.heap.size w1 w3 := by rw [hw3]; exact (av w1 _).alloc (by rw [World.size_alloc]; omega) _
  have HX : Hid (∀ w', Below w1.heap.size w1 w' -> Cells w' w.heap.size 32 [iv s.node, iv s.nodes, iv s.cells, iv s.epoch, .slice yP nP yp, .slice yQ nQ yq, .slice yD nD yd, .slice yC nC yc]) := ak (fun w' hb' => by
    have q : Cells w1 w.heap.size 32 [iv s.node, iv s.nodes, iv s.cells, iv s.epoch, .slice yP nP yp, .slice yQ nQ yq, .slice yD nD yd, .slice yC nC yc] := by rw [hw1]; exact aB w 32 [iv s.node, iv s.nodes, iv s.cells, iv s.epoch, .slice yP nP yp, .slice yQ nQ yq, .slice yD nD yd, .slice yC nC yc] _ rfl
    exact q.later hb')
  have Uy : Hid (Pn w1 w1.heap.size (w1.heap.size + 1) s.node s.nodes s.cells s.epoch (fun _ => .slice none 0 0) (ke [] [] [] []) w3) := ak (by
    refine ⟨hb3, ⟨Nat.le_refl _, by omega, by rw [hw3, World.size_alloc, World.size_alloc]; omega⟩, ?_, ?_, fun k hk => ?_, fun k hk => ?_, fun i j _ _ _ q hq => by cases hq⟩
    · rw [hw3]; exact (aB w1 41 tS _ rfl).later (av _ _)
    · have q := aB (w1.alloc (.cells #[iv 0, iv 0, iv 0, iv 0, .slice none 0 0, .slice none 0 0, .slice none 0 0, .slice none 0 0] 41)) 41 (Fq s.node s.nodes s.cells s.epoch (fun _ => .slice none 0 0)) #[iv s.node, iv s.nodes, iv s.cells, iv s.epoch, .slice none 0 0, .slice none 0 0, .slice none 0 0, .slice none 0 0] rfl
      rw [World.size_alloc] at q; rw [hw3]; exact q
    · rcases Fp hk with rfl | rfl | rfl | rfl <;> exact World.ownsRow_nil _ _ _ _
    rcases Fp hk with rfl | rfl | rfl | rfl <;> exact Fit.nil _)
  have fW := ak hb1; have HZ1 := ak hz1; obtain ⟨g2, hg2⟩ := ah w1.heap.size; obtain ⟨g3, hg3⟩ := ah (g2 + 1); have hgg : w.heap.size + 1 = g2 := by omega
  rw [hg2, hg3] at Uy; clear h hs FQ FP FR FT hv0 hv1 hv2 hv3 hb1 hb3 hz1; obtain ⟨aed, aec, aeb, aea⟩ := FB.o
  go_enter Tryz.func9, Tryz.ntmps9
  go_upto_region 2 with (fail)
  rw [<- hw1]; rw [<- hw3]
  try rw [hgg]
  try rw [hg2]
  try rw [hg3]
  clear hw1 hw3 hgg hg2 hg3; have hcx := (HX.o _ Uy.o.low).cell (j := 4) rfl
  go_wp2_with fail
  go_loopw [5, 24] (fun _ i wr => ∃ (j : Nat) (V : Nat -> Value), j <= nP /\ i = iv (j : Int) /\ Hid (Pn w1 g2 g3 s.node s.nodes s.cells s.epoch V (ke (v0.take j) [] [] []) wr)) (fun _ i _ => nP - (intOf i).toNat)
  case atStart => exact ⟨0, _, Nat.zero_le _, rfl, Uy⟩
  case round =>
    obtain ⟨j, V, hj, rfl, HR⟩ := hrel
    by_cases hlt : j < nP
    · have hlv : j < v0.length := by have := HL.o; omega
      obtain ⟨bb, off, hA, bS⟩ := HP.o j hlv; have bf : Hid (Fit 5 [v0[j]]) := ak (HF.o.1.sub fun v hv => by rw [List.mem_singleton.1 hv]; exact List.getElem_mem hlv); have qW : Hid (v0.take j ++ [v0[j]] = v0.take (j + 1)) := ak (by rw [List.take_succ_eq_append_getElem hlv]); obtain ⟨p, hp⟩ : ∃ p, v0[j] = Pl.vals p := ⟨s.places[j]'(by have := HN.o; omega), by have h := HV.o.1; subst h; rw [List.getElem_map]⟩
      rw [hp] at bS bf qW; have hr := aM bS (fW.o.trans (HR.o.low.mono fW.o.size)); clear bS hp hlv; have z0 : wr.cell? ⟨bb, off + j * 5, none⟩ = some (iv p.status) := hr 0 _ rfl; have z1 : wr.cell? ⟨bb, off + j * 5 + 1, none⟩ = some (iv p.hop) := hr 1 _ rfl; have z2 : wr.cell? ⟨bb, off + j * 5 + 2, none⟩ = some (iv p.to) := hr 2 _ rfl; have z3 : wr.cell? ⟨bb, off + j * 5 + 3, none⟩ = some (iv p.version) := hr 3 _ rfl; have z4 : wr.cell? ⟨bb, off + j * 5 + 4, none⟩ = some (iv p.value) := hr 4 _ rfl; subst hA; clear hr; obtain ⟨wa, cM⟩ := aj (wr.alloc (.cells #[iv p.status, iv p.hop, iv p.to, iv p.version, iv p.value] 66)); obtain ⟨wb, hwb⟩ := aj (wa.alloc (.cells #[iv p.status, iv p.hop, iv p.to, iv p.version, iv p.value] 69)); have hba : Below wr.heap.size wr wa := by rw [cM]; exact av _ _
      have hbb : Below wr.heap.size wr wb := hba.trans ((show Below wa.heap.size wa wb by rw [hwb]; exact av _ _).mono hba.size)
      have hcb : Cells wb (wr.heap.size + 1) 69 [iv p.status, iv p.hop, iv p.to, iv p.version, iv p.value] := by
        have q := aB wa 69 [iv p.status, iv p.hop, iv p.to, iv p.version, iv p.value] #[iv p.status, iv p.hop, iv p.to, iv p.version, iv p.value] rfl; rw [<- hwb, cM, World.size_alloc] at q; exact q
      have XR := HR.o.br.cell (j := 4) rfl; have DF := HR.o.gt.2.2; obtain ⟨A, n, m, w', hrun, hcell, hfro, mR⟩ := HR.o.more 0 (by decide) [iv p.status, iv p.hop, iv p.to, iv p.version, iv p.value] bf.o (by show (v0.take j).length <= 100000; rw [List.length_take]; have := FB.o; omega) wb hbb (wr.heap.size + 1) hcb
      have zR : Hid (Pn w1 g2 g3 s.node s.nodes s.cells s.epoch (upd V 0 (.slice A n m)) (ke (v0.take (j + 1)) [] [] []) (w'.setCell ⟨g3, 4, none⟩ (.slice A n m))) := ak (mR.cast fun q hq => by
        rcases Fp hq with rfl | rfl | rfl | rfl <;> first | rfl | exact qW.o)
      have dQ : Hid ((Builtin.append_ #[36, 36] 36 #[V 0, .slice (some ⟨wr.heap.size + 1, 0, none⟩) 1 1]).run Tryz.prog wb = .ok (.slice A n m) w') := ak hrun; have lY := ak (And.intro hcell hfro); clear mR hrun hcell hfro hcb hba hbb
      go_wp2_with (at_builtin
                   rw [<- cM]; rw [<- hwb]; have hcell := lY.o.1; have hfro := lY.o.2; refine Lib.wpList_append_run _ rfl _ _ 36 36 rfl _ _ rfl rfl _ _ dQ.o ?_)
      go_roundw
      case rel => exact ⟨j + 1, _, by omega, by go_num, zR⟩
      case measure => simp [intOf]; omega
    have hjn : j = nP := by omega
    have Tm : Hid (Pn w1 g2 g3 s.node s.nodes s.cells s.epoch V (ke v0 [] [] []) wr) := ak (HR.o.cast fun q hq => by
      rcases Fp hq with rfl | rfl | rfl | rfl <;> first | rfl | exact List.take_of_length_le (by have := HL.o; omega))
    clear hjn; obtain ⟨V1, Ky⟩ := aj V; obtain ⟨wk0, FV⟩ := aj wr; rw [<- Ky, <- FV] at Tm; rw [<- FV]; clear Ky FV HR hj; have hcx := (HX.o _ Tm.o.low).cell (j := 5) rfl
    go_wp2_with fail
    go_loopw [7, 38] (fun _ i wr => ∃ (j : Nat) (V : Nat -> Value), j <= nQ /\ i = iv (j : Int) /\ Hid (Pn w1 g2 g3 s.node s.nodes s.cells s.epoch V (ke v0 (v1.take j) [] []) wr)) (fun _ i _ => nQ - (intOf i).toNat)
    case atStart => exact ⟨0, _, Nat.zero_le _, rfl, Tm⟩
    case round =>
      obtain ⟨j, V, hj, rfl, HR⟩ := hrel
      by_cases hlt : j < nQ
      · have hlv : j < v1.length := by have := HL.o; omega
        obtain ⟨bb, off, hA, bS⟩ := HQ.o j hlv; have bf : Hid (Fit 5 [v1[j]]) := ak (HF.o.2.1.sub fun v hv => by rw [List.mem_singleton.1 hv]; exact List.getElem_mem hlv); have qW : Hid (v1.take j ++ [v1[j]] = v1.take (j + 1)) := ak (by rw [List.take_succ_eq_append_getElem hlv]); obtain ⟨p, lay, hp⟩ : ∃ p lay, v1[j] = Pr.vals p lay := by
          have h := jV (f := Pr.vals) (l := s.ay) (m := wG) (v := v1[j]) (by rw [HV.o.2.1]; exact List.getElem_mem hlv); exact h
        rw [hp] at bS bf qW; have hr := aM bS (fW.o.trans (HR.o.low.mono fW.o.size)); clear bS hp hlv; have z0 : wr.cell? ⟨bb, off + j * 5, none⟩ = some (iv p.tid.node) := hr 0 _ rfl; have z1 : wr.cell? ⟨bb, off + j * 5 + 1, none⟩ = some (iv p.tid.epoch) := hr 1 _ rfl; have z2 : wr.cell? ⟨bb, off + j * 5 + 2, none⟩ = some (iv p.tid.seq) := hr 2 _ rfl; have z3 : wr.cell? ⟨bb, off + j * 5 + 3, none⟩ = some (.slice lay.A p.items.length lay.c) := hr 3 _ rfl; have z4 : wr.cell? ⟨bb, off + j * 5 + 4, none⟩ = some (.slice lay.B p.nodes.length lay.d) := hr 4 _ rfl; subst hA; clear hr; obtain ⟨wa, cM⟩ := aj (wr.alloc (.cells #[iv p.tid.node, iv p.tid.epoch, iv p.tid.seq, .slice lay.A p.items.length lay.c, .slice lay.B p.nodes.length lay.d] 78)); obtain ⟨wb, hwb⟩ := aj (wa.alloc (.cells #[iv p.tid.node, iv p.tid.epoch, iv p.tid.seq, .slice lay.A p.items.length lay.c, .slice lay.B p.nodes.length lay.d] 71)); have hba : Below wr.heap.size wr wa := by rw [cM]; exact av _ _
        have hbb : Below wr.heap.size wr wb := hba.trans ((show Below wa.heap.size wa wb by rw [hwb]; exact av _ _).mono hba.size)
        have hcb : Cells wb (wr.heap.size + 1) 71 [iv p.tid.node, iv p.tid.epoch, iv p.tid.seq, .slice lay.A p.items.length lay.c, .slice lay.B p.nodes.length lay.d] := by
          have q := aB wa 71 [iv p.tid.node, iv p.tid.epoch, iv p.tid.seq, .slice lay.A p.items.length lay.c, .slice lay.B p.nodes.length lay.d] #[iv p.tid.node, iv p.tid.epoch, iv p.tid.seq, .slice lay.A p.items.length lay.c, .slice lay.B p.nodes.length lay.d] rfl; rw [<- hwb, cM, World.size_alloc] at q; exact q
        have XR := HR.o.br.cell (j := 5) rfl; have DF := HR.o.gt.2.2; obtain ⟨A, n, m, w', hrun, hcell, hfro, mR⟩ := HR.o.more 1 (by decide) [iv p.tid.node, iv p.tid.epoch, iv p.tid.seq, .slice lay.A p.items.length lay.c, .slice lay.B p.nodes.length lay.d] bf.o (by show (v1.take j).length <= 100000; rw [List.length_take]; have := FB.o; omega) wb hbb (wr.heap.size + 1) hcb
        have zR : Hid (Pn w1 g2 g3 s.node s.nodes s.cells s.epoch (upd V 1 (.slice A n m)) (ke v0 (v1.take (j + 1)) [] []) (w'.setCell ⟨g3, 5, none⟩ (.slice A n m))) := ak (mR.cast fun q hq => by
          rcases Fp hq with rfl | rfl | rfl | rfl <;> first | rfl | exact qW.o)
        have dQ : Hid ((Builtin.append_ #[37, 37] 37 #[V 1, .slice (some ⟨wr.heap.size + 1, 0, none⟩) 1 1]).run Tryz.prog wb = .ok (.slice A n m) w') := ak hrun; have lY := ak (And.intro hcell hfro); clear mR hrun hcell hfro hcb hba hbb
        go_wp2_with (at_builtin
                     rw [<- cM]; rw [<- hwb]; have hcell := lY.o.1; have hfro := lY.o.2; refine Lib.wpList_append_run _ rfl _ _ 37 37 rfl _ _ rfl rfl _ _ dQ.o ?_)
        go_roundw
        case rel => exact ⟨j + 1, _, by omega, by go_num, zR⟩
        case measure => simp [intOf]; omega
      have hjn : j = nQ := by omega
      have Tk : Hid (Pn w1 g2 g3 s.node s.nodes s.cells s.epoch V (ke v0 v1 [] []) wr) := ak (HR.o.cast fun q hq => by
        rcases Fp hq with rfl | rfl | rfl | rfl <;> first | rfl | exact List.take_of_length_le (by have := HL.o; omega))
      clear hjn; obtain ⟨V2, Ky⟩ := aj V; obtain ⟨wk1, FV⟩ := aj wr; rw [<- Ky, <- FV] at Tk; rw [<- FV]; clear Ky FV HR hj; have hcx := (HX.o _ Tk.o.low).cell (j := 6) rfl
      go_wp2_with fail
      go_loopw [9, 52] (fun _ i wr => ∃ (j : Nat) (V : Nat -> Value), j <= nD /\ i = iv (j : Int) /\ Hid (Pn w1 g2 g3 s.node s.nodes s.cells s.epoch V (ke v0 v1 (v2.take j) []) wr)) (fun _ i _ => nD - (intOf i).toNat)
      case atStart => exact ⟨0, _, Nat.zero_le _, rfl, Tk⟩
      case round =>
        obtain ⟨j, V, hj, rfl, HR⟩ := hrel
        by_cases hlt : j < nD
        · have hlv : j < v2.length := by have := HL.o; omega
          obtain ⟨bb, off, hA, bS⟩ := HD.o j hlv; have bf : Hid (Fit 4 [v2[j]]) := ak (HF.o.2.2.1.sub fun v hv => by rw [List.mem_singleton.1 hv]; exact List.getElem_mem hlv); have qW : Hid (v2.take j ++ [v2[j]] = v2.take (j + 1)) := ak (by rw [List.take_succ_eq_append_getElem hlv]); obtain ⟨p, hp⟩ : ∃ p, v2[j] = De.vals p := ⟨s.dec[j]'(by have := HN.o; omega), by have h := HV.o.2.2.1; subst h; rw [List.getElem_map]⟩
          rw [hp] at bS bf qW; have hr := aM bS (fW.o.trans (HR.o.low.mono fW.o.size)); clear bS hp hlv; have z0 : wr.cell? ⟨bb, off + j * 4, none⟩ = some (iv p.tid.node) := hr 0 _ rfl; have z1 : wr.cell? ⟨bb, off + j * 4 + 1, none⟩ = some (iv p.tid.epoch) := hr 1 _ rfl; have z2 : wr.cell? ⟨bb, off + j * 4 + 2, none⟩ = some (iv p.tid.seq) := hr 2 _ rfl; have z3 : wr.cell? ⟨bb, off + j * 4 + 3, none⟩ = some (.bool p.yes) := hr 3 _ rfl; subst hA; clear hr; obtain ⟨wa, cM⟩ := aj (wr.alloc (.cells #[iv p.tid.node, iv p.tid.epoch, iv p.tid.seq, .bool p.yes] 79)); obtain ⟨wb, hwb⟩ := aj (wa.alloc (.cells #[iv p.tid.node, iv p.tid.epoch, iv p.tid.seq, .bool p.yes] 75)); have hba : Below wr.heap.size wr wa := by rw [cM]; exact av _ _
          have hbb : Below wr.heap.size wr wb := hba.trans ((show Below wa.heap.size wa wb by rw [hwb]; exact av _ _).mono hba.size)
          have hcb : Cells wb (wr.heap.size + 1) 75 [iv p.tid.node, iv p.tid.epoch, iv p.tid.seq, .bool p.yes] := by
            have q := aB wa 75 [iv p.tid.node, iv p.tid.epoch, iv p.tid.seq, .bool p.yes] #[iv p.tid.node, iv p.tid.epoch, iv p.tid.seq, .bool p.yes] rfl; rw [<- hwb, cM, World.size_alloc] at q; exact q
          have XR := HR.o.br.cell (j := 6) rfl; have DF := HR.o.gt.2.2; obtain ⟨A, n, m, w', hrun, hcell, hfro, mR⟩ := HR.o.more 2 (by decide) [iv p.tid.node, iv p.tid.epoch, iv p.tid.seq, .bool p.yes] bf.o (by show (v2.take j).length <= 100000; rw [List.length_take]; have := FB.o; omega) wb hbb (wr.heap.size + 1) hcb
          have zR : Hid (Pn w1 g2 g3 s.node s.nodes s.cells s.epoch (upd V 2 (.slice A n m)) (ke v0 v1 (v2.take (j + 1)) []) (w'.setCell ⟨g3, 6, none⟩ (.slice A n m))) := ak (mR.cast fun q hq => by
            rcases Fp hq with rfl | rfl | rfl | rfl <;> first | rfl | exact qW.o)
          have dQ : Hid ((Builtin.append_ #[38, 38] 38 #[V 2, .slice (some ⟨wr.heap.size + 1, 0, none⟩) 1 1]).run Tryz.prog wb = .ok (.slice A n m) w') := ak hrun; have lY := ak (And.intro hcell hfro); clear mR hrun hcell hfro hcb hba hbb
          go_wp2_with (at_builtin
                       rw [<- cM]; rw [<- hwb]; have hcell := lY.o.1; have hfro := lY.o.2; refine Lib.wpList_append_run _ rfl _ _ 38 38 rfl _ _ rfl rfl _ _ dQ.o ?_)
          go_roundw
          case rel => exact ⟨j + 1, _, by omega, by go_num, zR⟩
          case measure => simp [intOf]; omega
        have hjn : j = nD := by omega
        have Tj : Hid (Pn w1 g2 g3 s.node s.nodes s.cells s.epoch V (ke v0 v1 v2 []) wr) := ak (HR.o.cast fun q hq => by
          rcases Fp hq with rfl | rfl | rfl | rfl <;> first | rfl | exact List.take_of_length_le (by have := HL.o; omega))
        clear hjn; obtain ⟨V3, Ky⟩ := aj V; obtain ⟨wk2, FV⟩ := aj wr; rw [<- Ky, <- FV] at Tj; rw [<- FV]; clear Ky FV HR hj; have hcx := (HX.o _ Tj.o.low).cell (j := 7) rfl
        go_wp2_with fail
        go_loopw [11, 66] (fun _ i wr => ∃ (j : Nat) (V : Nat -> Value), j <= nC /\ i = iv (j : Int) /\ Hid (Pn w1 g2 g3 s.node s.nodes s.cells s.epoch V (ke v0 v1 v2 (v3.take j)) wr)) (fun _ i _ => nC - (intOf i).toNat)
        case atStart => exact ⟨0, _, Nat.zero_le _, rfl, Tj⟩
        case round =>
          obtain ⟨j, V, hj, rfl, HR⟩ := hrel
          by_cases hlt : j < nC
          · have hlv : j < v3.length := by have := HL.o; omega
            obtain ⟨bb, off, hA, bS⟩ := HC.o j hlv; have bf : Hid (Fit 6 [v3[j]]) := ak (HF.o.2.2.2.sub fun v hv => by rw [List.mem_singleton.1 hv]; exact List.getElem_mem hlv); have qW : Hid (v3.take j ++ [v3[j]] = v3.take (j + 1)) := ak (by rw [List.take_succ_eq_append_getElem hlv]); obtain ⟨p, lay, hp⟩ : ∃ p lay, v3[j] = Co.vals p lay := by
              have h := jV (f := Co.vals) (l := s.com) (m := wH) (v := v3[j]) (by rw [HV.o.2.2.2]; exact List.getElem_mem hlv); exact h
            rw [hp] at bS bf qW; have hr := aM bS (fW.o.trans (HR.o.low.mono fW.o.size)); clear bS hp hlv; have z0 : wr.cell? ⟨bb, off + j * 6, none⟩ = some (iv p.tid.node) := hr 0 _ rfl; have z1 : wr.cell? ⟨bb, off + j * 6 + 1, none⟩ = some (iv p.tid.epoch) := hr 1 _ rfl; have z2 : wr.cell? ⟨bb, off + j * 6 + 2, none⟩ = some (iv p.tid.seq) := hr 2 _ rfl; have z3 : wr.cell? ⟨bb, off + j * 6 + 3, none⟩ = some (.slice lay.A p.items.length lay.c) := hr 3 _ rfl; have z4 : wr.cell? ⟨bb, off + j * 6 + 4, none⟩ = some (.slice lay.B p.nodes.length lay.d) := hr 4 _ rfl; have z5 : wr.cell? ⟨bb, off + j * 6 + 5, none⟩ = some (.bool p.over) := hr 5 _ rfl; subst hA; clear hr; obtain ⟨wa, cM⟩ := aj (wr.alloc (.cells #[iv p.tid.node, iv p.tid.epoch, iv p.tid.seq, .slice lay.A p.items.length lay.c, .slice lay.B p.nodes.length lay.d, .bool p.over] 80)); obtain ⟨wb, hwb⟩ := aj (wa.alloc (.cells #[iv p.tid.node, iv p.tid.epoch, iv p.tid.seq, .slice lay.A p.items.length lay.c, .slice lay.B p.nodes.length lay.d, .bool p.over] 77)); have hba : Below wr.heap.size wr wa := by rw [cM]; exact av _ _
            have hbb : Below wr.heap.size wr wb := hba.trans ((show Below wa.heap.size wa wb by rw [hwb]; exact av _ _).mono hba.size)
            have hcb : Cells wb (wr.heap.size + 1) 77 [iv p.tid.node, iv p.tid.epoch, iv p.tid.seq, .slice lay.A p.items.length lay.c, .slice lay.B p.nodes.length lay.d, .bool p.over] := by
              have q := aB wa 77 [iv p.tid.node, iv p.tid.epoch, iv p.tid.seq, .slice lay.A p.items.length lay.c, .slice lay.B p.nodes.length lay.d, .bool p.over] #[iv p.tid.node, iv p.tid.epoch, iv p.tid.seq, .slice lay.A p.items.length lay.c, .slice lay.B p.nodes.length lay.d, .bool p.over] rfl; rw [<- hwb, cM, World.size_alloc] at q; exact q
            have XR := HR.o.br.cell (j := 7) rfl; have DF := HR.o.gt.2.2; obtain ⟨A, n, m, w', hrun, hcell, hfro, mR⟩ := HR.o.more 3 (by decide) [iv p.tid.node, iv p.tid.epoch, iv p.tid.seq, .slice lay.A p.items.length lay.c, .slice lay.B p.nodes.length lay.d, .bool p.over] bf.o (by show (v3.take j).length <= 100000; rw [List.length_take]; have := FB.o; omega) wb hbb (wr.heap.size + 1) hcb
            have zR : Hid (Pn w1 g2 g3 s.node s.nodes s.cells s.epoch (upd V 3 (.slice A n m)) (ke v0 v1 v2 (v3.take (j + 1))) (w'.setCell ⟨g3, 7, none⟩ (.slice A n m))) := ak (mR.cast fun q hq => by
              rcases Fp hq with rfl | rfl | rfl | rfl <;> first | rfl | exact qW.o)
            have dQ : Hid ((Builtin.append_ #[39, 39] 39 #[V 3, .slice (some ⟨wr.heap.size + 1, 0, none⟩) 1 1]).run Tryz.prog wb = .ok (.slice A n m) w') := ak hrun; have lY := ak (And.intro hcell hfro); clear mR hrun hcell hfro hcb hba hbb
            go_wp2_with (at_builtin
                         rw [<- cM]; rw [<- hwb]; have hcell := lY.o.1; have hfro := lY.o.2; refine Lib.wpList_append_run _ rfl _ _ 39 39 rfl _ _ rfl rfl _ _ dQ.o ?_)
            go_roundw
            case rel => exact ⟨j + 1, _, by omega, by go_num, zR⟩
            case measure => simp [intOf]; omega
          have hjn : j = nC := by omega
          have xt : Hid (Pn w1 g2 g3 s.node s.nodes s.cells s.epoch V (ke v0 v1 v2 v3) wr) := ak (HR.o.cast fun q hq => by
            rcases Fp hq with rfl | rfl | rfl | rfl <;> first | rfl | exact List.take_of_length_le (by have := HL.o; omega))
          clear hjn; obtain ⟨P', p', e0, s0, c0⟩ := xt.o.fin 0 (by decide); obtain ⟨Q', q', e1, s1, c1⟩ := xt.o.fin 1 (by decide); obtain ⟨D', d', e2, s2, c2⟩ := xt.o.fin 2 (by decide); obtain ⟨C', c', e3, s3, c3⟩ := xt.o.fin 3 (by decide); have hl := HL.o; rw [show (ke v0 v1 v2 v3 0).length = nP from hl.1] at e0
          rw [show (ke v0 v1 v2 v3 1).length = nQ from hl.2.1] at e1
          rw [show (ke v0 v1 v2 v3 2).length = nD from hl.2.2.1] at e2
          rw [show (ke v0 v1 v2 v3 3).length = nC from hl.2.2.2] at e3
          have cV := xt.o.br; unfold Fq at cV; rw [e0, e1, e2, e3] at cV; have I8 := ak cV; have sF := ak xt.o.res; have Wz := ak xt.o.low; have HSL := ak (And.intro s0 (And.intro s1 (And.intro s2 s3))); have UF := ak (And.intro c0 (And.intro c1 (And.intro c2 c3))); clear e0 e1 e2 e3 s0 s1 s2 s3 c0 c1 c2 c3 cV hl hcx HR hj
          go_upto_region 22 with (fail)
          apply wp_region_lit
          refine aD rfl 41 _ rfl g3 #[iv s.node, iv s.nodes, iv s.cells, iv s.epoch, .slice P' nP p', .slice Q' nQ q', .slice D' nD d', .slice C' nC c'] rfl rfl I8.o Tryz.underlying41 rfl (by kernel_rfl) ?_; refine aA rfl 41 _ _ rfl g2 #[iv s.node, iv s.nodes, iv s.cells, iv s.epoch, .slice P' nP p', .slice Q' nQ q', .slice D' nD d', .slice C' nC c'] [iv s.node, iv s.nodes, iv s.cells, iv s.epoch, .slice P' nP p', .slice Q' nQ q', .slice D' nD d', .slice C' nC c'] rfl rfl rfl sF.o rfl (by kernel_rfl) (by kernel_rfl) fun wv hpt hov => ?_
          have bU := ak hpt; have HO := ak hov; clear hpt hov
          go_wp2_with fail
          refine bodyPost_ret (v := .agg #[iv s.node, iv s.nodes, iv s.cells, iv s.epoch, .slice P' nP p', .slice Q' nQ q', .slice D' nD d', .slice C' nC c']) ?_ rfl ?_
          · exact (g_ (p := 2) (ty := 41) (by rfl) _ bU.o _ (by rfl) Tryz.underlying41 rfl (by kernel_rfl)).trans (by rfl)
          have hx := xt.o.gt
          have hlw : Below w1.heap.size w1 wv := Wz.o.trans (HO.o.below (by have := Wz.o.size; omega) fun i hi => by omega)
          have kV : Below w.heap.size w wv := fW.o.trans (hlw.mono fW.o.size); have hn := HN.o; have Ja := D_.o.later kV; obtain ⟨t0, t1, t2, t3⟩ := HSL.o; obtain ⟨u0, u1, u2, u3⟩ := UF.o; have hv := HV.o; refine ⟨⟨⟨P', p', Q', q', D', d', C', c', wG, wH⟩, rfl, ?_⟩, kV⟩; refine ⟨?_, ?_, ?_, ?_, Ja.ps, Ja.cs, Ja.pin, Ja.cin, u0, u1, u2, u3⟩
          · rw [hv.1]; exact rV t0 HO.o (by omega)
          · rw [hv.2.1]; exact rV t1 HO.o (by omega)
          · rw [hv.2.2.1]; exact rV t2 HO.o (by omega)
          rw [hv.2.2.2]; exact rV t3 HO.o (by omega)
