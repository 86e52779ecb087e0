/-
  Layer 14, the document's session: where it lies; New. Conditions: none.
-/
import Derived.Test.YtjfejfhdohpfbaaSesAwake
namespace Go.Proofs.Ytjfejfhdohpfbaa.Ses
set_option maxRecDepth 100000
open Go.RowKit Go.Deep Go.Proofs.Ytjfejfhdohpfbaa.Mem Go.Proofs.Ytjfejfhdohpfbaa.Win

/-- A held payload as the document has it: the delay that comes next. -/
def Hd.rvals (h : Hd) : List Value := [.int .i64 h.seq, .string h.pay, .int .i64 h.left, .int .i64 (min (2 * h.delay) 16)]
theorem fit_rhd (l : List Hd) : Fit 4 (l.map Hd.rvals) := ⟨fun v hv => by obtain ⟨x, _, rfl⟩ := List.mem_map.1 hv; rfl, fun v hv u hu => by
  obtain ⟨x, _, rfl⟩ := List.mem_map.1 hv
  unfold Hd.rvals at hu
  simp only [List.mem_cons, List.not_mem_nil, or_false] at hu
  rcases hu with rfl | rfl | rfl | rfl <;> rfl⟩
theorem el_rhd : Elem 64 119 (.agg #[.int .i64 0, .string ⟨#[]⟩, .int .i64 0, .int .i64 0]) 4 40 := ⟨Try.underlying64, by kernel_rfl, rfl, by decide, by decide⟩
theorem el_rot : Elem 47 121 (.agg #[.int .i64 0, .int .i64 0, .int .i64 0, .int .i64 0, .int .i64 0, .string ⟨#[]⟩]) 6 56 := ⟨Try.underlying47, by kernel_rfl, rfl, by decide, by decide⟩
theorem el_int : Elem 61 3 (.int .i64 0) 1 8 := ⟨Try.underlying61, by kernel_rfl, rfl, by decide, by decide⟩
def iv (x : Int) : List Value := [.int .i64 x]
theorem fit_iv (l : List Int) : Fit 1 (l.map iv) := ⟨fun v hv => by obtain ⟨x, _, rfl⟩ := List.mem_map.1 hv; rfl, fun v hv u hu => by
  obtain ⟨x, _, rfl⟩ := List.mem_map.1 hv
  unfold iv at hu
  simp only [List.mem_cons, List.not_mem_nil, or_false] at hu
  subst hu
  rfl⟩
theorem el_rpm : Elem 67 66 (.agg #[.slice none 0 0, .int .i64 0, .int .i64 0, .slice none 0 0]) 4 64 := ⟨Try.underlying67, by kernel_rfl, rfl, by decide, by decide⟩
/-- The cells of a peer of the document's, its numbers at A, its payloads at D. -/
def rpv (p : Pm) (A : Option Addr) (ac : Nat) (D : Option Addr) (dc : Nat) : List Value := [.slice A p.L.length ac, .int .i64 p.known, .int .i64 (p.last + 1), .slice D p.held.length dc]
/-- What a peer of the document's has behind its cells. -/
structure RRows (B : Nat) (w : World) (p : Pm) (A : Option Addr) (ac : Nat) (D : Option Addr) (dc : Nat) : Prop where
  win : OwnG 3 1 iv B w (.slice A p.L.length ac) p.L
  row : OwnG 119 4 Hd.rvals B w (.slice D p.held.length dc) p.held
theorem RRows.only {B ac dc : Nat} {S : Nat → Prop} {w w' : World} {p : Pm} {A D : Option Addr} (h : RRows B w p A ac D dc) (ho : Only S w w') (h1 : ∀ k, blk A = some k → ¬ S k) (h2 : ∀ k, blk D = some k → ¬ S k) : RRows B w' p A ac D dc :=
  ⟨row_only h.win ho fun k e => h1 k (by rw [own_blk] at e; exact e), row_only h.row ho fun k e => h2 k (by rw [own_blk] at e; exact e)⟩
/-- The document's session: its struct in block rb, its peers in block pb. -/
structure RAtX (B : Nat) (F : Nat → Prop) (w : World) (rb : Nat) (S : Sm) (pb pc : Nat) (As : Nat → Option Addr) (cs : Nat → Nat) (Ds : Nat → Option Addr) (ds : Nat → Nat) : Prop where
  cel : Cells w rb 69 [.int .i64 S.node, .int .i64 S.epoch, .slice (some ⟨pb, 0, none⟩) S.peers.length pc]
  peer : ∀ (i : Nat) (h : i < S.peers.length), CellsO w pb (i * 4) (rpv S.peers[i] (As i) (cs i) (Ds i) (ds i)) ∧ RRows B w S.peers[i] (As i) (cs i) (Ds i) (ds i)
  apart : ∀ i j k, i < S.peers.length → j < S.peers.length → blk (As i) = some k → blk (As j) = some k → i = j
  off : ∀ i j k, i < S.peers.length → j < S.peers.length → blk (As i) = some k → blk (Ds j) = some k → False
  fs : F rb
  fp : F pb
  fA : ∀ i k, i < S.peers.length → blk (As i) = some k → F k
  fD : ∀ i k, i < S.peers.length → blk (Ds i) = some k → F k
  sp : rb ≠ pb
  sA : ∀ i k, i < S.peers.length → blk (As i) = some k → k ≠ rb ∧ k ≠ pb
  sD : ∀ i k, i < S.peers.length → blk (Ds i) = some k → k ≠ rb ∧ k ≠ pb
  low : ∀ k, F k → B ≤ k
  lt : ∀ k, F k → k < w.heap.size
  cap : S.peers.length ≤ pc
def RAt (B : Nat) (F : Nat → Prop) (w : World) (rb : Nat) (S : Sm) : Prop := ∃ pb pc As cs Ds ds, RAtX B F w rb S pb pc As cs Ds ds
section
variable {B rb pb pc : Nat} {F T : Nat → Prop} {w w1 w' : World} {S S' : Sm} {As Ds : Nat → Option Addr} {cs ds : Nat → Nat}
theorem RAtX.only (h : RAtX B F w rb S pb pc As cs Ds ds) (ho : Only T w w') (hn : ∀ k, F k → ¬ T k) : RAtX B F w' rb S pb pc As cs Ds ds :=
  ⟨cells_only h.cel ho (hn _ h.fs), fun i hi => ⟨(h.peer i hi).1.only ho (hn _ h.fp), (h.peer i hi).2.only ho (fun k e => hn k (h.fA i k hi e)) fun k e => hn k (h.fD i k hi e)⟩, h.apart, h.off, h.fs, h.fp, h.fA, h.fD, h.sp, h.sA, h.sD, h.low, fun k e => Nat.lt_of_lt_of_le (h.lt k e) ho.size, h.cap⟩
theorem RAtX.later (h : RAtX B F w rb S pb pc As cs Ds ds) (hb : Below w.heap.size w w') : RAtX B F w' rb S pb pc As cs Ds ds := h.only (Only.of_below (S := fun _ => False) hb) fun _ _ e => e
theorem RAt.only (h : RAt B F w rb S) (ho : Only T w w') (hn : ∀ k, F k → ¬ T k) : RAt B F w' rb S := by
  obtain ⟨pb, pc, As, cs, Ds, ds, h⟩ := h
  exact ⟨pb, pc, As, cs, Ds, ds, h.only ho hn⟩
theorem RAt.later (h : RAt B F w rb S) (hb : Below w.heap.size w w') : RAt B F w' rb S := h.only (Only.of_below (S := fun _ => False) hb) fun _ _ e => e
theorem RAt.lt (h : RAt B F w rb S) : ∀ k, F k → k < w.heap.size := by
  obtain ⟨pb, pc, As, cs, Ds, ds, hx⟩ := h
  exact hx.lt
theorem RAt.low (h : RAt B F w rb S) : ∀ k, F k → B ≤ k := by
  obtain ⟨pb, pc, As, cs, Ds, ds, hx⟩ := h
  exact hx.low
structure RStep (B : Nat) (F : Nat → Prop) (w : World) (rb : Nat) (S' : Sm) (F' : Nat → Prop) (w' : World) : Prop where
  at' : RAt B F' w' rb S'
  only : Only F w w'
  new : ∀ k, F' k → F k ∨ w.heap.size ≤ k
theorem RStep.same (h : RAt B F w rb S) (hb : Below w.heap.size w w') : RStep B F w rb S F w' := ⟨h.later hb, Only.of_below hb, fun _ e => Or.inl e⟩
theorem RStep.before {F' : Nat → Prop} (hb : Below w.heap.size w w1) (h : RStep B F w1 rb S' F' w') : RStep B F w rb S' F' w' :=
  ⟨h.at', (Only.of_below hb).trans h.only fun _ _ e => e, fun k e => (h.new k e).imp_right fun h => Nat.le_trans hb.size h⟩
theorem RStep.after {F' : Nat → Prop} (h : RStep B F w rb S' F' w1) (hb : Below w1.heap.size w1 w') : RStep B F w rb S' F' w' :=
  ⟨h.at'.later hb, h.only.trans (S' := fun _ => False) (Only.of_below hb) fun _ _ e => e.elim, h.new⟩
theorem RStep.trans {F' F2 : Nat → Prop} {S2 : Sm} (h : RStep B F w rb S' F' w1) (k : RStep B F' w1 rb S2 F2 w') : RStep B F w rb S2 F2 w' :=
  ⟨k.at', h.only.trans k.only fun i hi e => (h.new i e).resolve_right (by omega), fun i e => by
    rcases k.new i e with e2 | e2
    · exact h.new i e2
    · exact Or.inr (Nat.le_trans h.only.size e2)⟩
end
def rpv0 (p : Pm) : List Value := rpv p none 0 none 0
theorem fit_rpv0 (l : List Pm) : Fit 4 (l.map rpv0) := ⟨fun v hv => by obtain ⟨x, _, rfl⟩ := List.mem_map.1 hv; rfl, fun v hv u hu => by
  obtain ⟨x, _, rfl⟩ := List.mem_map.1 hv
  unfold rpv0 rpv at hu
  simp only [List.mem_cons, List.not_mem_nil, or_false] at hu
  rcases hu with rfl | rfl | rfl | rfl <;> rfl⟩
set_option maxHeartbeats 1000000 in
theorem RNew_bad (node nodes epoch : Int) (h : okNew node nodes epoch = false) (w : World) :
    Calls Try.prog 17 #[.int .i64 node, .int .i64 nodes, .int .i64 epoch] w fun e w' => e = .returned (.pointer none) ∧ w' = w := by
  have hn := of_decide_eq_false h
  by_cases h1 : nodes < 1
  · have e1 : decide (nodes < 1) = true := decide_eq_true h1
    clear hn h
    go_enter Try.func17, Try.ntmps17
    go_wp2_with fail
    go_returns
    exact ⟨rfl, rfl⟩
  have e1 : decide (nodes < 1) = false := decide_eq_false h1
  by_cases h2 : 16 < nodes
  · have e2 : decide (nodes > 16) = true := decide_eq_true h2
    clear hn h h1
    go_enter Try.func17, Try.ntmps17
    go_wp2_with fail
    go_returns
    exact ⟨rfl, rfl⟩
  have e2 : decide (nodes > 16) = false := decide_eq_false h2
  by_cases h3 : node < 1
  · have e3 : decide (node < 1) = true := decide_eq_true h3
    clear hn h h1 h2
    go_enter Try.func17, Try.ntmps17
    go_wp2_with fail
    go_returns
    exact ⟨rfl, rfl⟩
  have e3 : decide (node < 1) = false := decide_eq_false h3
  by_cases h4 : nodes < node
  · have e4 : decide (node > nodes) = true := decide_eq_true h4
    clear hn h h1 h2 h3
    go_enter Try.func17, Try.ntmps17
    go_wp2_with fail
    go_returns
    exact ⟨rfl, rfl⟩
  have e4 : decide (node > nodes) = false := decide_eq_false h4
  by_cases h5 : epoch < 1
  · have e5 : decide (epoch < 1) = true := decide_eq_true h5
    clear hn h h1 h2 h3 h4
    go_enter Try.func17, Try.ntmps17
    go_wp2_with fail
    go_returns
    exact ⟨rfl, rfl⟩
  have e5 : decide (epoch < 1) = false := decide_eq_false h5
  have h6 : 1099511627776 < epoch := by omega
  have e6 : decide (epoch > 1099511627776) = true := decide_eq_true h6
  clear hn h h1 h2 h3 h4 h5
  go_enter Try.func17, Try.ntmps17
  go_wp2_with fail
  go_returns
  exact ⟨rfl, rfl⟩
/-- While peers are made. -/
structure Mk (B : Nat) (w : World) (rb : Nat) (node epoch : Int) (k : Nat) (A : Option Addr) (c : Nat) : Prop where
  cel : Cells w rb 69 [.int .i64 node, .int .i64 epoch, .slice A k c]
  row : OwnG 66 4 rpv0 B w (.slice A k c) (List.replicate k freshP)
  low : B ≤ rb
  nA : ∀ g, blk A = some g → g ≠ rb
set_option maxHeartbeats 1000000 in
theorem RNew_good (node nodes epoch : Int) (h : okNew node nodes epoch = true) (w : World) :
    Calls Try.prog 17 #[.int .i64 node, .int .i64 nodes, .int .i64 epoch] w fun e w' => ∃ rb F, e = .returned (.pointer (some ⟨rb, 0, none⟩)) ∧ RAt w.heap.size F w' rb (newS node nodes epoch) ∧ Below w.heap.size w w' := by
  have hn := of_decide_eq_true h
  obtain ⟨m, hm⟩ : ∃ m : Nat, (m : Int) = nodes := ⟨nodes.toNat, by omega⟩
  subst hm
  have hm16 : m ≤ 16 := by omega
  have hm1 : 1 ≤ m := by omega
  have e1 : decide ((m : Int) < 1) = false := decide_eq_false (by omega)
  have e2 : decide ((m : Int) > 16) = false := decide_eq_false (by omega)
  have e3 : decide (node < 1) = false := decide_eq_false (by omega)
  have e4 : decide (node > (m : Int)) = false := decide_eq_false (by omega)
  have e5 : decide (epoch < 1) = false := decide_eq_false (by omega)
  have e6 : decide (epoch > 1099511627776) = false := decide_eq_false (by omega)
  obtain ⟨wa, hwa⟩ : ∃ W, W = w.alloc (.cells #[.int .i64 node, .int .i64 epoch, .slice none 0 0] 69) := ⟨_, rfl⟩
  have hba : Below w.heap.size w wa := by rw [hwa]; exact below_alloc _ _
  have hca : Cells wa w.heap.size 69 [.int .i64 node, .int .i64 epoch, .slice none 0 0] := by rw [hwa]; exact cells_new _ _ _ _ rfl
  have HM0 : Hid (Mk w.heap.size wa w.heap.size node epoch 0 none 0) := Lib.hid ⟨hca, OwnG.nil _ _ _ _ _, Nat.le_refl _, fun g e => by cases e⟩
  have HB0 := Lib.hid hba
  clear hn h hba hca
  go_enter Try.func17, Try.ntmps17
  go_upto_region 4 with (fail)
  rw [← hwa]
  clear hwa
  go_wp2_with fail
  go_loopw [8] (fun j wr => ∃ (k : Nat) (A : Option Addr) (c : Nat), k ≤ m ∧ j = .int .i64 (k : Int) ∧ Hid (Mk w.heap.size wr w.heap.size node epoch k A c) ∧ Hid (Below w.heap.size w wr)) (fun j _ => m - (intOf j).toNat)
  case atStart => exact ⟨0, none, 0, Nat.zero_le _, rfl, HM0, HB0⟩
  case round =>
    obtain ⟨k, A, c, hkm, rfl, HM, HB⟩ := hrel
    have c2 := HM.out.cel.cell (j := 2) rfl
    by_cases hlt : k < m
    · obtain ⟨wd, hwd⟩ : ∃ W, W = wr.alloc (.cells #[.slice none 0 0, .int .i64 0, .int .i64 1, .slice none 0 0] 66) := ⟨_, rfl⟩
      have hbd : Below wr.heap.size wr wd := by rw [hwd]; exact below_alloc _ _
      have hcd : Cells wd wr.heap.size 66 (rpv0 freshP) := by rw [hwd]; exact cells_new _ _ _ _ rfl
      have hsl1 : Sl wd (some ⟨wr.heap.size, 0, none⟩) 4 ([freshP].map rpv0) := cells_sl (by simpa using hcd) (fun v hv => (fit_rpv0 [_]).len v hv)
      obtain ⟨V', n', c', w5, hrun, hrow, hn', hon, hnb⟩ := OwnG.appS el_rpm fit_rpv0 (HM.out.row.later hbd) (m := [freshP]) (c := 1) hsl1 (fun e => by cases e) (Nat.le_trans HB.out.size hbd.size) (by rw [List.length_replicate, List.length_singleton]; omega)
      have hrep : List.replicate k freshP ++ [freshP] = List.replicate (k + 1) freshP := by rw [List.replicate_succ']
      rw [hrep] at hrow hn'
      rw [List.length_replicate] at hn'
      subst hn'
      have hon2 : Only (fun i => blk A = some i) wr w5 := (Only.of_below hbd).trans hon fun i _ e => by rw [own_blk] at e; exact e
      have hcel := cells_only HM.out.cel hon2 fun e => HM.out.nA _ e rfl
      have d2 := hcel.cell (j := 2) rfl
      have f2 := hcel.frozen (j := 2) (by simp)
      have hne : ∀ g, blk V' = some g → g ≠ w.heap.size := fun g e e9 => by
        rcases hnb g e with e10 | e10
        · rw [own_blk] at e10
          exact HM.out.nA g e10 e9
        · have h1 := HM.out.cel.lt
          have h2 := hbd.size
          omega
      have HM2 : Hid (Mk w.heap.size (w5.setCell ⟨w.heap.size, 2, none⟩ (.slice V' (k + 1) c')) w.heap.size node epoch (k + 1) V' c') := Lib.hid ⟨hcel.set_ 2 _, row_only hrow (Only.of_set w5 ⟨w.heap.size, 2, none⟩ _) fun g e => hne g (by rw [own_blk] at e; exact e), Nat.le_refl _, hne⟩
      have HB2 : Hid (Below w.heap.size w (w5.setCell ⟨w.heap.size, 2, none⟩ (.slice V' (k + 1) c'))) := Lib.hid (HB.out.trans ((hon2.below HB.out.size fun i e => (HM.out.row.lt i (by rw [own_blk]; exact e)).1).trans ((Only.of_set w5 ⟨w.heap.size, 2, none⟩ _).below (Nat.le_trans HB.out.size hon2.size) fun i e => by rw [show i = w.heap.size from e]; exact Nat.le_refl _)))
      have HRUN := Lib.hid hrun
      subst hwd
      clear hbd hcd hsl1 hrun hrow hon hnb hrep hon2 hcel hne HM HB
      go_wp2_with (at_builtin
                   refine Lib.wpList_append_run (wr.alloc (.cells #[.slice none 0 0, .int .i64 0, .int .i64 1, .slice none 0 0] 66)) rfl (.tmp 45) (.tmp 47) 67 67 rfl (.slice A k c) (.slice (some ⟨wr.heap.size, 0, none⟩) 1 1) rfl rfl _ _ HRUN.out ?_)
      go_roundw
      case rel => exact ⟨k + 1, V', c', by omega, by go_num, HM2, HB2⟩
      case measure => simp [intOf]; omega
    · obtain rfl : k = m := by omega
      go_wp2_with fail
      go_returns
      have hM := HM.out
      obtain ⟨g, hA, _⟩ := OwnG.elem fit_rpv0 hM.row (k := 0) (by rw [List.length_replicate]; omega)
      subst hA
      have hgr := hM.nA g rfl
      have hgl := (hM.row.lt g rfl)
      have hlen : (newS node (k : Int) epoch).peers.length = k := by
        show (List.replicate ((k : Int)).toNat freshP).length = k
        rw [List.length_replicate, Int.toNat_natCast]
      have hcap : k ≤ c := by
        have h1 := hM.row
        unfold OwnG at h1
        rw [List.length_replicate] at h1
        exact (cells_of_own h1).2.1
      refine ⟨w.heap.size, fun i => i = w.heap.size ∨ i = g, rfl, ⟨g, c, fun _ => none, fun _ => 0, fun _ => none, fun _ => 0, ?_, fun i hi => ?_, fun i j q _ _ e => (by cases e), fun i j q _ _ e => (by cases e), Or.inl rfl, Or.inr rfl, fun i q _ e => (by cases e), fun i q _ e => (by cases e), fun e => hgr e.symm, fun i q _ e => (by cases e), fun i q _ e => (by cases e), fun q e => ?_, fun q e => ?_, by rw [hlen]; exact hcap⟩, HB.out⟩
      · rw [hlen]
        exact hM.cel
      · have hi2 : i < k := by rw [hlen] at hi; exact hi
        have hp : (newS node (k : Int) epoch).peers[i]'hi = freshP := List.eq_of_mem_replicate (List.getElem_mem (l := List.replicate ((k : Int)).toNat freshP) hi)
        rw [hp]
        obtain ⟨g2, hA2, hc2⟩ := OwnG.elem fit_rpv0 hM.row (k := i) (by rw [List.length_replicate]; exact hi2)
        simp only [Option.some.injEq, Addr.mk.injEq] at hA2
        obtain ⟨rfl, _⟩ := hA2
        rw [List.getElem_replicate] at hc2
        exact ⟨hc2, OwnG.nil _ _ _ _ _, OwnG.nil _ _ _ _ _⟩
      · rcases e with e | e
        · omega
        · rw [e]; exact hgl.1
      · rcases e with e | e
        · rw [e]; exact hM.cel.lt
        · rw [e]; exact hgl.2
end Go.Proofs.Ytjfejfhdohpfbaa.Ses
