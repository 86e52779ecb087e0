/-
  Layer 14, the document's session: a tick goes by. Conditions: none.
-/
import Derived.Test.YtjfejfhdohpfbaaSesRef3
import Derived.Test.YtjfejfhdohpfbaaSesTick
namespace Go.Proofs.Ytjfejfhdohpfbaa.Ses
set_option maxRecDepth 100000
open Go.RowKit Go.Deep Go.Proofs.Ytjfejfhdohpfbaa.Mem Go.Proofs.Ytjfejfhdohpfbaa.Win

theorem OwnG.empty {α : Type} (eT : TypeId) (sz : Nat) (vals : α → List Value) {B : Nat} (W : World) (hB : B ≤ W.heap.size) : OwnG eT sz vals B (W.alloc (.cells #[] eT)) (.slice (some ⟨W.heap.size, 0, none⟩) 0 0) [] :=
  ⟨by simp, Or.inr ⟨W.heap.size, 0, #[], rfl, hB, heap_alloc_new _ _, Nat.le_refl _, Nat.zero_le _, by simp, by simp⟩⟩
section
variable {B rb pb pc : Nat} {F : Nat → Prop} {w : World} {S : Sm} {N : Int}
/-- Within a peer's round: what goes out lies at V, what is held at D. -/
structure TkIn (B : Nat) (F : Nat → Prop) (w : World) (rb : Nat) (Sk : Sm) (F1 : Nat → Prop) (pb pc : Nat) (As : Nat → Option Addr) (cs : Nat → Nat) (Ds : Nat → Option Addr) (ds : Nat → Nat) (out : List Ot) (l : List Hd) (V : Option Addr) (vn vc : Nat) (D : Option Addr) (dn dc : Nat) (wq : World) : Prop where
  v : OwnG 121 6 Ot.vals w.heap.size wq (.slice V vn vc) out
  d : OwnG 119 4 Hd.rvals w.heap.size wq (.slice D dn dc) l
  x : RAtX B F1 wq rb Sk pb pc As cs Ds ds
  s : RStep B F w rb Sk F1 wq
  fv : ∀ k, blk V = some k → ¬ F1 k
  fd : ∀ k, blk D = some k → ¬ F1 k
  vd : ∀ k, blk V = some k → blk D = some k → False
theorem TkIn.later {Sk : Sm} {F1 : Nat → Prop} {As Ds : Nat → Option Addr} {cs ds : Nat → Nat} {out : List Ot} {l : List Hd} {V D : Option Addr} {vn vc dn dc : Nat} {wq wz : World} (h : TkIn B F w rb Sk F1 pb pc As cs Ds ds out l V vn vc D dn dc wq) (hb : Below wq.heap.size wq wz) : TkIn B F w rb Sk F1 pb pc As cs Ds ds out l V vn vc D dn dc wz :=
  ⟨h.v.later hb, h.d.later hb, h.x.later hb, h.s.after hb, h.fv, h.fd, h.vd⟩
theorem TkIn.appV {Sk : Sm} {F1 : Nat → Prop} {As Ds : Nat → Option Addr} {cs ds : Nat → Nat} {out : List Ot} {l : List Hd} {V D : Option Addr} {vn vc dn dc : Nat} {wq : World} (h : TkIn B F w rb Sk F1 pb pc As cs Ds ds out l V vn vc D dn dc wq) (o : Ot) (hl : out.length ≤ 10000) :
    ∃ V' n' c' w5, (Builtin.append_ #[47, 47] 47 #[.slice V vn vc, .slice (some ⟨wq.heap.size, 0, none⟩) 1 1]).run Try.prog (wq.alloc (.cells #[.int .i64 o.dst, .int .i64 o.e.kind, .int .i64 o.e.epoch, .int .i64 o.e.peer, .int .i64 o.e.seq, .string o.e.pay] 121)) = .ok (.slice V' n' c') w5 ∧
      TkIn B F w rb Sk F1 pb pc As cs Ds ds (out ++ [o]) l V' n' c' D dn dc w5 ∧ Only (fun k => blk V = some k) wq w5 := by
  obtain ⟨wd, hwd⟩ : ∃ W, W = wq.alloc (.cells #[.int .i64 o.dst, .int .i64 o.e.kind, .int .i64 o.e.epoch, .int .i64 o.e.peer, .int .i64 o.e.seq, .string o.e.pay] 121) := ⟨_, rfl⟩
  have hbd : Below wq.heap.size wq wd := by rw [hwd]; exact below_alloc _ _
  have hcd : Cells wd wq.heap.size 121 o.vals := by rw [hwd]; exact cells_new _ _ _ _ rfl
  have hsl1 : Sl wd (some ⟨wq.heap.size, 0, none⟩) 6 ([o].map Ot.vals) := cells_sl (by simpa using hcd) (fun v hv => (fit_ot [_]).len v hv)
  obtain ⟨V', n', c', w5, hrun, hrow, hn', hon, hnb⟩ := OwnG.appS el_rot fit_ot (h.v.later hbd) (m := [o]) (c := 1) hsl1 (fun e => by cases e) (Nat.le_trans h.s.only.size hbd.size) (by simp only [List.length_singleton]; omega)
  rw [← hwd]
  have hon2 : Only (fun k => blk V = some k) wq w5 := (Only.of_below hbd).trans hon fun k _ e => by rw [own_blk] at e; exact e
  have hx5 := h.x.only hon2 fun k e e2 => h.fv k e2 e
  refine ⟨V', n', c', w5, hrun, ⟨hrow, row_only h.d hon2 fun k e e2 => h.vd k e2 (by rw [own_blk] at e; exact e), hx5, ⟨⟨_, _, _, _, _, _, hx5⟩, h.s.only.trans2 hon2 fun k e => (h.v.lt k (by rw [own_blk]; exact e)).1, h.s.new⟩, fun k e e2 => ?_, h.fd, fun k e e2 => ?_⟩, hon2⟩
  · rcases hnb k e with e3 | e3
    · rw [own_blk] at e3
      exact h.fv k e3 e2
    · have h1 := h.x.lt k e2
      have h2 := hbd.size
      omega
  · rcases hnb k e with e3 | e3
    · rw [own_blk] at e3
      exact h.vd k e3 e2
    · have h1 := (h.d.lt k (by rw [own_blk]; exact e2)).2
      have h2 := hbd.size
      omega
theorem TkIn.appD {Sk : Sm} {F1 : Nat → Prop} {As Ds : Nat → Option Addr} {cs ds : Nat → Nat} {out : List Ot} {l : List Hd} {V D : Option Addr} {vn vc dn dc : Nat} {wq : World} (h : TkIn B F w rb Sk F1 pb pc As cs Ds ds out l V vn vc D dn dc wq) (y : Hd) (hl : l.length ≤ 10000) (cells : Array Value) (hc : cells.toList = y.rvals) :
    ∃ D' n' c' w5, (Builtin.append_ #[64, 64] 64 #[.slice D dn dc, .slice (some ⟨wq.heap.size, 0, none⟩) 1 1]).run Try.prog (wq.alloc (.cells cells 119)) = .ok (.slice D' n' c') w5 ∧
      TkIn B F w rb Sk F1 pb pc As cs Ds ds out (l ++ [y]) V vn vc D' n' c' w5 := by
  obtain ⟨wd, hwd⟩ : ∃ W, W = wq.alloc (.cells cells 119) := ⟨_, rfl⟩
  have hbd : Below wq.heap.size wq wd := by rw [hwd]; exact below_alloc _ _
  have hcd : Cells wd wq.heap.size 119 y.rvals := by rw [hwd]; exact cells_new _ _ _ _ hc
  have hsl1 : Sl wd (some ⟨wq.heap.size, 0, none⟩) 4 ([y].map Hd.rvals) := cells_sl (by simpa using hcd) (fun v hv => (fit_rhd [_]).len v hv)
  obtain ⟨D', n', c', w5, hrun, hrow, hn', hon, hnb⟩ := OwnG.appS el_rhd fit_rhd (h.d.later hbd) (m := [y]) (c := 1) hsl1 (fun e => by cases e) (Nat.le_trans h.s.only.size hbd.size) (by simp only [List.length_singleton]; omega)
  rw [← hwd]
  have hon2 : Only (fun k => blk D = some k) wq w5 := (Only.of_below hbd).trans hon fun k _ e => by rw [own_blk] at e; exact e
  have hx5 := h.x.only hon2 fun k e e2 => h.fd k e2 e
  refine ⟨D', n', c', w5, hrun, row_only h.v hon2 fun k e e2 => h.vd k (by rw [own_blk] at e; exact e) e2, hrow, hx5, ⟨⟨_, _, _, _, _, _, hx5⟩, h.s.only.trans2 hon2 fun k e => (h.d.lt k (by rw [own_blk]; exact e)).1, h.s.new⟩, h.fv, fun k e e2 => ?_, fun k e e2 => ?_⟩
  · rcases hnb k e with e3 | e3
    · rw [own_blk] at e3
      exact h.fd k e3 e2
    · have h1 := h.x.lt k e2
      have h2 := hbd.size
      omega
  · rcases hnb k e2 with e3 | e3
    · rw [own_blk] at e3
      exact h.vd k e e3
    · have h1 := (h.v.lt k (by rw [own_blk]; exact e)).2
      have h2 := hbd.size
      omega
set_option maxHeartbeats 4000000 in
theorem RTick_any (h : RAt B F w rb S) (hok : Sok N S) (hB : B ≤ w.heap.size) :
    Calls Try.prog 24 #[.pointer (some ⟨rb, 0, none⟩)] w fun r w' => ∃ V vn vc F', r = .returned (.slice V vn vc) ∧ OwnG 121 6 Ot.vals w.heap.size w' (.slice V vn vc) (tickM S).1 ∧ RStep B F w rb (tickM S).2 F' w' ∧ ∀ k, blk V = some k → ¬ F' k := by
  have HOK := Lib.hid hok
  have HBW := Lib.hid hB
  obtain ⟨n, hn⟩ : ∃ n, S.peers.length = n := ⟨_, rfl⟩
  have HN := Lib.hid hn
  have hn16 : n ≤ 16 := by rw [← hn]; exact hok.n2
  have hal := below_alloc w (.cells #[] 121)
  have HS0 : Hid (RStep B F w rb ⟨S.node, S.epoch, tickedP S.peers 0⟩ F (w.alloc (.cells #[] 121))) := Lib.hid (RStep.same h hal)
  have HV0 : Hid (OwnG 121 6 Ot.vals w.heap.size (w.alloc (.cells #[] 121)) (.slice (some ⟨w.heap.size, 0, none⟩) 0 0) (tickO S.epoch 0 (S.peers.take 0))) := Lib.hid (OwnG.empty _ _ _ w (Nat.le_refl _))
  have HF0 : Hid (∀ k, blk (some ⟨w.heap.size, 0, none⟩) = some k → ¬ F k) := Lib.hid fun k e e2 => by
    have h1 := h.lt k e2
    have h2 : w.heap.size = k := Option.some.inj e
    omega
  clear h hok hB hn hal
  go_enter Try.func24, Try.ntmps24
  go_wp2_with fail
  go_loopw [3, 4, 5, 6, 7] (fun a j _ _ _ wr => ∃ (k : Nat) (V : Option Addr) (vn vc : Nat) (F1 : Nat → Prop), k ≤ n ∧ j = .int .i64 (k : Int) ∧ a = .slice V vn vc ∧ Hid (OwnG 121 6 Ot.vals w.heap.size wr (.slice V vn vc) (tickO S.epoch 0 (S.peers.take k))) ∧ Hid (RStep B F w rb ⟨S.node, S.epoch, tickedP S.peers k⟩ F1 wr) ∧ Hid (∀ k, blk V = some k → ¬ F1 k)) (fun _ j _ _ _ _ => n - (intOf j).toNat)
  case atStart => exact ⟨0, _, 0, 0, F, Nat.zero_le _, rfl, rfl, HV0, HS0, HF0⟩
  case round =>
    clear HS0 HV0 HF0
    obtain ⟨k, V, vn, vc, F1, hkn, rfl, rfl, HV, HS, HF⟩ := hrel
    obtain ⟨pb, pc, As, cs, Ds, ds, hx⟩ := HS.out.at'
    have c2 := hx.cel.cell (j := 2) rfl
    dsimp only at c2
    rw [tickedP_len, HN.out] at c2
    by_cases hlt : k < n
    · have hkl : k < S.peers.length := by rw [HN.out]; exact hlt
      obtain ⟨p, hp⟩ : ∃ p, S.peers[k]'hkl = p := ⟨_, rfl⟩
      have hkb : k < (tickedP S.peers k).length := by rw [tickedP_len]; exact hkl
      have hat : (tickedP S.peers k)[k] = p := by rw [tickedP_at hkl]; exact hp
      have HAT : Hid (∀ hz : k < (tickedP S.peers k).length, (tickedP S.peers k)[k]'hz = p) := Lib.hid fun _ => hat
      have HPO : Hid (Pok N p) := Lib.hid (by rw [← hp]; exact HOK.out.peers _ (List.getElem_mem hkl))
      have hset := tickedP_set hkl
      rw [hp] at hset
      have HSET := Lib.hid hset
      have hto : tickO S.epoch 0 (S.peers.take (k + 1)) = tickO S.epoch 0 (S.peers.take k) ++ dataL ((k : Int) + 1) S.epoch p.known (dueL p.held) := by
        rw [List.take_succ_eq_append_getElem hkl, hp, tickO_snoc, Nat.zero_add, List.length_take, Nat.min_eq_left (Nat.le_of_lt hkl)]
      have HTO := Lib.hid hto
      have hal := below_alloc wr (.cells #[] 119)
      have HQ0 : Hid (TkIn B F w rb ⟨S.node, S.epoch, tickedP S.peers k⟩ F1 pb pc As cs Ds ds (tickO S.epoch 0 (S.peers.take k) ++ dataL ((k : Int) + 1) S.epoch p.known (dueL (p.held.take 0))) ((p.held.take 0).map fun x => (tickH x).2) V vn vc (some ⟨wr.heap.size, 0, none⟩) 0 0 (wr.alloc (.cells #[] 119))) := Lib.hid
        ⟨by rw [show dataL ((k : Int) + 1) S.epoch p.known (dueL (p.held.take 0)) = [] from rfl, List.append_nil]; exact HV.out.later hal, OwnG.empty _ _ _ wr HS.out.only.size, hx.later hal, HS.out.after hal, HF.out, fun i e e2 => by
          have h1 := hx.lt i e2
          have h2 : wr.heap.size = i := Option.some.inj e
          omega, fun i e e2 => by
          have h1 := (HV.out.lt i (by rw [own_blk]; exact e)).2
          have h2 : wr.heap.size = i := Option.some.inj e2
          omega⟩
      obtain ⟨hl, hhl⟩ : ∃ m, p.held.length = m := ⟨_, rfl⟩
      have HHL := Lib.hid hhl
      have h32 : hl ≤ 32 := by rw [← hhl]; exact HPO.out.len
      have HKB := Lib.hid hkb
      clear hkl hp hkb hat hset hto hal HV HS HF hx hhl
      go_upto_region 7 with (fail)
      clear c2
      go_loopw [3, 5, 6, 7] (fun a d j _ wq => ∃ (m : Nat) (V : Option Addr) (vn vc : Nat) (D : Option Addr) (dn dc : Nat), m ≤ hl ∧ j = .int .i64 (m : Int) ∧ a = .slice V vn vc ∧ d = .slice D dn dc ∧ Hid (TkIn B F w rb ⟨S.node, S.epoch, tickedP S.peers k⟩ F1 pb pc As cs Ds ds (tickO S.epoch 0 (S.peers.take k) ++ dataL ((k : Int) + 1) S.epoch p.known (dueL (p.held.take m))) ((p.held.take m).map fun x => (tickH x).2) V vn vc D dn dc wq)) (fun _ _ j _ _ => hl - (intOf j).toNat)
      case atStart => exact ⟨0, _, _, _, _, 0, 0, Nat.zero_le _, rfl, rfl, rfl, HQ0⟩
      case round =>
        clear HQ0
        obtain ⟨m, V, vn, vc, D, dn, dc, hm, rfl, rfl, rfl, HQ⟩ := hrel
        have c2 := HQ.out.x.cel.cell (j := 2) rfl
        dsimp only at c2
        rw [tickedP_len, HN.out] at c2
        have hpk := HQ.out.x.peer k HKB.out
        dsimp only at hpk
        rw [HAT.out] at hpk
        have c3 := hpk.1.cell (j := 3) rfl
        rw [HHL.out] at c3
        by_cases hlm : m < hl
        ·
          have hml : m < p.held.length := by rw [HHL.out]; exact hlm
          obtain ⟨x, hxm⟩ : ∃ x, p.held[m]'hml = x := ⟨_, rfl⟩
          obtain ⟨g, hDg, hce⟩ := OwnG.elem fit_rhd hpk.2.row hml
          rw [hxm] at hce
          have hokx : Hok N x := by rw [← hxm]; exact HPO.out.held _ (List.getElem_mem hml)
          rw [hDg] at c3
          have z0 : wr.cell? ⟨g, m * 4, none⟩ = _ := hce.cell (j := 0) rfl
          have z1 := hce.cell (j := 1) rfl
          have z2 := hce.cell (j := 2) rfl
          have z3 := hce.cell (j := 3) rfl
          obtain ⟨dl, hdl⟩ : ∃ d, min (2 * x.delay) 16 = d := ⟨_, rfl⟩
          rw [hdl] at z3
          have hd1 : 1 ≤ dl ∧ dl ≤ 16 := by have := hokx.d0; omega
          have hlf : 1 ≤ x.left ∧ x.left ≤ 16 := ⟨hokx.l0, hokx.l1⟩
          have hdu : dueL (p.held.take (m + 1)) = if (tickH x).1 then dueL (p.held.take m) ++ [(tickH x).2] else dueL (p.held.take m) := by rw [List.take_succ_eq_append_getElem hml, dueL_snoc, hxm]
          have hmp : (p.held.take (m + 1)).map (fun x => (tickH x).2) = (p.held.take m).map (fun x => (tickH x).2) ++ [(tickH x).2] := by rw [List.take_succ_eq_append_getElem hml, List.map_append, hxm]; rfl
          have HMP := Lib.hid hmp
          have hlw : IntKind.i64.wrap (x.left - 1) = x.left - 1 := by rw [IntKind.wrap_i64]; omega
          have hdw : IntKind.i64.wrap (2 * dl) = 2 * dl := by rw [IntKind.wrap_i64]; omega
          have hkw : IntKind.i64.wrap ((k : Int) + 1) = (k : Int) + 1 := by rw [IntKind.wrap_i64]; omega
          clear hpk hce hokx hDg hmp hxm
          by_cases h1 : x.left = 1
          ·
            have htk : tickH x = (true, ⟨x.seq, x.pay, dl, dl⟩) := by unfold tickH; rw [if_neg (by omega), hdl]
            rw [htk, if_pos rfl] at hdu
            have HTK : Hid ((tickH x).2 = ⟨x.seq, x.pay, dl, dl⟩) := Lib.hid (by rw [htk])
            have HDU : Hid (dataL ((k : Int) + 1) S.epoch p.known (dueL (p.held.take m)) ++ [outH ((k : Int) + 1) S.epoch p.known (tickH x).2] = dataL ((k : Int) + 1) S.epoch p.known (dueL (p.held.take (m + 1)))) := Lib.hid (by rw [hdu, dataL, dataL, List.map_append, htk]; rfl)
            rw [h1] at z2
            clear htk hdu hlw
            by_cases h16 : 2 * dl ≤ 16
            ·
              have HRV : Hid (Hd.rvals ⟨x.seq, x.pay, dl, dl⟩ = [.int .i64 x.seq, .string x.pay, .int .i64 dl, .int .i64 (2 * dl)]) := Lib.hid (by unfold Hd.rvals; dsimp only; rw [show min (2 * dl) 16 = 2 * dl by omega])
              have e1 : decide (2 * dl > 16) = false := decide_eq_false (by omega)
              obtain ⟨wk, hwk⟩ : ∃ W, W = wr.alloc (.cells #[.int .i64 x.seq, .string x.pay, .int .i64 dl, .int .i64 (2 * dl)] 119) := ⟨_, rfl⟩
              have hbk : Below wr.heap.size wr wk := by rw [hwk]; exact below_alloc _ _
              have hck : Cells wk wr.heap.size 119 [.int .i64 x.seq, .string x.pay, .int .i64 dl, .int .i64 (2 * dl)] := by rw [hwk]; exact cells_new _ _ _ _ rfl
              have HC := Lib.hid hck
              have HQK := Lib.hid (HQ.out.later hbk)
              have HVL : Hid (∀ i, blk V = some i → i < wr.heap.size) := Lib.hid fun i e => (HQ.out.v.lt i (by rw [own_blk]; exact e)).2
              clear hdl
              clear hbk hck
              have hdt := rdata_any HQK.out.x (by dsimp only; rw [tickedP_len, HN.out]; exact hn16) k HKB.out x.seq dl (2 * dl) x.pay
              dsimp only at hdt
              rw [HAT.out] at hdt
              have HDT := Lib.hid hdt
              clear hdt
              go_upto_region 16 with (fail)
              rw [← hwk]
              clear hwk c2 c3 z0 z1 z2 z3 e1
              have x0 := HC.out.cell (j := 0) rfl
              have x1 := HC.out.cell (j := 1) rfl
              have x2 := HC.out.cell (j := 2) rfl
              have x3 := HC.out.cell (j := 3) rfl
              go_wp2_with fail
              refine HDT.out.mono ?_
              rintro r w3 ⟨rfl, hb3⟩
              obtain ⟨V', n5, c5, w5, hrun5, hq5, hon5⟩ := (HQK.out.later hb3).appV (outH ((k : Int) + 1) S.epoch p.known (tickH x).2) (by
                have h1 := tickO_len S.epoch (S.peers.take k) 0 fun q hq => (HOK.out.peers q (List.mem_of_mem_take hq)).len
                have h2 := dueL_len (p.held.take m)
                rw [List.length_take] at h1 h2
                rw [List.length_append, dataL, List.length_map]
                omega)
              have HRUN5 := Lib.hid hrun5
              rw [HTK.out] at HRUN5
              unfold outH at HRUN5
              dsimp only at HRUN5
              have HC5 := Lib.hid (cells_only (HC.out.later hb3) hon5 fun e => by have := HVL.out _ e; omega)
              have HQ5 := Lib.hid hq5
              rw [List.append_assoc, HDU.out] at HQ5
              clear hrun5 hq5 hon5 hb3 HQK HC HDT x0 x1 x2 x3
              go_upto_region 17 with (at_builtin; refine Lib.wpList_append_run (w3.alloc (.cells #[.int .i64 ((k : Int) + 1), .int .i64 1, .int .i64 S.epoch, .int .i64 p.known, .int .i64 x.seq, .string x.pay] 121)) rfl (.tmp 61) (.tmp 67) 47 47 rfl (.slice V vn vc) (.slice (some ⟨w3.heap.size, 0, none⟩) 1 1) rfl rfl _ _ HRUN5.out ?_)
              clear HRUN5
              have x0 := HC5.out.cell (j := 0) rfl
              have x1 := HC5.out.cell (j := 1) rfl
              have x2 := HC5.out.cell (j := 2) rfl
              have x3 := HC5.out.cell (j := 3) rfl
              obtain ⟨D', n', c', w6, hrun6, hq6⟩ := HQ5.out.appD (tickH x).2 (by rw [List.length_map, List.length_take]; omega) #[.int .i64 x.seq, .string x.pay, .int .i64 dl, .int .i64 (2 * dl)] (by rw [HTK.out]; exact HRV.out.symm)
              have HRUN6 := Lib.hid hrun6
              have HQ6 := Lib.hid hq6
              rw [← HMP.out] at HQ6
              clear hrun6 hq6 HQ5 HC5
              go_wp2_with (at_builtin
                           refine Lib.wpList_append_run (w5.alloc (.cells #[.int .i64 x.seq, .string x.pay, .int .i64 dl, .int .i64 (2 * dl)] 119)) rfl (.tmp 69) (.tmp 71) 64 64 rfl (.slice D dn dc) (.slice (some ⟨w5.heap.size, 0, none⟩) 1 1) rfl rfl _ _ HRUN6.out ?_)
              go_roundw
              case rel => exact ⟨m + 1, V', n5, c5, D', n', c', by omega, by go_num, rfl, rfl, HQ6⟩
              case measure => simp [intOf]; omega
            ·
              have HRV : Hid (Hd.rvals ⟨x.seq, x.pay, dl, dl⟩ = [.int .i64 x.seq, .string x.pay, .int .i64 dl, .int .i64 16]) := Lib.hid (by unfold Hd.rvals; dsimp only; rw [show min (2 * dl) 16 = 16 by omega])
              have e1 : decide (2 * dl > 16) = true := decide_eq_true (by omega)
              obtain ⟨wk, hwk⟩ : ∃ W, W = wr.alloc (.cells #[.int .i64 x.seq, .string x.pay, .int .i64 dl, .int .i64 16] 119) := ⟨_, rfl⟩
              have hbk : Below wr.heap.size wr wk := by rw [hwk]; exact below_alloc _ _
              have hck : Cells wk wr.heap.size 119 [.int .i64 x.seq, .string x.pay, .int .i64 dl, .int .i64 16] := by rw [hwk]; exact cells_new _ _ _ _ rfl
              have HC := Lib.hid hck
              have HQK := Lib.hid (HQ.out.later hbk)
              have HVL : Hid (∀ i, blk V = some i → i < wr.heap.size) := Lib.hid fun i e => (HQ.out.v.lt i (by rw [own_blk]; exact e)).2
              clear hdl
              clear hbk hck
              have hdt := rdata_any HQK.out.x (by dsimp only; rw [tickedP_len, HN.out]; exact hn16) k HKB.out x.seq dl 16 x.pay
              dsimp only at hdt
              rw [HAT.out] at hdt
              have HDT := Lib.hid hdt
              clear hdt
              go_upto_region 16 with (fail)
              rw [← hwk]
              clear hwk c2 c3 z0 z1 z2 z3 e1
              have x0 := HC.out.cell (j := 0) rfl
              have x1 := HC.out.cell (j := 1) rfl
              have x2 := HC.out.cell (j := 2) rfl
              have x3 := HC.out.cell (j := 3) rfl
              go_wp2_with fail
              refine HDT.out.mono ?_
              rintro r w3 ⟨rfl, hb3⟩
              obtain ⟨V', n5, c5, w5, hrun5, hq5, hon5⟩ := (HQK.out.later hb3).appV (outH ((k : Int) + 1) S.epoch p.known (tickH x).2) (by
                have h1 := tickO_len S.epoch (S.peers.take k) 0 fun q hq => (HOK.out.peers q (List.mem_of_mem_take hq)).len
                have h2 := dueL_len (p.held.take m)
                rw [List.length_take] at h1 h2
                rw [List.length_append, dataL, List.length_map]
                omega)
              have HRUN5 := Lib.hid hrun5
              rw [HTK.out] at HRUN5
              unfold outH at HRUN5
              dsimp only at HRUN5
              have HC5 := Lib.hid (cells_only (HC.out.later hb3) hon5 fun e => by have := HVL.out _ e; omega)
              have HQ5 := Lib.hid hq5
              rw [List.append_assoc, HDU.out] at HQ5
              clear hrun5 hq5 hon5 hb3 HQK HC HDT x0 x1 x2 x3
              go_upto_region 17 with (at_builtin; refine Lib.wpList_append_run (w3.alloc (.cells #[.int .i64 ((k : Int) + 1), .int .i64 1, .int .i64 S.epoch, .int .i64 p.known, .int .i64 x.seq, .string x.pay] 121)) rfl (.tmp 61) (.tmp 67) 47 47 rfl (.slice V vn vc) (.slice (some ⟨w3.heap.size, 0, none⟩) 1 1) rfl rfl _ _ HRUN5.out ?_)
              clear HRUN5
              have x0 := HC5.out.cell (j := 0) rfl
              have x1 := HC5.out.cell (j := 1) rfl
              have x2 := HC5.out.cell (j := 2) rfl
              have x3 := HC5.out.cell (j := 3) rfl
              obtain ⟨D', n', c', w6, hrun6, hq6⟩ := HQ5.out.appD (tickH x).2 (by rw [List.length_map, List.length_take]; omega) #[.int .i64 x.seq, .string x.pay, .int .i64 dl, .int .i64 16] (by rw [HTK.out]; exact HRV.out.symm)
              have HRUN6 := Lib.hid hrun6
              have HQ6 := Lib.hid hq6
              rw [← HMP.out] at HQ6
              clear hrun6 hq6 HQ5 HC5
              go_wp2_with (at_builtin
                           refine Lib.wpList_append_run (w5.alloc (.cells #[.int .i64 x.seq, .string x.pay, .int .i64 dl, .int .i64 16] 119)) rfl (.tmp 69) (.tmp 71) 64 64 rfl (.slice D dn dc) (.slice (some ⟨w5.heap.size, 0, none⟩) 1 1) rfl rfl _ _ HRUN6.out ?_)
              go_roundw
              case rel => exact ⟨m + 1, V', n5, c5, D', n', c', by omega, by go_num, rfl, rfl, HQ6⟩
              case measure => simp [intOf]; omega
          ·
            have htk : tickH x = (false, ⟨x.seq, x.pay, x.delay, x.left - 1⟩) := by unfold tickH; rw [if_pos (by omega)]
            rw [htk, if_neg Bool.false_ne_true] at hdu
            have HTK : Hid ((tickH x).2 = ⟨x.seq, x.pay, x.delay, x.left - 1⟩) := Lib.hid (by rw [htk])
            have HRV : Hid (Hd.rvals ⟨x.seq, x.pay, x.delay, x.left - 1⟩ = [.int .i64 x.seq, .string x.pay, .int .i64 (x.left - 1), .int .i64 dl]) := Lib.hid (by unfold Hd.rvals; rw [hdl])
            have e1 : (x.left - 1 == 0) = false := by simp; omega
            obtain ⟨wk, hwk⟩ : ∃ W, W = wr.alloc (.cells #[.int .i64 x.seq, .string x.pay, .int .i64 (x.left - 1), .int .i64 dl] 119) := ⟨_, rfl⟩
            have hbk : Below wr.heap.size wr wk := by rw [hwk]; exact below_alloc _ _
            have hck : Cells wk wr.heap.size 119 [.int .i64 x.seq, .string x.pay, .int .i64 (x.left - 1), .int .i64 dl] := by rw [hwk]; exact cells_new _ _ _ _ rfl
            have HC := Lib.hid hck
            have HQK := Lib.hid (HQ.out.later hbk)
            have HVL : Hid (∀ i, blk V = some i → i < wr.heap.size) := Lib.hid fun i e => (HQ.out.v.lt i (by rw [own_blk]; exact e)).2
            rw [← hdu] at HQK
            clear htk hdu
            clear hbk hck
            go_upto_region 17 with (fail)
            rw [← hwk]
            clear hwk c2 c3 z0 z1 z2 z3 hdl e1
            have x0 := HC.out.cell (j := 0) rfl
            have x1 := HC.out.cell (j := 1) rfl
            have x2 := HC.out.cell (j := 2) rfl
            have x3 := HC.out.cell (j := 3) rfl
            obtain ⟨D', n', c', w6, hrun6, hq6⟩ := HQK.out.appD (tickH x).2 (by rw [List.length_map, List.length_take]; omega) #[.int .i64 x.seq, .string x.pay, .int .i64 (x.left - 1), .int .i64 dl] (by rw [HTK.out]; exact HRV.out.symm)
            have HRUN6 := Lib.hid hrun6
            have HQ6 := Lib.hid hq6
            rw [← HMP.out] at HQ6
            clear hrun6 hq6 HQK HC
            go_wp2_with (at_builtin
                         refine Lib.wpList_append_run (wk.alloc (.cells #[.int .i64 x.seq, .string x.pay, .int .i64 (x.left - 1), .int .i64 dl] 119)) rfl (.tmp 69) (.tmp 71) 64 64 rfl (.slice D dn dc) (.slice (some ⟨wk.heap.size, 0, none⟩) 1 1) rfl rfl _ _ HRUN6.out ?_)
            go_roundw
            case rel => exact ⟨m + 1, V, vn, vc, D', n', c', by omega, by go_num, rfl, rfl, HQ6⟩
            case measure => simp [intOf]; omega
        ·
          obtain rfl : m = hl := by omega
          have hq := HQ.out
          have ht : p.held.take m = p.held := List.take_of_length_le (by rw [HHL.out]; exact Nat.le_refl _)
          rw [ht, ← HTO.out] at hq
          obtain ⟨hdn, _⟩ := OwnG.sl fit_rhd hq.d
          subst hdn
          have hps := hq.x.setL HKB.out hq.d HBW.out hq.fd (HAT.out _)
          obtain ⟨F2, ⟨hs2, hF2⟩, hx2, ho2⟩ := hq.s.put hq.x HKB.out hps
          dsimp only at hs2
          rw [show (⟨p.L, p.known, p.last, p.held.map fun x => (tickH x).2⟩ : Pm) = (tickP p).2 from rfl, HSET.out] at hs2
          have HS2 := Lib.hid hs2
          have HV2 := Lib.hid (row_only hq.v ho2 fun i e => hq.fv i (by rw [own_blk] at e; exact e))
          have HF3 : Hid (∀ i, blk V = some i → ¬ F2 i) := Lib.hid fun i e e2 => by
            rcases hF2 i e2 with e3 | e3 | e3
            · exact hq.fv i e e3
            · exact hq.fv i e (hq.x.fA k i HKB.out e3)
            · exact hq.vd i e e3
          have hfz := hpk.1.frozen (j := 3) (Nat.le_refl 4)
          obtain ⟨dn, hdn⟩ : ∃ d, (p.held.map fun x => (tickH x).2).length = d := ⟨_, rfl⟩
          rw [hdn] at HS2 HV2
          simp only [hdn]
          clear hq hpk hps hs2 hF2 hx2 ho2 hdn ht HQ HTO HSET HAT HPO
          go_wp2_with fail
          go_roundw
          case rel => exact ⟨k + 1, V, vn, vc, F2, by omega, by go_num, rfl, HV2, HS2, HF3⟩
          case measure => simp [intOf]; omega
    · obtain rfl : k = n := by omega
      have HVE : Hid (OwnG 121 6 Ot.vals w.heap.size wr (.slice V vn vc) (tickM S).1) := Lib.hid (by
        have h1 := HV.out
        rw [List.take_of_length_le (by rw [HN.out]; exact Nat.le_refl _)] at h1
        exact h1)
      have HSE : Hid (RStep B F w rb (tickM S).2 F1 wr) := Lib.hid (by
        have h1 := HS.out
        unfold tickedP at h1
        rw [List.take_of_length_le (by rw [HN.out]; exact Nat.le_refl _), List.drop_of_length_le (by rw [HN.out]; exact Nat.le_refl _), List.append_nil] at h1
        exact h1)
      clear hx
      go_wp2_with fail
      go_returns
      exact ⟨_, _, _, _, rfl, HVE.out, HSE.out, HF.out⟩
end
end Go.Proofs.Ytjfejfhdohpfbaa.Ses
