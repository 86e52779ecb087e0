/-
  Layer 14: a tick goes by for a session.
  Conditions: none.
-/
import Derived.Test.YtccdpgbmkiapdaaL24
namespace Go.Proofs.Ytccdpgbmkiapdaa.Ses
set_option maxRecDepth 100000
open Go.RowKit Go.Deep Go.Proofs.Ytccdpgbmkiapdaa.Mem Go.Proofs.Ytccdpgbmkiapdaa.Win
/-- What goes out at a tick, from the i-th peer on. -/
def tickO (ep : Int) : Nat → List Pm → List Ot
  | _, [] => []
  | i, p :: r => dataL ((i : Int) + 1) ep p.known (dueL p.held) ++ tickO ep (i + 1) r
theorem tickO_snoc (ep : Int) (p : Pm) (l : List Pm) : ∀ i, tickO ep i (l ++ [p]) = tickO ep i l ++ dataL (((i + l.length : Nat) : Int) + 1) ep p.known (dueL p.held) := by
  induction l with
  | nil => intro i; simp [tickO]
  | cons a r ih =>
    intro i
    show _ ++ tickO ep (i + 1) (r ++ [p]) = (_ ++ tickO ep (i + 1) r) ++ _
    rw [ih, List.append_assoc, List.length_cons, show i + 1 + r.length = i + (r.length + 1) by omega]
theorem tickO_len (ep : Int) (l : List Pm) : ∀ i, (∀ p ∈ l, p.held.length ≤ 32) → (tickO ep i l).length ≤ l.length * 32 := by
  induction l with
  | nil => intro i _; exact Nat.zero_le _
  | cons a r ih =>
    intro i h
    show (_ ++ tickO ep (i + 1) r).length ≤ _
    have h1 := ih (i + 1) fun p hp => h p (List.mem_cons_of_mem _ hp)
    have h2 := h a List.mem_cons_self
    have h3 := dueL_len a.held
    rw [List.length_append, dataL, List.length_map, List.length_cons]
    omega
def tickedP (l : List Pm) (k : Nat) : List Pm := (l.take k).map (fun p => (tickP p).2) ++ l.drop k
theorem tickedP_len (l : List Pm) (k : Nat) : (tickedP l k).length = l.length := by
  unfold tickedP
  rw [List.length_append, List.length_map, ← List.length_append, List.take_append_drop]
theorem tickedP_at {l : List Pm} {k : Nat} (hk : k < l.length) : (tickedP l k)[k]'(by rw [tickedP_len]; exact hk) = l[k] := by
  unfold tickedP
  rw [List.getElem_append_right (by rw [List.length_map, List.length_take]; omega)]
  simp only [List.length_map, List.length_take, List.getElem_drop]
  congr 1
  omega
theorem tickedP_set {l : List Pm} {k : Nat} (hk : k < l.length) : (tickedP l k).set k (tickP l[k]).2 = tickedP l (k + 1) := by
  unfold tickedP
  rw [List.set_append_right _ _ (by rw [List.length_map, List.length_take]; omega), List.length_map, List.length_take, Nat.min_eq_left (Nat.le_of_lt hk), Nat.sub_self, List.drop_eq_getElem_cons hk, List.set_cons_zero, List.take_succ_eq_append_getElem hk, List.map_append, List.append_assoc]
  rfl
/-- A tick goes by for a session: what goes out, the session. -/
def tickM (S : Sm) : List Ot × Sm := (tickO S.epoch 0 S.peers, ⟨S.node, S.epoch, S.peers.map fun p => (tickP p).2⟩)
theorem data_own (x : Int) (sb c : Nat) (A : Option Addr) (w : World) : Calls Try.prog 49 #[.pointer (some ⟨sb, 0, none⟩), .int .i64 x, .slice A 0 c] w fun e w' => e = .returned (.slice none 0 0) ∧ w' = w := by
  go_enter Try.func49, Try.ntmps49
  go_wp2_with fail
  go_loopw [7, 9, 12] (fun a _ j wr => j = .int .i64 0 ∧ a = .slice none 0 0 ∧ wr = w) (fun _ _ _ _ => 0)
  case atStart => exact ⟨rfl, rfl, rfl⟩
  case round =>
    obtain ⟨rfl, rfl, rfl⟩ := hrel
    go_wp2_with fail
    go_returns
    exact ⟨rfl, rfl⟩
theorem slice_cap {eT : TypeId} {sz B n c : Nat} {w : World} {A : Option Addr} {vals : Ot → List Value} {l : List Ot} (h : OwnG eT sz vals B w (.slice A n c) l) : A = none → c = 0 := by
  intro e
  rcases h.2 with ⟨h1, _⟩ | ⟨g, cap, cur, h1, _⟩
  · simp only [Value.slice.injEq] at h1
    exact h1.2.2
  · subst e
    simp at h1
section
variable {B sb : Nat} {F : Nat → Prop} {w : World} {S : Sm} {N : Int}
set_option maxHeartbeats 2000000 in
theorem Tick_any (h : SAt B F w sb S) (hok : Sok N S) (hB : B ≤ w.heap.size) (hne : ∀ i (hi : i < S.peers.length), (i : Int) + 1 = S.node → S.peers[i].held = []) :
    Calls Try.prog 23 #[.pointer (some ⟨sb, 0, none⟩)] w fun r w' => ∃ V vn vc F', r = .returned (.slice V vn vc) ∧ OwnG 89 6 Ot.vals w.heap.size w' (.slice V vn vc) (tickM S).1 ∧ SStep B F w sb (tickM S).2 F' w' ∧ ∀ k, blk V = some k → ¬ F' k := by
  have HOK := Lib.hid hok
  have HBW := Lib.hid hB
  have HNE := Lib.hid hne
  obtain ⟨n, hn⟩ : ∃ n, S.peers.length = n := ⟨_, rfl⟩
  have HN := Lib.hid hn
  have hn16 : n ≤ 16 := by rw [← hn]; exact hok.n2
  have HS0 : Hid (SStep B F w sb ⟨S.node, S.epoch, tickedP S.peers 0⟩ F w) := Lib.hid (SStep.same h (Below.refl _ _))
  obtain ⟨pb0, As0, cs0, hx0⟩ := h
  have c0 := hx0.cel.cell (j := 2) rfl
  rw [hn] at c0
  clear hx0 hok hB hne hn
  go_enter Try.func23, Try.ntmps23
  go_wp2_with fail
  go_loopw [3, 4, 12] (fun a _ j wr => ∃ (k : Nat) (V : Option Addr) (vn vc : Nat) (F1 : Nat → Prop), k ≤ n ∧ j = .int .i64 (k : Int) ∧ a = .slice V vn vc ∧ Hid (OwnG 89 6 Ot.vals w.heap.size wr (.slice V vn vc) (tickO S.epoch 0 (S.peers.take k))) ∧ Hid (SStep B F w sb ⟨S.node, S.epoch, tickedP S.peers k⟩ F1 wr) ∧ Hid (∀ k, blk V = some k → ¬ F1 k)) (fun _ _ j _ => n - (intOf j).toNat)
  case atStart => exact ⟨0, none, 0, 0, F, Nat.zero_le _, rfl, rfl, Lib.hid (OwnG.nil _ _ _ _ _), HS0, Lib.hid (fun k e => by cases e)⟩
  case round =>
    clear HS0 c0
    obtain ⟨k, V, vn, vc, F1, hkn, rfl, rfl, HV, HS, HF⟩ := hrel
    by_cases hlt : k < n
    · have hkl : k < S.peers.length := by rw [HN.out]; exact hlt
      obtain ⟨pb, As, cs, hx⟩ := HS.out.at'
      have hkb : k < (tickedP S.peers k).length := by rw [tickedP_len]; exact hkl
      have hpk := hx.peer k hkb
      have hat : (tickedP S.peers k)[k] = S.peers[k] := tickedP_at hkl
      dsimp only at hpk
      rw [hat] at hpk
      obtain ⟨p, hp⟩ : ∃ p, S.peers[k]'hkl = p := ⟨_, rfl⟩
      rw [hp] at hpk
      have hpok : Pok N p := by rw [← hp]; exact HOK.out.peers _ (List.getElem_mem hkl)
      have hset := tickedP_set hkl
      rw [hp] at hset
      have hnl : (tickedP S.peers k).length = n := by rw [tickedP_len]; exact HN.out
      have c2 := hx.cel.cell (j := 2) rfl
      dsimp only at c2
      rw [hnl] at c2
      have hBr : B ≤ wr.heap.size := Nat.le_trans HBW.out HS.out.only.size
      have HT := Lib.hid (peerTick_any hpk hpok hBr)
      have hto : tickO S.epoch 0 (S.peers.take (k + 1)) = tickO S.epoch 0 (S.peers.take k) ++ dataL ((k : Int) + 1) S.epoch p.known (dueL p.held) := by
        rw [List.take_succ_eq_append_getElem hkl, hp, tickO_snoc, Nat.zero_add, List.length_take, Nat.min_eq_left (Nat.le_of_lt hkl)]
      have HTO := Lib.hid hto
      have HX := Lib.hid hx
      have HSET := Lib.hid hset
      have HPO := Lib.hid hpok
      have HOWN : Hid ((k : Int) + 1 = S.node → p.held = []) := Lib.hid fun e => by rw [← hp]; exact HNE.out k hkl e
      have HBR := Lib.hid hBr
      have hwr : IntKind.i64.wrap ((k : Int) + 1) = (k : Int) + 1 := by rw [IntKind.wrap_i64]; omega
      clear hpk hat hp hpok hset hx hto hkb hnl hBr hkl
      go_upto_region 7 with (fail)
      go_wp2_with fail
      refine HT.out.mono ?_
      rintro r w1 ⟨V1, vn1, vc1, rfl, hown1, hps1⟩
      have hx1 := HX.out.step (i := k) (by dsimp only; rw [tickedP_len]; rw [HN.out]; exact hlt) hps1 HBR.out
      dsimp only at hx1
      rw [HSET.out] at hx1
      obtain ⟨hx1, ho1⟩ := hx1
      obtain ⟨F2, hF2⟩ : ∃ G : Nat → Prop, G = (fun i => F1 i ∨ wr.heap.size ≤ i ∧ some i = blk (As k)) := ⟨_, rfl⟩
      rw [← hF2] at hx1
      obtain ⟨rfl, hsl⟩ := OwnG.sl fit_hd hown1
      have hd : Calls Try.prog 49 #[.pointer (some ⟨sb, 0, none⟩), .int .i64 ((k : Int) + 1), .slice V1 (dueL p.held).length vc1] w1 fun e w' => ∃ V vn vc, e = .returned (.slice V vn vc) ∧ OwnG 89 6 Ot.vals w1.heap.size w' (.slice V vn vc) (dataL ((k : Int) + 1) S.epoch p.known (dueL p.held)) ∧ Below w1.heap.size w1 w' := by
        by_cases he : (k : Int) + 1 = S.node
        · rw [HOWN.out he]
          refine (data_own ((k : Int) + 1) sb vc1 V1 w1).mono ?_
          rintro e w' ⟨rfl, rfl⟩
          exact ⟨_, _, _, rfl, OwnG.nil _ _ _ _ _, Below.refl _ _⟩
        · have hk2 : k < (tickedP S.peers (k + 1)).length := by rw [tickedP_len]; rw [HN.out]; exact hlt
          have h1 := data_any hx1 (by dsimp only; rw [tickedP_len, HN.out]; exact hn16) k hk2 he V1 (dueL p.held) vc1 hsl (by have := dueL_len p.held; have := HPO.out.len; omega) (fun y hy => by
            obtain ⟨z, hz, rfl⟩ := List.mem_map.1 hy
            have h2 := (HPO.out.held z (List.mem_filter.1 hz).1).p1
            have h3 : (tickH z).2.pay = z.pay := by unfold tickH; split <;> rfl
            rw [h3]
            omega)
          have h2 : ((tickedP S.peers (k + 1))[k]'hk2).known = p.known := by
            have h3 : (tickedP S.peers (k + 1))[k]? = some (tickP p).2 := by rw [← HSET.out, List.getElem?_set_self (by rw [tickedP_len, HN.out]; exact hlt)]
            rw [List.getElem?_eq_getElem hk2] at h3
            rw [Option.some.inj h3]
            rfl
          dsimp only at h1
          rw [h2] at h1
          exact h1
      have HD := Lib.hid hd
      have hV1 := row_only HV.out ho1 fun i e => by rw [own_blk] at e; exact HF.out i e
      have HV1 : Hid (OwnG 89 6 Ot.vals w.heap.size w1 (.slice V vn vc) (tickO S.epoch 0 (S.peers.take k))) := Lib.hid hV1
      have hs1 : SStep B F w sb ⟨S.node, S.epoch, tickedP S.peers (k + 1)⟩ F2 w1 := HS.out.trans ⟨⟨_, _, _, hx1⟩, ho1, fun i e => by rw [hF2] at e; exact e.imp_right And.left⟩
      have HS1 := Lib.hid hs1
      have HF1 : Hid (∀ i, blk V = some i → ¬ F2 i) := Lib.hid fun i e e2 => by
        rw [hF2] at e2
        rcases e2 with e2 | e2
        · exact HF.out i e e2
        · have h1 := (HV.out.lt i (by rw [own_blk]; exact e)).2
          omega
      have HLT : Hid (∀ i, F2 i → i < w1.heap.size) := Lib.hid hx1.lt
      obtain ⟨n1, hn1⟩ : ∃ m, (dueL p.held).length = m := ⟨_, rfl⟩
      rw [hn1] at HD
      clear hown1 hps1 hx1 ho1 hF2 hsl hd hV1 hs1 HV HS HF HX HSET HT HBR HOWN
      simp only [hn1]
      clear hn1
      go_wp2_with fail
      refine HD.out.mono ?_
      rintro r w2 ⟨V2, vn2, vc2, rfl, hown2, hb2⟩
      obtain ⟨rfl, hsl2⟩ := OwnG.sl fit_ot hown2
      have hcap := slice_cap hown2
      have hlen : (tickO S.epoch 0 (S.peers.take k)).length + (dataL ((k : Int) + 1) S.epoch p.known (dueL p.held)).length ≤ 100000 := by
        have h1 := tickO_len S.epoch (S.peers.take k) 0 fun q hq => (HOK.out.peers q (List.mem_of_mem_take hq)).len
        have h2 := dueL_len p.held
        have h3 := HPO.out.len
        rw [List.length_take] at h1
        rw [dataL, List.length_map]
        omega
      obtain ⟨V', n', c', w5, hrun, hrow, hn', hon, hnb⟩ := OwnG.appS el_ot fit_ot (HV1.out.later hb2) (m := dataL ((k : Int) + 1) S.epoch p.known (dueL p.held)) hsl2 hcap (Nat.le_trans HS1.out.only.size hb2.size) hlen
      have HV5 : Hid (OwnG 89 6 Ot.vals w.heap.size w5 (.slice V' n' c') (tickO S.epoch 0 (S.peers.take (k + 1)))) := Lib.hid (by rw [HTO.out]; exact hrow)
      have hon2 : Only (fun i => blk V = some i) w1 w5 := (Only.of_below hb2).trans hon fun i _ e => by rw [own_blk] at e; exact e
      have HS5 : Hid (SStep B F w sb ⟨S.node, S.epoch, tickedP S.peers (k + 1)⟩ F2 w5) := Lib.hid ⟨HS1.out.at'.only hon2 fun i e e2 => HF1.out i e2 e, HS1.out.only.trans2 hon2 fun i e => (HV1.out.lt i (by rw [own_blk]; exact e)).1, HS1.out.new⟩
      have HF5 : Hid (∀ i, blk V' = some i → ¬ F2 i) := Lib.hid fun i e e2 => by
        rcases hnb i e with e3 | e3
        · rw [own_blk] at e3
          exact HF1.out i e3 e2
        · have h1 := HLT.out i e2
          have h2 := hb2.size
          omega
      have HRUN := Lib.hid hrun
      obtain ⟨n2, hn2⟩ : ∃ m, (dataL ((k : Int) + 1) S.epoch p.known (dueL p.held)).length = m := ⟨_, rfl⟩
      rw [hn2] at HRUN
      simp only [hn2]
      clear hown2 hb2 hsl2 hcap hlen hrun hrow hn' hon hnb hon2 HV1 HS1 HF1 HLT HD HTO HPO hn2
      go_wp2_with (at_builtin
                   refine Lib.wpList_append_run w2 rfl (.tmp 15) (.tmp 26) 48 48 rfl (.slice V vn vc) (.slice V2 n2 vc2) rfl rfl _ _ HRUN.out ?_)
      go_roundw
      case rel => exact ⟨k + 1, V', n', c', F2, by omega, by go_num, rfl, HV5, HS5, HF5⟩
      case measure => simp [intOf]; omega
    · obtain rfl : k = n := by omega
      have HVE : Hid (OwnG 89 6 Ot.vals w.heap.size wr (.slice V vn vc) (tickM S).1) := Lib.hid (by
        have h1 := HV.out
        rw [List.take_of_length_le (by rw [HN.out]; exact Nat.le_refl _)] at h1
        exact h1)
      have HSE : Hid (SStep B F w sb (tickM S).2 F1 wr) := Lib.hid (by
        have h1 := HS.out
        unfold tickedP at h1
        rw [List.take_of_length_le (by rw [HN.out]; exact Nat.le_refl _), List.drop_of_length_le (by rw [HN.out]; exact Nat.le_refl _), List.append_nil] at h1
        exact h1)
      go_wp2_with fail
      go_returns
      exact ⟨_, _, _, _, rfl, HVE.out, HSE.out, HF.out⟩
end
end Go.Proofs.Ytccdpgbmkiapdaa.Ses
