/- Part 6 of the proof. Conditions: none. -/
import Derived.Test.YtdkchpiinelmiaaGreatZ5
import Derived.Lib.AppendZeros
import Derived.Lib.BufferMore
namespace Go.Proofs.YtdkchpiinelmiaaGreat.Led
set_option maxRecDepth 100000
open Go.RowKit Go.Deep Mem fN Rec
structure Fit (sz : Nat) (vs : List (List Value)) : Prop where
  len : ∀ v ∈ vs, v.length = sz
  one : ∀ v ∈ vs, ∀ u ∈ v, u.oneCell' = true
theorem Fit.nil (sz : Nat) : Fit sz [] := ⟨fun v hv => (by cases hv), fun v hv => (by cases hv)⟩
theorem Fit.app {sz : Nat} {us vs : List (List Value)} (h : Fit sz us) (k : Fit sz vs) : Fit sz (us ++ vs) :=
  ⟨fun v hv => by rcases List.mem_append.1 hv with h1 | h1; exact h.len v h1; exact k.len v h1, fun v hv => by rcases List.mem_append.1 hv with h1 | h1; exact h.one v h1; exact k.one v h1⟩
theorem Fit.sub {sz : Nat} {us vs : List (List Value)} (h : Fit sz vs) (hs : ∀ v ∈ us, v ∈ vs) : Fit sz us := ⟨fun v hv => h.len v (hs v hv), fun v hv => h.one v (hs v hv)⟩
theorem aW {sz : Nat} : ∀ {vs : List (List Value)}, (∀ v ∈ vs, v.length = sz) -> vs.flatten.length = vs.length * sz
  | [], _ => by simp
  | v :: vs, h => by
    rw [List.flatten_cons, List.length_append, h v List.mem_cons_self, aW fun x hx => h x (List.mem_cons_of_mem _ hx), List.length_cons, Nat.succ_mul]
    omega
theorem eG {sz : Nat} : ∀ {vs : List (List Value)}, (∀ v ∈ vs, v.length = sz) -> ∀ (k : Nat) (hk : k < vs.length) (j : Nat), j < sz -> vs.flatten[k * sz + j]? = vs[k][j]?
  | [], _, k, hk, _, _ => by simp at hk
  | v :: vs, h, k, hk, j, hj => by
    have hv := h v List.mem_cons_self; rw [List.flatten_cons]
    cases k with
    | zero => rw [Nat.zero_mul, Nat.zero_add, List.getElem?_append_left (by omega)]; rfl
    | succ k =>
      have e : (k + 1) * sz + j - v.length = k * sz + j := by rw [hv, Nat.succ_mul]; omega
      rw [List.getElem?_append_right (by rw [hv, Nat.succ_mul]; omega), e, eG (fun x hx => h x (List.mem_cons_of_mem _ hx)) k (by simpa using hk) j hj]
      rfl
theorem iq {sz : Nat} {vs : List (List Value)} (h : Fit sz vs) : ∀ u ∈ vs.flatten, u.oneCell' = true := fun u hu => by
  obtain ⟨v, hv, hx⟩ := List.mem_flatten.1 hu; exact h.one v hv u hx
theorem J1 {w : World} {ad : Addr} {sz : Nat} {vs : List (List Value)} (h : Sl w (some ad) sz vs) (hf : ∀ v ∈ vs, v.length = sz) (hs : 0 < sz) {j : Nat} {u : Value} (hu : vs.flatten[j]? = some u) : w.cell? (ad.add j) = some u := by
  have hj : j < vs.length * sz := by
    have := (List.getElem?_eq_some_iff.1 hu).1
    rwa [aW hf] at this
  have hk : j / sz < vs.length := (Nat.div_lt_iff_lt_mul hs).2 hj; obtain ⟨b, off, e, hr⟩ := h (j / sz) hk; obtain rfl := Option.some.inj e; have hje : j / sz * sz + j % sz = j := by rw [Nat.mul_comm]; exact Nat.div_add_mod j sz
  have h2 := eG hf (j / sz) hk (j % sz) (Nat.mod_lt _ hs); rw [hje, hu] at h2; have h3 := hr (j % sz) u h2.symm; rw [Addr.add_mid]; rw [Nat.add_assoc, hje] at h3; exact h3
structure Elem (sT eT : TypeId) (z : Value) (sz bytes : Nat) : Prop where
  slice : Tryz.prog.underlying sT = some (.slice eT)
  info : (Tryz.prog.info? eT).map (fun i => (i.zero, i.size, i.bytes)) = some (some z, sz, bytes)
  zero : z.cells.size = sz
  pos : 0 < sz
  small : bytes <= 100
theorem aZ {sT eT : TypeId} {z : Value} {sz bytes : Nat} (E : Elem sT eT z sz bytes) (w : World) (ty : TypeId) (base : Nat) (v : Value) (us bs : List (List Value)) (A : Option Addr) (c : Nat) (_hus : Fit sz us) (hbs : Fit sz bs)
    (hown : w.ownsRow base eT sz v us.length us.flatten) (hr : Sl w A sz bs) (hA : A = none -> c = 0) (hn : us.length + bs.length <= 200000) (hbase : base <= w.heap.size) :
    ∃ v' w', (Builtin.append_ #[sT, sT] ty #[v, .slice A bs.length c]).run Tryz.prog w = .ok v' w' /\ w'.ownsRow base eT sz v' (us ++ bs).length (us ++ bs).flatten /\ w.grownBy w' v.ownBlock /\ (v'.ownBlock = v.ownBlock \/ v'.ownBlock = some w.heap.size) := by
  obtain ⟨i0, hi, hz0, hz1, hz2⟩ := info_parts E.info; have WZ := E.small
  match A, hr, hA with
  | none, hr, hA =>
    have hb : bs = [] := by
      match bs, hr with
      | [], _ => rfl
      | b :: r, hr => obtain ⟨_, _, h, _⟩ := hr 0 (by simp); cases h
    subst hb; obtain rfl := hA rfl; refine ⟨v, w, ?_, by simpa using hown, World.grownBy.refl w _, Or.inl rfl⟩; exact run_append_owned_none (P := Tryz.prog) (w := w) base sT ty eT i0 sz E.slice hi v us.length us.flatten hown
  | some ad, hr, _ =>
    obtain ⟨v', w', h1, h2, h3, _, h5⟩ := run_append_own_at (P := Tryz.prog) w base sT ty eT i0 z sz bytes E.slice hi hz0 hz1 hz2 E.zero E.pos v us.length us.flatten hown
      ad bs.length c bs.flatten (aW hbs.len) (fun j u hu => J1 hr hbs.len E.pos hu) (iq hbs) (by unfold maxLen; omega) (by have := Nat.mul_le_mul hn WZ; omega) hbase
    exact ⟨v', w', h1, by rw [List.length_append, List.flatten_append]; exact h2, h3, h5⟩
theorem cR {w : World} {base g n c sz : Nat} {eT : TypeId} {xs : List Value} (h : w.ownsRow base eT sz (.slice (some ⟨g, 0, none⟩) n c) n xs) : Cells w g eT xs /\ n <= c /\ base <= g := by
  rcases h.2 with ⟨h1, _⟩ | ⟨g', cap, cur, h1, h2, h3, h4, h5, h6, h7⟩
  · cases h1
  simp only [Value.slice.injEq, Option.some.injEq, Addr.mk.injEq] at h1
  obtain ⟨⟨rfl, _, _⟩, _, rfl⟩ := h1; refine ⟨⟨cur, 0, 0, h3, fun j u hu => ?_, fun j _ hj => by omega⟩, h4, h2⟩; rw [<- h7, List.getElem?_take] at hu
  split at hu
  · simpa using hu
  cases hu
theorem cW {w : World} {g sz : Nat} {eT : TypeId} {vs : List (List Value)} (h : Cells w g eT vs.flatten) (hf : ∀ v ∈ vs, v.length = sz) : Sl w (some ⟨g, 0, none⟩) sz vs := fun k hk => by
  refine ⟨g, 0, rfl, fun j v hv => ?_⟩; have hj : j < sz := by
    have := (List.getElem?_eq_some_iff.1 hv).1
    rwa [hf _ (List.getElem_mem hk)] at this
  rw [Nat.zero_add]; exact h.cell (by rw [eG hf k hk j hj]; exact hv)
theorem f_ {w : World} {base sz : Nat} {eT : TypeId} {v : Value} {vs : List (List Value)} (h : w.ownsRow base eT sz v vs.length vs.flatten) (hf : ∀ v ∈ vs, v.length = sz) : ∃ A c, v = .slice A vs.length c /\ Sl w A sz vs /\ (A = none -> c = 0) /\ ∀ g, v.ownBlock = some g -> base <= g := by
  rcases h.2 with ⟨h1, h2⟩ | ⟨g, c, cur, h1, h2, _⟩
  · have hv : vs = [] := List.length_eq_zero_iff.1 h2
    subst hv; exact ⟨none, 0, h1, gN _ _ _, fun _ => rfl, fun g hg => (by rw [h1] at hg; cases hg)⟩
  subst h1
  exact ⟨_, c, rfl, cW (cR h).1 hf, fun e => (by cases e), fun g' hg => (by cases hg; exact h2)⟩
theorem rW {w : World} {sz : Nat} {vs : List (List Value)} (h : Sl w none sz vs) : vs = [] := by
  match vs, h with
  | [], _ => rfl
  | b :: r, h => obtain ⟨_, _, e, _⟩ := h 0 (by simp); cases e
theorem J9 {w : World} {A : Option Addr} {l : List Int} (h : gZ w A l) : Sl w A 1 (l.map fun n => [iv n]) := fun k hk => by
  rw [List.length_map] at hk; obtain ⟨b, off, e, hc⟩ := h k hk; refine ⟨b, off, e, fun j v hv => ?_⟩; rw [List.getElem_map] at hv; rcases j with _ | j
  · rw [Nat.mul_one]; exact hc.trans hv
  simp at hv
theorem Bx {w : World} {A : Option Addr} {l : List Int} (h : Sl w A 1 (l.map fun n => [iv n])) : gZ w A l := fun k hk => by
  obtain ⟨b, off, e, hr⟩ := h k (by rw [List.length_map]; exact hk); rw [List.getElem_map] at hr; have h0 := hr 0 _ rfl; rw [Nat.mul_one] at h0; exact ⟨b, off, e, h0⟩
theorem xE {w : World} {A : Option Addr} {l : List It} (h : Sl w A 5 (l.map It.vals)) : Items w A l := fun k hk => by
  obtain ⟨b, off, e, hr⟩ := h k (by rw [List.length_map]; exact hk); rw [List.getElem_map] at hr; exact ⟨b, off, e, ⟨hr 0 _ rfl, hr 1 _ rfl, hr 2 _ rfl, hr 3 _ rfl, hr 4 _ rfl⟩⟩
theorem xO {w : World} {A : Option Addr} {l : List It} (h : Items w A l) : Sl w A 5 (l.map It.vals) := fun k hk => by
  rw [List.length_map] at hk; obtain ⟨b, off, e, hi⟩ := h k hk; refine ⟨b, off, e, fun j v hv => ?_⟩; rw [List.getElem_map] at hv; unfold It.vals at hv; rcases j with _ | _ | _ | _ | _ | j
  · exact hi.cell.trans hv
  · exact hi.version.trans hv
  · exact hi.value.trans hv
  · exact hi.write.trans hv
  · exact hi.new.trans hv
  simp at hv
theorem qP (l : List It) : Fit 5 (l.map It.vals) := ⟨fun v hv => by obtain ⟨x, _, rfl⟩ := List.mem_map.1 hv; rfl, fun v hv => by obtain ⟨x, _, rfl⟩ := List.mem_map.1 hv; exact G1 x⟩
theorem sU (l : List Int) : Fit 1 (l.map fun n => [iv n]) := ⟨fun v hv => by obtain ⟨x, _, rfl⟩ := List.mem_map.1 hv; rfl, fun v hv u hu => by obtain ⟨x, _, rfl⟩ := List.mem_map.1 hv; rw [List.mem_singleton.1 hu]; rfl⟩
theorem aU (l : List Pl) : Fit 5 (l.map Pl.vals) := ⟨fun v hv => by obtain ⟨x, _, rfl⟩ := List.mem_map.1 hv; rfl, fun v hv u hu => by
  obtain ⟨x, _, rfl⟩ := List.mem_map.1 hv; unfold Pl.vals at hu; simp only [List.mem_cons, List.not_mem_nil, or_false] at hu; rcases hu with rfl | rfl | rfl | rfl | rfl <;> rfl⟩
theorem vP (p : Pr) (y : Lay) : ∀ u ∈ p.vals y, u.oneCell' = true := fun u hu => by
  unfold Pr.vals at hu; simp only [List.mem_cons, List.not_mem_nil, or_false] at hu; rcases hu with rfl | rfl | rfl | rfl | rfl <;> rfl
theorem GX (d : De) : ∀ u ∈ d.vals, u.oneCell' = true := fun u hu => by
  unfold De.vals at hu; simp only [List.mem_cons, List.not_mem_nil, or_false] at hu; rcases hu with rfl | rfl | rfl | rfl <;> rfl
theorem vQ (p : Co) (y : Lay) : ∀ u ∈ p.vals y, u.oneCell' = true := fun u hu => by
  unfold Co.vals at hu; simp only [List.mem_cons, List.not_mem_nil, or_false] at hu; rcases hu with rfl | rfl | rfl | rfl | rfl | rfl <;> rfl
theorem jV {α β γ : Type} {f : α -> β -> γ} {v : γ} : ∀ {l : List α} {m : List β}, v ∈ List.zipWith f l m -> ∃ a b, v = f a b
  | [], _, h => by simp at h
  | _ :: _, [], h => by simp at h
  | a :: l, b :: m, h => by
    rw [List.zipWith_cons_cons] at h; rcases List.mem_cons.1 h with h | h
    · exact ⟨a, b, h⟩
    exact jV h
theorem h_ (l : List Pr) (ys : List Lay) : Fit 5 (List.zipWith Pr.vals l ys) := ⟨fun v hv => by obtain ⟨p, y, rfl⟩ := jV hv; rfl, fun v hv => by obtain ⟨p, y, rfl⟩ := jV hv; exact vP p y⟩
theorem fG (l : List De) : Fit 4 (l.map De.vals) := ⟨fun v hv => by obtain ⟨x, _, rfl⟩ := List.mem_map.1 hv; rfl, fun v hv => by obtain ⟨x, _, rfl⟩ := List.mem_map.1 hv; exact GX x⟩
theorem iI (l : List Co) (ys : List Lay) : Fit 6 (List.zipWith Co.vals l ys) := ⟨fun v hv => by obtain ⟨p, y, rfl⟩ := jV hv; rfl, fun v hv => by obtain ⟨p, y, rfl⟩ := jV hv; exact vQ p y⟩
theorem Kk : Elem 48 64 (.agg #[iv 0, iv 0, iv 0, .bool false, iv 0]) 5 40 := ⟨Tryz.underlying48, by kernel_rfl, rfl, by decide, by decide⟩
theorem AZ (A : Option Addr) (vs : List (List Value)) (cap : Nat) (w : World) (h : Sl w A 5 vs) (hf : Fit 5 vs) (hc : A = none -> cap = 0) (hl : vs.length <= 100000) :
    Calls Tryz.prog 87 #[.slice A vs.length cap] w fun e w' => (∃ v, e = .returned v /\ w'.ownsRow w.heap.size 64 5 v vs.length vs.flatten) /\ Below w.heap.size w w' := by
  cases A with
  | none =>
    have hv := rW h; subst hv; obtain rfl := hc rfl; have q1 := fun w => Lib.run_eql_slice_nil_nil (P := Tryz.prog) w 0 0 Tryz.underlying48
    go_enter Tryz.func87, Tryz.ntmps87
    go_wp2_with fail
    go_returns
    exact ⟨⟨_, rfl, World.ownsRow_nil _ _ _ _⟩, Below.refl _ _⟩
  | some ad =>
    have hb := av w (.cells #[] 64); have ho : (w.alloc (.cells #[] 64)).ownsRow w.heap.size 64 5 (.slice (some ⟨w.heap.size, 0, none⟩) 0 0) 0 [] := World.ownsRow_made (base := w.heap.size) w #[] 0 (Nat.le_refl _) (Nat.zero_le _) rfl; obtain ⟨v', w', hrun, hrow, hg, _⟩ := aZ Kk (w.alloc (.cells #[] 64)) 48 w.heap.size _ [] vs (some ad) cap (Fit.nil _) hf ho (h.later hb) (fun e => by cases e) (by simp only [List.length_nil]; omega) hb.size; rw [List.nil_append] at hrow; have dW := ak hrow; have HB : Hid (Below w.heap.size w w') := ak (Below.grown hb hg hb.size (fun k hk => (ho.lt k hk).1)); obtain ⟨n, hn⟩ := ah vs.length; rw [hn] at hrun; have dQ := ak hrun; have HN := ak hn; rw [hn]; clear h hf hc hl hb ho hrun hrow hg hn; have q1 := fun w => Lib.run_eql_slice_some_nil (P := Tryz.prog) w ad n cap Tryz.underlying48
    go_enter Tryz.func87, Tryz.ntmps87
    go_wp2_with (at_builtin
                 refine Lib.wpList_append_run (w.alloc (.cells #[] 64)) rfl (.tmp 5) (.tmp 6) 48 48 rfl (.slice (some ⟨w.heap.size, 0, none⟩) 0 0) (.slice (some ad) n cap) rfl rfl _ _ dQ.o ?_)
    go_returns
    exact ⟨⟨_, rfl, by have h := dW.o; rw [HN.o] at h; exact h⟩, HB.o⟩
theorem T_ : Elem 49 3 (iv 0) 1 8 := ⟨Tryz.underlying49, by kernel_rfl, rfl, by decide, by decide⟩
theorem E9 (A : Option Addr) (vs : List (List Value)) (cap : Nat) (w : World) (h : Sl w A 1 vs) (hf : Fit 1 vs) (hc : A = none -> cap = 0) (hl : vs.length <= 100000) :
    Calls Tryz.prog 88 #[.slice A vs.length cap] w fun e w' => (∃ v, e = .returned v /\ w'.ownsRow w.heap.size 3 1 v vs.length vs.flatten) /\ Below w.heap.size w w' := by
  cases A with
  | none =>
    have hv := rW h; subst hv; obtain rfl := hc rfl; have q1 := fun w => Lib.run_eql_slice_nil_nil (P := Tryz.prog) w 0 0 Tryz.underlying49
    go_enter Tryz.func88, Tryz.ntmps88
    go_wp2_with fail
    go_returns
    exact ⟨⟨_, rfl, World.ownsRow_nil _ _ _ _⟩, Below.refl _ _⟩
  | some ad =>
    have hb := av w (.cells #[] 3); have ho : (w.alloc (.cells #[] 3)).ownsRow w.heap.size 3 1 (.slice (some ⟨w.heap.size, 0, none⟩) 0 0) 0 [] := World.ownsRow_made (base := w.heap.size) w #[] 0 (Nat.le_refl _) (Nat.zero_le _) rfl; obtain ⟨v', w', hrun, hrow, hg, _⟩ := aZ T_ (w.alloc (.cells #[] 3)) 49 w.heap.size _ [] vs (some ad) cap (Fit.nil _) hf ho (h.later hb) (fun e => by cases e) (by simp only [List.length_nil]; omega) hb.size; rw [List.nil_append] at hrow; have dW := ak hrow; have HB : Hid (Below w.heap.size w w') := ak (Below.grown hb hg hb.size (fun k hk => (ho.lt k hk).1)); obtain ⟨n, hn⟩ := ah vs.length; rw [hn] at hrun; have dQ := ak hrun; have HN := ak hn; rw [hn]; clear h hf hc hl hb ho hrun hrow hg hn; have q1 := fun w => Lib.run_eql_slice_some_nil (P := Tryz.prog) w ad n cap Tryz.underlying49
    go_enter Tryz.func88, Tryz.ntmps88
    go_wp2_with (at_builtin
                 refine Lib.wpList_append_run (w.alloc (.cells #[] 3)) rfl (.tmp 5) (.tmp 6) 49 49 rfl (.slice (some ⟨w.heap.size, 0, none⟩) 0 0) (.slice (some ad) n cap) rfl rfl _ _ dQ.o ?_)
    go_returns
    exact ⟨⟨_, rfl, by have h := dW.o; rw [HN.o] at h; exact h⟩, HB.o⟩
theorem xX : Elem 27 66 (.agg #[iv 0, iv 0, iv 0, iv 0, iv 0]) 5 40 := ⟨Tryz.underlying27, by kernel_rfl, rfl, by decide, by decide⟩
theorem ze (A : Option Addr) (vs : List (List Value)) (cap : Nat) (w : World) (h : Sl w A 5 vs) (hf : Fit 5 vs) (hc : A = none -> cap = 0) (hl : vs.length <= 100000) :
    Calls Tryz.prog 50 #[.slice A vs.length cap] w fun e w' => (∃ v, e = .returned v /\ w'.ownsRow w.heap.size 66 5 v vs.length vs.flatten) /\ Below w.heap.size w w' := by
  cases A with
  | none =>
    have hv := rW h; subst hv; obtain rfl := hc rfl; have q1 := fun w => Lib.run_eql_slice_nil_nil (P := Tryz.prog) w 0 0 Tryz.underlying27
    go_enter Tryz.func50, Tryz.ntmps50
    go_wp2_with fail
    go_returns
    exact ⟨⟨_, rfl, World.ownsRow_nil _ _ _ _⟩, Below.refl _ _⟩
  | some ad =>
    have hb := av w (.cells #[] 66); have ho : (w.alloc (.cells #[] 66)).ownsRow w.heap.size 66 5 (.slice (some ⟨w.heap.size, 0, none⟩) 0 0) 0 [] := World.ownsRow_made (base := w.heap.size) w #[] 0 (Nat.le_refl _) (Nat.zero_le _) rfl; obtain ⟨v', w', hrun, hrow, hg, _⟩ := aZ xX (w.alloc (.cells #[] 66)) 27 w.heap.size _ [] vs (some ad) cap (Fit.nil _) hf ho (h.later hb) (fun e => by cases e) (by simp only [List.length_nil]; omega) hb.size; rw [List.nil_append] at hrow; have dW := ak hrow; have HB : Hid (Below w.heap.size w w') := ak (Below.grown hb hg hb.size (fun k hk => (ho.lt k hk).1)); obtain ⟨n, hn⟩ := ah vs.length; rw [hn] at hrun; have dQ := ak hrun; have HN := ak hn; rw [hn]; clear h hf hc hl hb ho hrun hrow hg hn; have q1 := fun w => Lib.run_eql_slice_some_nil (P := Tryz.prog) w ad n cap Tryz.underlying27
    go_enter Tryz.func50, Tryz.ntmps50
    go_wp2_with (at_builtin
                 refine Lib.wpList_append_run (w.alloc (.cells #[] 66)) rfl (.tmp 5) (.tmp 6) 27 27 rfl (.slice (some ⟨w.heap.size, 0, none⟩) 0 0) (.slice (some ad) n cap) rfl rfl _ _ dQ.o ?_)
    go_returns
    exact ⟨⟨_, rfl, by have h := dW.o; rw [HN.o] at h; exact h⟩, HB.o⟩
theorem mA : Elem 28 78 (.agg #[iv 0, iv 0, iv 0, .slice none 0 0, .slice none 0 0]) 5 72 := ⟨Tryz.underlying28, by kernel_rfl, rfl, by decide, by decide⟩
theorem zZ : Elem 29 79 (.agg #[iv 0, iv 0, iv 0, .bool false]) 4 32 := ⟨Tryz.underlying29, by kernel_rfl, rfl, by decide, by decide⟩
theorem E_ (A : Option Addr) (vs : List (List Value)) (cap : Nat) (w : World) (h : Sl w A 4 vs) (hf : Fit 4 vs) (hc : A = none -> cap = 0) (hl : vs.length <= 100000) :
    Calls Tryz.prog 51 #[.slice A vs.length cap] w fun e w' => (∃ v, e = .returned v /\ w'.ownsRow w.heap.size 79 4 v vs.length vs.flatten) /\ Below w.heap.size w w' := by
  cases A with
  | none =>
    have hv := rW h; subst hv; obtain rfl := hc rfl; have q1 := fun w => Lib.run_eql_slice_nil_nil (P := Tryz.prog) w 0 0 Tryz.underlying29
    go_enter Tryz.func51, Tryz.ntmps51
    go_wp2_with fail
    go_returns
    exact ⟨⟨_, rfl, World.ownsRow_nil _ _ _ _⟩, Below.refl _ _⟩
  | some ad =>
    have hb := av w (.cells #[] 79); have ho : (w.alloc (.cells #[] 79)).ownsRow w.heap.size 79 4 (.slice (some ⟨w.heap.size, 0, none⟩) 0 0) 0 [] := World.ownsRow_made (base := w.heap.size) w #[] 0 (Nat.le_refl _) (Nat.zero_le _) rfl; obtain ⟨v', w', hrun, hrow, hg, _⟩ := aZ zZ (w.alloc (.cells #[] 79)) 29 w.heap.size _ [] vs (some ad) cap (Fit.nil _) hf ho (h.later hb) (fun e => by cases e) (by simp only [List.length_nil]; omega) hb.size; rw [List.nil_append] at hrow; have dW := ak hrow; have HB : Hid (Below w.heap.size w w') := ak (Below.grown hb hg hb.size (fun k hk => (ho.lt k hk).1)); obtain ⟨n, hn⟩ := ah vs.length; rw [hn] at hrun; have dQ := ak hrun; have HN := ak hn; rw [hn]; clear h hf hc hl hb ho hrun hrow hg hn; have q1 := fun w => Lib.run_eql_slice_some_nil (P := Tryz.prog) w ad n cap Tryz.underlying29
    go_enter Tryz.func51, Tryz.ntmps51
    go_wp2_with (at_builtin
                 refine Lib.wpList_append_run (w.alloc (.cells #[] 79)) rfl (.tmp 5) (.tmp 6) 29 29 rfl (.slice (some ⟨w.heap.size, 0, none⟩) 0 0) (.slice (some ad) n cap) rfl rfl _ _ dQ.o ?_)
    go_returns
    exact ⟨⟨_, rfl, by have h := dW.o; rw [HN.o] at h; exact h⟩, HB.o⟩
theorem GV : Elem 30 80 (.agg #[iv 0, iv 0, iv 0, .slice none 0 0, .slice none 0 0, .bool false]) 6 80 := ⟨Tryz.underlying30, by kernel_rfl, rfl, by decide, by decide⟩
