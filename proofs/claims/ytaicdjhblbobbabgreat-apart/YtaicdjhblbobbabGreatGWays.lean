/- Contract of the Kernel's ways: what is in the way of a lock. -/
import Derived.Test.YtaicdjhblbobbabGreatGMem
namespace Go.Proofs.YtaicdjhblbobbabGreat
open Go.RowKit Go.Lib

theorem Tryz.infoInts : (Tryz.prog.info? 22).map (fun i => (i.zero, i.size, i.bytes)) = some (some (.slice none 0 0), 1, 24) := by kernel_rfl
/-- A list of lists that is being made, above base. -/
structure WaysB (base : Nat) (w : World) (u : Value) (L : List (List Int)) (us : List Value) : Prop where
  len : us.length = L.length
  own : w.ownsRow base 22 1 u L.length us
  each : ∀ (j : Nat) c t, L[j]? = some c → us[j]? = some t → w.ownsRow base 3 1 t c.length (ints c)
theorem WaysB.nil (base : Nat) (w : World) : WaysB base w (.slice none 0 0) [] [] := ⟨rfl, World.ownsRow_nil _ _ _ _, fun j c t h => by simp at h⟩
theorem WaysB.at' {base : Nat} {w : World} {u : Value} {L : List (List Int)} {us : List Value} (h : WaysB base w u L us) : WaysAt w u L us :=
  ⟨h.len, own_mono h.own (Nat.zero_le _), fun j c t h1 h2 => own_mono (h.each j c t h1 h2) (Nat.zero_le _)⟩
theorem WaysB.below {base : Nat} {w w' : World} {u : Value} {L : List (List Int)} {us : List Value} (h : WaysB base w u L us) (hb : Below w.heap.size w w') : WaysB base w' u L us :=
  ⟨h.len, own_below h.own hb, fun j c t h1 h2 => own_below (h.each j c t h1 h2) hb⟩
theorem WaysB.snoc {base : Nat} {w w' : World} {u u' : Value} {L : List (List Int)} {us : List Value} (h : WaysB base w u L us) {c : List Int} {t : Value} (ht : w.ownsRow base 3 1 t c.length (ints c))
    (ho : w'.ownsRow base 22 1 u' (L.length + 1) (us ++ [t])) (hold : ∀ b, b < w.heap.size → u.ownBlock ≠ some b → w'.heap[b]? = w.heap[b]?) : WaysB base w' u' (L ++ [c]) (us ++ [t]) := by
  have key : ∀ {t : Value} {c : List Int}, w.ownsRow base 3 1 t c.length (ints c) → w'.ownsRow base 3 1 t c.length (ints c) := fun {t c} hx =>
    own_blk hx fun b e => hold b (hx.lt b e).2 (fun e2 => by
      obtain ⟨c1, h1⟩ := own_tag hx e
      obtain ⟨c2, h2⟩ := own_tag h.own e2
      rw [h1] at h2
      cases h2)
  refine ⟨by simp [h.len], by simpa using ho, fun j d x h1 h2 => ?_⟩
  by_cases hj : j < L.length
  · rw [List.getElem?_append_left hj] at h1
    rw [List.getElem?_append_left (by rw [h.len]; exact hj)] at h2
    exact key (h.each j d x h1 h2)
  · have hjl : j = L.length := by
      have := (List.getElem?_eq_some_iff.1 h1).1
      simp at this
      omega
    subst hjl
    simp only [List.getElem?_concat_length, Option.some.injEq] at h1
    rw [← h.len] at h2
    simp only [List.getElem?_concat_length, Option.some.injEq] at h2
    subst h1 h2
    exact key ht

/-- The place of a file's locks in the Kernel. -/
theorem KV.pair {w : World} {kb tb mb : Nat} {g : Int} {P : Nat → Prop} {ι : Nat → Nat} {s : DS} {rv wv : Nat → Value} {qv : Value} (h : KV w kb tb mb g P ι s rv wv qv) {W : World} (hb : Below w.heap.size w W) (i : Nat) (hi : i < 3) :
    W.cell? ⟨kb, 3 + i * 2, none⟩ = some (rv i) ∧ W.cell? ⟨kb, 3 + i * 2 + 1, none⟩ = some (wv i) :=
  ⟨(hb.cell (p := ⟨kb, _, none⟩) h.lt).trans (h.cr i hi), (hb.cell (p := ⟨kb, _, none⟩) h.lt).trans (h.cw i hi)⟩

/-- What the program is told of a lock. -/
def waysP (hs : List Int) (us : List (List Int)) (qs : List Int) : List (List Int) := (hs.map fun p => [p]) ++ us ++ (qs.map fun p => [p])
theorem DS.Rn.ways {s : DS} {ι : Nat → Nat} (h : s.Rn ι) {a : Ask} (ha : s.AskSm a) {l : List Ask} (hl : ∀ b, b ∈ l → s.AskSm b) :
    waysP (onceI (bitersP (s.R a.file) a.rn)) ((wbP (renW ι (s.W a.file)) (renA ι a).ow a.wk).map (usersG (renF ι s.F))) (qbP (renQ ι l) (renA ι a)) = s.wayP a l := by
  unfold waysP DS.wayP
  rw [holders_eq (h.sm.rp a.file), h.wb ha, h.qb ha hl, List.map_map, List.map_map]
  congr 2
  exact List.map_congr_left fun x hx => h.users (h.sm.w a.file x (List.mem_filter.1 hx).1)

theorem own_one {w : World} {B : Nat} (hB : B ≤ w.heap.size) (x : Int) : (w.alloc (.cells #[.int .i64 x] 3)).ownsRow B 3 1 (.slice (some ⟨w.heap.size, 0, none⟩) 1 1) [x].length (ints [x]) :=
  ⟨by simp [ints], Or.inr ⟨w.heap.size, 1, #[.int .i64 x], rfl, hB, heap_alloc_new w _, Nat.le_refl _, by unfold maxLen; omega, by simp, by simp [ints]⟩⟩
/-- A row of another type stays where one row grew. -/
theorem own_hold {w w' : World} {b1 b2 : Nat} {t1 t2 : TypeId} {z1 z2 : Nat} {v u : Value} {n m : Nat} {xs ys : List Value} (h1 : w.ownsRow b1 t1 z1 v n xs) (h2 : w.ownsRow b2 t2 z2 u m ys) (ht : t1 ≠ t2) (hold : ∀ b, b < w.heap.size → u.ownBlock ≠ some b → w'.heap[b]? = w.heap[b]?) : w'.ownsRow b1 t1 z1 v n xs :=
  own_blk h1 fun b e => hold b (h1.lt b e).2 fun e2 => by
    obtain ⟨c1, k1⟩ := own_tag h1 e
    obtain ⟨c2, k2⟩ := own_tag h2 e2
    rw [k1] at k2
    cases k2
    exact ht rfl

set_option maxHeartbeats 8000000 in
set_option maxRecDepth 100000 in
theorem ways_any {w : World} {kb tb mb : Nat} {g : Int} {P : Nat → Prop} {ι : Nat → Nat} {s : DS} {rv wv : Nat → Value} {qv : Value} (h : KV w kb tb mb g P ι s rv wv qv) (a : Ask) (ha : s.AskSm a) (av : Value) (l : List Ask) (hl : ∀ b, b ∈ l → s.AskSm b) (hln : l.length < 900)
    (hav : w.ownsRow 0 93 8 av (renQ ι l).length (flatQ (renQ ι l))) :
    Calls Tryz.prog 58 #[.pointer (some ⟨kb, 0, none⟩), askV (renA ι a), av] w fun e w' => ∃ v' us, e = .returned v' ∧ WaysAt w' v' (s.wayP a l) us ∧ Below w.heap.size w w' := by
  have hf3 := ha.file
  have hkl := h.lt
  have HK := Hid.mk (fun (W : World) (hb : Below w.heap.size w W) => h.pair hb a.file hf3)
  have hK2 := h.c2
  have HR := Hid.mk (fun (W : World) (hb : Below w.heap.size w W) => Biters_any (v := rv a.file) a.rn (own_below (h.r a.file hf3) hb) (by have := h.sm.len a.file; omega))
  have HW := Hid.mk (fun (W : World) (hb : Below w.heap.size w W) => wBiters_any (v := wv a.file) (renA ι a).ow a.wk (own_below (h.wr a.file hf3) hb) (by rw [renW_len]; have := h.sm.wl a.file; omega)
    (fun x hx => by
      obtain ⟨y, hy, rfl⟩ := List.mem_map.1 hx
      exact (h.opn (h.sm.w a.file y hy)).below hb)
    (fun b e => by
      rw [renA_ow] at e
      cases eo : a.ow with
      | none => rw [eo] at e; cases e
      | some o => rw [eo] at e; cases e; exact (h.opn (ow_lt ha eo)).below hb))
  have HU := Hid.mk (fun (W : World) (hb : Below w.heap.size w W) (b : Nat) (hb2 : Opn w b) => Users_any (h.t.of_block (hb.block tb h.t.lt)) (h.m.of_block (hb.block mb h.m.lt)) b (hb2.below hb) (fun q d x e => (h.opnG q d x e).below hb))
  have HWO : Hid (∀ b, b ∈ wbP (renW ι (s.W a.file)) (renA ι a).ow a.wk → Opn w b) := fun b hb => by
    unfold wbP at hb
    obtain ⟨y, hy, rfl⟩ := List.mem_map.1 hb
    obtain ⟨z, hz, rfl⟩ := List.mem_map.1 (List.mem_filter.1 hy).1
    exact h.opn (h.sm.w a.file z hz)
  have HQ := Hid.mk (fun (W : World) (hb : Below w.heap.size w W) => qBiters_any (v := av) (l := renQ ι l) (renA ι a) (own_below hav hb) (by rw [renQ_len]; omega)
    (fun x hx y e => by
      obtain ⟨z, hz, rfl⟩ := List.mem_map.1 hx
      rw [renA_ow] at e
      cases eo : z.ow with
      | none => rw [eo] at e; cases e
      | some o => rw [eo] at e; cases e; exact (h.opn (ow_lt (hl z hz) eo)).below hb)
    (fun y e => by
      rw [renA_ow] at e
      cases eo : a.ow with
      | none => rw [eo] at e; cases e
      | some o => rw [eo] at e; cases e; exact (h.opn (ow_lt ha eo)).below hb))
  have HE := Hid.mk (h.rn.ways ha hl)
  have hl1 : (onceI (bitersP (s.R a.file) a.rn)).length < 100 := by
    rw [holders_eq (h.sm.rp a.file)]
    unfold holders
    have := List.length_filter_le (fun q => (s.R a.file).any fun x => decide (x.p = q) && a.rn.bites x) ps6
    have e : ps6.length = 6 := rfl
    omega
  have hl2 : (wbP (renW ι (s.W a.file)) (renA ι a).ow a.wk).length ≤ 100 := by
    have := wbP_len (renW ι (s.W a.file)) (renA ι a).ow a.wk
    rw [renW_len] at this
    have := h.sm.wl a.file
    omega
  have hl3 : (qbP (renQ ι l) (renA ι a)).length < 900 := by
    have := qbP_len (renQ ι l) (renA ι a)
    rw [renQ_len] at this
    omega
  rw [← HE.out]
  obtain ⟨ra, rc, hra⟩ := own_form (h.r a.file hf3)
  obtain ⟨wa, wc, hwa⟩ := own_form (h.wr a.file hf3)
  rw [hra] at HK HR
  rw [hwa] at HK HW
  clear hra hwa
  generalize (s.R a.file).length = rl at *
  generalize (renW ι (s.W a.file)).length = wl at *
  generalize onceI (bitersP (s.R a.file) a.rn) = hs at *
  generalize wbP (renW ι (s.W a.file)) (renA ι a).ow a.wk = ws at *
  generalize qbP (renQ ι l) (renA ι a) = qs at *
  generalize usersG (renF ι s.F) = uf at *
  obtain ⟨qa, qc, rfl⟩ := own_form hav
  unfold askV at HQ ⊢
  rw [renA_rn, renA_wk, renA_p, renA_file] at HQ ⊢
  have HBX := Hid.mk (fun (W : World) (B : Nat) (hB : w.heap.size < B) (hb : Below B (w.alloc (.cells #[.int .i64 a.p, .int .i64 a.file, .int .i64 a.rn.p, .int .i64 a.rn.k, .int .i64 a.rn.f, .int .i64 a.rn.t, ptrV (renA ι a).ow, .int .i64 a.wk] 93)) W) => boxed_at (a := renA ι a) (by unfold Ask.boxed; rw [renA_rn, renA_wk, renA_p, renA_file]; exact hb) hB)
  simp only [renA_rn, renA_wk, renA_p, renA_file] at HBX
  unfold ptrV at *
  generalize (renA ι a).ow.map (fun b => (⟨b, 0, none⟩ : Addr)) = A at *
  generalize a.rn = rn at *
  generalize a.wk = wk at *
  generalize a.p = ap at *
  generalize a.file = i at *
  have hi0 : (0 : Int) ≤ (i : Int) := by omega
  have hi3 : (i : Int) < 3 := by omega
  clear h ha hl hav HE hln
  obtain ⟨cr, cw⟩ := HK.out (w.alloc (.cells #[.int .i64 ap, .int .i64 i, .int .i64 rn.p, .int .i64 rn.k, .int .i64 rn.f, .int .i64 rn.t, .pointer A, .int .i64 wk] 93)) ((Below.refl _ _).alloc (Nat.le_refl _) _)
  go_enter Tryz.func58, Tryz.ntmps58
  go_wp2
  go_region
  go_wp2_with (go_at_call 80; refine (HR.out _ ?_).mono ?_; exact (((Below.refl _ _).alloc (Nat.le_refl _) _).alloc (by simp) _).drew; rintro e w1 ⟨v1, rfl, ho1, hb1⟩; obtain ⟨a1, c1, rfl⟩ := own_form ho1; have hz1 := hb1.size; simp at hz1; have HB1 : Hid (Below w.heap.size w w1) := (((Below.refl _ _).alloc (Nat.le_refl _) _).alloc (by simp) _).drew.trans (hb1.mono (by simp <;> omega)); have HD := Hid.mk (HBX.out w1 (w.heap.size + 1) (Nat.lt_succ_self _) ((((Below.refl _ _).alloc (by simp) _).drew).trans (hb1.mono (by simp)))); have HD8 : Hid (w1.cell? ⟨w.heap.size + 1, 0, none⟩ = some (.slice ra rl rc) ∧ w1.cell? ⟨w.heap.size + 1, 1, none⟩ = some (.slice wa wl wc)) := ⟨((bcells hb1).1 _ _ (by simp)).trans (by simp), ((bcells hb1).1 _ _ (by simp)).trans (by simp)⟩; have HO1 := Hid.mk ho1; clear hb1 ho1)
  have HK2 : Hid (w1.cell? ⟨kb, 2, none⟩ = some (.pointer (some ⟨tb, 0, none⟩))) := (HB1.out.cell (p := ⟨kb, 2, none⟩) hkl).trans hK2
  have hkw1 : kb < w1.heap.size := by omega
  clear HK HBX hK2 cr cw HR
  go_loopw [7, 10, 28] (fun s7 _ s28 wr => ∃ (n : Nat) (us : List Value), s28 = .int .i64 n ∧ n ≤ hs.length ∧ Hid (WaysB w1.heap.size wr s7 ((hs.take n).map fun p => [p]) us) ∧ Hid (Below w1.heap.size w1 wr)) (fun _ _ s28 _ => hs.length - (intOf s28).toNat)
  case atStart => exact ⟨0, [], rfl, Nat.zero_le _, WaysB.nil _ _, Below.refl _ _⟩
  case round =>
    obtain ⟨n, us, rfl, hn, HU1, HBr⟩ := hrel
    have hsz : w1.heap.size ≤ wr.heap.size := HBr.out.size
    by_cases hlt : n < hs.length
    · obtain ⟨x, hx⟩ : ∃ x, hs[n]? = some x := ⟨_, List.getElem?_eq_getElem hlt⟩
      obtain ⟨gb, rfl, _, hg, _, hcell⟩ := own_some HO1.out (by omega)
      have hlt' : (n : Int) < (hs.length : Int) := by omega
      have cx : wr.cell? ⟨gb, n, none⟩ = some (.int .i64 x) := (HBr.out.cell (p := ⟨gb, n, none⟩) hg).trans ((hcell n (by omega)).trans (ints_get hx))
      have hgw : gb < wr.heap.size := by omega
      have HT : Hid ((hs.take (n + 1)).map (fun p => [p]) = (hs.take n).map (fun p => [p]) ++ [[x]]) := by show _ = _; rw [List.take_add_one, hx]; simp
      have hll : ((hs.take n).map fun p => [p]).length ≤ 100 := by simp; omega
      obtain ⟨ua, uc, rfl⟩ := own_form HU1.out.own
      clear hcell hx
      go_wp2_with (at_builtin; refine wpList_snoc rfl _ _ _ rfl Tryz.underlying117 Tryz.infoInts rfl (by decide) (by decide) rfl (HU1.out.own.alloc _) (by simp; omega) (by omega) (cs := #[.slice (some ⟨wr.heap.size, 0, none⟩) 1 1]) rfl (by simp) rfl (by simp [Value.oneCell']) ?_; intro v2 w2 ho2 hb2 hz2 hold2; have HO2 := Hid.mk ho2; have HB2 := Hid.mk hb2; have HOL := Hid.mk hold2; clear ho2 hb2 hold2)
      go_roundw
      case rel =>
        refine ⟨n + 1, us ++ [.slice (some ⟨wr.heap.size, 0, none⟩) 1 1], by go_num, by omega, ?_, (HBr.out.alloc hsz _).trans HB2.out⟩
        rw [HT.out]
        exact (HU1.out.below ((Below.refl _ _).alloc (Nat.le_refl _) _)).snoc (own_one hsz x) HO2.out HOL.out
      case measure => simp [intOf]; omega
    · obtain rfl : n = hs.length := by omega
      have HU2 := HU1.out
      rw [List.take_of_length_le (Nat.le_refl _)] at HU2
      have HU3 := Hid.mk HU2
      clear HU1 HU2
      obtain ⟨d0, d1, d2, d3, d4, d5, d6, d7⟩ := HD.out
      obtain ⟨d8, d9⟩ := HD8.out
      have e6 : wr.cell? ⟨w.heap.size, 6, none⟩ = some (.pointer A) := (HBr.out.cell (p := ⟨w.heap.size, 6, none⟩) (by show w.heap.size < _; omega)).trans d6
      have e7 : wr.cell? ⟨w.heap.size, 7, none⟩ = some (.int .i64 wk) := (HBr.out.cell (p := ⟨w.heap.size, 7, none⟩) (by show w.heap.size < _; omega)).trans d7
      have e9 : wr.cell? ⟨w.heap.size + 1, 1, none⟩ = some (.slice wa wl wc) := (HBr.out.cell (p := ⟨w.heap.size + 1, 1, none⟩) (by show w.heap.size + 1 < _; omega)).trans d9
      have hww : w.heap.size < wr.heap.size := by omega
      have hww1 : w.heap.size + 1 < wr.heap.size := by omega
      clear d0 d1 d2 d3 d4 d5 d6 d7 d8 d9
      go_wp2_with (go_at_call 81; refine (HW.out _ (HB1.out.trans (HBr.out.mono (by omega)))).mono ?_; rintro e w2 ⟨v2, rfl, ho2, hb2⟩; obtain ⟨a2, c2, rfl⟩ := own_form ho2; have hz2 := hb2.size; have HB2 : Hid (Below w1.heap.size w1 w2) := HBr.out.trans (hb2.mono hsz); have HU4 := Hid.mk (HU3.out.below hb2); have HO2 := Hid.mk (own_mono ho2 (Nat.zero_le _)); clear hb2 ho2)
      clear HU3 HBr HW e6 e7 e9 hww hww1 hsz
      go_loopw [7, 12, 44] (fun s7 _ s44 wq => ∃ (n : Nat) (us : List Value), s44 = .int .i64 n ∧ n ≤ ws.length ∧ Hid (WaysB w1.heap.size wq s7 ((hs.map fun p => [p]) ++ (ws.take n).map uf) us) ∧ Hid (wq.ownsRow 0 89 1 (.slice a2 ws.length c2) ws.length (ptrs ws)) ∧ Hid (Below w1.heap.size w1 wq)) (fun _ _ s44 _ => ws.length - (intOf s44).toNat)
      case atStart => exact ⟨0, us, rfl, Nat.zero_le _, by show WaysB _ _ _ _ _; simpa using HU4.out, HO2.out, HB2.out⟩
      case round =>
        obtain ⟨n, us2, rfl, hn2, HU5, HO3, HBq⟩ := hrel
        clear HU4 HO2 HB2
        have hsz : w1.heap.size ≤ wr.heap.size := HBq.out.size
        by_cases hlt2 : n < ws.length
        · obtain ⟨x, hx⟩ : ∃ x, ws[n]? = some x := ⟨_, List.getElem?_eq_getElem hlt2⟩
          obtain ⟨gb, rfl, _, hg, _, hcell⟩ := own_some HO3.out (by omega)
          have hlt' : (n : Int) < (ws.length : Int) := by omega
          have cx : wr.cell? ⟨gb, n, none⟩ = some (.pointer (some ⟨x, 0, none⟩)) := (hcell n (by omega)).trans (by simp [ptrs, hx])
          have ck : wr.cell? ⟨kb, 2, none⟩ = some (.pointer (some ⟨tb, 0, none⟩)) := (HBq.out.cell (p := ⟨kb, 2, none⟩) hkw1).trans HK2.out
          have HT : Hid ((hs.map fun p => [p]) ++ (ws.take (n + 1)).map uf = ((hs.map fun p => [p]) ++ (ws.take n).map uf) ++ [uf x]) := by show _ = _; rw [List.take_add_one, hx]; simp
          have hll : ((hs.map fun p => [p]) ++ (ws.take n).map uf).length ≤ 300 := by simp; omega
          have hkq : kb < wr.heap.size := by omega
          generalize ((hs.map fun p => [p]) ++ (ws.take n).map uf) = L at HU5 HT hll
          obtain ⟨ua, uc, rfl⟩ := own_form HU5.out.own
          have HUX := Hid.mk (HU.out wr (HB1.out.trans (HBq.out.mono (by omega))) x (HWO.out x (List.mem_of_getElem? hx)))
          clear hcell hx
          go_wp2_with (first
            | (go_at_call 53; refine HUX.out.mono ?_; rintro e w3 ⟨v3, rfl, ho3, hb3⟩; obtain ⟨a3, c3, rfl⟩ := own_form ho3; have hz3 := hb3.size; have HO4 := Hid.mk ho3; have HB3 := Hid.mk hb3; clear ho3 hb3)
            | (at_builtin; refine wpList_snoc rfl _ _ _ rfl Tryz.underlying117 Tryz.infoInts rfl (by decide) (by decide) rfl (own_below HU5.out.own HB3.out) (by omega) (by omega) (cs := #[.slice a3 (uf x).length c3]) rfl (by simp) rfl (by simp [Value.oneCell']) ?_; intro v4 w4 ho4 hb4 hz4 hold4; have HO5 := Hid.mk ho4; have HB4 := Hid.mk hb4; have HOL := Hid.mk hold4; clear ho4 hb4 hold4))
          go_roundw
          case rel =>
            have hW3 := HU5.out.below HB3.out
            refine ⟨n + 1, us2 ++ [.slice a3 (uf x).length c3], by go_num, by omega, ?_, own_hold (own_below HO3.out HB3.out) hW3.own (by decide) HOL.out, (HBq.out.trans (HB3.out.mono hsz)).trans HB4.out⟩
            rw [HT.out]
            exact hW3.snoc (own_mono HO4.out hsz) HO5.out HOL.out
          case measure => simp [intOf]; omega
        · obtain rfl : n = ws.length := by omega
          have HU6 := HU5.out
          rw [List.take_of_length_le (Nat.le_refl _)] at HU6
          have HU7 := Hid.mk HU6
          clear HU5 HU6 HO3
          obtain ⟨d0, d1, d2, d3, d4, d5, d6, d7⟩ := HD.out
          have hlt0 : w.heap.size < w1.heap.size := by omega
          have f0 := (HBq.out.cell (p := ⟨w.heap.size, 0, none⟩) hlt0).trans d0
          have f1 := (HBq.out.cell (p := ⟨w.heap.size, 1, none⟩) hlt0).trans d1
          have f2 := (HBq.out.cell (p := ⟨w.heap.size, 2, none⟩) hlt0).trans d2
          have f3 := (HBq.out.cell (p := ⟨w.heap.size, 3, none⟩) hlt0).trans d3
          have f4 := (HBq.out.cell (p := ⟨w.heap.size, 4, none⟩) hlt0).trans d4
          have f5 := (HBq.out.cell (p := ⟨w.heap.size, 5, none⟩) hlt0).trans d5
          have f6 := (HBq.out.cell (p := ⟨w.heap.size, 6, none⟩) hlt0).trans d6
          have f7 := (HBq.out.cell (p := ⟨w.heap.size, 7, none⟩) hlt0).trans d7
          clear d0 d1 d2 d3 d4 d5 d6 d7 HD HD8
          go_wp2_with (go_at_call 82; refine (HQ.out _ (HB1.out.trans (HBq.out.mono (by omega)))).mono ?_; rintro e w5 ⟨v5, rfl, ho5, hb5⟩; obtain ⟨a5, c5, rfl⟩ := own_form ho5; have hz5 := hb5.size; have HB5 : Hid (Below w1.heap.size w1 w5) := HBq.out.trans (hb5.mono hsz); have HU8 := Hid.mk (HU7.out.below hb5); have HO5 := Hid.mk (own_mono ho5 (Nat.zero_le _)); clear hb5 ho5)
          clear HU7 HBq HQ f0 f1 f2 f3 f4 f5 f6 f7 hsz
          go_loopw [7, 14, 62] (fun s7 _ s62 wq => ∃ (n : Nat) (us : List Value), s62 = .int .i64 n ∧ n ≤ qs.length ∧ Hid (WaysB w1.heap.size wq s7 ((hs.map fun p => [p]) ++ ws.map uf ++ (qs.take n).map fun p => [p]) us) ∧ Hid (wq.ownsRow 0 3 1 (.slice a5 qs.length c5) qs.length (ints qs)) ∧ Hid (Below w1.heap.size w1 wq)) (fun _ _ s62 _ => qs.length - (intOf s62).toNat)
          case atStart => exact ⟨0, us2, rfl, Nat.zero_le _, by show WaysB _ _ _ _ _; simpa using HU8.out, HO5.out, HB5.out⟩
          case round =>
            obtain ⟨n, us3, rfl, hn3, HU9, HO6, HBz⟩ := hrel
            clear HU8 HO5 HB5
            have hsz : w1.heap.size ≤ wr.heap.size := HBz.out.size
            by_cases hlt3 : n < qs.length
            · obtain ⟨x, hx⟩ : ∃ x, qs[n]? = some x := ⟨_, List.getElem?_eq_getElem hlt3⟩
              obtain ⟨gb, rfl, _, hg, _, hcell⟩ := own_some HO6.out (by omega)
              have hlt' : (n : Int) < (qs.length : Int) := by omega
              have cx : wr.cell? ⟨gb, n, none⟩ = some (.int .i64 x) := (hcell n (by omega)).trans (ints_get hx)
              have HT : Hid ((hs.map fun p => [p]) ++ ws.map uf ++ ((qs.take (n + 1)).map fun p => [p]) = ((hs.map fun p => [p]) ++ ws.map uf ++ ((qs.take n).map fun p => [p])) ++ [[x]]) := by show _ = _; rw [List.take_add_one, hx]; simp
              have hll : ((hs.map fun p => [p]) ++ ws.map uf ++ ((qs.take n).map fun p => [p])).length ≤ 2000 := by simp; omega
              generalize ((hs.map fun p => [p]) ++ ws.map uf ++ ((qs.take n).map fun p => [p])) = L at HU9 HT hll
              obtain ⟨ua, uc, rfl⟩ := own_form HU9.out.own
              clear hcell hx
              go_wp2_with (at_builtin; refine wpList_snoc rfl _ _ _ rfl Tryz.underlying117 Tryz.infoInts rfl (by decide) (by decide) rfl (HU9.out.own.alloc _) (by simp; omega) (by omega) (cs := #[.slice (some ⟨wr.heap.size, 0, none⟩) 1 1]) rfl (by simp) rfl (by simp [Value.oneCell']) ?_; intro v2 w2 ho2 hb2 hz2 hold2; have HO2 := Hid.mk ho2; have HB2 := Hid.mk hb2; have HOL := Hid.mk hold2; clear ho2 hb2 hold2)
              go_roundw
              case rel =>
                have hW3 := HU9.out.below ((Below.refl _ _).alloc (Nat.le_refl _) (.cells #[.int .i64 x] 3))
                refine ⟨n + 1, us3 ++ [.slice (some ⟨wr.heap.size, 0, none⟩) 1 1], by go_num, by omega, ?_, own_hold (own_below HO6.out ((Below.refl _ _).alloc (Nat.le_refl _) _)) hW3.own (by decide) HOL.out, (HBz.out.alloc hsz _).trans HB2.out⟩
                rw [HT.out]
                exact hW3.snoc (own_one hsz x) HO2.out HOL.out
              case measure => simp [intOf]; omega
            · obtain rfl : n = qs.length := by omega
              have HU10 := HU9.out
              rw [List.take_of_length_le (Nat.le_refl _)] at HU10
              have HU11 := Hid.mk HU10
              clear HU9 HU10 HO6
              go_wp2
              go_ret
              exact ⟨_, us3, rfl, HU11.out.at', HB1.out.trans (HBz.out.mono (by omega))⟩
end Go.Proofs.YtaicdjhblbobbabGreat
