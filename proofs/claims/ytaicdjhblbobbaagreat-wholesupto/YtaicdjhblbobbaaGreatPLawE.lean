/- What is told of a Kernel and of its Desk: Waiting, Runs. -/
import Derived.Test.YtaicdjhblbobbaaGreatPDeskT
import Derived.Test.YtaicdjhblbobbaaGreatPBookR
import Derived.Test.YtaicdjhblbobbaaGreatPDeskG
import Derived.Test.YtaicdjhblbobbaaGreatPKCall
import Derived.Test.YtaicdjhblbobbaaGreatPWake
import Derived.Deep.RegionLaw
import Derived.Test.YtaicdjhblbobbaaGreatPDeskA
namespace Go.Proofs.YtaicdjhblbobbaaGreat
open Go.RowKit Go.Lib

theorem set_same {α : Type} {l : List α} {i : Nat} {a : α} (h : l[i]? = some a) : l.set i a = l := by
  obtain ⟨hi, he⟩ := List.getElem?_eq_some_iff.1 h
  rw [← he]; exact List.set_getElem_self hi
section
variable {w w' : World} {wb : Nat} {own : Nat → Nat → Prop} {N M : Nat} {xv yv : Value} {ks ds : List Nat} {sk sd : List DS} {i kb db : Nat} {s : DS}
theorem PI.kept (h : PI w wb own N M xv yv ks ds sk sd) (hk : ks[i]? = some kb) (hs : sk[i]? = some s) {P' : Nat → Prop} (hu : Upd (own (2 * i + 1)) P' w w') (hrep : rep w' kb P' s) : PI w' wb (updO own (2 * i + 1) P') N M xv yv ks ds sk sd := by
  have := h.kern hk hu hrep
  rw [set_same hs] at this
  exact this
theorem PI.far (h : PI w wb own N M xv yv ks ds sk sd) {j : Nat} {P' : Nat → Prop} {v : Value} {t : TypeId} {sz n : Nat} {xs : List Value} (ht : Told w w' P' t sz v n xs) : ∀ b, v.ownBlock = some b → ¬ owned (updO own j P') b := fun b e ho => by
  obtain ⟨k, hk⟩ := ho
  unfold updO at hk
  split at hk
  · exact ht.far b e hk
  · have h1 := h.o.lt k b hk
    have h2 := (ht.own.lt b e).1
    omega
theorem PI.kwaiting (h : PI w wb own N M xv yv ks ds sk sd) (hk : ks[i]? = some kb) (hs : sk[i]? = some s) {W : World} (hb : Below w.heap.size w W) :
    Calls Tryz.prog 36 #[kptr kb] W fun r w' => ∃ v own', r = .returned v ∧ PI w' wb own' N M xv yv ks ds sk sd ∧ Upd (owned own) (owned own') W w' ∧ w'.ownsRow W.heap.size 3 1 v s.waiting.length (ints s.waiting) ∧ ∀ b, v.ownBlock = some b → ¬ owned own' b := by
  have hp := h.below hb
  refine (face.waiting (hp.k i kb s hk hs)).mono ?_
  rintro r w' ⟨P', v, hr, ht, hrep, hu⟩
  exact ⟨v, _, hr, hp.kept hk hs hu hrep, hp.o.all hu, ht.own, hp.far ht⟩
theorem PI.kruns (h : PI w wb own N M xv yv ks ds sk sd) (hk : ks[i]? = some kb) (hs : sk[i]? = some s) {W : World} (hb : Below w.heap.size w W) (f : Int) (hf : i64 f) :
    Calls Tryz.prog 21 #[kptr kb, .int .i64 f] W fun r w' => ∃ v own', r = .returned v ∧ PI w' wb own' N M xv yv ks ds sk sd ∧ Upd (owned own) (owned own') W w' ∧ w'.ownsRow W.heap.size 41 4 v (s.runs f).length (flatR (s.runs f)) ∧ ∀ b, v.ownBlock = some b → ¬ owned own' b := by
  have hp := h.below hb
  refine (face.runs f hf (hp.k i kb s hk hs)).mono ?_
  rintro r w' ⟨P', v, hr, ht, hrep, hu⟩
  exact ⟨v, _, hr, hp.kept hk hs hu hrep, hp.o.all hu, ht.own, hp.far ht⟩
theorem PI.dwaiting (h : PI w wb own N M xv yv ks ds sk sd) (hi : s.Inv) (hN : M + 8 ≤ 10000000) (hd : ds[i]? = some db) (hs : sd[i]? = some s) :
    Calls Tryz.prog 97 #[dkPtr db] w fun r w' => ∃ v, r = .returned v ∧ w'.ownsRow w.heap.size 3 1 v s.waiting.length (ints s.waiting) ∧ Below w.heap.size w w' := Go.Proofs.YtaicdjhblbobbaaGreat.dwaiting (h.d i db s hd hs) hi hN
theorem PI.druns (h : PI w wb own N M xv yv ks ds sk sd) (hi : s.Inv) (hd : ds[i]? = some db) (hs : sd[i]? = some s) (f : Int) :
    Calls Tryz.prog 91 #[dkPtr db, .int .i64 f] w fun r w' => ∃ v, r = .returned v ∧ w'.ownsRow w.heap.size 41 4 v (s.runs f).length (flatR (s.runs f)) ∧ Below w.heap.size w w' := Go.Proofs.YtaicdjhblbobbaaGreat.druns (h.d i db s hd hs) hi f
end
section
variable {w : World} {wb : Nat} {own : Nat → Nat → Prop} {N M : Nat} {xv yv : Value} {ks ds : List Nat} {ss : List DS} {i kb db : Nat} {s : DS}
set_option maxHeartbeats 8000000 in
set_option maxRecDepth 100000 in
theorem told_waiting (h : PI w wb own N M xv yv ks ds ss ss) (hB : N + 9 ≤ 1000000000) (hN : M + 8 ≤ 10000000) (hk : ks[i]? = some kb) (hd : ds[i]? = some db) (hs : ss[i]? = some s) (K p a b c d : Int) (wt : Bool) :
    Calls Tryz.prog 65 #[.pointer (some ⟨wb, 0, none⟩), .agg #[.int .i64 11, .int .i64 K, .int .i64 p, .int .i64 a, .int .i64 b, .int .i64 c, .int .i64 d, .bool wt], kptr kb, dkPtr db] w fun r w' => r = .returned (.bool true) ∧ ∃ own', PI w' wb own' (N + 2) M xv yv ks ds ss ss ∧ UB w.heap.size (owned own) (owned own') w w' := by
  have hi := h.inv hk hs
  have hbx := (Below.refl w.heap.size w).alloc (Nat.le_refl _) (.cells #[.int .i64 11, .int .i64 K, .int .i64 p, .int .i64 a, .int .i64 b, .int .i64 c, .int .i64 d, .bool wt] 77)
  have HKW := Hid.mk (h.kwaiting hk hs hbx)
  have HDW := Hid.mk (fun w1 own1 (h1 : PI w1 wb own1 N M xv yv ks ds ss ss) => h1.dwaiting hi hN hd hs)
  have hwl : s.waiting.length ≤ 6 := by
    unfold DS.waiting
    rw [List.length_map]
    exact ones_le hi.toBas.qn (fun a ha => live_mem (hi.toBas.q a ha).1.l)
  have hwb := h.b
  have HWB : Hid (wb < w.heap.size) := by obtain ⟨iv, dv, rv, fv, n, ei, ed, er, ef, hw⟩ := hwb; exact hw.lt
  clear h hi hbx hk hd hs hwb
  unfold kptr dkPtr at *
  generalize s.waiting = L at *
  go_enter Tryz.func65, Tryz.ntmps65
  go_wp2_with (first
    | (go_at_call 36; refine HKW.out.mono ?_; rintro r w1 ⟨v1, own1, rfl, hp1, hu1, ho1, hf1⟩; obtain ⟨va, vc, rfl⟩ := own_form ho1; have hz1 := hu1.size; simp at hz1; have HP1 := Hid.mk hp1; have HU1 : Hid (UB w.heap.size (owned own) (owned own1) w w1) := (UB.of_below ((Below.refl w.heap.size w).alloc (Nat.le_refl _) _) (Nat.le_refl _)).trans (UB.of_upd hu1 (by simp)); have HO1 := Hid.mk ho1; have HF1 := Hid.mk hf1; clear hp1 hu1 ho1 hf1)
    | (go_at_call 97; refine (HDW.out w1 own1 HP1.out).mono ?_; rintro r w2 ⟨v2, rfl, ho2, hb2⟩; obtain ⟨xa, xc, rfl⟩ := own_form ho2; have hz2 := hb2.size; have HO2 := Hid.mk ho2; have HB2 := Hid.mk hb2; clear ho2 hb2)
    | (go_at_call 94; refine (sameInts_any (own_below HO1.out HB2.out) HO2.out (by omega)).mono ?_; rintro r w3 ⟨rfl, hb3⟩; have hz3 := hb3.size; have HB3 := Hid.mk hb3; have HP3 := Hid.mk ((HP1.out.below HB2.out).below hb3); clear hb3)
    | (go_at_call 95; obtain ⟨iv, dv, rv, fv, n, ei, ed, er, ef, hw⟩ := HP3.out.b; refine (bInts hw (by omega) (own_below (own_below HO1.out HB2.out) HB3.out) (by omega) (fun b e ho => HF1.out b e ⟨0, ho⟩)).mono ?_; rintro r w4 ⟨rfl, hbk⟩; have HTK := Hid.mk (HP3.out.take (B := w.heap.size) (by omega) (fun b e => ⟨by have := (HO1.out.lt b e).1; simp at this; omega, by have := (HO1.out.lt b e).2; omega, HF1.out b e⟩) (Below.refl _ _) (by omega) hbk); clear hbk hw))
  go_ret
  obtain ⟨own4, hp4, hu4⟩ := HTK.out
  exact ⟨rfl, own4, hp4, ((HU1.out.trans (UB.of_below HB2.out (by omega))).trans (UB.of_below HB3.out (by omega))).trans hu4⟩
theorem run_at {w : World} {base : Nat} {a : Option Addr} {c n : Nat} {l : List Rn} {x : Rn} (h : w.ownsRow base 41 4 (.slice a l.length c) l.length (flatR l)) (hx : l[n]? = some x) :
    ∃ g, a = some ⟨g, 0, none⟩ ∧ g < w.heap.size ∧ w.cell? ⟨g, n * 4, none⟩ = some (.int .i64 x.p) ∧ w.cell? ⟨g, n * 4 + 1, none⟩ = some (.int .i64 x.k) ∧ w.cell? ⟨g, n * 4 + 2, none⟩ = some (.int .i64 x.f) ∧ w.cell? ⟨g, n * 4 + 3, none⟩ = some (.int .i64 x.t) := by
  have hn : n < l.length := (List.getElem?_eq_some_iff.1 hx).1
  obtain ⟨g, rfl, _, hg, _, hc⟩ := own_some h (by omega)
  refine ⟨g, rfl, hg, ?_, ?_, ?_, ?_⟩ <;> (rw [hc _ (by omega)]; unfold flatR)
  · exact flat_get Rn.cells 4 (fun _ => rfl) l n 0 x hx (by omega)
  · exact flat_get Rn.cells 4 (fun _ => rfl) l n 1 x hx (by omega)
  · exact flat_get Rn.cells 4 (fun _ => rfl) l n 2 x hx (by omega)
  · exact flat_get Rn.cells 4 (fun _ => rfl) l n 3 x hx (by omega)
set_option maxHeartbeats 8000000 in
set_option maxRecDepth 100000 in
theorem told_runs (h : PI w wb own N M xv yv ks ds ss ss) (hB : N + 9 ≤ 1000000000) (_hN : M + 8 ≤ 10000000) (hk : ks[i]? = some kb) (hd : ds[i]? = some db) (hs : ss[i]? = some s) (K p a b c d : Int) (wt : Bool) (ha : i64 a) :
    Calls Tryz.prog 65 #[.pointer (some ⟨wb, 0, none⟩), .agg #[.int .i64 8, .int .i64 K, .int .i64 p, .int .i64 a, .int .i64 b, .int .i64 c, .int .i64 d, .bool wt], kptr kb, dkPtr db] w fun r w' => r = .returned (.bool true) ∧ ∃ own', PI w' wb own' (N + 2) M xv yv ks ds ss ss ∧ UB w.heap.size (owned own) (owned own') w w' := by
  have hi := h.inv hk hs
  have HLT : Hid (¬ owned own w.heap.size) := fun ho => by obtain ⟨j, hj⟩ := ho; exact absurd (h.o.lt j _ hj) (Nat.lt_irrefl _)
  have hbx := (Below.refl w.heap.size w).alloc (Nat.le_refl _) (.cells #[.int .i64 8, .int .i64 K, .int .i64 p, .int .i64 a, .int .i64 b, .int .i64 c, .int .i64 d, .bool wt] 77)
  have HNX := Hid.mk (heap_alloc_new w (.cells #[.int .i64 8, .int .i64 K, .int .i64 p, .int .i64 a, .int .i64 b, .int .i64 c, .int .i64 d, .bool wt] 77))
  have HKW := Hid.mk (h.kruns hk hs hbx a ha)
  have HDW := Hid.mk (fun w1 own1 (h1 : PI w1 wb own1 N M xv yv ks ds ss ss) => h1.druns hi hd hs a)
  have hwl : (s.runs a).length ≤ 12 := by
    unfold DS.runs
    split
    · exact hi.toBas.len _
    · simp
  have HWB : Hid (wb < w.heap.size) := by obtain ⟨iv, dv, rv, fv, n, ei, ed, er, ef, hw⟩ := h.b; exact hw.lt
  clear h hi hbx hk hd hs ha
  unfold kptr dkPtr at *
  generalize s.runs a = L at *
  go_enter Tryz.func65, Tryz.ntmps65
  go_wp2_with (first
    | (go_at_call 21; refine HKW.out.mono ?_; rintro r w1 ⟨v1, own1, rfl, hp1, hu1, ho1, hf1⟩; obtain ⟨va, vc, rfl⟩ := own_form ho1; have hz1 := hu1.size; simp at hz1; have hx1 := (hu1.block w.heap.size (by simp) HLT.out).trans HNX.out; have w1c3 : w1.cell? ⟨w.heap.size, 3, none⟩ = some (.int .i64 a) := (by simp only [World.cell?, hx1]; rfl); have HP1 := Hid.mk hp1; have HU1 : Hid (UB w.heap.size (owned own) (owned own1) w w1) := (UB.of_below ((Below.refl w.heap.size w).alloc (Nat.le_refl _) _) (Nat.le_refl _)).trans (UB.of_upd hu1 (by simp)); have HO1 := Hid.mk ho1; have HF1 := Hid.mk hf1; clear hp1 hu1 ho1 hf1 hx1)
    | (go_at_call 91; refine (HDW.out w1 own1 HP1.out).mono ?_; rintro r w2 ⟨v2, rfl, ho2, hb2⟩; obtain ⟨xa, xc, rfl⟩ := own_form ho2; have hz2 := hb2.size; have HO2 := Hid.mk ho2; have HB2 := Hid.mk hb2; clear ho2 hb2))
  go_loopw [11, 12] (fun s11 s12 wr => ∃ j : Nat, s11 = .bool true ∧ s12 = .int .i64 j ∧ j ≤ L.length ∧ Hid (Below w2.heap.size w2 wr)) (fun _ s12 _ => L.length - (intOf s12).toNat)
  case atStart => exact ⟨0, by simp, rfl, Nat.zero_le _, Below.refl _ _⟩
  case round =>
    obtain ⟨j, rfl, rfl, hj, HB⟩ := hrel
    have hzr := HB.out.size
    by_cases hlt : j < L.length
    · have hlt' : (j : Int) < (L.length : Int) := by omega
      obtain ⟨x, hx⟩ : ∃ x, L[j]? = some x := ⟨_, List.getElem?_eq_getElem hlt⟩
      obtain ⟨g, rfl, hg, q0, q1, q2, q3⟩ := run_at (own_below (own_below HO1.out HB2.out) HB.out) hx
      obtain ⟨g2, rfl, hg2, p0, p1, p2, p3⟩ := run_at (own_below HO2.out HB.out) hx
      clear hx
      go_wp2
      go_quiet (fail)
      go_wp2
      go_roundw
      case rel => exact ⟨j + 1, by simp, by go_num, by omega, Below.drewN HB.out _⟩
      case measure => simp [intOf]; omega
    · have HIL : Hid (j = L.length) := by show _ = _; omega
      have hno : ¬ ((j : Int) < (L.length : Int)) := by omega
      have HP3 := Hid.mk ((HP1.out.below HB2.out).below HB.out)
      go_wp2_with (go_at_call 92; obtain ⟨iv, dv, rv, fv, n, ei, ed, er, ef, hw⟩ := HP3.out.b; refine (bR hw (by omega) (own_below (own_below HO1.out HB2.out) HB.out) (by omega) (fun b e ho => HF1.out b e ⟨0, ho⟩)).mono ?_; rintro r w4 ⟨rfl, hbk⟩; have HTK := Hid.mk (HP3.out.take (B := w.heap.size) (by omega) (fun b e => ⟨by have := (HO1.out.lt b e).1; simp at this; omega, by have := (HO1.out.lt b e).2; omega, HF1.out b e⟩) (Below.refl _ _) (by omega) hbk); clear hbk hw)
      go_ret
      obtain ⟨own4, hp4, hu4⟩ := HTK.out
      exact ⟨rfl, own4, hp4, ((HU1.out.trans (UB.of_below HB2.out (by omega))).trans (UB.of_below HB.out (by omega))).trans hu4⟩
end
end Go.Proofs.YtaicdjhblbobbaaGreat

/- The book takes a list of Files. -/
namespace Go.Proofs.YtaicdjhblbobbaaGreat
open Go.RowKit Go.Lib

theorem marksF1 (m : Int) : (#[.int .i64 m, .slice none 0 0] : Array Value).toList = marks (csH m) 1 := by
  have h : List.range (1 * (csH m).length) = [0, 1] := rfl
  unfold marks
  rw [h]
  simp [csH]
theorem marksF2 (m : Int) : (#[.int .i64 m, .slice none 0 0, .int .i64 m, .slice none 0 0] : Array Value).toList = marks (csH m) 2 := by
  have h : List.range (2 * (csH m).length) = [0, 1, 2, 3] := rfl
  unfold marks
  rw [h]
  simp [csH]
theorem marksF3 (m : Int) : (#[.int .i64 m, .slice none 0 0, .int .i64 m, .slice none 0 0, .int .i64 m, .slice none 0 0] : Array Value).toList = marks (csH m) 3 := by
  have h : List.range (3 * (csH m).length) = [0, 1, 2, 3, 4, 5] := rfl
  unfold marks
  rw [h]
  simp [csH]
theorem Tryz.infoFB : (Tryz.prog.info? 124).map (fun i => (i.zero, i.size, i.bytes)) = some (some (.agg #[.slice none 0 0, .slice none 0 0, .slice none 0 0, .slice none 0 0, .int .i64 0]), 5, 104) := by kernel_rfl
set_option maxHeartbeats 16000000 in
set_option maxRecDepth 100000 in
theorem bF {w : World} {wb : Nat} {P : Nat → Prop} {N : Nat} {ks ds : List Nat} {xv yv iv dv rv fv : Value} {n : Int} {ei ed er ef : List En} (h : WB w wb P N ks ds xv yv iv dv rv fv n ei ed er ef) (hN : N ≤ 1000000000) {base k : Nat} {v : Value} {xs : List Value} (hv : w.ownsRow base 55 2 v k xs) (hk : k ≤ 1000000) (hfar : ∀ b, v.ownBlock = some b → ¬ P b) :
    Calls Tryz.prog 96 #[.pointer (some ⟨wb, 2, none⟩), v] w fun r w' => r = .returned (.tuple #[]) ∧ BkUpd w w' wb P v (N + 2) ks ds xv yv := by
  have HW := Hid.mk h
  have c2 : w.cell? ⟨wb, 2, none⟩ = some (.int .i64 n) := h.cell 2
  have f2 := h.frozen 2
  have hwb := h.lt
  have hn := h.n0
  have hn1 : 0 ≤ n := hn.1
  have hn2 : n ≤ 1000000000 := by have := hn.2; omega
  have HFAR := Hid.mk hfar
  have HNV : Hid (v.ownBlock ≠ some w.heap.size) := fun e => by have := (hv.lt _ e).2; omega
  obtain ⟨m, hm⟩ : ∃ m, m = 1000 + (n + 1) := ⟨_, rfl⟩
  have HMK : Hid (Mk ((w.setCell ⟨wb, 2, none⟩ (.int .i64 (n + 1))).alloc (.cells #[.int .i64 m, .slice none 0 0] 55)) 55 (csH m) v k 0) := ((Mk.of_own (cs := csH m) hv).blk fun b e => Below.heap_setCell _ _ _ _ fun e2 => hfar b e (by rw [show b = wb from e2]; exact h.pw)).alloc _
  obtain ⟨va, vc, rfl⟩ := own_form hv
  have HKD0 : Hid (KD wb (.slice va k vc) w ((w.setCell ⟨wb, 2, none⟩ (.int .i64 (n + 1))).alloc (.cells #[.int .i64 m, .slice none 0 0] 55))) := ((KD.refl _ _ _).cell (a := ⟨wb, 2, none⟩) (Or.inl rfl) _).alloc _
  have HBK0 : Hid (((w.setCell ⟨wb, 2, none⟩ (.int .i64 (n + 1))).alloc (.cells #[.int .i64 m, .slice none 0 0] 55)).heap[wb]? = some (.cells #[xv, yv, .int .i64 (n + 1), iv, dv, rv, fv] 73 (0, 0))) := (Below.heap_alloc _ _ _ (by simpa using h.lt)).trans (setWB h.blk)
  have HMB0 : Hid (((w.setCell ⟨wb, 2, none⟩ (.int .i64 (n + 1))).alloc (.cells #[.int .i64 m, .slice none 0 0] 55)).heap[w.heap.size]? = some (.cells #[.int .i64 m, .slice none 0 0] 55 (0, 0))) := by
    have hh := heap_alloc_new (w.setCell ⟨wb, 2, none⟩ (.int .i64 (n + 1))) (.cells #[.int .i64 m, .slice none 0 0] 55)
    simp only [World.size_setCell] at hh
    exact hh
  clear h hv hfar hn
  go_enter Tryz.func96, Tryz.ntmps96
  go_wp2
  rw [← hm]
  obtain ⟨w0, hw0⟩ : ∃ w0, w0 = (w.setCell ⟨wb, 2, none⟩ (.int .i64 (n + 1))).alloc (.cells #[.int .i64 m, .slice none 0 0] 55) := ⟨_, rfl⟩
  rw [← hw0] at HMK HKD0 HBK0 HMB0 ⊢
  have HM := Hid.mk hm
  clear hw0 c2 f2 hm
  go_loopw [5] (fun s5 wr => ∃ i : Nat, s5 = .int .i64 i ∧ i ≤ k ∧ Hid (Mk wr 55 (csH m) (.slice va k vc) k i) ∧ Hid (KD wb (.slice va k vc) w wr) ∧ Hid (wr.heap[wb]? = some (.cells #[xv, yv, .int .i64 (n + 1), iv, dv, rv, fv] 73 (0, 0))) ∧ Hid (wr.heap[w.heap.size]? = some (.cells #[.int .i64 m, .slice none 0 0] 55 (0, 0)))) (fun s5 _ => k - (intOf s5).toNat)
  case atStart => exact ⟨0, rfl, Nat.zero_le _, HMK.out, HKD0.out, HBK0.out, HMB0.out⟩
  case round =>
    clear HMK HKD0 HBK0 HMB0
    obtain ⟨i, rfl, hi, HMK, HKD, HBK, HMB⟩ := hrel
    have hmb := HMB.out
    have hwl : w.heap.size < wr.heap.size := (Array.getElem?_eq_some_iff.1 hmb).1
    have q0 : wr.cell? ⟨w.heap.size, 0, none⟩ = some (.int .i64 m) := by simp only [World.cell?, hmb]; rfl
    have q1 : wr.cell? ⟨w.heap.size, 1, none⟩ = some (.slice none 0 0) := by simp only [World.cell?, hmb]; rfl
    clear hmb
    by_cases hik : i < k
    · have hik' : (i : Int) < (k : Int) := by omega
      obtain ⟨g, cap, he, hg, hkc, _, hsome, hfr⟩ := HMK.out.elem (by omega)
      cases he
      have hl : (csH m).length = 2 := rfl
      obtain ⟨u0, hu0⟩ := Option.isSome_iff_exists.1 (hsome (i * 2) (by rw [hl]; omega))
      have hf0 := hfr (i * 2)
      obtain ⟨u1, hu1⟩ := Option.isSome_iff_exists.1 (hsome (i * 2 + 1) (by rw [hl]; omega))
      have hf1 := hfr (i * 2 + 1)
      have hgw : g ≠ wb := fun e => HFAR.out g rfl (by rw [e]; exact HW.out.pw)
      have hgs : g ≠ w.heap.size := fun e => HNV.out (by rw [← e]; rfl)
      have HSET : Hid (Mk ((wr.setCell ⟨g, i * 2, none⟩ (.int .i64 m)).setCell ⟨g, i * 2 + 1, none⟩ (.slice none 0 0)) 55 (csH m) (.slice (some ⟨g, 0, none⟩) k vc) k (i + 1)) := mk_setN HMK.out hik (by show 0 < 2; decide)
      clear hsome hfr hl
      go_wp2
      go_roundw
      case rel => exact ⟨i + 1, by go_num, by omega, HSET.out, ((HKD.out.cell (a := ⟨g, i * 2, none⟩) (Or.inr rfl) _).cell (a := ⟨g, i * 2 + 1, none⟩) (Or.inr rfl) _), (Below.heap_setCell _ _ _ _ (fun e => hgw e.symm)).trans ((Below.heap_setCell _ _ _ _ (fun e => hgw e.symm)).trans (HBK.out)), (Below.heap_setCell _ _ _ _ (fun e => hgs e.symm)).trans ((Below.heap_setCell _ _ _ _ (fun e => hgs e.symm)).trans (HMB.out))⟩
      case measure => simp [intOf]; omega
    · obtain rfl : i = k := by omega
      have HAP0 := Hid.mk (AP.start (te := 124) HMK.out HKD.out HBK.out #[.slice va i vc, .slice none 0 0, .slice none 0 0, .slice none 0 0, .int .i64 m])
      have HMB0 : Hid ((wr.alloc (.cells #[.slice va i vc, .slice none 0 0, .slice none 0 0, .slice none 0 0, .int .i64 m] 124)).heap[w.heap.size]? = some (.cells #[.int .i64 m, .slice none 0 0] 55 (0, 0))) := (Below.heap_alloc _ _ _ hwl).trans HMB.out
      go_wp2_with (first
        | (at_builtin; refine wpList_marks rfl _ _ _ rfl Tryz.underlying47 Tryz.infoHold rfl (by decide) (by decide) (cs := csH m) rfl (by simp [csH, Value.oneCell']) rfl HAP0.out.hv (by omega) (m := 1) (by omega) (X := #[.int .i64 m, .slice none 0 0]) rfl (by simp) (marksF1 m) ?_; intro v1 w1 hm1 hall1 hb1 hz1 hold1 hwh1; obtain ⟨a1, c1, rfl⟩ := hm1.form; obtain ⟨bc1, bf1⟩ := HAP0.out.cell (by decide) hold1 1; have hmb1 := (hold1 w.heap.size (Array.getElem?_eq_some_iff.1 HMB0.out).1 HNV.out).trans HMB0.out; have q10 : w1.cell? ⟨w.heap.size, 0, none⟩ = some (.int .i64 m) := (by simp only [World.cell?, hmb1]; rfl); have q11 : w1.cell? ⟨w.heap.size, 1, none⟩ = some (.slice none 0 0) := (by simp only [World.cell?, hmb1]; rfl); have HMB1 : Hid ((w1.setCell ⟨wr.heap.size, 1, none⟩ (.slice a1 (i + 1) c1)).heap[w.heap.size]? = some (.cells #[.int .i64 m, .slice none 0 0] 55 (0, 0))) := (Below.heap_setCell _ _ _ _ (Nat.ne_of_lt hwl)).trans hmb1; have HAP1 := Hid.mk (HAP0.out.step (by decide) (by decide) (by decide) hm1 hall1 hb1 hz1 hold1 hwh1 1); clear hm1 hall1 hb1 hold1 hwh1 hmb1)
        | (at_builtin; refine wpList_marks rfl _ _ _ rfl Tryz.underlying47 Tryz.infoHold rfl (by decide) (by decide) (cs := csH m) rfl (by simp [csH, Value.oneCell']) rfl HAP1.out.hv (by omega) (m := 2) (by omega) (X := #[.int .i64 m, .slice none 0 0, .int .i64 m, .slice none 0 0]) rfl (by simp) (marksF2 m) ?_; intro v2 w2 hm2 hall2 hb2 hz2 hold2 hwh2; obtain ⟨a2, c2, rfl⟩ := hm2.form; obtain ⟨bc2, bf2⟩ := HAP1.out.cell (by decide) hold2 2; have hmb2 := (hold2 w.heap.size (Array.getElem?_eq_some_iff.1 HMB1.out).1 HNV.out).trans HMB1.out; have q20 : w2.cell? ⟨w.heap.size, 0, none⟩ = some (.int .i64 m) := (by simp only [World.cell?, hmb2]; rfl); have q21 : w2.cell? ⟨w.heap.size, 1, none⟩ = some (.slice none 0 0) := (by simp only [World.cell?, hmb2]; rfl); have HMB2 : Hid ((w2.setCell ⟨wr.heap.size, 2, none⟩ (.slice a2 (i + 2) c2)).heap[w.heap.size]? = some (.cells #[.int .i64 m, .slice none 0 0] 55 (0, 0))) := (Below.heap_setCell _ _ _ _ (Nat.ne_of_lt hwl)).trans hmb2; have HAP2 := Hid.mk (HAP1.out.step (by decide) (by decide) (by decide) hm2 hall2 hb2 hz2 hold2 hwh2 2); clear hm2 hall2 hb2 hold2 hwh2 hmb2)
        | (at_builtin; refine wpList_marks rfl _ _ _ rfl Tryz.underlying47 Tryz.infoHold rfl (by decide) (by decide) (cs := csH m) rfl (by simp [csH, Value.oneCell']) rfl HAP2.out.hv (by omega) (m := 3) (by omega) (X := #[.int .i64 m, .slice none 0 0, .int .i64 m, .slice none 0 0, .int .i64 m, .slice none 0 0]) rfl (by simp) (marksF3 m) ?_; intro v3 w3 hm3 hall3 hb3 hz3 hold3 hwh3; obtain ⟨a3, c3, rfl⟩ := hm3.form; obtain ⟨bc3, bf3⟩ := HAP2.out.cell (by decide) hold3 3; have hmb3 := (hold3 w.heap.size (Array.getElem?_eq_some_iff.1 HMB2.out).1 HNV.out).trans HMB2.out; have q30 : w3.cell? ⟨w.heap.size, 0, none⟩ = some (.int .i64 m) := (by simp only [World.cell?, hmb3]; rfl); have q31 : w3.cell? ⟨w.heap.size, 1, none⟩ = some (.slice none 0 0) := (by simp only [World.cell?, hmb3]; rfl); have HMB3 : Hid ((w3.setCell ⟨wr.heap.size, 3, none⟩ (.slice a3 (i + 3) c3)).heap[w.heap.size]? = some (.cells #[.int .i64 m, .slice none 0 0] 55 (0, 0))) := (Below.heap_setCell _ _ _ _ (Nat.ne_of_lt hwl)).trans hmb3; have HAP3 := Hid.mk (HAP2.out.step (by decide) (by decide) (by decide) hm3 hall3 hb3 hz3 hold3 hwh3 3); clear hm3 hall3 hb3 hold3 hwh3 hmb3))
      have hli : ef.length ≤ 1000000000 := by have := HW.out.lf; omega
      obtain ⟨ia, ic, hie⟩ := own_form HW.out.f.own
      subst hie
      have HWN : Hid (0 ≤ n + 1 ∧ n + 1 ≤ ((N + 1 : Nat) : Int)) := by have := HW.out.n0; exact ⟨by omega, by omega⟩
      have hap3 := HAP3.out
      have hw3 := HW.out.turn (N' := N + 1) (P' := fun b => P b ∨ Value.ownBlock (.slice va i vc) = some b ∨ w.heap.size ≤ b) hap3.kd HFAR.out (fun b hb => Or.inl hb) hap3.hwb HWN.out (by omega)
      have hen := hap3.entry (csf := csH) (P := P) hk
      have hbx : (w3.setCell ⟨wr.heap.size, 3, none⟩ (.slice a3 (i + 3) c3)).heap[wr.heap.size]? = some (.cells #[.slice va i vc, .slice a1 (i + 1) c1, .slice a2 (i + 2) c2, .slice a3 (i + 3) c3, .int .i64 m] 124 (0, 0)) := hap3.hbx
      have HKD3 := Hid.mk hap3.kd
      have hbl : wr.heap.size < ((w3.setCell ⟨wr.heap.size, 3, none⟩ (.slice a3 (i + 3) c3))).heap.size := (Array.getElem?_eq_some_iff.1 hbx).1
      clear hap3 HAP0 HAP1 HAP2 HAP3
      generalize w3.setCell ⟨wr.heap.size, 3, none⟩ (.slice a3 (i + 3) c3) = W3 at *
      have y0 : W3.cell? ⟨wr.heap.size, 0, none⟩ = some (.slice va i vc) := by simp only [World.cell?, hbx]; rfl
      have y1 : W3.cell? ⟨wr.heap.size, 1, none⟩ = some (.slice a1 (i + 1) c1) := by simp only [World.cell?, hbx]; rfl
      have y2 : W3.cell? ⟨wr.heap.size, 2, none⟩ = some (.slice a2 (i + 2) c2) := by simp only [World.cell?, hbx]; rfl
      have y3 : W3.cell? ⟨wr.heap.size, 3, none⟩ = some (.slice a3 (i + 3) c3) := by simp only [World.cell?, hbx]; rfl
      have y4 : W3.cell? ⟨wr.heap.size, 4, none⟩ = some (.int .i64 m) := by simp only [World.cell?, hbx]; rfl
      have yw : W3.cell? ⟨wb, 6, none⟩ = some (.slice ia ef.length ic) := hw3.cell 6
      have hwl := hw3.lt
      have HBX := Hid.mk hbx
      have HW3 := Hid.mk hw3
      have HEN := Hid.mk hen
      clear hbx hw3 hen
      have HWD : Hid (WB (W3.alloc (.cells #[.slice va i vc, .slice a1 (i + 1) c1, .slice a2 (i + 2) c2, .slice a3 (i + 3) c3, .int .i64 m] 124)).drew wb (fun b => P b ∨ Value.ownBlock (.slice va i vc) = some b ∨ w.heap.size ≤ b) (N + 1) ks ds xv yv iv dv rv (.slice ia ef.length ic) (n + 1) ei ed er ef) := HW3.out.frame fun b hp hb => ⟨Below.heap_alloc _ _ _ hb, hp⟩
      have HLIT : Hid ((W3.alloc (.cells #[.slice va i vc, .slice a1 (i + 1) c1, .slice a2 (i + 2) c2, .slice a3 (i + 3) c3, .int .i64 m] 124)).drew.heap[W3.heap.size]? = some (.cells #[.slice va i vc, .slice a1 (i + 1) c1, .slice a2 (i + 2) c2, .slice a3 (i + 3) c3, .int .i64 m] 124 (0, 0))) := heap_alloc_new W3 _
      have HFIN : Hid (∀ (w5 : World) (v5 : Value), w5.ownsRow 0 124 5 v5 (ef.length + 1) (flatE ef ++ (#[.slice va i vc, .slice a1 (i + 1) c1, .slice a2 (i + 2) c2, .slice a3 (i + 3) c3, .int .i64 m] : Array Value).toList) → Below 0 (W3.alloc (.cells #[.slice va i vc, .slice a1 (i + 1) c1, .slice a2 (i + 2) c2, .slice a3 (i + 3) c3, .int .i64 m] 124)).drew w5 → (W3.alloc (.cells #[.slice va i vc, .slice a1 (i + 1) c1, .slice a2 (i + 2) c2, .slice a3 (i + 3) c3, .int .i64 m] 124)).drew.heap.size ≤ w5.heap.size →
          (∀ b, b < (W3.alloc (.cells #[.slice va i vc, .slice a1 (i + 1) c1, .slice a2 (i + 2) c2, .slice a3 (i + 3) c3, .int .i64 m] 124)).drew.heap.size → Value.ownBlock (.slice ia ef.length ic) ≠ some b → w5.heap[b]? = (W3.alloc (.cells #[.slice va i vc, .slice a1 (i + 1) c1, .slice a2 (i + 2) c2, .slice a3 (i + 3) c3, .int .i64 m] 124)).drew.heap[b]?) → (∀ b, v5.ownBlock = some b → Value.ownBlock (.slice ia ef.length ic) = some b ∨ (W3.alloc (.cells #[.slice va i vc, .slice a1 (i + 1) c1, .slice a2 (i + 2) c2, .slice a3 (i + 3) c3, .int .i64 m] 124)).drew.heap.size ≤ b) →
          BkUpd w (w5.setCell ⟨wb, 6, none⟩ v5) wb P (.slice va i vc) (N + 2) ks ds xv yv) := fun w5 v5 ho hb hz hold hwh => by
        have hzd : W3.heap.size ≤ (W3.alloc (.cells #[.slice va i vc, .slice a1 (i + 1) c1, .slice a2 (i + 2) c2, .slice a3 (i + 3) c3, .int .i64 m] 124)).drew.heap.size := by
          show W3.heap.size ≤ (W3.alloc _).heap.size
          simp
        have hz3 := HKD3.out.size
        have henD : EnOk (W3.alloc (.cells #[.slice va i vc, .slice a1 (i + 1) c1, .slice a2 (i + 2) c2, .slice a3 (i + 3) c3, .int .i64 m] 124)).drew 55 csH (fun b => P b ∨ Value.ownBlock (.slice va i vc) = some b ∨ w.heap.size ≤ b) ⟨.slice va i vc, .slice a1 (i + 1) c1, .slice a2 (i + 2) c2, .slice a3 (i + 3) c3, m, i⟩ := HEN.out.frame fun u hu b e => by
          obtain ⟨cu, hc⟩ := HEN.out.tag hu e
          exact ⟨Below.heap_alloc _ _ _ (Array.getElem?_eq_some_iff.1 hc).1, HEN.out.p u hu b e⟩
        have hwb := HWD.out.addF (N' := N + 2) (by omega) henD ho hold (fun b e => by
          rcases hwh b e with h1 | h1
          · exact HWD.out.f.pb b h1
          · exact Or.inr (Or.inr (by omega)))
        refine ⟨fun b => (P b ∨ Value.ownBlock (.slice va i vc) = some b ∨ w.heap.size ≤ b) ∧ b < (w5.setCell ⟨wb, 6, none⟩ v5).heap.size, ⟨_, _, _, _, _, _, _, _, _, hwb.frame (fun b hp hb => ⟨rfl, hp, hb⟩)⟩, fun b hp => hp.2, AP.upd (wb := wb) (hb.os.trans HKD3.out.os) (hb.tape.trans HKD3.out.tape) (hb.output.trans HKD3.out.output) (by simp; omega) (fun b hb1 h1 h2 h3 => ?_) HW.out.pw⟩
        refine (Below.heap_setCell _ _ _ _ h1).trans ((hold b (by omega) (fun e => h3 (HW.out.f.pb b e))).trans ?_)
        exact (Below.heap_alloc _ _ _ (by omega)).trans (HKD3.out.block b hb1 h1 h2)
      go_region_law (refine step_snocL rfl _ _ _ rfl Tryz.underlying69 Tryz.infoFB rfl (by decide) (by decide) (v := .slice ia ef.length ic) (by simp [Act.eval]) HWD.out.f.own (Nat.zero_le _) (by omega) (cs := #[.slice va i vc, .slice a1 (i + 1) c1, .slice a2 (i + 2) c2, .slice a3 (i + 3) c3, .int .i64 m]) (bb := W3.heap.size) (by simp [Act.eval]) HLIT.out rfl (by simp [Value.oneCell']) ?_; intro v5 w5 ho5 hb5 hz5 hold5 hwh5; obtain ⟨a5, c5, rfl⟩ := own_form ho5; have hwb5 := hold5 wb (by simp; omega) (fun e => by obtain ⟨cu, hc⟩ := own_type HWD.out.f.own e; rw [HWD.out.blk] at hc; cases hc); have b5 : w5.cell? ⟨wb, 6, none⟩ = some (.slice ia ef.length ic) := ((World.cell?_of_block (a := ⟨wb, 6, none⟩) hwb5).trans (HWD.out.cell 6)); have f5 : w5.frozen? ⟨wb, 6, none⟩ = false := ((World.frozen?_of_block (a := ⟨wb, 6, none⟩) hwb5).trans (HWD.out.frozen 6)); have HO5 := Hid.mk ho5; have HB5 := Hid.mk hb5; have HL5 := Hid.mk hold5; have HH5 := Hid.mk hwh5; clear ho5 hb5 hold5 hwh5 hwb5)
      all_goals (go_wp2; go_end0; exact ⟨rfl, HFIN.out w5 _ HO5.out HB5.out hz5 HL5.out HH5.out⟩)
end Go.Proofs.YtaicdjhblbobbaaGreat

/- One more Kernel and its Desk. -/
namespace Go.Proofs.YtaicdjhblbobbaaGreat
open Go.RowKit Go.Lib

theorem Tryz.infoKp : (Tryz.prog.info? 26).map (fun i => (i.zero, i.size, i.bytes)) = some (some (.pointer none), 1, 8) := by kernel_rfl
theorem Tryz.infoDp : (Tryz.prog.info? 110).map (fun i => (i.zero, i.size, i.bytes)) = some (some (.pointer none), 1, 8) := by kernel_rfl
section
variable {w w' : World} {wb : Nat} {own : Nat → Nat → Prop} {N M : Nat} {xv yv : Value} {ks ds : List Nat} {ss : List DS}
set_option maxHeartbeats 8000000 in
set_option maxRecDepth 100000 in
/-- There are three already: a Kernel is made, and forgotten. -/
theorem made_full (h : PI w wb own N M xv yv ks ds ss ss) (hl : ¬ (ks.length < 3)) :
    Calls Tryz.prog 37 #[.pointer (some ⟨wb, 0, none⟩)] w fun r w' => r = .returned (.bool true) ∧ ∃ own', PI w' wb own' N M xv yv ks ds ss ss ∧ UB w.heap.size (owned own) (owned own') w w' := by
  have HK := Hid.mk (face.new w)
  obtain ⟨iv, dv, rv, fv, n, ei, ed, er, ef, hw⟩ := h.b
  obtain ⟨xa, xc, rfl⟩ := own_form hw.x
  have HH := Hid.mk h
  have hl3 : ¬ ((ks.length : Int) < 3) := by omega
  have hl3n : ¬ (ks.length < 3) := hl
  have HWC := Hid.mk (fun (W : World) (hW : Below w.heap.size w W) => (hw.frame (w' := W) (P' := own 0) fun b hp hb => ⟨hW.block b hb, hp⟩).cell 0)
  have hwb := hw.lt
  have hll : ks.length ≤ 3 := by rw [h.lk]; exact h.le.2
  clear h hw hl
  unfold kptr at HK
  go_enter Tryz.func37, Tryz.ntmps37
  go_wp2_with (go_at_call 31; refine HK.out.mono ?_; rintro r w1 ⟨kb, P1, rfl, hr1, hu1⟩; have hb1 : Below w.heap.size w w1 := ⟨hu1.os, hu1.tape, hu1.output, hu1.size, fun k hk => hu1.block k hk (fun h => h)⟩; have c0 := HWC.out w1 hb1; have hz1 := hb1.size; simp at c0; have HB1 := Hid.mk hb1; clear hr1 hu1 hb1)
  go_ret
  exact ⟨rfl, own, HH.out.below HB1.out, UB.of_below HB1.out (Nat.le_refl _)⟩
theorem WB.addX {P : Nat → Prop} {xv yv iv dv rv fv : Value} {n : Int} {ei ed er ef : List En} {v' : Value} {kb : Nat} (h : WB w wb P N ks ds xv yv iv dv rv fv n ei ed er ef) (ho : w'.ownsRow 0 26 1 v' (ks.length + 1) (ks.map kptr ++ [kptr kb])) (hold : ∀ b, b < w.heap.size → xv.ownBlock ≠ some b → w'.heap[b]? = w.heap[b]?) (hp : ∀ b, v'.ownBlock = some b → P b) :
    WB (w'.setCell ⟨wb, 0, none⟩ v') wb P N (ks ++ [kb]) ds v' yv iv dv rv fv n ei ed er ef := by
  have blk : ∀ (b : Nat) (cur : Array Value) (t : TypeId), b < w.heap.size → w.heap[b]? = some (.cells cur t (0, 0)) → t ≠ 26 → w'.heap[b]? = w.heap[b]? := fun b cur t hb hc ht => hold b hb fun e => by
    obtain ⟨cur2, hc2⟩ := own_type h.x e
    rw [hc] at hc2
    cases hc2
    exact ht rfl
  have hwb := blk wb _ _ h.lt h.blk (by decide)
  have ne : ∀ (b : Nat) (cur : Array Value) (t : TypeId), w'.heap[b]? = some (.cells cur t (0, 0)) → t ≠ 73 → (w'.setCell ⟨wb, 0, none⟩ v').heap[b]? = w'.heap[b]? := fun b cur t hc ht => Below.heap_setCell _ _ _ _ fun e => by
    have e : b = wb := e
    rw [e, hwb, h.blk] at hc
    cases hc
    exact ht rfl
  have row : ∀ {t : TypeId} {sz m : Nat} {u : Value} {xs : List Value}, w.ownsRow 0 t sz u m xs → t ≠ 73 → t ≠ 26 → (w'.setCell ⟨wb, 0, none⟩ v').ownsRow 0 t sz u m xs := fun ho h1 h2 => own_blk ho fun b e => by
    obtain ⟨cur, hc⟩ := own_type ho e
    have h3 := blk b cur _ (own_lt ho e) hc h2
    exact (ne b cur _ (h3.trans hc) h1).trans h3
  have nar : ∀ {te2 t : TypeId} {cs : Int → List Value} {u : Value} {es : List En}, BkRow w te2 t cs P u es → (te2 ≠ 73 ∧ te2 ≠ 26) → (t ≠ 73 ∧ t ≠ 26) → BkRow (w'.setCell ⟨wb, 0, none⟩ v') te2 t cs P u es := fun h h1 h2 => h.narrow fun b cur s hp hc hs => by
    have hss : s ≠ 73 ∧ s ≠ 26 := by rcases hs with rfl | rfl; exact h1; exact h2
    have h3 := blk b cur s (Array.getElem?_eq_some_iff.1 hc).1 hc hss.2
    exact ⟨(ne b cur s (h3.trans hc) hss.1).trans h3, hp⟩
  have hx : (w'.setCell ⟨wb, 0, none⟩ v').ownsRow 0 26 1 v' (ks ++ [kb]).length ((ks ++ [kb]).map kptr) := by
    rw [List.length_append, List.map_append]
    refine own_blk ho fun b e => ?_
    obtain ⟨cur, hc⟩ := own_type ho e
    exact ne b cur _ hc (by decide)
  exact ⟨(setWB (hwb.trans h.blk)).trans rfl, hx, row h.y (by decide) (by decide), nar h.i (by decide) (by decide), nar h.d (by decide) (by decide), nar h.r (by decide) (by decide), nar h.f (by decide) (by decide), h.pw, fun b e => hp b e, h.py, h.n0, h.li, h.ld, h.lr, h.lf⟩
theorem WB.addY {P : Nat → Prop} {xv yv iv dv rv fv : Value} {n : Int} {ei ed er ef : List En} {v' : Value} {kb : Nat} (h : WB w wb P N ks ds xv yv iv dv rv fv n ei ed er ef) (ho : w'.ownsRow 0 110 1 v' (ds.length + 1) (ds.map dkPtr ++ [dkPtr kb])) (hold : ∀ b, b < w.heap.size → yv.ownBlock ≠ some b → w'.heap[b]? = w.heap[b]?) (hp : ∀ b, v'.ownBlock = some b → P b) :
    WB (w'.setCell ⟨wb, 1, none⟩ v') wb P N ks (ds ++ [kb]) xv v' iv dv rv fv n ei ed er ef := by
  have blk : ∀ (b : Nat) (cur : Array Value) (t : TypeId), b < w.heap.size → w.heap[b]? = some (.cells cur t (0, 0)) → t ≠ 110 → w'.heap[b]? = w.heap[b]? := fun b cur t hb hc ht => hold b hb fun e => by
    obtain ⟨cur2, hc2⟩ := own_type h.y e
    rw [hc] at hc2
    cases hc2
    exact ht rfl
  have hwb := blk wb _ _ h.lt h.blk (by decide)
  have ne : ∀ (b : Nat) (cur : Array Value) (t : TypeId), w'.heap[b]? = some (.cells cur t (0, 0)) → t ≠ 73 → (w'.setCell ⟨wb, 1, none⟩ v').heap[b]? = w'.heap[b]? := fun b cur t hc ht => Below.heap_setCell _ _ _ _ fun e => by
    have e : b = wb := e
    rw [e, hwb, h.blk] at hc
    cases hc
    exact ht rfl
  have row : ∀ {t : TypeId} {sz m : Nat} {u : Value} {xs : List Value}, w.ownsRow 0 t sz u m xs → t ≠ 73 → t ≠ 110 → (w'.setCell ⟨wb, 1, none⟩ v').ownsRow 0 t sz u m xs := fun ho h1 h2 => own_blk ho fun b e => by
    obtain ⟨cur, hc⟩ := own_type ho e
    have h3 := blk b cur _ (own_lt ho e) hc h2
    exact (ne b cur _ (h3.trans hc) h1).trans h3
  have nar : ∀ {te2 t : TypeId} {cs : Int → List Value} {u : Value} {es : List En}, BkRow w te2 t cs P u es → (te2 ≠ 73 ∧ te2 ≠ 110) → (t ≠ 73 ∧ t ≠ 110) → BkRow (w'.setCell ⟨wb, 1, none⟩ v') te2 t cs P u es := fun h h1 h2 => h.narrow fun b cur s hp hc hs => by
    have hss : s ≠ 73 ∧ s ≠ 110 := by rcases hs with rfl | rfl; exact h1; exact h2
    have h3 := blk b cur s (Array.getElem?_eq_some_iff.1 hc).1 hc hss.2
    exact ⟨(ne b cur s (h3.trans hc) hss.1).trans h3, hp⟩
  have hx : (w'.setCell ⟨wb, 1, none⟩ v').ownsRow 0 110 1 v' (ds ++ [kb]).length ((ds ++ [kb]).map dkPtr) := by
    rw [List.length_append, List.map_append]
    refine own_blk ho fun b e => ?_
    obtain ⟨cur, hc⟩ := own_type ho e
    exact ne b cur _ hc (by decide)
  exact ⟨(setWB (hwb.trans h.blk)).trans rfl, row h.x (by decide) (by decide), hx, nar h.i (by decide) (by decide), nar h.d (by decide) (by decide), nar h.r (by decide) (by decide), nar h.f (by decide) (by decide), h.pw, h.px, fun b e => hp b e, h.n0, h.li, h.ld, h.lr, h.lf⟩
/-- A new Kernel and a new Desk stand beside the others. -/
theorem PI.new {xv' yv' : Value} {w1 w2 w3 : World} {P1 P2 P0 : Nat → Prop} {kb db : Nat} (h : PI w wb own N M xv yv ks ds ss ss) (hl : ss.length < 3) (hu1 : Upd (fun _ => False) P1 w w1) (hu2 : Upd (fun _ => False) P2 w1 w2) (hlt1 : ∀ b, P1 b → b < w1.heap.size) (hlt2 : ∀ b, P2 b → b < w2.heap.size) (hr : rep w3 kb P1 DS.new) (hd : drep w3 db P2 M DS.new) (hz : w2.heap.size ≤ w3.heap.size) (h0 : ∀ b, P0 b → own 0 b ∨ w2.heap.size ≤ b) (h0l : ∀ b, P0 b → b < w3.heap.size) (hk : ∀ b, b < w.heap.size → ¬ own 0 b → w3.heap[b]? = w.heap[b]?) (hb : ∃ iv dv rv fv n ei ed er ef, WB w3 wb P0 N (ks ++ [kb]) (ds ++ [db]) xv' yv' iv dv rv fv n ei ed er ef) (hos : w3.os = w.os) (hta : w3.tape = w.tape) (hou : w3.output = w.output) :
    ∃ own', PI w3 wb own' N M xv' yv' (ks ++ [kb]) (ds ++ [db]) (ss ++ [DS.new]) (ss ++ [DS.new]) ∧ UB w.heap.size (owned own) (owned own') w w3 := by
  have z1 := hu1.size
  have z2 := hu2.size
  have p1 : ∀ b, P1 b → w.heap.size ≤ b ∧ b < w1.heap.size := fun b hp => ⟨by
    rcases Nat.lt_or_ge b w.heap.size with g | g
    · exact (hu1.old b g hp).elim
    · exact g, hlt1 b hp⟩
  have p2 : ∀ b, P2 b → w1.heap.size ≤ b ∧ b < w2.heap.size := fun b hp => ⟨by
    rcases Nat.lt_or_ge b w1.heap.size with g | g
    · exact (hu2.old b g hp).elim
    · exact g, hlt2 b hp⟩
  let own' : Nat → Nat → Prop := fun j b => (j = 0 ∧ P0 b) ∨ (j = 2 * ss.length + 1 ∧ P1 b) ∨ (j = 2 * ss.length + 2 ∧ P2 b) ∨ (j ≠ 0 ∧ j < 2 * ss.length + 1 ∧ own j b)
  have e0 : own' 0 = P0 := by
    funext b
    apply propext
    constructor
    · rintro (⟨_, h⟩ | ⟨g, _⟩ | ⟨g, _⟩ | ⟨g, _⟩)
      · exact h
      · omega
      · omega
      · exact absurd rfl g
    · exact fun h => Or.inl ⟨rfl, h⟩
  have e1 : own' (2 * ss.length + 1) = P1 := by
    funext b
    apply propext
    constructor
    · rintro (⟨g, _⟩ | ⟨_, h⟩ | ⟨g, _⟩ | ⟨_, g, _⟩)
      · omega
      · exact h
      · omega
      · omega
    · exact fun h => Or.inr (Or.inl ⟨rfl, h⟩)
  have e2 : own' (2 * ss.length + 2) = P2 := by
    funext b
    apply propext
    constructor
    · rintro (⟨g, _⟩ | ⟨g, _⟩ | ⟨_, h⟩ | ⟨_, g, _⟩)
      · omega
      · omega
      · exact h
      · omega
    · exact fun h => Or.inr (Or.inr (Or.inl ⟨rfl, h⟩))
  have e3 : ∀ j, j ≠ 0 → j < 2 * ss.length + 1 → own' j = own j := fun j h1 h2 => by
    funext b
    apply propext
    constructor
    · rintro (⟨g, _⟩ | ⟨g, _⟩ | ⟨g, _⟩ | ⟨_, _, h⟩)
      · omega
      · omega
      · omega
      · exact h
    · exact fun h => Or.inr (Or.inr (Or.inr ⟨h1, h2, h⟩))
  have keep : ∀ j b, j ≠ 0 → own j b → w3.heap[b]? = w.heap[b]? := fun j b hj ho => hk b (h.o.lt j b ho) fun ho0 => hj (h.o.dis j 0 b ho ho0)
  have zz : w.heap.size ≤ w3.heap.size := Nat.le_trans z1 (Nat.le_trans z2 hz)
  refine ⟨own', ⟨⟨fun j b hb => ?_, fun j k b hj hk => ?_⟩, by rw [e0]; exact hb, by simp only [List.length_append, List.length_singleton]; rw [h.lk], by simp only [List.length_append, List.length_singleton]; rw [h.ld], ⟨rfl, by simp only [List.length_append, List.length_singleton]; omega⟩, fun j kb2 s2 h1 h2 => ?_, fun j db2 s2 h1 h2 => ?_⟩, ⟨hos, hta, hou, zz, fun b hb hn => hk b hb fun ho => hn ⟨0, ho⟩, fun b hb ho => ?_⟩⟩
  · rcases hb with ⟨_, h⟩ | ⟨_, h⟩ | ⟨_, h⟩ | ⟨_, _, ho⟩
    · exact h0l b h
    · have := p1 b h; omega
    · have := p2 b h; omega
    · have := h.o.lt j b ho; omega
  · have key : ∀ j, own' j b → (j = 0 ∧ (own 0 b ∨ w2.heap.size ≤ b)) ∨ (j = 2 * ss.length + 1 ∧ w.heap.size ≤ b ∧ b < w1.heap.size) ∨ (j = 2 * ss.length + 2 ∧ w1.heap.size ≤ b ∧ b < w2.heap.size) ∨ (j ≠ 0 ∧ own j b) := fun j hj => by
      rcases hj with ⟨g, h⟩ | ⟨g, h⟩ | ⟨g, h⟩ | ⟨g, _, ho⟩
      · exact Or.inl ⟨g, h0 b h⟩
      · exact Or.inr (Or.inl ⟨g, p1 b h⟩)
      · exact Or.inr (Or.inr (Or.inl ⟨g, p2 b h⟩))
      · exact Or.inr (Or.inr (Or.inr ⟨g, ho⟩))
    have old : ∀ j, own j b → b < w.heap.size := fun j hj => h.o.lt j b hj
    rcases key j hj with ⟨rfl, g | g⟩ | ⟨rfl, g⟩ | ⟨rfl, g⟩ | ⟨g1, g⟩ <;> rcases key k hk with ⟨rfl, f | f⟩ | ⟨rfl, f⟩ | ⟨rfl, f⟩ | ⟨f1, f⟩ <;> first | rfl | exact h.o.dis _ _ b g f | (have := old _ g; have := old _ f; omega) | (have := old _ g; omega) | (have := old _ f; omega) | omega
  · rcases Nat.lt_or_ge j ss.length with g | g
    · rw [List.getElem?_append_left (by rw [h.lk]; exact g)] at h1
      rw [List.getElem?_append_left g] at h2
      rw [e3 _ (by omega) (by omega)]
      exact (h.k j kb2 s2 h1 h2).frame zz fun b hp => keep _ b (by omega) hp
    · have hj : j = ss.length := by
        have := (List.getElem?_eq_some_iff.1 h2).1
        simp only [List.length_append, List.length_singleton] at this
        omega
      subst hj
      rw [List.getElem?_concat_length] at h2
      have h1' : (ks ++ [kb])[ks.length]? = some kb2 := by rw [h.lk]; exact h1
      rw [List.getElem?_concat_length] at h1'
      cases h2
      cases h1'
      rw [e1]
      exact hr
  · rcases Nat.lt_or_ge j ss.length with g | g
    · rw [List.getElem?_append_left (by rw [h.ld]; exact g)] at h1
      rw [List.getElem?_append_left g] at h2
      rw [e3 _ (by omega) (by omega)]
      exact (h.d j db2 s2 h1 h2).frame zz fun b hp => keep _ b (by omega) hp
    · have hj : j = ss.length := by
        have := (List.getElem?_eq_some_iff.1 h2).1
        simp only [List.length_append, List.length_singleton] at this
        omega
      subst hj
      rw [List.getElem?_concat_length] at h2
      have h1' : (ds ++ [db])[ds.length]? = some db2 := by rw [h.ld]; exact h1
      rw [List.getElem?_concat_length] at h1'
      cases h2
      cases h1'
      rw [e2]
      exact hd
  · obtain ⟨j, hj⟩ := ho
    rcases hj with ⟨_, h'⟩ | ⟨_, h'⟩ | ⟨_, h'⟩ | ⟨_, _, h'⟩
    · rcases h0 b h' with g | g
      · exact ⟨0, g⟩
      · omega
    · have := p1 b h'; omega
    · have := p2 b h'; omega
    · exact ⟨j, h'⟩
end
end Go.Proofs.YtaicdjhblbobbaaGreat

/- One more Kernel and its Desk: made. -/
namespace Go.Proofs.YtaicdjhblbobbaaGreat
open Go.RowKit Go.Lib

section
variable {w w' : World} {wb : Nat} {own : Nat → Nat → Prop} {N M : Nat} {xv yv : Value} {ks ds : List Nat} {ss : List DS}
/-- What is left when a Kernel and a Desk were made and put into their rows. -/
theorem made_fin (h : PI w wb own N M xv yv ks ds ss ss) (hl : ks.length < 3) {iv dv rv fv : Value} {n : Int} {ei ed er ef : List En} (hw : WB w wb (own 0) N ks ds xv yv iv dv rv fv n ei ed er ef) {w1 w2 w3 w4 : World} {P1 P2 : Nat → Prop} {kb db : Nat} {v3 v4 : Value} (hr : rep w1 kb P1 DS.new) (hu1 : Upd (fun _ => False) P1 w w1) (hd : drep w2 db P2 0 DS.new) (hu2 : Upd (fun _ => False) P2 w1 w2)
    (ho3 : w3.ownsRow 0 26 1 v3 (ks.length + 1) (ks.map kptr ++ [kptr kb])) (hb3 : Below 0 w2 w3) (hz3 : w2.heap.size ≤ w3.heap.size) (hold3 : ∀ b, b < w2.heap.size → xv.ownBlock ≠ some b → w3.heap[b]? = w2.heap[b]?) (hwh3 : ∀ b, v3.ownBlock = some b → xv.ownBlock = some b ∨ w2.heap.size ≤ b)
    (ho4 : w4.ownsRow 0 110 1 v4 (ds.length + 1) (ds.map dkPtr ++ [dkPtr db])) (hb4 : Below 0 (w3.setCell ⟨wb, 0, none⟩ v3) w4) (hz4 : (w3.setCell ⟨wb, 0, none⟩ v3).heap.size ≤ w4.heap.size) (hold4 : ∀ b, b < (w3.setCell ⟨wb, 0, none⟩ v3).heap.size → yv.ownBlock ≠ some b → w4.heap[b]? = (w3.setCell ⟨wb, 0, none⟩ v3).heap[b]?) (hwh4 : ∀ b, v4.ownBlock = some b → yv.ownBlock = some b ∨ (w3.setCell ⟨wb, 0, none⟩ v3).heap.size ≤ b) :
    ∃ own', PI (w4.setCell ⟨wb, 1, none⟩ v4) wb own' N M v3 v4 (ks ++ [kb]) (ds ++ [db]) (ss ++ [DS.new]) (ss ++ [DS.new]) ∧ UB w.heap.size (owned own) (owned own') w (w4.setCell ⟨wb, 1, none⟩ v4) := by
  have z1 := hu1.size
  have z2 := hu2.size
  have hz3' : (w3.setCell ⟨wb, 0, none⟩ v3).heap.size = w3.heap.size := by simp
  have hz4' : (w4.setCell ⟨wb, 1, none⟩ v4).heap.size = w4.heap.size := by simp
  have hwl := hw.lt
  have b12 : ∀ b, b < w.heap.size → w2.heap[b]? = w.heap[b]? := fun b hb => (hu2.block b (by omega) fun h => h).trans (hu1.block b hb fun h => h)
  have hw2 : WB w2 wb (fun b => own 0 b ∨ w2.heap.size ≤ b) N ks ds xv yv iv dv rv fv n ei ed er ef := hw.frame fun b hp hb => ⟨b12 b hb, Or.inl hp⟩
  have hw3 := hw2.addX ho3 hold3 (fun b e => by
    rcases hwh3 b e with g | g
    · exact hw2.px b g
    · exact Or.inr g)
  have hw4 := hw3.addY ho4 hold4 (fun b e => by
    rcases hwh4 b e with g | g
    · exact hw3.py b g
    · exact Or.inr (by omega))
  have far : ∀ b, b < w2.heap.size → ¬ own 0 b → (w4.setCell ⟨wb, 1, none⟩ v4).heap[b]? = w2.heap[b]? := fun b hb hn => by
    have hne : b ≠ wb := fun e => hn (by rw [e]; exact hw.pw)
    refine (Below.heap_setCell _ _ _ _ hne).trans ((hold4 b (by omega) fun e => hn (hw.py b e)).trans ((Below.heap_setCell _ _ _ _ hne).trans (hold3 b hb fun e => hn (hw.px b e))))
  have new : ∀ b, w.heap.size ≤ b → ¬ own 0 b := fun b hb ho => by
    have := h.o.lt 0 b ho
    omega
  have q1 : ∀ b, P1 b → w.heap.size ≤ b := fun b hp => by
    rcases Nat.lt_or_ge b w.heap.size with g | g
    · exact (hu1.old b g hp).elim
    · exact g
  have q2 : ∀ b, P2 b → w1.heap.size ≤ b := fun b hp => by
    rcases Nat.lt_or_ge b w1.heap.size with g | g
    · exact (hu2.old b g hp).elim
    · exact g
  have hlt1 : ∀ b, P1 b → b < w1.heap.size := hr.2.1
  have hlt2 : ∀ b, P2 b → b < w2.heap.size := hd.1
  refine h.new (P0 := fun b => (own 0 b ∨ w2.heap.size ≤ b) ∧ b < (w4.setCell ⟨wb, 1, none⟩ v4).heap.size) (by rw [← h.lk]; exact hl) hu1 hu2 hlt1 hlt2 ?_ ?_ (by omega) (fun b hp => hp.1) (fun b hp => hp.2) (fun b hb hn => (far b (by omega) hn).trans (b12 b hb)) ⟨_, _, _, _, _, _, _, _, _, hw4.frame fun b hp hb => ⟨rfl, hp, hb⟩⟩ ?_ ?_ ?_
  · exact hr.frame (by omega) fun b hp => (far b (by have := hlt1 b hp; omega) (new b (q1 b hp))).trans (hu2.block b (hlt1 b hp) fun h => h)
  · exact (hd.frame (by omega) fun b hp => far b (hlt2 b hp) (new b (by have := q2 b hp; omega))).more (Nat.zero_le _)
  · exact hb4.os.trans (hb3.os.trans (hu2.os.trans hu1.os))
  · exact hb4.tape.trans (hb3.tape.trans (hu2.tape.trans hu1.tape))
  · exact hb4.output.trans (hb3.output.trans (hu2.output.trans hu1.output))
set_option maxHeartbeats 8000000 in
set_option maxRecDepth 100000 in
/-- A Kernel and a Desk are made, and stand in their rows. -/
theorem made_new (h : PI w wb own N M xv yv ks ds ss ss) (hl : ks.length < 3) :
    Calls Tryz.prog 37 #[.pointer (some ⟨wb, 0, none⟩)] w fun r w' => r = .returned (.bool true) ∧ ∃ kb db xv' yv' own', PI w' wb own' N M xv' yv' (ks ++ [kb]) (ds ++ [db]) (ss ++ [DS.new]) (ss ++ [DS.new]) ∧ UB w.heap.size (owned own) (owned own') w w' := by
  have HK := Hid.mk (face.new w)
  have HDN := Hid.mk (fun W => dnew W)
  obtain ⟨iv, dv, rv, fv, n, ei, ed, er, ef, hw⟩ := h.b
  obtain ⟨xa, xc, rfl⟩ := own_form hw.x
  obtain ⟨ya, yc, rfl⟩ := own_form hw.y
  have HH := Hid.mk h
  have HW := Hid.mk hw
  have hl3 : ((ks.length : Int) < 3) := by omega
  have HL := Hid.mk hl
  have hdl : ds.length ≤ 3 := by rw [h.ld]; exact h.le.2
  have HWC := Hid.mk (fun (W : World) (hW : Below w.heap.size w W) => (hw.frame (w' := W) (P' := own 0) fun b hp hb => ⟨hW.block b hb, hp⟩))
  have hwb := hw.lt
  clear h hw
  unfold kptr at HK
  unfold dkPtr at HDN
  go_enter Tryz.func37, Tryz.ntmps37
  go_wp2_with (first
    | (go_at_call 31; refine HK.out.mono ?_; rintro r w1 ⟨kb, P1, rfl, hr1, hu1⟩; have hb1 : Below w.heap.size w w1 := ⟨hu1.os, hu1.tape, hu1.output, hu1.size, fun k hk => hu1.block k hk (fun h => h)⟩; have c0 : w1.cell? ⟨wb, 0, none⟩ = some (.slice xa ks.length xc) := (HWC.out w1 hb1).cell 0; have hz1 := hb1.size; have HB1 := Hid.mk hb1; have HR1 := Hid.mk hr1; have HU1 := Hid.mk hu1; clear hr1 hu1 hb1)
    | (go_at_call 63; refine (HDN.out w1).mono ?_; rintro r w2 ⟨P2, rfl, hr2, hu2⟩; have hb2 : Below w.heap.size w w2 := HB1.out.trans (⟨hu2.os, hu2.tape, hu2.output, hu2.size, fun k hk => hu2.block k (by omega) (fun h => h)⟩ : Below w.heap.size w1 w2); have hw2 := HWC.out w2 hb2; have c20 : w2.cell? ⟨wb, 0, none⟩ = some (.slice xa ks.length xc) := hw2.cell 0; have f20 := hw2.frozen 0; have hz2 := hb2.size; have HWX := Hid.mk hw2; have HR2 := Hid.mk hr2; have HU2 := Hid.mk hu2; clear hr2 hu2 hb2 hw2)
    | (at_builtin; refine wpList_snocL rfl _ _ _ rfl Tryz.underlying64 Tryz.infoKp rfl (by decide) (by decide) (v := .slice xa ks.length xc) (n := ks.length) rfl HWX.out.x (Nat.zero_le _) (by omega) (cs := #[.pointer (some ⟨kb, 0, none⟩)]) rfl (by simp) rfl (by simp [Value.oneCell']) ?_; intro v3 w3 ho3 hb3 hz3 hold3 hwh3; obtain ⟨a3, c3, rfl⟩ := own_form ho3; have hwx := HWX.out; have hblk3 := (hold3 wb hwx.lt (fun e => by obtain ⟨cu, hc⟩ := own_type hwx.x e; rw [hwx.blk] at hc; cases hc)); have d0 : w3.cell? ⟨wb, 0, none⟩ = some (.slice xa ks.length xc) := ((World.cell?_of_block (a := ⟨wb, 0, none⟩) hblk3).trans (hwx.cell 0)); have g0 : w3.frozen? ⟨wb, 0, none⟩ = false := ((World.frozen?_of_block (a := ⟨wb, 0, none⟩) hblk3).trans (hwx.frozen 0)); have hwx3 := ((hwx.frame (w' := w2) (P' := fun _ => True) fun b _ _ => ⟨rfl, trivial⟩).addX (kb := kb) ho3 hold3 (fun _ _ => trivial)); have c31 : (w3.setCell ⟨wb, 0, none⟩ (.slice a3 (ks.length + 1) c3)).cell? ⟨wb, 1, none⟩ = some (.slice ya ds.length yc) := hwx3.cell 1; have hz30 := hwx3.lt; have HWX3 := Hid.mk hwx3; clear hwx3; have HO3 := Hid.mk ho3; have HB3 := Hid.mk hb3; have HOLD3 := Hid.mk hold3; have HWH3 := Hid.mk hwh3; clear hwx ho3 hb3 hold3 hwh3 hblk3)
    | (at_builtin; refine wpList_snocL rfl _ _ _ rfl Tryz.underlying65 Tryz.infoDp rfl (by decide) (by decide) (v := .slice ya ds.length yc) (n := ds.length) rfl HWX3.out.y (Nat.zero_le _) (by omega) (cs := #[.pointer (some ⟨w1.heap.size, 0, none⟩)]) rfl (by simp) rfl (by simp [Value.oneCell']) ?_; intro v4 w4 ho4 hb4 hz4 hold4 hwh4; obtain ⟨a4, c4, rfl⟩ := own_form ho4; have hwx := HWX3.out; have hblk4 := (hold4 wb hwx.lt (fun e => by obtain ⟨cu, hc⟩ := own_type hwx.y e; rw [hwx.blk] at hc; cases hc)); have d1 : w4.cell? ⟨wb, 1, none⟩ = some (.slice ya ds.length yc) := ((World.cell?_of_block (a := ⟨wb, 1, none⟩) hblk4).trans (hwx.cell 1)); have g1 : w4.frozen? ⟨wb, 1, none⟩ = false := ((World.frozen?_of_block (a := ⟨wb, 1, none⟩) hblk4).trans (hwx.frozen 1)); have HFIN := Hid.mk (made_fin HH.out HL.out HW.out HR1.out HU1.out HR2.out HU2.out HO3.out HB3.out hz3 HOLD3.out HWH3.out ho4 hb4 hz4 hold4 hwh4); clear hwx ho4 hb4 hold4 hwh4 hblk4))
  go_ret
  exact ⟨rfl, kb, _, _, _, HFIN.out⟩
end
end Go.Proofs.YtaicdjhblbobbaaGreat
