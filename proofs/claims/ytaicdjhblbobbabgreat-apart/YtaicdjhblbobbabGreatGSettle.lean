/- Contract of the Kernel's settle: who waits no more. -/
import Derived.Test.YtaicdjhblbobbabGreatGWake
import Derived.Test.YtaicdjhblbobbabGreatGFaceD
import Derived.Deep.LoopGhost
namespace Go.Proofs.YtaicdjhblbobbabGreat
open Go.RowKit Go.Lib

theorem Tryz.infoDone : (Tryz.prog.info? 78).map (fun i => (i.zero, i.size, i.bytes)) = some (some (.agg #[.int .i64 0, .int .i64 0]), 2, 16) := by kernel_rfl
theorem flatD_snoc (l : List Dn) (d : Dn) : flatD (l ++ [d]) = flatD l ++ [.int .i64 d.p, .int .i64 d.e] := by simp [flatD, Dn.cells]
theorem Kp.belowB {bs : List Nat} {w w1 w2 : World} (h : Kp bs w w1) (hb : Below w.heap.size w1 w2) : Kp bs w w2 := ⟨hb.os.trans h.os, hb.tape.trans h.tape, hb.output.trans h.output, Nat.le_trans h.size hb.size, fun k hk hn => (hb.block k hk).trans (h.block k hk hn)⟩
/-- Where wake ends one's waiting. -/
theorem DS.settle_step {s : DS} (h : s.Bas) : (s.wakeR.ok = false → s.settle = (s, []) ∧ s.wakeR.t = s) ∧ (s.wakeR.ok = true → s.wakeR.t.Bas ∧ s.wakeR.t.Q = s.Q ∧ DS.Bas {s.wakeR.t with Q := s.wakeR.t.Q.filter fun b => decide (b.p ≠ s.wakeR.p)} ∧ (s.wakeR.t.Q.filter fun b => decide (b.p ≠ s.wakeR.p)).length < s.Q.length ∧
    s.settle = ((DS.settle {s.wakeR.t with Q := s.wakeR.t.Q.filter fun b => decide (b.p ≠ s.wakeR.p)}).1, ⟨s.wakeR.p, s.wakeR.f⟩ :: (DS.settle {s.wakeR.t with Q := s.wakeR.t.Q.filter fun b => decide (b.p ≠ s.wakeR.p)}).2)) := by
  have hk := DS.settle_wake h
  unfold DS.wakeR
  cases hw : s.wake? with
  | none =>
    rw [hw] at hk
    exact ⟨fun _ => ⟨hk, rfl⟩, fun e => absurd e (by simp)⟩
  | some x =>
    obtain ⟨p, t, f⟩ := x
    rw [hw] at hk
    obtain ⟨h1, h2, _, h4, h5, h6⟩ := hk
    exact ⟨fun e => absurd e (by simp), fun _ => ⟨h1, h2, h4, h5, h6⟩⟩

set_option maxHeartbeats 8000000 in
set_option maxRecDepth 100000 in
theorem settle_any {w : World} {kb tb mb : Nat} {g : Int} {P : Nat → Prop} {ι : Nat → Nat} {s : DS} {rv wv : Nat → Value} {qv : Value} {B : Nat} (h : KV w kb tb mb g P ι s rv wv qv) (hP : ∀ b, B ≤ b → P b) (hB : B ≤ w.heap.size) (hbas : s.Bas) :
    Calls Tryz.prog 56 #[.pointer (some ⟨kb, 0, none⟩)] w fun e w' => ∃ v', e = .returned v' ∧ w'.ownsRow w.heap.size 78 2 v' s.settle.2.length (flatD s.settle.2) ∧ (∃ rv' wv' qv', KV w' kb tb mb g P ι s.settle.1 rv' wv' qv') ∧ Kp [kb] w w' := by
  have HKV := Hid.mk h
  have HBA := Hid.mk hbas
  have hkl := h.lt
  have hQ6 := h.sm.ql
  clear h hbas
  go_enter Tryz.func56, Tryz.ntmps56
  go_wp2
  go_loopg [3, 4, 5, 6] s.Q.length (fun gm s3 _ _ _ wr => ∃ (t : DS) (D : List Dn) (rv' wv' : Nat → Value) (qv' : Value), gm = t.Q.length ∧ D.length + t.Q.length ≤ s.Q.length ∧ Hid (KV wr kb tb mb g P ι t rv' wv' qv') ∧ Hid t.Bas ∧ Hid (s.settle = (t.settle.1, D ++ t.settle.2)) ∧ Hid (wr.ownsRow w.heap.size 78 2 s3 D.length (flatD D)) ∧ Hid (Kp [kb] w wr))
  case atStart => exact ⟨s, [], rv, wv, qv, rfl, by simp, HKV.out, HBA.out, rfl, World.ownsRow_nil _ _ _ _, Kp.refl _ _⟩
  case round =>
    obtain ⟨t, D, rv', wv', qv', rfl, hDl, HK, HT, HS, HO, HP⟩ := hrel
    have hsz : w.heap.size ≤ wr.heap.size := HP.out.size
    have HW := Hid.mk (wake_any HK.out hP (by omega) HT.out)
    obtain ⟨st0, st1⟩ := DS.settle_step HT.out
    have H0 := Hid.mk st0
    have H1 := Hid.mk st1
    clear st0 st1
    generalize t.wakeR = R at *
    obtain ⟨rp, rf, rok, rt⟩ := R
    simp only at HW H0 H1
    cases rok
    · obtain ⟨hz1, hz2⟩ := H0.out rfl
      have HE := Hid.mk hz1
      have HE2 := Hid.mk hz2
      clear hz1 hz2
      go_wp2_with (go_at_call 79; refine HW.out.mono ?_; rintro e w1 ⟨rfl, hkv, hkp⟩; have HK1 := Hid.mk hkv; have HP1 := Hid.mk hkp; clear hkv hkp)
      go_ret
      have hs := HS.out
      rw [HE.out] at hs
      simp only [List.append_nil] at hs
      rw [hs]
      obtain ⟨rv2, wv2, hk2⟩ := HK1.out
      rw [HE2.out] at hk2
      refine ⟨_, rfl, own_blk HO.out fun b e => HP1.out.block b (HO.out.lt b e).2 ?_, ⟨rv2, wv2, qv', hk2⟩, HP.out.trans HP1.out⟩
      have := (HO.out.lt b e).1
      simp
      omega
    · obtain ⟨hb1, hq1, hb2, hl2, hs2⟩ := H1.out rfl
      have HB2 := Hid.mk hb2
      have HL2 := Hid.mk hl2
      have HS2 := Hid.mk hs2
      clear hb1 hb2 hl2 hs2 hq1
      have hDs : D.length < 1000 := by omega
      generalize hqf : (rt.Q.filter fun b => decide (b.p ≠ rp)) = QF at *
      have HQF := Hid.mk hqf
      clear hqf H0 H1
      obtain ⟨da, dc, rfl⟩ := own_form HO.out
      go_wp2_with (first
        | (go_at_call 79; refine HW.out.mono ?_; rintro e w1 ⟨rfl, ⟨rv2, wv2, hkv⟩, hkp⟩; obtain ⟨qa, qc, rfl⟩ := own_form hkv.q; have c9 := hkv.c9; have f9 := hkv.frz 9; have hk1 := hkv.lt; have hz1 := hkp.size; have HQ := Hid.mk (qWithout_any rp hkv.q (by rw [renQ_len]; have := hkv.sm.ql; omega)); rw [renQ_filter, HQF.out] at HQ; have HK1 := Hid.mk hkv; have HP1 := Hid.mk hkp; clear hkv hkp)
        | (go_at_call 65; refine HQ.out.mono ?_; rintro e w2 ⟨v2, rfl, ho2, hb2⟩; obtain ⟨a2, c2, rfl⟩ := own_form ho2; have hz2 := hb2.size; have d9 := (hb2.cell (p := ⟨kb, 9, none⟩) hk1).trans c9; have e9 := (hb2.frozen (p := ⟨kb, 9, none⟩) hk1).trans f9; have HO2 := Hid.mk ho2; have HB2' := Hid.mk hb2; have HKP : Hid (Kp [kb] wr (w2.setCell ⟨kb, 9, none⟩ (.slice a2 (renQ ι QF).length c2))) := HP1.out.trans (Kp.of_setCell hb2 (by simp) _); have HOD : Hid ((w2.setCell ⟨kb, 9, none⟩ (.slice a2 (renQ ι QF).length c2)).ownsRow w.heap.size 78 2 (.slice da D.length dc) D.length (flatD D)) := own_blk HO.out (fun b e => HKP.out.block b (HO.out.lt b e).2 (by have := (HO.out.lt b e).1; simp; omega)); clear ho2 hb2)
        | (at_builtin; refine wpList_snoc rfl _ _ _ rfl Tryz.underlying29 Tryz.infoDone rfl (by decide) (by decide) rfl HOD.out (by simp; omega) (by omega) (cs := #[.int .i64 rp, .int .i64 rf]) rfl (by simp) rfl (by simp [Value.oneCell']) ?_; intro v4 w4 ho4 hb4 hz4 hold4; have HO4 := Hid.mk ho4; have HB4 := Hid.mk hb4; have HOL := Hid.mk hold4; clear ho4 hb4 hold4))
      have hKV3 := (HK1.out.below HB2'.out).setQueue (v := .slice a2 (renQ ι QF).length c2) (l := QF) (own_mono HO2.out (Nat.zero_le _)) (fun b e => hP b (by have := (HO2.out.lt b e).1; omega)) HB2.out.sm
      have HKV3 := Hid.mk hKV3
      clear hKV3
      go_roundg QF.length
      case measure => exact HL2.out
      case rel =>
        refine ⟨{rt with Q := QF}, D ++ [⟨rp, rf⟩], rv2, wv2, .slice a2 (renQ ι QF).length c2, rfl, ?_, ?_, HB2.out, ?_, ?_, ?_⟩
        · have := HL2.out
          simp only [List.length_append, List.length_cons, List.length_nil]
          omega
        · exact HKV3.out.but (t2 := 78) (by decide) (by decide) (by decide) (by decide) (by decide) (by decide) (own_but HOD.out HOL.out)
        · have hs := HS.out
          rw [HS2.out] at hs
          show s.settle = _
          rw [hs]
          simp
        · rw [List.length_append, flatD_snoc]
          exact HO4.out
        · exact (HP.out.trans HKP.out).belowB HB4.out
end Go.Proofs.YtaicdjhblbobbabGreat

/- Contract of the Kernel's answer: the reply, and who waits no more. -/
namespace Go.Proofs.YtaicdjhblbobbabGreat
open Go.RowKit Go.Lib

theorem own_api {w w' : World} {base : Nat} {sz : Nat} {t2 t : TypeId} {v : Value} {n : Nat} {xs : List Value} (h : w.ownsRow base t sz v n xs) (hne : t2 ≠ t) (hold : ∀ b, b < w.heap.size → (∀ cur fr, w.heap[b]? ≠ some (.cells cur t2 fr)) → w'.heap[b]? = w.heap[b]?) : w'.ownsRow base t sz v n xs :=
  own_blk h fun b e => by
    obtain ⟨cur, hc⟩ := own_tag h e
    exact hold b (h.lt b e).2 fun c fr e2 => by rw [hc] at e2; cases e2; exact hne rfl
theorem setCell_but {w : World} {b : Nat} {cs : Array Value} {t2 : TypeId} {fr : Nat × Nat} (hb : w.heap[b]? = some (.cells cs t2 fr)) (o : Nat) (v : Value) : ∀ k, k < w.heap.size → (∀ cur fr, w.heap[k]? ≠ some (.cells cur t2 fr)) → (w.setCell ⟨b, o, none⟩ v).heap[k]? = w.heap[k]? :=
  fun k _ hn => Below.heap_setCell _ _ _ _ fun e => hn cs fr (by rw [e]; exact hb)

section
variable {w : World} {kb tb mb : Nat} {g : Int} {P : Nat → Prop} {ι : Nat → Nat} {s : DS} {rv wv : Nat → Value} {qv : Value} {B : Nat}
/-- The Kernel stands while a reply is stored into its own block. -/
theorem KV.reply (h : KV w kb tb mb g P ι s rv wv qv) {b : Nat} {cs : Array Value} {fr : Nat × Nat} (hb : w.heap[b]? = some (.cells cs 31 fr)) (o : Nat) (v : Value) : KV (w.setCell ⟨b, o, none⟩ v) kb tb mb g P ι s rv wv qv :=
  h.but (t2 := 31) (by decide) (by decide) (by decide) (by decide) (by decide) (by decide) (setCell_but hb o v)
theorem Kp.newCell {bs : List Nat} {w w' : World} (h : Kp bs w w') {a : Addr} (ha : w.heap.size ≤ a.block) (v : Value) : Kp bs w (w'.setCell a v) :=
  ⟨h.os, h.tape, h.output, by simpa using h.size, fun k hk hn => (Below.heap_setCell _ _ _ _ (by omega)).trans (h.block k hk hn)⟩

theorem reply_block {w : World} {b : Nat} {x y z : Value} (h : w.heap[b]? = some (.cells #[x, y, z] 31 (0, 0))) :
    w.cell? ⟨b, 0, none⟩ = some x ∧ w.cell? ⟨b, 1, none⟩ = some y ∧ w.cell? ⟨b, 2, none⟩ = some z ∧ ∀ o, w.frozen? ⟨b, o, none⟩ = false := by
  refine ⟨?_, ?_, ?_, fun o => ?_⟩ <;> simp [World.cell?, World.frozen?, h]
theorem reply_set {w : World} {b : Nat} {x y z : Value} (h : w.heap[b]? = some (.cells #[x, y, z] 31 (0, 0))) (v0 v1 v2 : Value) :
    (((w.setCell ⟨b, 0, none⟩ v0).setCell ⟨b, 1, none⟩ v1).setCell ⟨b, 2, none⟩ v2).heap[b]? = some (.cells #[v0, v1, v2] 31 (0, 0)) := by
  rw [heap_setCell_at (heap_setCell_at (heap_setCell_at h))]; rfl
theorem KV.reply3 (h : KV w kb tb mb g P ι s rv wv qv) {b : Nat} {x y z : Value} (hb : w.heap[b]? = some (.cells #[x, y, z] 31 (0, 0))) (v0 v1 v2 : Value) : KV (((w.setCell ⟨b, 0, none⟩ v0).setCell ⟨b, 1, none⟩ v1).setCell ⟨b, 2, none⟩ v2) kb tb mb g P ι s rv wv qv :=
  ((h.reply hb 0 v0).reply (heap_setCell_at hb) 1 v1).reply (heap_setCell_at (heap_setCell_at hb)) 2 v2
theorem own_reply {b : Nat} {cs : Array Value} {fr : Nat × Nat} {base sz n : Nat} {t : TypeId} {v : Value} {xs : List Value} (h : w.ownsRow base t sz v n xs) (hb : w.heap[b]? = some (.cells cs 31 fr)) (ht : 31 ≠ t) (o : Nat) (u : Value) : (w.setCell ⟨b, o, none⟩ u).ownsRow base t sz v n xs :=
  own_api h ht (setCell_but hb o u)
theorem own_reply3 {b : Nat} {x y z : Value} {base sz n : Nat} {t : TypeId} {v : Value} {xs : List Value} (h : w.ownsRow base t sz v n xs) (hb : w.heap[b]? = some (.cells #[x, y, z] 31 (0, 0))) (ht : 31 ≠ t) (v0 v1 v2 : Value) : (((w.setCell ⟨b, 0, none⟩ v0).setCell ⟨b, 1, none⟩ v1).setCell ⟨b, 2, none⟩ v2).ownsRow base t sz v n xs :=
  own_reply (own_reply (own_reply h hb ht 0 v0) (heap_setCell_at hb) ht 1 v1) (heap_setCell_at (heap_setCell_at hb)) ht 2 v2

set_option maxHeartbeats 4000000 in
set_option maxRecDepth 100000 in
theorem answer_any (h : KV w kb tb mb g P ι s rv wv qv) (hP : ∀ b, B ≤ b → P b) (hB : B ≤ w.heap.size) (hbas : s.Bas) (n f : Int) :
    Calls Tryz.prog 38 #[.pointer (some ⟨kb, 0, none⟩), .int .i64 n, .int .i64 f] w fun e w' => ∃ v, e = .returned (rpV (s.done n f).2 v) ∧ w'.ownsRow w.heap.size 78 2 v (s.done n f).2.d.length (flatD (s.done n f).2.d) ∧ (∃ rv' wv' qv', KV w' kb tb mb g P ι (s.done n f).1 rv' wv' qv') ∧ Kp [kb] w w' := by
  have HH := Hid.mk h
  have HBA := Hid.mk hbas
  have hkl := h.lt
  have hb0 : Below w.heap.size w ((w.alloc (.cells #[.int .i64 0, .int .i64 0, .slice none 0 0] 31)).alloc (.cells #[.int .i64 f, .int .i64 n, .slice none 0 0] 31)) := ((Below.refl _ _).alloc (Nat.le_refl _) _).alloc (by simp) _
  have HB0 := Hid.mk hb0
  by_cases hf : f = 0
  · have HE : Hid (s.done n f = (s.settle.1, ⟨0, n, s.settle.2⟩)) := by show _ = _; unfold DS.done; rw [if_pos hf]
    rw [HE.out]
    have HS := Hid.mk (settle_any (h.below hb0) hP (by have := hb0.size; omega) hbas)
    subst hf
    clear h hbas hb0 HE
    go_enter Tryz.func38, Tryz.ntmps38
    go_wp2_with (go_at_call 56; refine HS.out.mono ?_; rintro e w2 ⟨v2, rfl, ho2, ⟨rv', wv', qv', hkv⟩, hkp⟩; obtain ⟨a2, c2, rfl⟩ := own_form ho2; have hz2 := hkp.size; simp at hz2; have HX0 : Hid (w2.heap[w.heap.size]? = some (.cells #[.int .i64 0, .int .i64 0, .slice none 0 0] 31 (0, 0))) := (hkp.block w.heap.size (by simp <;> omega) (by simp; omega)).trans ((Below.heap_alloc _ _ _ (by simp)).trans (heap_alloc_new w _)); have HX1 : Hid (w2.heap[w.heap.size + 1]? = some (.cells #[.int .i64 0, .int .i64 n, .slice none 0 0] 31 (0, 0))) := (hkp.block (w.heap.size + 1) (by simp) (by simp; omega)).trans (by have := heap_alloc_new (w.alloc (.cells #[.int .i64 0, .int .i64 0, .slice none 0 0] 31)) (.cells #[.int .i64 0, .int .i64 n, .slice none 0 0] 31); simpa using this); obtain ⟨p0, p1, p2, pz⟩ := reply_block HX0.out; obtain ⟨q0, q1, q2, qz⟩ := reply_block HX1.out; have pz0 := pz 0; have pz1 := pz 1; have pz2 := pz 2; have qz2 := qz 2; have HO2 := Hid.mk ho2; have HKV := Hid.mk hkv; have HKP : Hid (Kp [kb] w w2) := (Kp.below HB0.out).trans hkp; clear ho2 hkv hkp pz qz)
    have hx0 : (w2.setCell ⟨w.heap.size + 1, 2, none⟩ (.slice a2 s.settle.2.length c2)).heap[w.heap.size]? = some (.cells #[.int .i64 0, .int .i64 0, .slice none 0 0] 31 (0, 0)) := (Below.heap_setCell _ _ _ _ (by simp)).trans HX0.out
    have hfin := reply_set hx0 (.int .i64 0) (.int .i64 n) (.slice a2 s.settle.2.length c2)
    obtain ⟨y0, y1, y2, _⟩ := reply_block hfin
    refine bodyPost_ret (v := rpV ⟨0, n, s.settle.2⟩ (.slice a2 s.settle.2.length c2)) ?_ rfl ⟨_, rfl, ?_, ⟨rv', wv', qv', ?_⟩, ?_⟩
    · simp [results, Tryz.results38, go_sem, y0, y1, y2, rpV]
    · exact own_mono (own_reply3 (own_reply HO2.out HX1.out (by decide) _ _) hx0 (by decide) _ _ _) (by simp; omega)
    · exact (HKV.out.reply HX1.out _ _).reply3 hx0 _ _ _
    · exact (((HKP.out.newCell (by simp) _).newCell (by simp) _).newCell (by simp) _).newCell (by simp) _
  · have HE : Hid (s.done n f = (s, ⟨f, n, []⟩)) := by show _ = _; unfold DS.done; rw [if_neg hf]
    rw [HE.out]
    have hfb : (f == 0) = false := by simpa using hf
    clear h hbas hb0 HE hf
    go_enter Tryz.func38, Tryz.ntmps38
    go_wp2
    have hb : Below w.heap.size w ((w.alloc (.cells #[.int .i64 f, .int .i64 n, .slice none 0 0] 31)).alloc (.cells #[.int .i64 f, .int .i64 n, .slice none 0 0] 31)) := ((Below.refl _ _).alloc (Nat.le_refl _) _).alloc (by simp) _
    refine bodyPost_ret (v := rpV ⟨f, n, []⟩ (.slice none 0 0)) ?_ rfl ⟨_, rfl, World.ownsRow_nil _ _ _ _, ⟨rv, wv, qv, HH.out.below hb⟩, Kp.below hb⟩
    simp [results, Tryz.results38, go_sem, rpV]
end
end Go.Proofs.YtaicdjhblbobbabGreat
