/- Contract of the Kernel's call: the guard is taken, the process must not wait, the answer is made, the guard let go. -/
import Derived.Test.YtaicdjhblbobbabGreatGSettle
import Derived.Test.YtaicdjhblbobbabGreatGLocks
import Derived.Conc.MuLone
namespace Go.Proofs.YtaicdjhblbobbabGreat
open Go.RowKit Go.Lib Go.MuLone

theorem waits_mem (s : DS) (p : Int) : decide (p ∈ s.Q.map (·.p)) = s.waits p := by
  unfold DS.waits
  rw [Bool.eq_iff_iff, decide_eq_true_eq, List.mem_map, List.any_eq_true]
  simp only [decide_eq_true_eq]
section
variable {w : World} {kb tb mb : Nat} {g : Int} {P : Nat → Prop} {ι : Nat → Nat} {s : DS} {rv wv : Nat → Value} {qv : Value} {B : Nat}
/-- The Kernel behind a call: the reply, the list in it, the state. -/
def Done (w w' : World) (kb tb mb : Nat) (P : Nat → Prop) (e : Ending) (r : Rp) (t : DS) : Prop :=
  ∃ v, e = .returned (rpV r v) ∧ w'.ownsRow w.heap.size 78 2 v r.d.length (flatD r.d) ∧ (∃ ι' rv' wv' qv', KV w' kb tb mb 0 P ι' t rv' wv' qv') ∧ Kp [kb, tb, mb] w w'

theorem result_block {w w2 : World} {bs : List Nat} {a : Addr} {v : Value} {o : Obj} (hp : Kp bs ((w.setCell a v).alloc o) w2) (hbs : ∀ x, x ∈ bs → x < w.heap.size) : w2.heap[w.heap.size]? = some o ∧ w.heap.size < w2.heap.size := by
  have hz := hp.size
  simp at hz
  refine ⟨?_, by omega⟩
  rw [hp.block w.heap.size (by simp) (fun hx => by have := hbs _ hx; omega)]
  have := heap_alloc_new (w.setCell a v) o
  simpa using this

set_option maxHeartbeats 4000000 in
set_option maxRecDepth 100000 in
theorem call_wait (h : KV w kb tb mb 0 P ι s rv wv qv) (hP : ∀ b, B ≤ b → P b) (hB : B ≤ w.heap.size) (hbas : s.Bas) (p : Int) (fv : Value) (hw : s.waits p = true) :
    Calls Tryz.prog 19 #[.pointer (some ⟨kb, 0, none⟩), .int .i64 p, fv] w fun e w' => Done w w' kb tb mb P e (rerr 2) s := by
  have hlt := h.lt
  have h1 : KV (w.alloc (.cells #[.int .i64 0, .int .i64 0, .slice none 0 0] 31)) kb tb mb 0 P ι s rv wv qv := h.below ((Below.refl _ _).alloc (Nat.le_refl _) _)
  have c0 := h1.c0
  have cz := h1.frz 0
  have h2 : KV ((w.setCell ⟨kb, 0, none⟩ (.int .i32 1)).alloc (.cells #[.int .i64 0, .int .i64 0, .slice none 0 0] 31)) kb tb mb 1 P ι s rv wv qv := (h.setGuard 1).below ((Below.refl _ _).alloc (Nat.le_refl _) _)
  have c9 := h2.c9
  have hql := h.sm.ql
  have htl := h.t.lt
  have hml := h.m.lt
  have HQ := Hid.mk (Has_any p h2.q (by rw [renQ_len]; omega))
  rw [renQ_map_p, waits_mem, hw] at HQ
  obtain ⟨qa, qc, rfl⟩ := own_form h.q
  have HA := Hid.mk (fun (W : World) (hb : Below ((w.setCell ⟨kb, 0, none⟩ (.int .i32 1)).alloc (.cells #[.int .i64 0, .int .i64 0, .slice none 0 0] 31)).heap.size ((w.setCell ⟨kb, 0, none⟩ (.int .i32 1)).alloc (.cells #[.int .i64 0, .int .i64 0, .slice none 0 0] 31)) W) => answer_any (h2.below hb) hP (by have := hb.size; simp at this; omega) hbas 0 2)
  rw [DS.done_err s (by decide)] at HA
  generalize rerr 2 = r at *
  unfold rpV at HA
  clear h h1 h2 hbas hw
  go_enter_defers Tryz.func19, Tryz.ntmps19
  go_wp2_with (first
    | (go_at_call 29; refine (lock_free Tryz.muLib ⟨kb, 0, none⟩ _ c0 cz).mono ?_; rintro e w' ⟨rfl, rfl⟩)
    | (go_at_call 37; refine HQ.out.mono ?_; rintro e w2 ⟨rfl, hb2⟩; have HB2 := Hid.mk hb2; clear hb2)
    | (go_at_call 38; refine (HA.out _ HB2.out).mono ?_; rintro e w3 ⟨v3, rfl, ho3, ⟨rv', wv', qv', hkv⟩, hkp⟩; obtain ⟨hblk, hq2⟩ := result_block (bs := [kb]) ((Kp.below HB2.out).trans hkp) (fun x hx => by simp at hx; omega); obtain ⟨a3, c3, rfl⟩ := own_form ho3; obtain ⟨q0, q1, q2, qz⟩ := reply_block hblk; have qz0 := qz 0; have qz1 := qz 1; have qz2 := qz 2; have HBK := Hid.mk hblk; have HO3 := Hid.mk ho3; have HKV := Hid.mk hkv; have HKP := Hid.mk ((Kp.below HB2.out).trans hkp); clear ho3 hkv hkp hblk qz))
  have hK4 := HKV.out.reply3 HBK.out (.int .i64 r.e) (.int .i64 r.n) (.slice a3 r.d.length c3)
  have hO4 := own_reply3 HO3.out HBK.out (by decide) (.int .i64 r.e) (.int .i64 r.n) (.slice a3 r.d.length c3)
  have hfin := reply_set HBK.out (.int .i64 r.e) (.int .i64 r.n) (.slice a3 r.d.length c3)
  have g0 := hK4.c0
  have gz := hK4.frz 0
  refine leaves_cons (f := 30) (args := #[.pointer (some ⟨kb, 0, none⟩)]) (by simp) (by simp [go_sem]) ?_
  refine (unlock_deferred Tryz.muLib ⟨kb, 0, none⟩ .returning _ g0 gz).mono ?_
  rintro e u' w'' ⟨rfl, rfl, rfl⟩
  have hfin2 := (Below.heap_setCell (((w3.setCell ⟨w.heap.size, 0, none⟩ (.int .i64 r.e)).setCell ⟨w.heap.size, 1, none⟩ (.int .i64 r.n)).setCell ⟨w.heap.size, 2, none⟩ (.slice a3 r.d.length c3)) ⟨kb, 0, none⟩ (.int .i32 0) w.heap.size (by simp; omega)).trans hfin
  obtain ⟨y0, y1, y2, _⟩ := reply_block hfin2
  have hK5 := hK4.setGuard 0
  refine ⟨rpV r (.slice a3 r.d.length c3), ?_, _, rfl, ?_, ⟨ι, rv', wv', qv', hK5⟩, ?_⟩
  · simp [results, Tryz.results19, go_sem, y0, y1, y2, rpV]
  · have hz3 : w.heap.size ≤ w2.heap.size := by have := HB2.out.size; simp at this; omega
    exact own_mono (own_kp hK4 (Kp.setCell (by simp)) hO4 (by decide) (by decide)) hz3
  · have e1 : Kp [kb] w ((w.setCell ⟨kb, 0, none⟩ (.int .i32 1)).alloc (.cells #[.int .i64 0, .int .i64 0, .slice none 0 0] 31)) := (Kp.setCell (by simp)).trans (Kp.below ((Below.refl _ _).alloc (Nat.le_refl _) _))
    exact ((((e1.trans HKP.out).newCell (Nat.le_refl _) _).newCell (Nat.le_refl _) _).newCell (Nat.le_refl _) _).trans (Kp.setCell (by simp)) |>.mono (by simp)

set_option maxHeartbeats 4000000 in
set_option maxRecDepth 100000 in
theorem call_go (h : KV w kb tb mb 0 P ι s rv wv qv) (hP : ∀ b, B ≤ b → P b) (hB : B ≤ w.heap.size) (p : Int) (gf : Nat) (lb : Array Value) (eg : ∀ args w, (callFunc gf args).run Tryz.prog w = .ok (.enter gf args) w) (n f : Int) (t : DS) (ht : t.Bas) (hw : s.waits p = false)
    (hdo : ∀ W, Kp [kb] w W → KV W kb tb mb 1 P ι s rv wv qv → Calls Tryz.prog gf lb W fun e w' => e = .returned (.tuple #[.int .i64 n, .int .i64 f]) ∧ (∃ ι' rv' wv' qv', KV w' kb tb mb 1 P ι' t rv' wv' qv') ∧ Kp [kb, tb, mb] W w') :
    Calls Tryz.prog 19 #[.pointer (some ⟨kb, 0, none⟩), .int .i64 p, .func (.func gf) #[] lb] w fun e w' => Done w w' kb tb mb P e (t.done n f).2 (t.done n f).1 := by
  have hlt := h.lt
  have h1 : KV (w.alloc (.cells #[.int .i64 0, .int .i64 0, .slice none 0 0] 31)) kb tb mb 0 P ι s rv wv qv := h.below ((Below.refl _ _).alloc (Nat.le_refl _) _)
  have c0 := h1.c0
  have cz := h1.frz 0
  have h2 : KV ((w.setCell ⟨kb, 0, none⟩ (.int .i32 1)).alloc (.cells #[.int .i64 0, .int .i64 0, .slice none 0 0] 31)) kb tb mb 1 P ι s rv wv qv := (h.setGuard 1).below ((Below.refl _ _).alloc (Nat.le_refl _) _)
  have c9 := h2.c9
  have hql := h.sm.ql
  have htl := h.t.lt
  have hml := h.m.lt
  have HQ := Hid.mk (Has_any p h2.q (by rw [renQ_len]; omega))
  rw [renQ_map_p, waits_mem, hw] at HQ
  obtain ⟨qa, qc, rfl⟩ := own_form h.q
  have HE1 : Hid (Kp [kb] w ((w.setCell ⟨kb, 0, none⟩ (.int .i32 1)).alloc (.cells #[.int .i64 0, .int .i64 0, .slice none 0 0] 31))) := (Kp.setCell (by simp)).trans (Kp.below ((Below.refl _ _).alloc (Nat.le_refl _) _))
  have HDO := Hid.mk (fun (W : World) (hb : Below ((w.setCell ⟨kb, 0, none⟩ (.int .i32 1)).alloc (.cells #[.int .i64 0, .int .i64 0, .slice none 0 0] 31)).heap.size ((w.setCell ⟨kb, 0, none⟩ (.int .i32 1)).alloc (.cells #[.int .i64 0, .int .i64 0, .slice none 0 0] 31)) W) => hdo W (HE1.out.trans (Kp.below hb)) (h2.below hb))
  have HT := Hid.mk ht
  generalize hr : t.done n f = r at *
  have HR := Hid.mk hr
  clear h h1 h2 hw hdo hr ht
  go_enter_defers Tryz.func19, Tryz.ntmps19
  go_wp2_with (first
    | (go_at_call 29; refine (lock_free Tryz.muLib ⟨kb, 0, none⟩ _ c0 cz).mono ?_; rintro e w' ⟨rfl, rfl⟩)
    | (go_at_call 37; refine HQ.out.mono ?_; rintro e w2 ⟨rfl, hb2⟩; have hz2 := hb2.size; simp at hz2; have HB2 := Hid.mk hb2; clear hb2)
    | (go_at_fn gf; refine (HDO.out _ HB2.out).mono ?_; rintro e w4 ⟨rfl, ⟨ι4, rv4, wv4, qv4, hkv4⟩, hkp4⟩; have hz4 := hkp4.size; have hA := answer_any hkv4 hP (by omega) HT.out n f; rw [HR.out] at hA; unfold rpV at hA; have HA := Hid.mk hA; have HKP4 := Hid.mk ((Kp.below HB2.out).trans hkp4); clear hkv4 hkp4 hA)
    | (go_at_call 38; refine HA.out.mono ?_; rintro e w3 ⟨v3, rfl, ho3, ⟨rv', wv', qv', hkv⟩, hkp⟩; obtain ⟨hblk, hq2⟩ := result_block (bs := [kb, tb, mb]) (HKP4.out.trans (hkp.mono (by simp))) (fun x hx => by simp at hx; omega); obtain ⟨a3, c3, rfl⟩ := own_form ho3; obtain ⟨q0, q1, q2, qz⟩ := reply_block hblk; have qz0 := qz 0; have qz1 := qz 1; have qz2 := qz 2; have HBK := Hid.mk hblk; have HO3 := Hid.mk ho3; have HKV := Hid.mk hkv; have HKP := Hid.mk (HKP4.out.trans (hkp.mono (cs := [kb, tb, mb]) (by simp))); clear ho3 hkv hkp hblk qz))
  have hK4 := HKV.out.reply3 HBK.out (.int .i64 r.2.e) (.int .i64 r.2.n) (.slice a3 r.2.d.length c3)
  have hO4 := own_reply3 HO3.out HBK.out (by decide) (.int .i64 r.2.e) (.int .i64 r.2.n) (.slice a3 r.2.d.length c3)
  have hfin := reply_set HBK.out (.int .i64 r.2.e) (.int .i64 r.2.n) (.slice a3 r.2.d.length c3)
  have g0 := hK4.c0
  have gz := hK4.frz 0
  refine leaves_cons (f := 30) (args := #[.pointer (some ⟨kb, 0, none⟩)]) (by simp) (by simp [go_sem]) ?_
  refine (unlock_deferred Tryz.muLib ⟨kb, 0, none⟩ .returning _ g0 gz).mono ?_
  rintro e u' w'' ⟨rfl, rfl, rfl⟩
  have hfin2 := (Below.heap_setCell (((w3.setCell ⟨w.heap.size, 0, none⟩ (.int .i64 r.2.e)).setCell ⟨w.heap.size, 1, none⟩ (.int .i64 r.2.n)).setCell ⟨w.heap.size, 2, none⟩ (.slice a3 r.2.d.length c3)) ⟨kb, 0, none⟩ (.int .i32 0) w.heap.size (by simp; omega)).trans hfin
  obtain ⟨y0, y1, y2, _⟩ := reply_block hfin2
  have hK5 := hK4.setGuard 0
  refine ⟨rpV r.2 (.slice a3 r.2.d.length c3), ?_, _, rfl, ?_, ⟨ι4, rv', wv', qv', hK5⟩, ?_⟩
  · simp [results, Tryz.results19, go_sem, y0, y1, y2, rpV]
  · exact own_mono (own_kp hK4 (Kp.setCell (by simp)) hO4 (by decide) (by decide)) (by omega)
  · exact (((((HE1.out.mono (by simp)).trans HKP.out).newCell (Nat.le_refl _) _).newCell (Nat.le_refl _) _).newCell (Nat.le_refl _) _).trans (Kp.setCell (by simp))
end
end Go.Proofs.YtaicdjhblbobbabGreat

/- Contracts of the Kernel's calls: what is handed on to call. -/
namespace Go.Proofs.YtaicdjhblbobbabGreat
open Go.RowKit Go.Lib

set_option maxHeartbeats 2000000 in
set_option maxRecDepth 100000 in
theorem Fork1_any {W : World} {kb tb b0 b1 : Nat} (p : Int) {N F : Int} {Q : World → Prop} (c0 : W.cell? ⟨b0, 0, none⟩ = some (.pointer (some ⟨kb, 0, none⟩))) (c1 : W.cell? ⟨b1, 0, none⟩ = some (.int .i64 p)) (ck : W.cell? ⟨kb, 2, none⟩ = some (.pointer (some ⟨tb, 0, none⟩)))
    (HI : ∀ W', (∃ n, W' = W.drewN n) → Calls Tryz.prog 36 #[.pointer (some ⟨tb, 0, none⟩), .int .i64 p] W' fun e w' => e = .returned (.tuple #[.int .i64 N, .int .i64 F]) ∧ Q w' ∧ ∀ b, b ∈ [kb, b0, b1] → w'.heap[b]? = W.heap[b]?) :
    Calls Tryz.prog 35 #[.pointer (some ⟨b0, 0, none⟩), .pointer (some ⟨b1, 0, none⟩)] W fun e w' => e = .returned (.tuple #[.int .i64 N, .int .i64 F]) ∧ Q w' := by
  have HII := Hid.mk HI
  clear HI
  go_enter Tryz.func35, Tryz.ntmps35
  go_upto_region 1 with fail
  go_region_held3 (fun u => u.cell? ⟨b0, 0, none⟩ = some (.pointer (some ⟨kb, 0, none⟩)) ∧ u.cell? ⟨b1, 0, none⟩ = some (.int .i64 p) ∧ u.cell? ⟨kb, 2, none⟩ = some (.pointer (some ⟨tb, 0, none⟩))) (simp [go_sem, *])
    (first
      | (go_at_call 36; refine (HII.out _ ⟨_, World.drew_is_drewN W⟩).mono ?_; rintro e w1 ⟨rfl, hq, hk⟩; have k0 := (World.cell?_of_block (w := W) (a := ⟨b0, 0, none⟩) (hk b0 (by simp))).trans c0; have k1 := (World.cell?_of_block (w := W) (a := ⟨b1, 0, none⟩) (hk b1 (by simp))).trans c1; have kk := (World.cell?_of_block (w := W) (a := ⟨kb, 2, none⟩) (hk kb (by simp))).trans ck; have HQ := Hid.mk hq; clear hq hk))
  go_wp2
  go_ret2
  exact ⟨rfl, HQ.out⟩
def W0Fork (w : World) (kb : Nat) (p : Int) : World := (((w.alloc (.cells #[.pointer (some ⟨kb, 0, none⟩)] 23)).alloc (.cells #[.int .i64 p] 3)).alloc (.cells #[.int .i64 0, .int .i64 0, .slice none 0 0] 31))
set_option maxHeartbeats 2000000 in
set_option maxRecDepth 100000 in
theorem Fork_out {w : World} {kb tb mb : Nat} {P : Nat → Prop} (p : Int) {r : Rp} {t : DS} (h1 : kb < w.heap.size) (h2 : tb < w.heap.size) (h3 : mb < w.heap.size)
    (HC : Calls Tryz.prog 19 #[.pointer (some ⟨kb, 0, none⟩), .int .i64 p, .func (.func 35) #[] #[.pointer (some ⟨w.heap.size, 0, none⟩), .pointer (some ⟨w.heap.size + 1, 0, none⟩)]] (W0Fork w kb p) fun e w' => Done (W0Fork w kb p) w' kb tb mb P e r t) :
    Calls Tryz.prog 18 #[.pointer (some ⟨kb, 0, none⟩), .int .i64 p] w fun e w' => Done w w' kb tb mb P e r t := by
  have hsz : (W0Fork w kb p).heap.size = w.heap.size + 3 := by simp [W0Fork]
  have hbl : Below w.heap.size w (W0Fork w kb p) := by
    unfold W0Fork
    repeat (first | exact Below.refl _ _ | (refine Below.alloc ?_ (by simp <;> omega) _))
  have hres : (W0Fork w kb p).heap[w.heap.size + 2]? = some (.cells #[.int .i64 0, .int .i64 0, .slice none 0 0] 31 (0, 0)) := by
    unfold W0Fork
    rw [show w.heap.size + 2 = (((w.alloc (.cells #[.pointer (some ⟨kb, 0, none⟩)] 23)).alloc (.cells #[.int .i64 p] 3))).heap.size by simp]
    exact heap_alloc_new _ _
  have HB := Hid.mk hbl
  have HS := Hid.mk hsz
  have HR := Hid.mk hres
  unfold Done rpV at HC
  have HCC := Hid.mk HC
  clear HC hbl hsz hres
  go_enter Tryz.func18, Tryz.ntmps18
  go_wp2_with (go_at_call 19; refine HCC.out.mono ?_; rintro e w1 ⟨v1, rfl, ho1, ⟨ι', rv', wv', qv', hkv⟩, hkp⟩; have hblk := (hkp.block (w.heap.size + 2) (by have := HS.out; omega) (by simp; omega)).trans HR.out; obtain ⟨a1, c1, rfl⟩ := own_form ho1; obtain ⟨q0, q1, q2, qz⟩ := reply_block hblk; have qz0 := qz 0; have qz1 := qz 1; have qz2 := qz 2; have HBK := Hid.mk hblk; have HO := Hid.mk ho1; have HKV := Hid.mk hkv; have HKP := Hid.mk hkp; clear ho1 hkv hkp hblk qz)
  have hfin := reply_set HBK.out (.int .i64 r.e) (.int .i64 r.n) (.slice a1 r.d.length c1)
  obtain ⟨y0, y1, y2, _⟩ := reply_block hfin
  refine bodyPost_ret (v := rpV r (.slice a1 r.d.length c1)) ?_ rfl ⟨_, rfl, ?_, ⟨ι', rv', wv', qv', HKV.out.reply3 HBK.out _ _ _⟩, ?_⟩
  · simp [results, Tryz.results18, go_sem, y0, y1, y2, rpV]
  · exact own_mono (own_reply3 HO.out HBK.out (by decide) _ _ _) (by have := HS.out; omega)
  · exact ((((Kp.below HB.out).trans HKP.out).newCell (by show _ ≤ w.heap.size + 2; omega) _).newCell (by show _ ≤ w.heap.size + 2; omega) _).newCell (by show _ ≤ w.heap.size + 2; omega) _
set_option maxHeartbeats 2000000 in
set_option maxRecDepth 100000 in
theorem Open1_any {W : World} {kb tb b0 b1 b2 : Nat} (p f : Int) {N F : Int} {Q : World → Prop} (c0 : W.cell? ⟨b0, 0, none⟩ = some (.pointer (some ⟨kb, 0, none⟩))) (c1 : W.cell? ⟨b1, 0, none⟩ = some (.int .i64 p)) (c2 : W.cell? ⟨b2, 0, none⟩ = some (.int .i64 f)) (ck : W.cell? ⟨kb, 2, none⟩ = some (.pointer (some ⟨tb, 0, none⟩)))
    (HI : ∀ W', (∃ n, W' = W.drewN n) → Calls Tryz.prog 23 #[.pointer (some ⟨tb, 0, none⟩), .int .i64 p, .int .i64 f] W' fun e w' => e = .returned (.tuple #[.int .i64 N, .int .i64 F]) ∧ Q w' ∧ ∀ b, b ∈ [kb, b0, b1, b2] → w'.heap[b]? = W.heap[b]?) :
    Calls Tryz.prog 22 #[.pointer (some ⟨b0, 0, none⟩), .pointer (some ⟨b1, 0, none⟩), .pointer (some ⟨b2, 0, none⟩)] W fun e w' => e = .returned (.tuple #[.int .i64 N, .int .i64 F]) ∧ Q w' := by
  have HII := Hid.mk HI
  clear HI
  go_enter Tryz.func22, Tryz.ntmps22
  go_upto_region 1 with fail
  go_region_held3 (fun u => u.cell? ⟨b0, 0, none⟩ = some (.pointer (some ⟨kb, 0, none⟩)) ∧ u.cell? ⟨b1, 0, none⟩ = some (.int .i64 p) ∧ u.cell? ⟨b2, 0, none⟩ = some (.int .i64 f) ∧ u.cell? ⟨kb, 2, none⟩ = some (.pointer (some ⟨tb, 0, none⟩))) (simp [go_sem, *])
    (first
      | (go_at_call 23; refine (HII.out _ ⟨_, World.drew_is_drewN W⟩).mono ?_; rintro e w1 ⟨rfl, hq, hk⟩; have k0 := (World.cell?_of_block (w := W) (a := ⟨b0, 0, none⟩) (hk b0 (by simp))).trans c0; have k1 := (World.cell?_of_block (w := W) (a := ⟨b1, 0, none⟩) (hk b1 (by simp))).trans c1; have k2 := (World.cell?_of_block (w := W) (a := ⟨b2, 0, none⟩) (hk b2 (by simp))).trans c2; have kk := (World.cell?_of_block (w := W) (a := ⟨kb, 2, none⟩) (hk kb (by simp))).trans ck; have HQ := Hid.mk hq; clear hq hk))
  go_wp2
  go_ret2
  exact ⟨rfl, HQ.out⟩
def W0Open (w : World) (kb : Nat) (p f : Int) : World := ((((w.alloc (.cells #[.pointer (some ⟨kb, 0, none⟩)] 23)).alloc (.cells #[.int .i64 p] 3)).alloc (.cells #[.int .i64 f] 3)).alloc (.cells #[.int .i64 0, .int .i64 0, .slice none 0 0] 31))
set_option maxHeartbeats 2000000 in
set_option maxRecDepth 100000 in
theorem Open_out {w : World} {kb tb mb : Nat} {P : Nat → Prop} (p f : Int) {r : Rp} {t : DS} (h1 : kb < w.heap.size) (h2 : tb < w.heap.size) (h3 : mb < w.heap.size)
    (HC : Calls Tryz.prog 19 #[.pointer (some ⟨kb, 0, none⟩), .int .i64 p, .func (.func 22) #[] #[.pointer (some ⟨w.heap.size, 0, none⟩), .pointer (some ⟨w.heap.size + 1, 0, none⟩), .pointer (some ⟨w.heap.size + 2, 0, none⟩)]] (W0Open w kb p f) fun e w' => Done (W0Open w kb p f) w' kb tb mb P e r t) :
    Calls Tryz.prog 9 #[.pointer (some ⟨kb, 0, none⟩), .int .i64 p, .int .i64 f] w fun e w' => Done w w' kb tb mb P e r t := by
  have hsz : (W0Open w kb p f).heap.size = w.heap.size + 4 := by simp [W0Open]
  have hbl : Below w.heap.size w (W0Open w kb p f) := by
    unfold W0Open
    repeat (first | exact Below.refl _ _ | (refine Below.alloc ?_ (by simp <;> omega) _))
  have hres : (W0Open w kb p f).heap[w.heap.size + 3]? = some (.cells #[.int .i64 0, .int .i64 0, .slice none 0 0] 31 (0, 0)) := by
    unfold W0Open
    rw [show w.heap.size + 3 = ((((w.alloc (.cells #[.pointer (some ⟨kb, 0, none⟩)] 23)).alloc (.cells #[.int .i64 p] 3)).alloc (.cells #[.int .i64 f] 3))).heap.size by simp]
    exact heap_alloc_new _ _
  have HB := Hid.mk hbl
  have HS := Hid.mk hsz
  have HR := Hid.mk hres
  unfold Done rpV at HC
  have HCC := Hid.mk HC
  clear HC hbl hsz hres
  go_enter Tryz.func9, Tryz.ntmps9
  go_wp2_with (go_at_call 19; refine HCC.out.mono ?_; rintro e w1 ⟨v1, rfl, ho1, ⟨ι', rv', wv', qv', hkv⟩, hkp⟩; have hblk := (hkp.block (w.heap.size + 3) (by have := HS.out; omega) (by simp; omega)).trans HR.out; obtain ⟨a1, c1, rfl⟩ := own_form ho1; obtain ⟨q0, q1, q2, qz⟩ := reply_block hblk; have qz0 := qz 0; have qz1 := qz 1; have qz2 := qz 2; have HBK := Hid.mk hblk; have HO := Hid.mk ho1; have HKV := Hid.mk hkv; have HKP := Hid.mk hkp; clear ho1 hkv hkp hblk qz)
  have hfin := reply_set HBK.out (.int .i64 r.e) (.int .i64 r.n) (.slice a1 r.d.length c1)
  obtain ⟨y0, y1, y2, _⟩ := reply_block hfin
  refine bodyPost_ret (v := rpV r (.slice a1 r.d.length c1)) ?_ rfl ⟨_, rfl, ?_, ⟨ι', rv', wv', qv', HKV.out.reply3 HBK.out _ _ _⟩, ?_⟩
  · simp [results, Tryz.results9, go_sem, y0, y1, y2, rpV]
  · exact own_mono (own_reply3 HO.out HBK.out (by decide) _ _ _) (by have := HS.out; omega)
  · exact ((((Kp.below HB.out).trans HKP.out).newCell (by show _ ≤ w.heap.size + 3; omega) _).newCell (by show _ ≤ w.heap.size + 3; omega) _).newCell (by show _ ≤ w.heap.size + 3; omega) _
set_option maxHeartbeats 2000000 in
set_option maxRecDepth 100000 in
theorem Dup1_any {W : World} {kb tb b0 b1 b2 : Nat} (p d : Int) {N F : Int} {Q : World → Prop} (c0 : W.cell? ⟨b0, 0, none⟩ = some (.pointer (some ⟨kb, 0, none⟩))) (c1 : W.cell? ⟨b1, 0, none⟩ = some (.int .i64 p)) (c2 : W.cell? ⟨b2, 0, none⟩ = some (.int .i64 d)) (ck : W.cell? ⟨kb, 2, none⟩ = some (.pointer (some ⟨tb, 0, none⟩)))
    (HI : ∀ W', (∃ n, W' = W.drewN n) → Calls Tryz.prog 47 #[.pointer (some ⟨tb, 0, none⟩), .int .i64 p, .int .i64 d] W' fun e w' => e = .returned (.tuple #[.int .i64 N, .int .i64 F]) ∧ Q w' ∧ ∀ b, b ∈ [kb, b0, b1, b2] → w'.heap[b]? = W.heap[b]?) :
    Calls Tryz.prog 46 #[.pointer (some ⟨b0, 0, none⟩), .pointer (some ⟨b1, 0, none⟩), .pointer (some ⟨b2, 0, none⟩)] W fun e w' => e = .returned (.tuple #[.int .i64 N, .int .i64 F]) ∧ Q w' := by
  have HII := Hid.mk HI
  clear HI
  go_enter Tryz.func46, Tryz.ntmps46
  go_upto_region 1 with fail
  go_region_held3 (fun u => u.cell? ⟨b0, 0, none⟩ = some (.pointer (some ⟨kb, 0, none⟩)) ∧ u.cell? ⟨b1, 0, none⟩ = some (.int .i64 p) ∧ u.cell? ⟨b2, 0, none⟩ = some (.int .i64 d) ∧ u.cell? ⟨kb, 2, none⟩ = some (.pointer (some ⟨tb, 0, none⟩))) (simp [go_sem, *])
    (first
      | (go_at_call 47; refine (HII.out _ ⟨_, World.drew_is_drewN W⟩).mono ?_; rintro e w1 ⟨rfl, hq, hk⟩; have k0 := (World.cell?_of_block (w := W) (a := ⟨b0, 0, none⟩) (hk b0 (by simp))).trans c0; have k1 := (World.cell?_of_block (w := W) (a := ⟨b1, 0, none⟩) (hk b1 (by simp))).trans c1; have k2 := (World.cell?_of_block (w := W) (a := ⟨b2, 0, none⟩) (hk b2 (by simp))).trans c2; have kk := (World.cell?_of_block (w := W) (a := ⟨kb, 2, none⟩) (hk kb (by simp))).trans ck; have HQ := Hid.mk hq; clear hq hk))
  go_wp2
  go_ret2
  exact ⟨rfl, HQ.out⟩
def W0Dup (w : World) (kb : Nat) (p d : Int) : World := ((((w.alloc (.cells #[.pointer (some ⟨kb, 0, none⟩)] 23)).alloc (.cells #[.int .i64 p] 3)).alloc (.cells #[.int .i64 d] 3)).alloc (.cells #[.int .i64 0, .int .i64 0, .slice none 0 0] 31))
set_option maxHeartbeats 2000000 in
set_option maxRecDepth 100000 in
theorem Dup_out {w : World} {kb tb mb : Nat} {P : Nat → Prop} (p d : Int) {r : Rp} {t : DS} (h1 : kb < w.heap.size) (h2 : tb < w.heap.size) (h3 : mb < w.heap.size)
    (HC : Calls Tryz.prog 19 #[.pointer (some ⟨kb, 0, none⟩), .int .i64 p, .func (.func 46) #[] #[.pointer (some ⟨w.heap.size, 0, none⟩), .pointer (some ⟨w.heap.size + 1, 0, none⟩), .pointer (some ⟨w.heap.size + 2, 0, none⟩)]] (W0Dup w kb p d) fun e w' => Done (W0Dup w kb p d) w' kb tb mb P e r t) :
    Calls Tryz.prog 27 #[.pointer (some ⟨kb, 0, none⟩), .int .i64 p, .int .i64 d] w fun e w' => Done w w' kb tb mb P e r t := by
  have hsz : (W0Dup w kb p d).heap.size = w.heap.size + 4 := by simp [W0Dup]
  have hbl : Below w.heap.size w (W0Dup w kb p d) := by
    unfold W0Dup
    repeat (first | exact Below.refl _ _ | (refine Below.alloc ?_ (by simp <;> omega) _))
  have hres : (W0Dup w kb p d).heap[w.heap.size + 3]? = some (.cells #[.int .i64 0, .int .i64 0, .slice none 0 0] 31 (0, 0)) := by
    unfold W0Dup
    rw [show w.heap.size + 3 = ((((w.alloc (.cells #[.pointer (some ⟨kb, 0, none⟩)] 23)).alloc (.cells #[.int .i64 p] 3)).alloc (.cells #[.int .i64 d] 3))).heap.size by simp]
    exact heap_alloc_new _ _
  have HB := Hid.mk hbl
  have HS := Hid.mk hsz
  have HR := Hid.mk hres
  unfold Done rpV at HC
  have HCC := Hid.mk HC
  clear HC hbl hsz hres
  go_enter Tryz.func27, Tryz.ntmps27
  go_wp2_with (go_at_call 19; refine HCC.out.mono ?_; rintro e w1 ⟨v1, rfl, ho1, ⟨ι', rv', wv', qv', hkv⟩, hkp⟩; have hblk := (hkp.block (w.heap.size + 3) (by have := HS.out; omega) (by simp; omega)).trans HR.out; obtain ⟨a1, c1, rfl⟩ := own_form ho1; obtain ⟨q0, q1, q2, qz⟩ := reply_block hblk; have qz0 := qz 0; have qz1 := qz 1; have qz2 := qz 2; have HBK := Hid.mk hblk; have HO := Hid.mk ho1; have HKV := Hid.mk hkv; have HKP := Hid.mk hkp; clear ho1 hkv hkp hblk qz)
  have hfin := reply_set HBK.out (.int .i64 r.e) (.int .i64 r.n) (.slice a1 r.d.length c1)
  obtain ⟨y0, y1, y2, _⟩ := reply_block hfin
  refine bodyPost_ret (v := rpV r (.slice a1 r.d.length c1)) ?_ rfl ⟨_, rfl, ?_, ⟨ι', rv', wv', qv', HKV.out.reply3 HBK.out _ _ _⟩, ?_⟩
  · simp [results, Tryz.results27, go_sem, y0, y1, y2, rpV]
  · exact own_mono (own_reply3 HO.out HBK.out (by decide) _ _ _) (by have := HS.out; omega)
  · exact ((((Kp.below HB.out).trans HKP.out).newCell (by show _ ≤ w.heap.size + 3; omega) _).newCell (by show _ ≤ w.heap.size + 3; omega) _).newCell (by show _ ≤ w.heap.size + 3; omega) _
set_option maxHeartbeats 1000000 in
set_option maxRecDepth 100000 in
theorem Close1_any {W : World} {kb b0 b1 b2 : Nat} (p d : Int) {F : Int} {Q : World → Prop} (c0 : W.cell? ⟨b0, 0, none⟩ = some (.pointer (some ⟨kb, 0, none⟩))) (c1 : W.cell? ⟨b1, 0, none⟩ = some (.int .i64 p)) (c2 : W.cell? ⟨b2, 0, none⟩ = some (.int .i64 d))
    (HI : Calls Tryz.prog 49 #[.pointer (some ⟨kb, 0, none⟩), .int .i64 p, .int .i64 d] W fun e w' => e = .returned (.int .i64 F) ∧ Q w') :
    Calls Tryz.prog 48 #[.pointer (some ⟨b0, 0, none⟩), .pointer (some ⟨b1, 0, none⟩), .pointer (some ⟨b2, 0, none⟩)] W fun e w' => e = .returned (.tuple #[.int .i64 0, .int .i64 F]) ∧ Q w' := by
  have HII := Hid.mk HI
  clear HI
  go_enter Tryz.func48, Tryz.ntmps48
  go_wp2_with (go_at_call 49; refine HII.out.mono ?_; rintro e w1 ⟨rfl, hq⟩; have HQ := Hid.mk hq; clear hq)
  go_ret2
  exact ⟨rfl, HQ.out⟩
def W0Close (w : World) (kb : Nat) (p d : Int) : World := ((((w.alloc (.cells #[.pointer (some ⟨kb, 0, none⟩)] 23)).alloc (.cells #[.int .i64 p] 3)).alloc (.cells #[.int .i64 d] 3)).alloc (.cells #[.int .i64 0, .int .i64 0, .slice none 0 0] 31))
set_option maxHeartbeats 2000000 in
set_option maxRecDepth 100000 in
theorem Close_out {w : World} {kb tb mb : Nat} {P : Nat → Prop} (p d : Int) {r : Rp} {t : DS} (h1 : kb < w.heap.size) (h2 : tb < w.heap.size) (h3 : mb < w.heap.size)
    (HC : Calls Tryz.prog 19 #[.pointer (some ⟨kb, 0, none⟩), .int .i64 p, .func (.func 48) #[] #[.pointer (some ⟨w.heap.size, 0, none⟩), .pointer (some ⟨w.heap.size + 1, 0, none⟩), .pointer (some ⟨w.heap.size + 2, 0, none⟩)]] (W0Close w kb p d) fun e w' => Done (W0Close w kb p d) w' kb tb mb P e r t) :
    Calls Tryz.prog 28 #[.pointer (some ⟨kb, 0, none⟩), .int .i64 p, .int .i64 d] w fun e w' => Done w w' kb tb mb P e r t := by
  have hsz : (W0Close w kb p d).heap.size = w.heap.size + 4 := by simp [W0Close]
  have hbl : Below w.heap.size w (W0Close w kb p d) := by
    unfold W0Close
    repeat (first | exact Below.refl _ _ | (refine Below.alloc ?_ (by simp <;> omega) _))
  have hres : (W0Close w kb p d).heap[w.heap.size + 3]? = some (.cells #[.int .i64 0, .int .i64 0, .slice none 0 0] 31 (0, 0)) := by
    unfold W0Close
    rw [show w.heap.size + 3 = ((((w.alloc (.cells #[.pointer (some ⟨kb, 0, none⟩)] 23)).alloc (.cells #[.int .i64 p] 3)).alloc (.cells #[.int .i64 d] 3))).heap.size by simp]
    exact heap_alloc_new _ _
  have HB := Hid.mk hbl
  have HS := Hid.mk hsz
  have HR := Hid.mk hres
  unfold Done rpV at HC
  have HCC := Hid.mk HC
  clear HC hbl hsz hres
  go_enter Tryz.func28, Tryz.ntmps28
  go_wp2_with (go_at_call 19; refine HCC.out.mono ?_; rintro e w1 ⟨v1, rfl, ho1, ⟨ι', rv', wv', qv', hkv⟩, hkp⟩; have hblk := (hkp.block (w.heap.size + 3) (by have := HS.out; omega) (by simp; omega)).trans HR.out; obtain ⟨a1, c1, rfl⟩ := own_form ho1; obtain ⟨q0, q1, q2, qz⟩ := reply_block hblk; have qz0 := qz 0; have qz1 := qz 1; have qz2 := qz 2; have HBK := Hid.mk hblk; have HO := Hid.mk ho1; have HKV := Hid.mk hkv; have HKP := Hid.mk hkp; clear ho1 hkv hkp hblk qz)
  have hfin := reply_set HBK.out (.int .i64 r.e) (.int .i64 r.n) (.slice a1 r.d.length c1)
  obtain ⟨y0, y1, y2, _⟩ := reply_block hfin
  refine bodyPost_ret (v := rpV r (.slice a1 r.d.length c1)) ?_ rfl ⟨_, rfl, ?_, ⟨ι', rv', wv', qv', HKV.out.reply3 HBK.out _ _ _⟩, ?_⟩
  · simp [results, Tryz.results28, go_sem, y0, y1, y2, rpV]
  · exact own_mono (own_reply3 HO.out HBK.out (by decide) _ _ _) (by have := HS.out; omega)
  · exact ((((Kp.below HB.out).trans HKP.out).newCell (by show _ ≤ w.heap.size + 3; omega) _).newCell (by show _ ≤ w.heap.size + 3; omega) _).newCell (by show _ ≤ w.heap.size + 3; omega) _
set_option maxHeartbeats 1000000 in
set_option maxRecDepth 100000 in
theorem Lock1_any {W : World} {kb b0 b1 b2 b3 b4 b5 b6 : Nat} (p d k f l : Int) (wt : Bool) {F : Int} {Q : World → Prop} (c0 : W.cell? ⟨b0, 0, none⟩ = some (.pointer (some ⟨kb, 0, none⟩))) (c1 : W.cell? ⟨b1, 0, none⟩ = some (.int .i64 p)) (c2 : W.cell? ⟨b2, 0, none⟩ = some (.int .i64 d)) (c3 : W.cell? ⟨b3, 0, none⟩ = some (.int .i64 k)) (c4 : W.cell? ⟨b4, 0, none⟩ = some (.int .i64 f)) (c5 : W.cell? ⟨b5, 0, none⟩ = some (.int .i64 l)) (c6 : W.cell? ⟨b6, 0, none⟩ = some (.bool wt))
    (HI : Calls Tryz.prog 21 #[.pointer (some ⟨kb, 0, none⟩), .int .i64 p, .int .i64 d, .int .i64 k, .int .i64 f, .int .i64 l, .bool wt] W fun e w' => e = .returned (.int .i64 F) ∧ Q w') :
    Calls Tryz.prog 20 #[.pointer (some ⟨b0, 0, none⟩), .pointer (some ⟨b1, 0, none⟩), .pointer (some ⟨b2, 0, none⟩), .pointer (some ⟨b3, 0, none⟩), .pointer (some ⟨b4, 0, none⟩), .pointer (some ⟨b5, 0, none⟩), .pointer (some ⟨b6, 0, none⟩)] W fun e w' => e = .returned (.tuple #[.int .i64 0, .int .i64 F]) ∧ Q w' := by
  have HII := Hid.mk HI
  clear HI
  go_enter Tryz.func20, Tryz.ntmps20
  go_wp2_with (go_at_call 21; refine HII.out.mono ?_; rintro e w1 ⟨rfl, hq⟩; have HQ := Hid.mk hq; clear hq)
  go_ret2
  exact ⟨rfl, HQ.out⟩
def W0Lock (w : World) (kb : Nat) (p d k f l : Int) (wt : Bool) : World := ((((((((w.alloc (.cells #[.pointer (some ⟨kb, 0, none⟩)] 23)).alloc (.cells #[.int .i64 p] 3)).alloc (.cells #[.int .i64 d] 3)).alloc (.cells #[.int .i64 k] 3)).alloc (.cells #[.int .i64 f] 3)).alloc (.cells #[.int .i64 l] 3)).alloc (.cells #[.bool wt] 4)).alloc (.cells #[.int .i64 0, .int .i64 0, .slice none 0 0] 31))
set_option maxHeartbeats 2000000 in
set_option maxRecDepth 100000 in
theorem Lock_out {w : World} {kb tb mb : Nat} {P : Nat → Prop} (p d k f l : Int) (wt : Bool) {r : Rp} {t : DS} (h1 : kb < w.heap.size) (h2 : tb < w.heap.size) (h3 : mb < w.heap.size)
    (HC : Calls Tryz.prog 19 #[.pointer (some ⟨kb, 0, none⟩), .int .i64 p, .func (.func 20) #[] #[.pointer (some ⟨w.heap.size, 0, none⟩), .pointer (some ⟨w.heap.size + 1, 0, none⟩), .pointer (some ⟨w.heap.size + 2, 0, none⟩), .pointer (some ⟨w.heap.size + 3, 0, none⟩), .pointer (some ⟨w.heap.size + 4, 0, none⟩), .pointer (some ⟨w.heap.size + 5, 0, none⟩), .pointer (some ⟨w.heap.size + 6, 0, none⟩)]] (W0Lock w kb p d k f l wt) fun e w' => Done (W0Lock w kb p d k f l wt) w' kb tb mb P e r t) :
    Calls Tryz.prog 7 #[.pointer (some ⟨kb, 0, none⟩), .int .i64 p, .int .i64 d, .int .i64 k, .int .i64 f, .int .i64 l, .bool wt] w fun e w' => Done w w' kb tb mb P e r t := by
  have hsz : (W0Lock w kb p d k f l wt).heap.size = w.heap.size + 8 := by simp [W0Lock]
  have hbl : Below w.heap.size w (W0Lock w kb p d k f l wt) := by
    unfold W0Lock
    repeat (first | exact Below.refl _ _ | (refine Below.alloc ?_ (by simp <;> omega) _))
  have hres : (W0Lock w kb p d k f l wt).heap[w.heap.size + 7]? = some (.cells #[.int .i64 0, .int .i64 0, .slice none 0 0] 31 (0, 0)) := by
    unfold W0Lock
    rw [show w.heap.size + 7 = ((((((((w.alloc (.cells #[.pointer (some ⟨kb, 0, none⟩)] 23)).alloc (.cells #[.int .i64 p] 3)).alloc (.cells #[.int .i64 d] 3)).alloc (.cells #[.int .i64 k] 3)).alloc (.cells #[.int .i64 f] 3)).alloc (.cells #[.int .i64 l] 3)).alloc (.cells #[.bool wt] 4))).heap.size by simp]
    exact heap_alloc_new _ _
  have HB := Hid.mk hbl
  have HS := Hid.mk hsz
  have HR := Hid.mk hres
  unfold Done rpV at HC
  have HCC := Hid.mk HC
  clear HC hbl hsz hres
  go_enter Tryz.func7, Tryz.ntmps7
  go_wp2_with (go_at_call 19; refine HCC.out.mono ?_; rintro e w1 ⟨v1, rfl, ho1, ⟨ι', rv', wv', qv', hkv⟩, hkp⟩; have hblk := (hkp.block (w.heap.size + 7) (by have := HS.out; omega) (by simp; omega)).trans HR.out; obtain ⟨a1, c1, rfl⟩ := own_form ho1; obtain ⟨q0, q1, q2, qz⟩ := reply_block hblk; have qz0 := qz 0; have qz1 := qz 1; have qz2 := qz 2; have HBK := Hid.mk hblk; have HO := Hid.mk ho1; have HKV := Hid.mk hkv; have HKP := Hid.mk hkp; clear ho1 hkv hkp hblk qz)
  have hfin := reply_set HBK.out (.int .i64 r.e) (.int .i64 r.n) (.slice a1 r.d.length c1)
  obtain ⟨y0, y1, y2, _⟩ := reply_block hfin
  refine bodyPost_ret (v := rpV r (.slice a1 r.d.length c1)) ?_ rfl ⟨_, rfl, ?_, ⟨ι', rv', wv', qv', HKV.out.reply3 HBK.out _ _ _⟩, ?_⟩
  · simp [results, Tryz.results7, go_sem, y0, y1, y2, rpV]
  · exact own_mono (own_reply3 HO.out HBK.out (by decide) _ _ _) (by have := HS.out; omega)
  · exact ((((Kp.below HB.out).trans HKP.out).newCell (by show _ ≤ w.heap.size + 7; omega) _).newCell (by show _ ≤ w.heap.size + 7; omega) _).newCell (by show _ ≤ w.heap.size + 7; omega) _
set_option maxHeartbeats 1000000 in
set_option maxRecDepth 100000 in
theorem Whole1_any {W : World} {kb b0 b1 b2 b3 b4 : Nat} (p d k : Int) (wt : Bool) {F : Int} {Q : World → Prop} (c0 : W.cell? ⟨b0, 0, none⟩ = some (.pointer (some ⟨kb, 0, none⟩))) (c1 : W.cell? ⟨b1, 0, none⟩ = some (.int .i64 p)) (c2 : W.cell? ⟨b2, 0, none⟩ = some (.int .i64 d)) (c3 : W.cell? ⟨b3, 0, none⟩ = some (.int .i64 k)) (c4 : W.cell? ⟨b4, 0, none⟩ = some (.bool wt))
    (HI : Calls Tryz.prog 25 #[.pointer (some ⟨kb, 0, none⟩), .int .i64 p, .int .i64 d, .int .i64 k, .bool wt] W fun e w' => e = .returned (.int .i64 F) ∧ Q w') :
    Calls Tryz.prog 24 #[.pointer (some ⟨b0, 0, none⟩), .pointer (some ⟨b1, 0, none⟩), .pointer (some ⟨b2, 0, none⟩), .pointer (some ⟨b3, 0, none⟩), .pointer (some ⟨b4, 0, none⟩)] W fun e w' => e = .returned (.tuple #[.int .i64 0, .int .i64 F]) ∧ Q w' := by
  have HII := Hid.mk HI
  clear HI
  go_enter Tryz.func24, Tryz.ntmps24
  go_wp2_with (go_at_call 25; refine HII.out.mono ?_; rintro e w1 ⟨rfl, hq⟩; have HQ := Hid.mk hq; clear hq)
  go_ret2
  exact ⟨rfl, HQ.out⟩
def W0Whole (w : World) (kb : Nat) (p d k : Int) (wt : Bool) : World := ((((((w.alloc (.cells #[.pointer (some ⟨kb, 0, none⟩)] 23)).alloc (.cells #[.int .i64 p] 3)).alloc (.cells #[.int .i64 d] 3)).alloc (.cells #[.int .i64 k] 3)).alloc (.cells #[.bool wt] 4)).alloc (.cells #[.int .i64 0, .int .i64 0, .slice none 0 0] 31))
set_option maxHeartbeats 2000000 in
set_option maxRecDepth 100000 in
theorem Whole_out {w : World} {kb tb mb : Nat} {P : Nat → Prop} (p d k : Int) (wt : Bool) {r : Rp} {t : DS} (h1 : kb < w.heap.size) (h2 : tb < w.heap.size) (h3 : mb < w.heap.size)
    (HC : Calls Tryz.prog 19 #[.pointer (some ⟨kb, 0, none⟩), .int .i64 p, .func (.func 24) #[] #[.pointer (some ⟨w.heap.size, 0, none⟩), .pointer (some ⟨w.heap.size + 1, 0, none⟩), .pointer (some ⟨w.heap.size + 2, 0, none⟩), .pointer (some ⟨w.heap.size + 3, 0, none⟩), .pointer (some ⟨w.heap.size + 4, 0, none⟩)]] (W0Whole w kb p d k wt) fun e w' => Done (W0Whole w kb p d k wt) w' kb tb mb P e r t) :
    Calls Tryz.prog 10 #[.pointer (some ⟨kb, 0, none⟩), .int .i64 p, .int .i64 d, .int .i64 k, .bool wt] w fun e w' => Done w w' kb tb mb P e r t := by
  have hsz : (W0Whole w kb p d k wt).heap.size = w.heap.size + 6 := by simp [W0Whole]
  have hbl : Below w.heap.size w (W0Whole w kb p d k wt) := by
    unfold W0Whole
    repeat (first | exact Below.refl _ _ | (refine Below.alloc ?_ (by simp <;> omega) _))
  have hres : (W0Whole w kb p d k wt).heap[w.heap.size + 5]? = some (.cells #[.int .i64 0, .int .i64 0, .slice none 0 0] 31 (0, 0)) := by
    unfold W0Whole
    rw [show w.heap.size + 5 = ((((((w.alloc (.cells #[.pointer (some ⟨kb, 0, none⟩)] 23)).alloc (.cells #[.int .i64 p] 3)).alloc (.cells #[.int .i64 d] 3)).alloc (.cells #[.int .i64 k] 3)).alloc (.cells #[.bool wt] 4))).heap.size by simp]
    exact heap_alloc_new _ _
  have HB := Hid.mk hbl
  have HS := Hid.mk hsz
  have HR := Hid.mk hres
  unfold Done rpV at HC
  have HCC := Hid.mk HC
  clear HC hbl hsz hres
  go_enter Tryz.func10, Tryz.ntmps10
  go_wp2_with (go_at_call 19; refine HCC.out.mono ?_; rintro e w1 ⟨v1, rfl, ho1, ⟨ι', rv', wv', qv', hkv⟩, hkp⟩; have hblk := (hkp.block (w.heap.size + 5) (by have := HS.out; omega) (by simp; omega)).trans HR.out; obtain ⟨a1, c1, rfl⟩ := own_form ho1; obtain ⟨q0, q1, q2, qz⟩ := reply_block hblk; have qz0 := qz 0; have qz1 := qz 1; have qz2 := qz 2; have HBK := Hid.mk hblk; have HO := Hid.mk ho1; have HKV := Hid.mk hkv; have HKP := Hid.mk hkp; clear ho1 hkv hkp hblk qz)
  have hfin := reply_set HBK.out (.int .i64 r.e) (.int .i64 r.n) (.slice a1 r.d.length c1)
  obtain ⟨y0, y1, y2, _⟩ := reply_block hfin
  refine bodyPost_ret (v := rpV r (.slice a1 r.d.length c1)) ?_ rfl ⟨_, rfl, ?_, ⟨ι', rv', wv', qv', HKV.out.reply3 HBK.out _ _ _⟩, ?_⟩
  · simp [results, Tryz.results10, go_sem, y0, y1, y2, rpV]
  · exact own_mono (own_reply3 HO.out HBK.out (by decide) _ _ _) (by have := HS.out; omega)
  · exact ((((Kp.below HB.out).trans HKP.out).newCell (by show _ ≤ w.heap.size + 5; omega) _).newCell (by show _ ≤ w.heap.size + 5; omega) _).newCell (by show _ ≤ w.heap.size + 5; omega) _
theorem W0Fork_cells (w : World) (kb : Nat) (p : Int) : Below w.heap.size w (W0Fork w kb p) ∧ (W0Fork w kb p).heap.size = w.heap.size + 3 ∧ (W0Fork w kb p).cell? ⟨w.heap.size, 0, none⟩ = some (.pointer (some ⟨kb, 0, none⟩)) ∧ (W0Fork w kb p).cell? ⟨w.heap.size + 1, 0, none⟩ = some (.int .i64 p) := by
  refine ⟨?_, by simp [W0Fork], ?_, ?_⟩
  · unfold W0Fork
    repeat (first | exact Below.refl _ _ | (refine Below.alloc ?_ (by simp <;> omega) _))
  all_goals simp [W0Fork, go_sem]
theorem W0Open_cells (w : World) (kb : Nat) (p f : Int) : Below w.heap.size w (W0Open w kb p f) ∧ (W0Open w kb p f).heap.size = w.heap.size + 4 ∧ (W0Open w kb p f).cell? ⟨w.heap.size, 0, none⟩ = some (.pointer (some ⟨kb, 0, none⟩)) ∧ (W0Open w kb p f).cell? ⟨w.heap.size + 1, 0, none⟩ = some (.int .i64 p) ∧ (W0Open w kb p f).cell? ⟨w.heap.size + 2, 0, none⟩ = some (.int .i64 f) := by
  refine ⟨?_, by simp [W0Open], ?_, ?_, ?_⟩
  · unfold W0Open
    repeat (first | exact Below.refl _ _ | (refine Below.alloc ?_ (by simp <;> omega) _))
  all_goals simp [W0Open, go_sem]
theorem W0Dup_cells (w : World) (kb : Nat) (p d : Int) : Below w.heap.size w (W0Dup w kb p d) ∧ (W0Dup w kb p d).heap.size = w.heap.size + 4 ∧ (W0Dup w kb p d).cell? ⟨w.heap.size, 0, none⟩ = some (.pointer (some ⟨kb, 0, none⟩)) ∧ (W0Dup w kb p d).cell? ⟨w.heap.size + 1, 0, none⟩ = some (.int .i64 p) ∧ (W0Dup w kb p d).cell? ⟨w.heap.size + 2, 0, none⟩ = some (.int .i64 d) := by
  refine ⟨?_, by simp [W0Dup], ?_, ?_, ?_⟩
  · unfold W0Dup
    repeat (first | exact Below.refl _ _ | (refine Below.alloc ?_ (by simp <;> omega) _))
  all_goals simp [W0Dup, go_sem]
theorem W0Close_cells (w : World) (kb : Nat) (p d : Int) : Below w.heap.size w (W0Close w kb p d) ∧ (W0Close w kb p d).heap.size = w.heap.size + 4 ∧ (W0Close w kb p d).cell? ⟨w.heap.size, 0, none⟩ = some (.pointer (some ⟨kb, 0, none⟩)) ∧ (W0Close w kb p d).cell? ⟨w.heap.size + 1, 0, none⟩ = some (.int .i64 p) ∧ (W0Close w kb p d).cell? ⟨w.heap.size + 2, 0, none⟩ = some (.int .i64 d) := by
  refine ⟨?_, by simp [W0Close], ?_, ?_, ?_⟩
  · unfold W0Close
    repeat (first | exact Below.refl _ _ | (refine Below.alloc ?_ (by simp <;> omega) _))
  all_goals simp [W0Close, go_sem]
theorem W0Lock_cells (w : World) (kb : Nat) (p d k f l : Int) (wt : Bool) : Below w.heap.size w (W0Lock w kb p d k f l wt) ∧ (W0Lock w kb p d k f l wt).heap.size = w.heap.size + 8 ∧ (W0Lock w kb p d k f l wt).cell? ⟨w.heap.size, 0, none⟩ = some (.pointer (some ⟨kb, 0, none⟩)) ∧ (W0Lock w kb p d k f l wt).cell? ⟨w.heap.size + 1, 0, none⟩ = some (.int .i64 p) ∧ (W0Lock w kb p d k f l wt).cell? ⟨w.heap.size + 2, 0, none⟩ = some (.int .i64 d) ∧ (W0Lock w kb p d k f l wt).cell? ⟨w.heap.size + 3, 0, none⟩ = some (.int .i64 k) ∧ (W0Lock w kb p d k f l wt).cell? ⟨w.heap.size + 4, 0, none⟩ = some (.int .i64 f) ∧ (W0Lock w kb p d k f l wt).cell? ⟨w.heap.size + 5, 0, none⟩ = some (.int .i64 l) ∧ (W0Lock w kb p d k f l wt).cell? ⟨w.heap.size + 6, 0, none⟩ = some (.bool wt) := by
  refine ⟨?_, by simp [W0Lock], ?_, ?_, ?_, ?_, ?_, ?_, ?_⟩
  · unfold W0Lock
    repeat (first | exact Below.refl _ _ | (refine Below.alloc ?_ (by simp <;> omega) _))
  all_goals simp [W0Lock, go_sem]
theorem W0Whole_cells (w : World) (kb : Nat) (p d k : Int) (wt : Bool) : Below w.heap.size w (W0Whole w kb p d k wt) ∧ (W0Whole w kb p d k wt).heap.size = w.heap.size + 6 ∧ (W0Whole w kb p d k wt).cell? ⟨w.heap.size, 0, none⟩ = some (.pointer (some ⟨kb, 0, none⟩)) ∧ (W0Whole w kb p d k wt).cell? ⟨w.heap.size + 1, 0, none⟩ = some (.int .i64 p) ∧ (W0Whole w kb p d k wt).cell? ⟨w.heap.size + 2, 0, none⟩ = some (.int .i64 d) ∧ (W0Whole w kb p d k wt).cell? ⟨w.heap.size + 3, 0, none⟩ = some (.int .i64 k) ∧ (W0Whole w kb p d k wt).cell? ⟨w.heap.size + 4, 0, none⟩ = some (.bool wt) := by
  refine ⟨?_, by simp [W0Whole], ?_, ?_, ?_, ?_, ?_⟩
  · unfold W0Whole
    repeat (first | exact Below.refl _ _ | (refine Below.alloc ?_ (by simp <;> omega) _))
  all_goals simp [W0Whole, go_sem]
end Go.Proofs.YtaicdjhblbobbabGreat
