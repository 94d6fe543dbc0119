/- Contracts of the Kernel's calls: what is handed on to call. -/
import Derived.Test.YtaicdjhblbobbaaGreatPKCall
import Derived.Test.YtaicdjhblbobbaaGreatPKFind
import Derived.Test.YtaicdjhblbobbaaGreatPRowB
namespace Go.Proofs.YtaicdjhblbobbaaGreat
open Go.RowKit Go.Lib

set_option maxHeartbeats 2000000 in
set_option maxRecDepth 100000 in
theorem Fork1_any {W : World} {kb tb b0 b1 : Nat} (p : Int) {N F : Int} {Q : World → Prop} (c0 : W.cell? ⟨b0, 0, none⟩ = some (.pointer (some ⟨kb, 0, none⟩))) (c1 : W.cell? ⟨b1, 0, none⟩ = some (.int .i64 p)) (ck : W.cell? ⟨kb, 2, none⟩ = some (.pointer (some ⟨tb, 0, none⟩)))
    (HI : ∀ W', (∃ n, W' = W.drewN n) → Calls Tryz.prog 61 #[.pointer (some ⟨tb, 0, none⟩), .int .i64 p] W' fun e w' => e = .returned (.tuple #[.int .i64 N, .int .i64 F]) ∧ Q w' ∧ ∀ b, b ∈ [kb, b0, b1] → w'.heap[b]? = W.heap[b]?) :
    Calls Tryz.prog 60 #[.pointer (some ⟨b0, 0, none⟩), .pointer (some ⟨b1, 0, none⟩)] W fun e w' => e = .returned (.tuple #[.int .i64 N, .int .i64 F]) ∧ Q w' := by
  have HII := Hid.mk HI
  clear HI
  go_enter Tryz.func60, Tryz.ntmps60
  go_upto_region 1 with fail
  go_region_held3 (fun u => u.cell? ⟨b0, 0, none⟩ = some (.pointer (some ⟨kb, 0, none⟩)) ∧ u.cell? ⟨b1, 0, none⟩ = some (.int .i64 p) ∧ u.cell? ⟨kb, 2, none⟩ = some (.pointer (some ⟨tb, 0, none⟩))) (simp [go_sem, *])
    (first
      | (go_at_call 61; refine (HII.out _ ⟨_, World.drew_is_drewN W⟩).mono ?_; rintro e w1 ⟨rfl, hq, hk⟩; have k0 := (World.cell?_of_block (w := W) (a := ⟨b0, 0, none⟩) (hk b0 (by simp))).trans c0; have k1 := (World.cell?_of_block (w := W) (a := ⟨b1, 0, none⟩) (hk b1 (by simp))).trans c1; have kk := (World.cell?_of_block (w := W) (a := ⟨kb, 2, none⟩) (hk kb (by simp))).trans ck; have HQ := Hid.mk hq; clear hq hk))
  go_wp2
  go_ret2
  exact ⟨rfl, HQ.out⟩
def W0Fork (w : World) (kb : Nat) (p : Int) : World := (((w.alloc (.cells #[.pointer (some ⟨kb, 0, none⟩)] 26)).alloc (.cells #[.int .i64 p] 3)).alloc (.cells #[.int .i64 0, .int .i64 0, .slice none 0 0] 34))
set_option maxHeartbeats 2000000 in
set_option maxRecDepth 100000 in
theorem Fork_out {w : World} {kb tb mb : Nat} {P : Nat → Prop} (p : Int) {r : Rp} {t : DS} (h1 : kb < w.heap.size) (h2 : tb < w.heap.size) (h3 : mb < w.heap.size)
    (HC : Calls Tryz.prog 40 #[.pointer (some ⟨kb, 0, none⟩), .int .i64 p, .func (.func 60) #[] #[.pointer (some ⟨w.heap.size, 0, none⟩), .pointer (some ⟨w.heap.size + 1, 0, none⟩)]] (W0Fork w kb p) fun e w' => Done (W0Fork w kb p) w' kb tb mb P e r t) :
    Calls Tryz.prog 32 #[.pointer (some ⟨kb, 0, none⟩), .int .i64 p] w fun e w' => Done w w' kb tb mb P e r t := by
  have hsz : (W0Fork w kb p).heap.size = w.heap.size + 3 := by simp [W0Fork]
  have hbl : Below w.heap.size w (W0Fork w kb p) := by
    unfold W0Fork
    repeat (first | exact Below.refl _ _ | (refine Below.alloc ?_ (by simp <;> omega) _))
  have hres : (W0Fork w kb p).heap[w.heap.size + 2]? = some (.cells #[.int .i64 0, .int .i64 0, .slice none 0 0] 34 (0, 0)) := by
    unfold W0Fork
    rw [show w.heap.size + 2 = (((w.alloc (.cells #[.pointer (some ⟨kb, 0, none⟩)] 26)).alloc (.cells #[.int .i64 p] 3))).heap.size by simp]
    exact heap_alloc_new _ _
  have HB := Hid.mk hbl
  have HS := Hid.mk hsz
  have HR := Hid.mk hres
  unfold Done rpV at HC
  have HCC := Hid.mk HC
  clear HC hbl hsz hres
  go_enter Tryz.func32, Tryz.ntmps32
  go_wp2_with (go_at_call 40; refine HCC.out.mono ?_; rintro e w1 ⟨v1, rfl, ho1, ⟨ι', rv', wv', qv', hkv⟩, hkp⟩; have hblk := (hkp.block (w.heap.size + 2) (by have := HS.out; omega) (by simp; omega)).trans HR.out; obtain ⟨a1, c1, rfl⟩ := own_form ho1; obtain ⟨q0, q1, q2, qz⟩ := reply_block hblk; have qz0 := qz 0; have qz1 := qz 1; have qz2 := qz 2; have HBK := Hid.mk hblk; have HO := Hid.mk ho1; have HKV := Hid.mk hkv; have HKP := Hid.mk hkp; clear ho1 hkv hkp hblk qz)
  have hfin := reply_set HBK.out (.int .i64 r.e) (.int .i64 r.n) (.slice a1 r.d.length c1)
  obtain ⟨y0, y1, y2, _⟩ := reply_block hfin
  refine bodyPost_ret (v := rpV r (.slice a1 r.d.length c1)) ?_ rfl ⟨_, rfl, ?_, ⟨ι', rv', wv', qv', HKV.out.reply3 HBK.out _ _ _⟩, ?_⟩
  · simp [results, Tryz.results32, go_sem, y0, y1, y2, rpV]
  · exact own_mono (own_reply3 HO.out HBK.out (by decide) _ _ _) (by have := HS.out; omega)
  · exact ((((Kp.below HB.out).trans HKP.out).newCell (by show _ ≤ w.heap.size + 2; omega) _).newCell (by show _ ≤ w.heap.size + 2; omega) _).newCell (by show _ ≤ w.heap.size + 2; omega) _
set_option maxHeartbeats 2000000 in
set_option maxRecDepth 100000 in
theorem Open1_any {W : World} {kb tb b0 b1 b2 : Nat} (p f : Int) {N F : Int} {Q : World → Prop} (c0 : W.cell? ⟨b0, 0, none⟩ = some (.pointer (some ⟨kb, 0, none⟩))) (c1 : W.cell? ⟨b1, 0, none⟩ = some (.int .i64 p)) (c2 : W.cell? ⟨b2, 0, none⟩ = some (.int .i64 f)) (ck : W.cell? ⟨kb, 2, none⟩ = some (.pointer (some ⟨tb, 0, none⟩)))
    (HI : ∀ W', (∃ n, W' = W.drewN n) → Calls Tryz.prog 49 #[.pointer (some ⟨tb, 0, none⟩), .int .i64 p, .int .i64 f] W' fun e w' => e = .returned (.tuple #[.int .i64 N, .int .i64 F]) ∧ Q w' ∧ ∀ b, b ∈ [kb, b0, b1, b2] → w'.heap[b]? = W.heap[b]?) :
    Calls Tryz.prog 48 #[.pointer (some ⟨b0, 0, none⟩), .pointer (some ⟨b1, 0, none⟩), .pointer (some ⟨b2, 0, none⟩)] W fun e w' => e = .returned (.tuple #[.int .i64 N, .int .i64 F]) ∧ Q w' := by
  have HII := Hid.mk HI
  clear HI
  go_enter Tryz.func48, Tryz.ntmps48
  go_upto_region 1 with fail
  go_region_held3 (fun u => u.cell? ⟨b0, 0, none⟩ = some (.pointer (some ⟨kb, 0, none⟩)) ∧ u.cell? ⟨b1, 0, none⟩ = some (.int .i64 p) ∧ u.cell? ⟨b2, 0, none⟩ = some (.int .i64 f) ∧ u.cell? ⟨kb, 2, none⟩ = some (.pointer (some ⟨tb, 0, none⟩))) (simp [go_sem, *])
    (first
      | (go_at_call 49; refine (HII.out _ ⟨_, World.drew_is_drewN W⟩).mono ?_; rintro e w1 ⟨rfl, hq, hk⟩; have k0 := (World.cell?_of_block (w := W) (a := ⟨b0, 0, none⟩) (hk b0 (by simp))).trans c0; have k1 := (World.cell?_of_block (w := W) (a := ⟨b1, 0, none⟩) (hk b1 (by simp))).trans c1; have k2 := (World.cell?_of_block (w := W) (a := ⟨b2, 0, none⟩) (hk b2 (by simp))).trans c2; have kk := (World.cell?_of_block (w := W) (a := ⟨kb, 2, none⟩) (hk kb (by simp))).trans ck; have HQ := Hid.mk hq; clear hq hk))
  go_wp2
  go_ret2
  exact ⟨rfl, HQ.out⟩
def W0Open (w : World) (kb : Nat) (p f : Int) : World := ((((w.alloc (.cells #[.pointer (some ⟨kb, 0, none⟩)] 26)).alloc (.cells #[.int .i64 p] 3)).alloc (.cells #[.int .i64 f] 3)).alloc (.cells #[.int .i64 0, .int .i64 0, .slice none 0 0] 34))
set_option maxHeartbeats 2000000 in
set_option maxRecDepth 100000 in
theorem Open_out {w : World} {kb tb mb : Nat} {P : Nat → Prop} (p f : Int) {r : Rp} {t : DS} (h1 : kb < w.heap.size) (h2 : tb < w.heap.size) (h3 : mb < w.heap.size)
    (HC : Calls Tryz.prog 40 #[.pointer (some ⟨kb, 0, none⟩), .int .i64 p, .func (.func 48) #[] #[.pointer (some ⟨w.heap.size, 0, none⟩), .pointer (some ⟨w.heap.size + 1, 0, none⟩), .pointer (some ⟨w.heap.size + 2, 0, none⟩)]] (W0Open w kb p f) fun e w' => Done (W0Open w kb p f) w' kb tb mb P e r t) :
    Calls Tryz.prog 23 #[.pointer (some ⟨kb, 0, none⟩), .int .i64 p, .int .i64 f] w fun e w' => Done w w' kb tb mb P e r t := by
  have hsz : (W0Open w kb p f).heap.size = w.heap.size + 4 := by simp [W0Open]
  have hbl : Below w.heap.size w (W0Open w kb p f) := by
    unfold W0Open
    repeat (first | exact Below.refl _ _ | (refine Below.alloc ?_ (by simp <;> omega) _))
  have hres : (W0Open w kb p f).heap[w.heap.size + 3]? = some (.cells #[.int .i64 0, .int .i64 0, .slice none 0 0] 34 (0, 0)) := by
    unfold W0Open
    rw [show w.heap.size + 3 = ((((w.alloc (.cells #[.pointer (some ⟨kb, 0, none⟩)] 26)).alloc (.cells #[.int .i64 p] 3)).alloc (.cells #[.int .i64 f] 3))).heap.size by simp]
    exact heap_alloc_new _ _
  have HB := Hid.mk hbl
  have HS := Hid.mk hsz
  have HR := Hid.mk hres
  unfold Done rpV at HC
  have HCC := Hid.mk HC
  clear HC hbl hsz hres
  go_enter Tryz.func23, Tryz.ntmps23
  go_wp2_with (go_at_call 40; refine HCC.out.mono ?_; rintro e w1 ⟨v1, rfl, ho1, ⟨ι', rv', wv', qv', hkv⟩, hkp⟩; have hblk := (hkp.block (w.heap.size + 3) (by have := HS.out; omega) (by simp; omega)).trans HR.out; obtain ⟨a1, c1, rfl⟩ := own_form ho1; obtain ⟨q0, q1, q2, qz⟩ := reply_block hblk; have qz0 := qz 0; have qz1 := qz 1; have qz2 := qz 2; have HBK := Hid.mk hblk; have HO := Hid.mk ho1; have HKV := Hid.mk hkv; have HKP := Hid.mk hkp; clear ho1 hkv hkp hblk qz)
  have hfin := reply_set HBK.out (.int .i64 r.e) (.int .i64 r.n) (.slice a1 r.d.length c1)
  obtain ⟨y0, y1, y2, _⟩ := reply_block hfin
  refine bodyPost_ret (v := rpV r (.slice a1 r.d.length c1)) ?_ rfl ⟨_, rfl, ?_, ⟨ι', rv', wv', qv', HKV.out.reply3 HBK.out _ _ _⟩, ?_⟩
  · simp [results, Tryz.results23, go_sem, y0, y1, y2, rpV]
  · exact own_mono (own_reply3 HO.out HBK.out (by decide) _ _ _) (by have := HS.out; omega)
  · exact ((((Kp.below HB.out).trans HKP.out).newCell (by show _ ≤ w.heap.size + 3; omega) _).newCell (by show _ ≤ w.heap.size + 3; omega) _).newCell (by show _ ≤ w.heap.size + 3; omega) _
set_option maxHeartbeats 2000000 in
set_option maxRecDepth 100000 in
theorem Dup1_any {W : World} {kb tb b0 b1 b2 : Nat} (p d : Int) {N F : Int} {Q : World → Prop} (c0 : W.cell? ⟨b0, 0, none⟩ = some (.pointer (some ⟨kb, 0, none⟩))) (c1 : W.cell? ⟨b1, 0, none⟩ = some (.int .i64 p)) (c2 : W.cell? ⟨b2, 0, none⟩ = some (.int .i64 d)) (ck : W.cell? ⟨kb, 2, none⟩ = some (.pointer (some ⟨tb, 0, none⟩)))
    (HI : ∀ W', (∃ n, W' = W.drewN n) → Calls Tryz.prog 51 #[.pointer (some ⟨tb, 0, none⟩), .int .i64 p, .int .i64 d] W' fun e w' => e = .returned (.tuple #[.int .i64 N, .int .i64 F]) ∧ Q w' ∧ ∀ b, b ∈ [kb, b0, b1, b2] → w'.heap[b]? = W.heap[b]?) :
    Calls Tryz.prog 50 #[.pointer (some ⟨b0, 0, none⟩), .pointer (some ⟨b1, 0, none⟩), .pointer (some ⟨b2, 0, none⟩)] W fun e w' => e = .returned (.tuple #[.int .i64 N, .int .i64 F]) ∧ Q w' := by
  have HII := Hid.mk HI
  clear HI
  go_enter Tryz.func50, Tryz.ntmps50
  go_upto_region 1 with fail
  go_region_held3 (fun u => u.cell? ⟨b0, 0, none⟩ = some (.pointer (some ⟨kb, 0, none⟩)) ∧ u.cell? ⟨b1, 0, none⟩ = some (.int .i64 p) ∧ u.cell? ⟨b2, 0, none⟩ = some (.int .i64 d) ∧ u.cell? ⟨kb, 2, none⟩ = some (.pointer (some ⟨tb, 0, none⟩))) (simp [go_sem, *])
    (first
      | (go_at_call 51; refine (HII.out _ ⟨_, World.drew_is_drewN W⟩).mono ?_; rintro e w1 ⟨rfl, hq, hk⟩; have k0 := (World.cell?_of_block (w := W) (a := ⟨b0, 0, none⟩) (hk b0 (by simp))).trans c0; have k1 := (World.cell?_of_block (w := W) (a := ⟨b1, 0, none⟩) (hk b1 (by simp))).trans c1; have k2 := (World.cell?_of_block (w := W) (a := ⟨b2, 0, none⟩) (hk b2 (by simp))).trans c2; have kk := (World.cell?_of_block (w := W) (a := ⟨kb, 2, none⟩) (hk kb (by simp))).trans ck; have HQ := Hid.mk hq; clear hq hk))
  go_wp2
  go_ret2
  exact ⟨rfl, HQ.out⟩
def W0Dup (w : World) (kb : Nat) (p d : Int) : World := ((((w.alloc (.cells #[.pointer (some ⟨kb, 0, none⟩)] 26)).alloc (.cells #[.int .i64 p] 3)).alloc (.cells #[.int .i64 d] 3)).alloc (.cells #[.int .i64 0, .int .i64 0, .slice none 0 0] 34))
set_option maxHeartbeats 2000000 in
set_option maxRecDepth 100000 in
theorem Dup_out {w : World} {kb tb mb : Nat} {P : Nat → Prop} (p d : Int) {r : Rp} {t : DS} (h1 : kb < w.heap.size) (h2 : tb < w.heap.size) (h3 : mb < w.heap.size)
    (HC : Calls Tryz.prog 40 #[.pointer (some ⟨kb, 0, none⟩), .int .i64 p, .func (.func 50) #[] #[.pointer (some ⟨w.heap.size, 0, none⟩), .pointer (some ⟨w.heap.size + 1, 0, none⟩), .pointer (some ⟨w.heap.size + 2, 0, none⟩)]] (W0Dup w kb p d) fun e w' => Done (W0Dup w kb p d) w' kb tb mb P e r t) :
    Calls Tryz.prog 24 #[.pointer (some ⟨kb, 0, none⟩), .int .i64 p, .int .i64 d] w fun e w' => Done w w' kb tb mb P e r t := by
  have hsz : (W0Dup w kb p d).heap.size = w.heap.size + 4 := by simp [W0Dup]
  have hbl : Below w.heap.size w (W0Dup w kb p d) := by
    unfold W0Dup
    repeat (first | exact Below.refl _ _ | (refine Below.alloc ?_ (by simp <;> omega) _))
  have hres : (W0Dup w kb p d).heap[w.heap.size + 3]? = some (.cells #[.int .i64 0, .int .i64 0, .slice none 0 0] 34 (0, 0)) := by
    unfold W0Dup
    rw [show w.heap.size + 3 = ((((w.alloc (.cells #[.pointer (some ⟨kb, 0, none⟩)] 26)).alloc (.cells #[.int .i64 p] 3)).alloc (.cells #[.int .i64 d] 3))).heap.size by simp]
    exact heap_alloc_new _ _
  have HB := Hid.mk hbl
  have HS := Hid.mk hsz
  have HR := Hid.mk hres
  unfold Done rpV at HC
  have HCC := Hid.mk HC
  clear HC hbl hsz hres
  go_enter Tryz.func24, Tryz.ntmps24
  go_wp2_with (go_at_call 40; refine HCC.out.mono ?_; rintro e w1 ⟨v1, rfl, ho1, ⟨ι', rv', wv', qv', hkv⟩, hkp⟩; have hblk := (hkp.block (w.heap.size + 3) (by have := HS.out; omega) (by simp; omega)).trans HR.out; obtain ⟨a1, c1, rfl⟩ := own_form ho1; obtain ⟨q0, q1, q2, qz⟩ := reply_block hblk; have qz0 := qz 0; have qz1 := qz 1; have qz2 := qz 2; have HBK := Hid.mk hblk; have HO := Hid.mk ho1; have HKV := Hid.mk hkv; have HKP := Hid.mk hkp; clear ho1 hkv hkp hblk qz)
  have hfin := reply_set HBK.out (.int .i64 r.e) (.int .i64 r.n) (.slice a1 r.d.length c1)
  obtain ⟨y0, y1, y2, _⟩ := reply_block hfin
  refine bodyPost_ret (v := rpV r (.slice a1 r.d.length c1)) ?_ rfl ⟨_, rfl, ?_, ⟨ι', rv', wv', qv', HKV.out.reply3 HBK.out _ _ _⟩, ?_⟩
  · simp [results, Tryz.results24, go_sem, y0, y1, y2, rpV]
  · exact own_mono (own_reply3 HO.out HBK.out (by decide) _ _ _) (by have := HS.out; omega)
  · exact ((((Kp.below HB.out).trans HKP.out).newCell (by show _ ≤ w.heap.size + 3; omega) _).newCell (by show _ ≤ w.heap.size + 3; omega) _).newCell (by show _ ≤ w.heap.size + 3; omega) _
set_option maxHeartbeats 1000000 in
set_option maxRecDepth 100000 in
theorem Close1_any {W : World} {kb b0 b1 b2 : Nat} (p d : Int) {F : Int} {Q : World → Prop} (c0 : W.cell? ⟨b0, 0, none⟩ = some (.pointer (some ⟨kb, 0, none⟩))) (c1 : W.cell? ⟨b1, 0, none⟩ = some (.int .i64 p)) (c2 : W.cell? ⟨b2, 0, none⟩ = some (.int .i64 d))
    (HI : Calls Tryz.prog 55 #[.pointer (some ⟨kb, 0, none⟩), .int .i64 p, .int .i64 d] W fun e w' => e = .returned (.int .i64 F) ∧ Q w') :
    Calls Tryz.prog 54 #[.pointer (some ⟨b0, 0, none⟩), .pointer (some ⟨b1, 0, none⟩), .pointer (some ⟨b2, 0, none⟩)] W fun e w' => e = .returned (.tuple #[.int .i64 0, .int .i64 F]) ∧ Q w' := by
  have HII := Hid.mk HI
  clear HI
  go_enter Tryz.func54, Tryz.ntmps54
  go_wp2_with (go_at_call 55; refine HII.out.mono ?_; rintro e w1 ⟨rfl, hq⟩; have HQ := Hid.mk hq; clear hq)
  go_ret2
  exact ⟨rfl, HQ.out⟩
def W0Close (w : World) (kb : Nat) (p d : Int) : World := ((((w.alloc (.cells #[.pointer (some ⟨kb, 0, none⟩)] 26)).alloc (.cells #[.int .i64 p] 3)).alloc (.cells #[.int .i64 d] 3)).alloc (.cells #[.int .i64 0, .int .i64 0, .slice none 0 0] 34))
set_option maxHeartbeats 2000000 in
set_option maxRecDepth 100000 in
theorem Close_out {w : World} {kb tb mb : Nat} {P : Nat → Prop} (p d : Int) {r : Rp} {t : DS} (h1 : kb < w.heap.size) (h2 : tb < w.heap.size) (h3 : mb < w.heap.size)
    (HC : Calls Tryz.prog 40 #[.pointer (some ⟨kb, 0, none⟩), .int .i64 p, .func (.func 54) #[] #[.pointer (some ⟨w.heap.size, 0, none⟩), .pointer (some ⟨w.heap.size + 1, 0, none⟩), .pointer (some ⟨w.heap.size + 2, 0, none⟩)]] (W0Close w kb p d) fun e w' => Done (W0Close w kb p d) w' kb tb mb P e r t) :
    Calls Tryz.prog 26 #[.pointer (some ⟨kb, 0, none⟩), .int .i64 p, .int .i64 d] w fun e w' => Done w w' kb tb mb P e r t := by
  have hsz : (W0Close w kb p d).heap.size = w.heap.size + 4 := by simp [W0Close]
  have hbl : Below w.heap.size w (W0Close w kb p d) := by
    unfold W0Close
    repeat (first | exact Below.refl _ _ | (refine Below.alloc ?_ (by simp <;> omega) _))
  have hres : (W0Close w kb p d).heap[w.heap.size + 3]? = some (.cells #[.int .i64 0, .int .i64 0, .slice none 0 0] 34 (0, 0)) := by
    unfold W0Close
    rw [show w.heap.size + 3 = ((((w.alloc (.cells #[.pointer (some ⟨kb, 0, none⟩)] 26)).alloc (.cells #[.int .i64 p] 3)).alloc (.cells #[.int .i64 d] 3))).heap.size by simp]
    exact heap_alloc_new _ _
  have HB := Hid.mk hbl
  have HS := Hid.mk hsz
  have HR := Hid.mk hres
  unfold Done rpV at HC
  have HCC := Hid.mk HC
  clear HC hbl hsz hres
  go_enter Tryz.func26, Tryz.ntmps26
  go_wp2_with (go_at_call 40; refine HCC.out.mono ?_; rintro e w1 ⟨v1, rfl, ho1, ⟨ι', rv', wv', qv', hkv⟩, hkp⟩; have hblk := (hkp.block (w.heap.size + 3) (by have := HS.out; omega) (by simp; omega)).trans HR.out; obtain ⟨a1, c1, rfl⟩ := own_form ho1; obtain ⟨q0, q1, q2, qz⟩ := reply_block hblk; have qz0 := qz 0; have qz1 := qz 1; have qz2 := qz 2; have HBK := Hid.mk hblk; have HO := Hid.mk ho1; have HKV := Hid.mk hkv; have HKP := Hid.mk hkp; clear ho1 hkv hkp hblk qz)
  have hfin := reply_set HBK.out (.int .i64 r.e) (.int .i64 r.n) (.slice a1 r.d.length c1)
  obtain ⟨y0, y1, y2, _⟩ := reply_block hfin
  refine bodyPost_ret (v := rpV r (.slice a1 r.d.length c1)) ?_ rfl ⟨_, rfl, ?_, ⟨ι', rv', wv', qv', HKV.out.reply3 HBK.out _ _ _⟩, ?_⟩
  · simp [results, Tryz.results26, go_sem, y0, y1, y2, rpV]
  · exact own_mono (own_reply3 HO.out HBK.out (by decide) _ _ _) (by have := HS.out; omega)
  · exact ((((Kp.below HB.out).trans HKP.out).newCell (by show _ ≤ w.heap.size + 3; omega) _).newCell (by show _ ≤ w.heap.size + 3; omega) _).newCell (by show _ ≤ w.heap.size + 3; omega) _
set_option maxHeartbeats 1000000 in
set_option maxRecDepth 100000 in
theorem Lock1_any {W : World} {kb b0 b1 b2 b3 b4 b5 b6 : Nat} (p d k f l : Int) (wt : Bool) {F : Int} {Q : World → Prop} (c0 : W.cell? ⟨b0, 0, none⟩ = some (.pointer (some ⟨kb, 0, none⟩))) (c1 : W.cell? ⟨b1, 0, none⟩ = some (.int .i64 p)) (c2 : W.cell? ⟨b2, 0, none⟩ = some (.int .i64 d)) (c3 : W.cell? ⟨b3, 0, none⟩ = some (.int .i64 k)) (c4 : W.cell? ⟨b4, 0, none⟩ = some (.int .i64 f)) (c5 : W.cell? ⟨b5, 0, none⟩ = some (.int .i64 l)) (c6 : W.cell? ⟨b6, 0, none⟩ = some (.bool wt))
    (HI : Calls Tryz.prog 42 #[.pointer (some ⟨kb, 0, none⟩), .int .i64 p, .int .i64 d, .int .i64 k, .int .i64 f, .int .i64 l, .bool wt] W fun e w' => e = .returned (.int .i64 F) ∧ Q w') :
    Calls Tryz.prog 41 #[.pointer (some ⟨b0, 0, none⟩), .pointer (some ⟨b1, 0, none⟩), .pointer (some ⟨b2, 0, none⟩), .pointer (some ⟨b3, 0, none⟩), .pointer (some ⟨b4, 0, none⟩), .pointer (some ⟨b5, 0, none⟩), .pointer (some ⟨b6, 0, none⟩)] W fun e w' => e = .returned (.tuple #[.int .i64 0, .int .i64 F]) ∧ Q w' := by
  have HII := Hid.mk HI
  clear HI
  go_enter Tryz.func41, Tryz.ntmps41
  go_wp2_with (go_at_call 42; refine HII.out.mono ?_; rintro e w1 ⟨rfl, hq⟩; have HQ := Hid.mk hq; clear hq)
  go_ret2
  exact ⟨rfl, HQ.out⟩
def W0Lock (w : World) (kb : Nat) (p d k f l : Int) (wt : Bool) : World := ((((((((w.alloc (.cells #[.pointer (some ⟨kb, 0, none⟩)] 26)).alloc (.cells #[.int .i64 p] 3)).alloc (.cells #[.int .i64 d] 3)).alloc (.cells #[.int .i64 k] 3)).alloc (.cells #[.int .i64 f] 3)).alloc (.cells #[.int .i64 l] 3)).alloc (.cells #[.bool wt] 4)).alloc (.cells #[.int .i64 0, .int .i64 0, .slice none 0 0] 34))
set_option maxHeartbeats 2000000 in
set_option maxRecDepth 100000 in
theorem Lock_out {w : World} {kb tb mb : Nat} {P : Nat → Prop} (p d k f l : Int) (wt : Bool) {r : Rp} {t : DS} (h1 : kb < w.heap.size) (h2 : tb < w.heap.size) (h3 : mb < w.heap.size)
    (HC : Calls Tryz.prog 40 #[.pointer (some ⟨kb, 0, none⟩), .int .i64 p, .func (.func 41) #[] #[.pointer (some ⟨w.heap.size, 0, none⟩), .pointer (some ⟨w.heap.size + 1, 0, none⟩), .pointer (some ⟨w.heap.size + 2, 0, none⟩), .pointer (some ⟨w.heap.size + 3, 0, none⟩), .pointer (some ⟨w.heap.size + 4, 0, none⟩), .pointer (some ⟨w.heap.size + 5, 0, none⟩), .pointer (some ⟨w.heap.size + 6, 0, none⟩)]] (W0Lock w kb p d k f l wt) fun e w' => Done (W0Lock w kb p d k f l wt) w' kb tb mb P e r t) :
    Calls Tryz.prog 18 #[.pointer (some ⟨kb, 0, none⟩), .int .i64 p, .int .i64 d, .int .i64 k, .int .i64 f, .int .i64 l, .bool wt] w fun e w' => Done w w' kb tb mb P e r t := by
  have hsz : (W0Lock w kb p d k f l wt).heap.size = w.heap.size + 8 := by simp [W0Lock]
  have hbl : Below w.heap.size w (W0Lock w kb p d k f l wt) := by
    unfold W0Lock
    repeat (first | exact Below.refl _ _ | (refine Below.alloc ?_ (by simp <;> omega) _))
  have hres : (W0Lock w kb p d k f l wt).heap[w.heap.size + 7]? = some (.cells #[.int .i64 0, .int .i64 0, .slice none 0 0] 34 (0, 0)) := by
    unfold W0Lock
    rw [show w.heap.size + 7 = ((((((((w.alloc (.cells #[.pointer (some ⟨kb, 0, none⟩)] 26)).alloc (.cells #[.int .i64 p] 3)).alloc (.cells #[.int .i64 d] 3)).alloc (.cells #[.int .i64 k] 3)).alloc (.cells #[.int .i64 f] 3)).alloc (.cells #[.int .i64 l] 3)).alloc (.cells #[.bool wt] 4))).heap.size by simp]
    exact heap_alloc_new _ _
  have HB := Hid.mk hbl
  have HS := Hid.mk hsz
  have HR := Hid.mk hres
  unfold Done rpV at HC
  have HCC := Hid.mk HC
  clear HC hbl hsz hres
  go_enter Tryz.func18, Tryz.ntmps18
  go_wp2_with (go_at_call 40; refine HCC.out.mono ?_; rintro e w1 ⟨v1, rfl, ho1, ⟨ι', rv', wv', qv', hkv⟩, hkp⟩; have hblk := (hkp.block (w.heap.size + 7) (by have := HS.out; omega) (by simp; omega)).trans HR.out; obtain ⟨a1, c1, rfl⟩ := own_form ho1; obtain ⟨q0, q1, q2, qz⟩ := reply_block hblk; have qz0 := qz 0; have qz1 := qz 1; have qz2 := qz 2; have HBK := Hid.mk hblk; have HO := Hid.mk ho1; have HKV := Hid.mk hkv; have HKP := Hid.mk hkp; clear ho1 hkv hkp hblk qz)
  have hfin := reply_set HBK.out (.int .i64 r.e) (.int .i64 r.n) (.slice a1 r.d.length c1)
  obtain ⟨y0, y1, y2, _⟩ := reply_block hfin
  refine bodyPost_ret (v := rpV r (.slice a1 r.d.length c1)) ?_ rfl ⟨_, rfl, ?_, ⟨ι', rv', wv', qv', HKV.out.reply3 HBK.out _ _ _⟩, ?_⟩
  · simp [results, Tryz.results18, go_sem, y0, y1, y2, rpV]
  · exact own_mono (own_reply3 HO.out HBK.out (by decide) _ _ _) (by have := HS.out; omega)
  · exact ((((Kp.below HB.out).trans HKP.out).newCell (by show _ ≤ w.heap.size + 7; omega) _).newCell (by show _ ≤ w.heap.size + 7; omega) _).newCell (by show _ ≤ w.heap.size + 7; omega) _
set_option maxHeartbeats 1000000 in
set_option maxRecDepth 100000 in
theorem Whole1_any {W : World} {kb b0 b1 b2 b3 b4 : Nat} (p d k : Int) (wt : Bool) {F : Int} {Q : World → Prop} (c0 : W.cell? ⟨b0, 0, none⟩ = some (.pointer (some ⟨kb, 0, none⟩))) (c1 : W.cell? ⟨b1, 0, none⟩ = some (.int .i64 p)) (c2 : W.cell? ⟨b2, 0, none⟩ = some (.int .i64 d)) (c3 : W.cell? ⟨b3, 0, none⟩ = some (.int .i64 k)) (c4 : W.cell? ⟨b4, 0, none⟩ = some (.bool wt))
    (HI : Calls Tryz.prog 53 #[.pointer (some ⟨kb, 0, none⟩), .int .i64 p, .int .i64 d, .int .i64 k, .bool wt] W fun e w' => e = .returned (.int .i64 F) ∧ Q w') :
    Calls Tryz.prog 52 #[.pointer (some ⟨b0, 0, none⟩), .pointer (some ⟨b1, 0, none⟩), .pointer (some ⟨b2, 0, none⟩), .pointer (some ⟨b3, 0, none⟩), .pointer (some ⟨b4, 0, none⟩)] W fun e w' => e = .returned (.tuple #[.int .i64 0, .int .i64 F]) ∧ Q w' := by
  have HII := Hid.mk HI
  clear HI
  go_enter Tryz.func52, Tryz.ntmps52
  go_wp2_with (go_at_call 53; refine HII.out.mono ?_; rintro e w1 ⟨rfl, hq⟩; have HQ := Hid.mk hq; clear hq)
  go_ret2
  exact ⟨rfl, HQ.out⟩
def W0Whole (w : World) (kb : Nat) (p d k : Int) (wt : Bool) : World := ((((((w.alloc (.cells #[.pointer (some ⟨kb, 0, none⟩)] 26)).alloc (.cells #[.int .i64 p] 3)).alloc (.cells #[.int .i64 d] 3)).alloc (.cells #[.int .i64 k] 3)).alloc (.cells #[.bool wt] 4)).alloc (.cells #[.int .i64 0, .int .i64 0, .slice none 0 0] 34))
set_option maxHeartbeats 2000000 in
set_option maxRecDepth 100000 in
theorem Whole_out {w : World} {kb tb mb : Nat} {P : Nat → Prop} (p d k : Int) (wt : Bool) {r : Rp} {t : DS} (h1 : kb < w.heap.size) (h2 : tb < w.heap.size) (h3 : mb < w.heap.size)
    (HC : Calls Tryz.prog 40 #[.pointer (some ⟨kb, 0, none⟩), .int .i64 p, .func (.func 52) #[] #[.pointer (some ⟨w.heap.size, 0, none⟩), .pointer (some ⟨w.heap.size + 1, 0, none⟩), .pointer (some ⟨w.heap.size + 2, 0, none⟩), .pointer (some ⟨w.heap.size + 3, 0, none⟩), .pointer (some ⟨w.heap.size + 4, 0, none⟩)]] (W0Whole w kb p d k wt) fun e w' => Done (W0Whole w kb p d k wt) w' kb tb mb P e r t) :
    Calls Tryz.prog 25 #[.pointer (some ⟨kb, 0, none⟩), .int .i64 p, .int .i64 d, .int .i64 k, .bool wt] w fun e w' => Done w w' kb tb mb P e r t := by
  have hsz : (W0Whole w kb p d k wt).heap.size = w.heap.size + 6 := by simp [W0Whole]
  have hbl : Below w.heap.size w (W0Whole w kb p d k wt) := by
    unfold W0Whole
    repeat (first | exact Below.refl _ _ | (refine Below.alloc ?_ (by simp <;> omega) _))
  have hres : (W0Whole w kb p d k wt).heap[w.heap.size + 5]? = some (.cells #[.int .i64 0, .int .i64 0, .slice none 0 0] 34 (0, 0)) := by
    unfold W0Whole
    rw [show w.heap.size + 5 = ((((((w.alloc (.cells #[.pointer (some ⟨kb, 0, none⟩)] 26)).alloc (.cells #[.int .i64 p] 3)).alloc (.cells #[.int .i64 d] 3)).alloc (.cells #[.int .i64 k] 3)).alloc (.cells #[.bool wt] 4))).heap.size by simp]
    exact heap_alloc_new _ _
  have HB := Hid.mk hbl
  have HS := Hid.mk hsz
  have HR := Hid.mk hres
  unfold Done rpV at HC
  have HCC := Hid.mk HC
  clear HC hbl hsz hres
  go_enter Tryz.func25, Tryz.ntmps25
  go_wp2_with (go_at_call 40; refine HCC.out.mono ?_; rintro e w1 ⟨v1, rfl, ho1, ⟨ι', rv', wv', qv', hkv⟩, hkp⟩; have hblk := (hkp.block (w.heap.size + 5) (by have := HS.out; omega) (by simp; omega)).trans HR.out; obtain ⟨a1, c1, rfl⟩ := own_form ho1; obtain ⟨q0, q1, q2, qz⟩ := reply_block hblk; have qz0 := qz 0; have qz1 := qz 1; have qz2 := qz 2; have HBK := Hid.mk hblk; have HO := Hid.mk ho1; have HKV := Hid.mk hkv; have HKP := Hid.mk hkp; clear ho1 hkv hkp hblk qz)
  have hfin := reply_set HBK.out (.int .i64 r.e) (.int .i64 r.n) (.slice a1 r.d.length c1)
  obtain ⟨y0, y1, y2, _⟩ := reply_block hfin
  refine bodyPost_ret (v := rpV r (.slice a1 r.d.length c1)) ?_ rfl ⟨_, rfl, ?_, ⟨ι', rv', wv', qv', HKV.out.reply3 HBK.out _ _ _⟩, ?_⟩
  · simp [results, Tryz.results25, go_sem, y0, y1, y2, rpV]
  · exact own_mono (own_reply3 HO.out HBK.out (by decide) _ _ _) (by have := HS.out; omega)
  · exact ((((Kp.below HB.out).trans HKP.out).newCell (by show _ ≤ w.heap.size + 5; omega) _).newCell (by show _ ≤ w.heap.size + 5; omega) _).newCell (by show _ ≤ w.heap.size + 5; omega) _
theorem W0Fork_cells (w : World) (kb : Nat) (p : Int) : Below w.heap.size w (W0Fork w kb p) ∧ (W0Fork w kb p).heap.size = w.heap.size + 3 ∧ (W0Fork w kb p).cell? ⟨w.heap.size, 0, none⟩ = some (.pointer (some ⟨kb, 0, none⟩)) ∧ (W0Fork w kb p).cell? ⟨w.heap.size + 1, 0, none⟩ = some (.int .i64 p) := by
  refine ⟨?_, by simp [W0Fork], ?_, ?_⟩
  · unfold W0Fork
    repeat (first | exact Below.refl _ _ | (refine Below.alloc ?_ (by simp <;> omega) _))
  all_goals simp [W0Fork, go_sem]
theorem W0Open_cells (w : World) (kb : Nat) (p f : Int) : Below w.heap.size w (W0Open w kb p f) ∧ (W0Open w kb p f).heap.size = w.heap.size + 4 ∧ (W0Open w kb p f).cell? ⟨w.heap.size, 0, none⟩ = some (.pointer (some ⟨kb, 0, none⟩)) ∧ (W0Open w kb p f).cell? ⟨w.heap.size + 1, 0, none⟩ = some (.int .i64 p) ∧ (W0Open w kb p f).cell? ⟨w.heap.size + 2, 0, none⟩ = some (.int .i64 f) := by
  refine ⟨?_, by simp [W0Open], ?_, ?_, ?_⟩
  · unfold W0Open
    repeat (first | exact Below.refl _ _ | (refine Below.alloc ?_ (by simp <;> omega) _))
  all_goals simp [W0Open, go_sem]
theorem W0Dup_cells (w : World) (kb : Nat) (p d : Int) : Below w.heap.size w (W0Dup w kb p d) ∧ (W0Dup w kb p d).heap.size = w.heap.size + 4 ∧ (W0Dup w kb p d).cell? ⟨w.heap.size, 0, none⟩ = some (.pointer (some ⟨kb, 0, none⟩)) ∧ (W0Dup w kb p d).cell? ⟨w.heap.size + 1, 0, none⟩ = some (.int .i64 p) ∧ (W0Dup w kb p d).cell? ⟨w.heap.size + 2, 0, none⟩ = some (.int .i64 d) := by
  refine ⟨?_, by simp [W0Dup], ?_, ?_, ?_⟩
  · unfold W0Dup
    repeat (first | exact Below.refl _ _ | (refine Below.alloc ?_ (by simp <;> omega) _))
  all_goals simp [W0Dup, go_sem]
theorem W0Close_cells (w : World) (kb : Nat) (p d : Int) : Below w.heap.size w (W0Close w kb p d) ∧ (W0Close w kb p d).heap.size = w.heap.size + 4 ∧ (W0Close w kb p d).cell? ⟨w.heap.size, 0, none⟩ = some (.pointer (some ⟨kb, 0, none⟩)) ∧ (W0Close w kb p d).cell? ⟨w.heap.size + 1, 0, none⟩ = some (.int .i64 p) ∧ (W0Close w kb p d).cell? ⟨w.heap.size + 2, 0, none⟩ = some (.int .i64 d) := by
  refine ⟨?_, by simp [W0Close], ?_, ?_, ?_⟩
  · unfold W0Close
    repeat (first | exact Below.refl _ _ | (refine Below.alloc ?_ (by simp <;> omega) _))
  all_goals simp [W0Close, go_sem]
theorem W0Lock_cells (w : World) (kb : Nat) (p d k f l : Int) (wt : Bool) : Below w.heap.size w (W0Lock w kb p d k f l wt) ∧ (W0Lock w kb p d k f l wt).heap.size = w.heap.size + 8 ∧ (W0Lock w kb p d k f l wt).cell? ⟨w.heap.size, 0, none⟩ = some (.pointer (some ⟨kb, 0, none⟩)) ∧ (W0Lock w kb p d k f l wt).cell? ⟨w.heap.size + 1, 0, none⟩ = some (.int .i64 p) ∧ (W0Lock w kb p d k f l wt).cell? ⟨w.heap.size + 2, 0, none⟩ = some (.int .i64 d) ∧ (W0Lock w kb p d k f l wt).cell? ⟨w.heap.size + 3, 0, none⟩ = some (.int .i64 k) ∧ (W0Lock w kb p d k f l wt).cell? ⟨w.heap.size + 4, 0, none⟩ = some (.int .i64 f) ∧ (W0Lock w kb p d k f l wt).cell? ⟨w.heap.size + 5, 0, none⟩ = some (.int .i64 l) ∧ (W0Lock w kb p d k f l wt).cell? ⟨w.heap.size + 6, 0, none⟩ = some (.bool wt) := by
  refine ⟨?_, by simp [W0Lock], ?_, ?_, ?_, ?_, ?_, ?_, ?_⟩
  · unfold W0Lock
    repeat (first | exact Below.refl _ _ | (refine Below.alloc ?_ (by simp <;> omega) _))
  all_goals simp [W0Lock, go_sem]
theorem W0Whole_cells (w : World) (kb : Nat) (p d k : Int) (wt : Bool) : Below w.heap.size w (W0Whole w kb p d k wt) ∧ (W0Whole w kb p d k wt).heap.size = w.heap.size + 6 ∧ (W0Whole w kb p d k wt).cell? ⟨w.heap.size, 0, none⟩ = some (.pointer (some ⟨kb, 0, none⟩)) ∧ (W0Whole w kb p d k wt).cell? ⟨w.heap.size + 1, 0, none⟩ = some (.int .i64 p) ∧ (W0Whole w kb p d k wt).cell? ⟨w.heap.size + 2, 0, none⟩ = some (.int .i64 d) ∧ (W0Whole w kb p d k wt).cell? ⟨w.heap.size + 3, 0, none⟩ = some (.int .i64 k) ∧ (W0Whole w kb p d k wt).cell? ⟨w.heap.size + 4, 0, none⟩ = some (.bool wt) := by
  refine ⟨?_, by simp [W0Whole], ?_, ?_, ?_, ?_, ?_⟩
  · unfold W0Whole
    repeat (first | exact Below.refl _ _ | (refine Below.alloc ?_ (by simp <;> omega) _))
  all_goals simp [W0Whole, go_sem]
end Go.Proofs.YtaicdjhblbobbaaGreat

/- The program answers as the model: each call, over the Kernel in memory. -/
namespace Go.Proofs.YtaicdjhblbobbaaGreat
open Go.RowKit Go.Lib

section
variable {w : World} {kb tb mb : Nat} {P : Nat → Prop} {ι : Nat → Nat} {s : DS} {rv wv : Nat → Value} {qv : Value} {B : Nat}
/-- A box that was made is there still. -/
theorem kp_cell {W0 W : World} {b : Nat} {v : Value} (h : Kp [kb] W0 W) (hb : b < W0.heap.size) (hn : b ≠ kb) (hc : W0.cell? ⟨b, 0, none⟩ = some v) : W.cell? ⟨b, 0, none⟩ = some v :=
  (World.cell?_of_block (w := W0) (a := ⟨b, 0, none⟩) (h.block b hb (by simpa using hn))).trans hc
theorem Kp.heap {bs : List Nat} {W0 W : World} (h : Kp bs W0 W) {b : Nat} (hb : b < W0.heap.size) (hn : b ∉ bs) : W.heap[b]? = W0.heap[b]? := h.block b hb hn

theorem Fork_any (h : KV w kb tb mb 0 P ι s rv wv qv) (hP : ∀ b, B ≤ b → P b) (hB : B ≤ w.heap.size) (hinv : s.Inv) (p : Int) :
    Calls Tryz.prog 32 #[.pointer (some ⟨kb, 0, none⟩), .int .i64 p] w fun e w' => Done w w' kb tb mb P e (s.fork p).2 (s.fork p).1 := by
  obtain ⟨hbl, hsz, c0, c1⟩ := W0Fork_cells w kb p
  have h0 := h.below hbl
  have hk := h.lt
  have ht := h.t.lt
  have hm := h.m.lt
  refine Fork_out p hk ht hm ?_
  cases hw : s.waits p
  · obtain ⟨hb, he⟩ := fork_go hinv hw
    rw [he]
    refine call_go h0 hP (by omega) p 60 _ (by intro args w; simp [go_sem]) _ _ _ hb hw (fun W hkp hkv => ?_)
    have hzW := hkp.size
    refine Fork1_any (tb := tb) (kb := kb) p (kp_cell hkp (by omega) (by omega) c0) (kp_cell hkp (by omega) (by omega) c1) hkv.c2 (fun W' hW' => ?_)
    obtain ⟨n, rfl⟩ := hW'
    have hd : Below W.heap.size W (W.drewN n) := below_drewN (Below.refl _ _) n
    refine (fork_in (hkv.below hd) hinv.toBas p).mono ?_
    rintro e w' ⟨rfl, hkv', hkp'⟩
    refine ⟨rfl, ⟨⟨ι, rv, wv, qv, hkv'⟩, (Kp.below hd).trans (hkp'.mono (by simp))⟩, fun b hb => ?_⟩
    have hb' : b < W.heap.size ∧ b ≠ tb ∧ b ≠ mb := by
      simp only [List.mem_cons, List.not_mem_nil, or_false] at hb
      rcases hb with rfl | rfl | rfl
      · exact ⟨hkv.lt, h.ne1, h.ne2⟩
      all_goals omega
    exact hkp'.block b hb'.1 (by simp [hb'.2])
  · rw [fork_wait hinv hw]
    exact call_wait h0 hP (by omega) hinv.toBas p _ hw
theorem Open_any (h : KV w kb tb mb 0 P ι s rv wv qv) (hP : ∀ b, B ≤ b → P b) (hB : B ≤ w.heap.size) (hinv : s.Inv) (p f : Int) :
    Calls Tryz.prog 23 #[.pointer (some ⟨kb, 0, none⟩), .int .i64 p, .int .i64 f] w fun e w' => Done w w' kb tb mb P e (s.opn p f).2 (s.opn p f).1 := by
  obtain ⟨hbl, hsz, c0, c1, c2⟩ := W0Open_cells w kb p f
  have h0 := h.below hbl
  have hk := h.lt
  have ht := h.t.lt
  have hm := h.m.lt
  refine Open_out p f hk ht hm ?_
  cases hw : s.waits p
  · obtain ⟨hb, he⟩ := opn_go hinv f hw
    rw [he]
    refine call_go h0 hP (by omega) p 48 _ (by intro args w; simp [go_sem]) _ _ _ hb hw (fun W hkp hkv => ?_)
    have hzW := hkp.size
    refine Open1_any (tb := tb) (kb := kb) p f (kp_cell hkp (by omega) (by omega) c0) (kp_cell hkp (by omega) (by omega) c1) (kp_cell hkp (by omega) (by omega) c2) hkv.c2 (fun W' hW' => ?_)
    obtain ⟨n, rfl⟩ := hW'
    have hd : Below W.heap.size W (W.drewN n) := below_drewN (Below.refl _ _) n
    refine (opn_in (hkv.below hd) hP (by have := hd.size; omega) p f).mono ?_
    rintro e w' ⟨rfl, ⟨ι', hkv'⟩, hkp'⟩
    refine ⟨rfl, ⟨⟨ι', rv, wv, qv, hkv'⟩, (Kp.below hd).trans (hkp'.mono (by simp))⟩, fun b hb => ?_⟩
    have hb' : b < W.heap.size ∧ b ≠ tb ∧ b ≠ mb := by
      simp only [List.mem_cons, List.not_mem_nil, or_false] at hb
      rcases hb with rfl | rfl | rfl | rfl
      · exact ⟨hkv.lt, h.ne1, h.ne2⟩
      all_goals omega
    exact hkp'.block b hb'.1 (by simp [hb'.2])
  · rw [opn_wait hinv f hw]
    exact call_wait h0 hP (by omega) hinv.toBas p _ hw
theorem Dup_any (h : KV w kb tb mb 0 P ι s rv wv qv) (hP : ∀ b, B ≤ b → P b) (hB : B ≤ w.heap.size) (hinv : s.Inv) (p d : Int) :
    Calls Tryz.prog 24 #[.pointer (some ⟨kb, 0, none⟩), .int .i64 p, .int .i64 d] w fun e w' => Done w w' kb tb mb P e (s.dup p d).2 (s.dup p d).1 := by
  obtain ⟨hbl, hsz, c0, c1, c2⟩ := W0Dup_cells w kb p d
  have h0 := h.below hbl
  have hk := h.lt
  have ht := h.t.lt
  have hm := h.m.lt
  refine Dup_out p d hk ht hm ?_
  cases hw : s.waits p
  · obtain ⟨hb, he⟩ := dup_go hinv d hw
    rw [he]
    refine call_go h0 hP (by omega) p 50 _ (by intro args w; simp [go_sem]) _ _ _ hb hw (fun W hkp hkv => ?_)
    have hzW := hkp.size
    refine Dup1_any (tb := tb) (kb := kb) p d (kp_cell hkp (by omega) (by omega) c0) (kp_cell hkp (by omega) (by omega) c1) (kp_cell hkp (by omega) (by omega) c2) hkv.c2 (fun W' hW' => ?_)
    obtain ⟨n, rfl⟩ := hW'
    have hd : Below W.heap.size W (W.drewN n) := below_drewN (Below.refl _ _) n
    refine (dup_in (hkv.below hd) p d).mono ?_
    rintro e w' ⟨rfl, hkv', hkp'⟩
    refine ⟨rfl, ⟨⟨ι, rv, wv, qv, hkv'⟩, (Kp.below hd).trans (hkp'.mono (by simp))⟩, fun b hb => ?_⟩
    have hb' : b < W.heap.size ∧ b ≠ tb ∧ b ≠ mb := by
      simp only [List.mem_cons, List.not_mem_nil, or_false] at hb
      rcases hb with rfl | rfl | rfl | rfl
      · exact ⟨hkv.lt, h.ne1, h.ne2⟩
      all_goals omega
    exact hkp'.block b hb'.1 (by simp [hb'.2])
  · rw [dup_wait hinv d hw]
    exact call_wait h0 hP (by omega) hinv.toBas p _ hw
theorem Close_any (h : KV w kb tb mb 0 P ι s rv wv qv) (hP : ∀ b, B ≤ b → P b) (hB : B ≤ w.heap.size) (hinv : s.Inv) (p d : Int) :
    Calls Tryz.prog 26 #[.pointer (some ⟨kb, 0, none⟩), .int .i64 p, .int .i64 d] w fun e w' => Done w w' kb tb mb P e (s.close p d).2 (s.close p d).1 := by
  obtain ⟨hbl, hsz, c0, c1, c2⟩ := W0Close_cells w kb p d
  have h0 := h.below hbl
  have hk := h.lt
  refine Close_out p d hk h.t.lt h.m.lt ?_
  cases hw : s.waits p
  · obtain ⟨hb, he⟩ := close_go hinv d hw
    rw [he]
    refine call_go h0 hP (by omega) p 54 _ (by intro args w; simp [go_sem]) _ _ _ hb hw (fun W hkp hkv => ?_)
    have hzW := hkp.size
    refine Close1_any (kb := kb) p d (kp_cell hkp (by omega) (by omega) c0) (kp_cell hkp (by omega) (by omega) c1) (kp_cell hkp (by omega) (by omega) c2) ?_
    have hE : findE s.L (renF ι s.F) p d = if liveB s.L p = false then 1 else if s.F p d = none then 5 else 0 := by unfold findE; simp only [renF_none]
    unfold DS.shut0
    cases hl : liveB s.L p
    · rw [hl] at hE
      simp only [if_true] at hE ⊢
      refine (shut_no hkv p d (by rw [hE]; decide)).mono ?_
      rintro e w' ⟨rfl, rfl⟩
      exact ⟨by rw [hE], ⟨ι, rv, wv, qv, hkv⟩, Kp.refl _ _⟩
    · rw [hl] at hE
      simp only [Bool.true_eq_false, if_false] at hE ⊢
      cases hf : s.F p d with
      | none =>
        rw [hf] at hE
        simp only [if_true] at hE
        refine (shut_no hkv p d (by rw [hE]; decide)).mono ?_
        rintro e w' ⟨rfl, rfl⟩
        exact ⟨by rw [hE], ⟨ι, rv, wv, qv, hkv⟩, Kp.refl _ _⟩
      | some o =>
        refine (shut_yes hkv hP (by omega) hinv.toBas p d hl hw hf).mono ?_
        rintro e w' ⟨rfl, ⟨rv', wv', hkv'⟩, hkp'⟩
        exact ⟨rfl, ⟨ι, rv', wv', qv, hkv'⟩, hkp'⟩
  · rw [close_wait hinv d hw]
    exact call_wait h0 hP (by omega) hinv.toBas p _ hw
theorem Lock_any (h : KV w kb tb mb 0 P ι s rv wv qv) (hP : ∀ b, B ≤ b → P b) (hB : B ≤ w.heap.size) (hinv : s.Inv) (p d k f l : Int) (wt : Bool) :
    Calls Tryz.prog 18 #[.pointer (some ⟨kb, 0, none⟩), .int .i64 p, .int .i64 d, .int .i64 k, .int .i64 f, .int .i64 l, .bool wt] w fun e w' => Done w w' kb tb mb P e (s.lock p d k f l wt).2 (s.lock p d k f l wt).1 := by
  obtain ⟨hbl, hsz, c0, c1, c2, c3, c4, c5, c6⟩ := W0Lock_cells w kb p d k f l wt
  have h0 := h.below hbl
  have hk := h.lt
  refine Lock_out p d k f l wt hk h.t.lt h.m.lt ?_
  cases hw : s.waits p
  · obtain ⟨hb, he⟩ := lock_go hinv d k f l wt hw
    rw [he]
    refine call_go h0 hP (by omega) p 41 _ (by intro args w; simp [go_sem]) _ _ _ hb hw (fun W hkp hkv => ?_)
    have hzW := hkp.size
    refine Lock1_any (kb := kb) p d k f l wt (kp_cell hkp (by omega) (by omega) c0) (kp_cell hkp (by omega) (by omega) c1) (kp_cell hkp (by omega) (by omega) c2) (kp_cell hkp (by omega) (by omega) c3) (kp_cell hkp (by omega) (by omega) c4) (kp_cell hkp (by omega) (by omega) c5) (kp_cell hkp (by omega) (by omega) c6) ?_
    refine (lock_any hkv hP (by omega) hinv p d k f l wt hw).mono ?_
    rintro e w' ⟨rfl, ⟨rv', wv', qv', hkv'⟩, hkp'⟩
    exact ⟨rfl, ⟨ι, rv', wv', qv', hkv'⟩, hkp'.mono (by simp)⟩
  · rw [lock_wait hinv d k f l wt hw]
    exact call_wait h0 hP (by omega) hinv.toBas p _ hw
theorem Whole_any (h : KV w kb tb mb 0 P ι s rv wv qv) (hP : ∀ b, B ≤ b → P b) (hB : B ≤ w.heap.size) (hinv : s.Inv) (p d k : Int) (wt : Bool) :
    Calls Tryz.prog 25 #[.pointer (some ⟨kb, 0, none⟩), .int .i64 p, .int .i64 d, .int .i64 k, .bool wt] w fun e w' => Done w w' kb tb mb P e (s.whole p d k wt).2 (s.whole p d k wt).1 := by
  obtain ⟨hbl, hsz, c0, c1, c2, c3, c4⟩ := W0Whole_cells w kb p d k wt
  have h0 := h.below hbl
  have hk := h.lt
  refine Whole_out p d k wt hk h.t.lt h.m.lt ?_
  cases hw : s.waits p
  · obtain ⟨hb, he⟩ := whole_go hinv d k wt hw
    rw [he]
    refine call_go h0 hP (by omega) p 52 _ (by intro args w; simp [go_sem]) _ _ _ hb hw (fun W hkp hkv => ?_)
    have hzW := hkp.size
    refine Whole1_any (kb := kb) p d k wt (kp_cell hkp (by omega) (by omega) c0) (kp_cell hkp (by omega) (by omega) c1) (kp_cell hkp (by omega) (by omega) c2) (kp_cell hkp (by omega) (by omega) c3) (kp_cell hkp (by omega) (by omega) c4) ?_
    refine (whole_any hkv hP (by omega) hinv p d k wt hw).mono ?_
    rintro e w' ⟨rfl, ⟨rv', wv', qv', hkv'⟩, hkp'⟩
    exact ⟨rfl, ⟨ι, rv', wv', qv', hkv'⟩, hkp'.mono (by simp)⟩
  · rw [whole_wait hinv d k wt hw]
    exact call_wait h0 hP (by omega) hinv.toBas p _ hw
end
end Go.Proofs.YtaicdjhblbobbaaGreat

/- The relation of a Kernel in memory to a state of the model, and what the calls leave of it. -/
namespace Go.Proofs.YtaicdjhblbobbaaGreat
open Go.RowKit Go.Lib

/-- What lies in a block of the Kernel's own. -/
def KTag (o : Obj) : Prop := (∃ es c, o = .map es c) ∨ ∃ cur t, o = .cells cur t (0, 0) ∧ t ∈ [100, 157, 143, 129, 135, 137]
section
variable {w w' : World} {kb tb mb : Nat} {g : Int} {P Q : Nat → Prop} {ι : Nat → Nat} {s : DS} {rv wv : Nat → Value} {qv : Value}
theorem KV.narrow (h : KV w kb tb mb g P ι s rv wv qv) (hq : ∀ b o, P b → w.heap[b]? = some o → KTag o → Q b) : KV w kb tb mb g Q ι s rv wv qv := by
  have row : ∀ {base : Nat} {t : TypeId} {sz : Nat} {v : Value} {n : Nat} {xs : List Value}, w.ownsRow base t sz v n xs → t ∈ [100, 157, 143, 129, 135, 137] → (∀ b, v.ownBlock = some b → P b) → ∀ b, v.ownBlock = some b → Q b := fun ho ht hp b e => by
    obtain ⟨cur, hc⟩ := own_tag ho e
    exact hq b _ (hp b e) hc (Or.inr ⟨cur, _, rfl, ht⟩)
  refine ⟨h.k, h.t, h.m, h.o, h.inj, h.r, h.wr, h.q, ⟨?_, ?_, ?_⟩, fun o ho => ?_, fun i hi => row (h.r i hi) (by decide) (h.pr i hi), fun i hi => row (h.wr i hi) (by decide) (h.pw i hi), row h.q (by decide) h.pq, h.sm⟩
  · exact hq kb _ h.pk.1 h.k (Or.inr ⟨_, _, rfl, by decide⟩)
  · exact hq tb _ h.pk.2.1 h.t (Or.inr ⟨_, _, rfl, by decide⟩)
  · obtain ⟨es, c, M, hm, _⟩ := h.m
    exact hq mb _ h.pk.2.2 hm (Or.inl ⟨_, _, rfl⟩)
  · exact hq (ι o) _ (h.po o ho) (h.o o ho) (Or.inr ⟨_, _, rfl, by decide⟩)
theorem KV.frame (h : KV w kb tb mb g P ι s rv wv qv) (hb : ∀ b, P b → w'.heap[b]? = w.heap[b]?) : KV w' kb tb mb g P ι s rv wv qv :=
  ⟨(hb kb h.pk.1).trans h.k, h.t.of_block (hb tb h.pk.2.1), h.m.of_block (hb mb h.pk.2.2), fun o ho => (h.o o ho).of_block (hb _ (h.po o ho)), h.inj, fun i hi => own_blk (h.r i hi) fun b e => hb b (h.pr i hi b e), fun i hi => own_blk (h.wr i hi) fun b e => hb b (h.pw i hi b e), own_blk h.q fun b e => hb b (h.pq b e), h.pk, h.po, h.pr, h.pw, h.pq, h.sm⟩
/-- A Kernel in block kb, whose own blocks are of P, in the state s. -/
def rep (w : World) (kb : Nat) (P : Nat → Prop) (s : DS) : Prop :=
  s.Inv ∧ (∀ b, P b → b < w.heap.size) ∧ ∃ tb mb ι rv wv qv, KV w kb tb mb 0 P ι s rv wv qv
/-- The blocks behind a call: none of what was told. -/
def after (w w' : World) (P : Nat → Prop) (vs : List Value) (b : Nat) : Prop := (P b ∨ w.heap.size ≤ b) ∧ b < w'.heap.size ∧ ∀ v, v ∈ vs → v.ownBlock ≠ some b
theorem rep.grown (h : KV w kb tb mb g P ι s rv wv qv) : KV w kb tb mb g (fun b => P b ∨ w.heap.size ≤ b) ι s rv wv qv := h.mono fun _ hb => Or.inl hb
/-- The Kernel, the lists that were told set apart. -/
theorem KV.after (h : KV w' kb tb mb g (fun b => P b ∨ w.heap.size ≤ b) ι s rv wv qv) {vs : List Value} (hv : ∀ v, v ∈ vs → ∀ b, v.ownBlock = some b → ∃ cur t, w'.heap[b]? = some (.cells cur t (0, 0)) ∧ t ∉ [100, 157, 143, 129, 135, 137]) :
    KV w' kb tb mb g (after w w' P vs) ι s rv wv qv := h.narrow fun b o hp hb ht => by
  refine ⟨hp, (Array.getElem?_eq_some_iff.1 hb).1, fun v hm e => ?_⟩
  obtain ⟨cur, t, hc, hn⟩ := hv v hm b e
  rw [hb] at hc
  cases hc
  rcases ht with ⟨es, c, e2⟩ | ⟨cur2, t2, e2, hin⟩
  · cases e2
  · cases e2; exact hn hin
theorem upd_after (hkp : Kp [kb, tb, mb] w w') (hk : P kb ∧ P tb ∧ P mb) (vs : List Value) : Upd P (after w w' P vs) w w' :=
  ⟨hkp.os, hkp.tape, hkp.output, hkp.size, fun k hl hn => hkp.block k hl (by
    simp only [List.mem_cons, List.not_mem_nil, or_false]
    rintro (e | e | e)
    · exact hn (e ▸ hk.1)
    · exact hn (e ▸ hk.2.1)
    · exact hn (e ▸ hk.2.2)), fun k hl hp => by
    rcases hp.1 with h | h
    · exact h
    · omega⟩
theorem own_told {base : Nat} {t : TypeId} {sz : Nat} {v : Value} {n : Nat} {xs : List Value} (ho : w'.ownsRow base t sz v n xs) (hn : t ∉ [100, 157, 143, 129, 135, 137]) :
    ∀ b, v.ownBlock = some b → ∃ cur t, w'.heap[b]? = some (.cells cur t (0, 0)) ∧ t ∉ [100, 157, 143, 129, 135, 137] := fun b e => by
  obtain ⟨cur, hc⟩ := own_tag ho e
  exact ⟨cur, t, hc, hn⟩
/-- A reply came: what the statements are told of it. -/
theorem Done.told {e : Ending} {r : Rp} {t : DS} (hi : t.Inv) (hk : P kb ∧ P tb ∧ P mb) (h : Done w w' kb tb mb (fun b => P b ∨ w.heap.size ≤ b) e r t) :
    ∃ P' v, e = .returned (rpV r v) ∧ Told w w' P' 57 2 v r.d.length (flatD r.d) ∧ rep w' kb P' t ∧ Upd P P' w w' := by
  obtain ⟨v, he, ho, ⟨ι', rv', wv', qv', hkv⟩, hkp⟩ := h
  refine ⟨after w w' P [v], v, he, ⟨ho, fun b e2 hp => hp.2.2 v (by simp) e2⟩, ⟨hi, fun b hp => hp.2.1, tb, mb, ι', rv', wv', qv', hkv.after fun u hu => ?_⟩, upd_after hkp hk _⟩
  simp only [List.mem_cons, List.not_mem_nil, or_false] at hu
  subst hu
  exact own_told ho (by decide)
end
end Go.Proofs.YtaicdjhblbobbaaGreat

/- Contracts of the Kernel's calls: Test. -/
namespace Go.Proofs.YtaicdjhblbobbaaGreat
open Go.RowKit Go.Lib

set_option maxHeartbeats 1000000 in
set_option maxRecDepth 100000 in
theorem Test1_any {W : World} {kb b0 b1 b2 b3 b4 b5 : Nat} (p d k f l : Int) {N F : Int} {Q : World → Prop} (c0 : W.cell? ⟨b0, 0, none⟩ = some (.pointer (some ⟨kb, 0, none⟩))) (c1 : W.cell? ⟨b1, 0, none⟩ = some (.int .i64 p)) (c2 : W.cell? ⟨b2, 0, none⟩ = some (.int .i64 d)) (c3 : W.cell? ⟨b3, 0, none⟩ = some (.int .i64 k)) (c4 : W.cell? ⟨b4, 0, none⟩ = some (.int .i64 f)) (c5 : W.cell? ⟨b5, 0, none⟩ = some (.int .i64 l))
    (HI : Calls Tryz.prog 47 #[.pointer (some ⟨kb, 0, none⟩), .int .i64 p, .int .i64 d, .int .i64 k, .int .i64 f, .int .i64 l] W fun e w' => e = .returned (.tuple #[.int .i64 N, .int .i64 F]) ∧ Q w') :
    Calls Tryz.prog 46 #[.pointer (some ⟨b0, 0, none⟩), .pointer (some ⟨b1, 0, none⟩), .pointer (some ⟨b2, 0, none⟩), .pointer (some ⟨b3, 0, none⟩), .pointer (some ⟨b4, 0, none⟩), .pointer (some ⟨b5, 0, none⟩)] W fun e w' => e = .returned (.tuple #[.int .i64 N, .int .i64 F]) ∧ Q w' := by
  have HII := Hid.mk HI
  clear HI
  go_enter Tryz.func46, Tryz.ntmps46
  go_wp2_with (go_at_call 47; refine HII.out.mono ?_; rintro e w1 ⟨rfl, hq⟩; have HQ := Hid.mk hq; clear hq)
  go_ret2
  exact ⟨rfl, HQ.out⟩
def W0Test (w : World) (kb : Nat) (p d k f l : Int) : World := (((((((w.alloc (.cells #[.pointer (some ⟨kb, 0, none⟩)] 26)).alloc (.cells #[.int .i64 p] 3)).alloc (.cells #[.int .i64 d] 3)).alloc (.cells #[.int .i64 k] 3)).alloc (.cells #[.int .i64 f] 3)).alloc (.cells #[.int .i64 l] 3)).alloc (.cells #[.int .i64 0, .int .i64 0, .slice none 0 0] 34))
set_option maxHeartbeats 2000000 in
set_option maxRecDepth 100000 in
theorem Test_out {w : World} {kb tb mb : Nat} {P : Nat → Prop} (p d k f l : Int) {r : Rp} {t : DS} (h1 : kb < w.heap.size) (h2 : tb < w.heap.size) (h3 : mb < w.heap.size)
    (HC : Calls Tryz.prog 40 #[.pointer (some ⟨kb, 0, none⟩), .int .i64 p, .func (.func 46) #[] #[.pointer (some ⟨w.heap.size, 0, none⟩), .pointer (some ⟨w.heap.size + 1, 0, none⟩), .pointer (some ⟨w.heap.size + 2, 0, none⟩), .pointer (some ⟨w.heap.size + 3, 0, none⟩), .pointer (some ⟨w.heap.size + 4, 0, none⟩), .pointer (some ⟨w.heap.size + 5, 0, none⟩)]] (W0Test w kb p d k f l) fun e w' => Done (W0Test w kb p d k f l) w' kb tb mb P e r t) :
    Calls Tryz.prog 22 #[.pointer (some ⟨kb, 0, none⟩), .int .i64 p, .int .i64 d, .int .i64 k, .int .i64 f, .int .i64 l] w fun e w' => Done w w' kb tb mb P e r t := by
  have hsz : (W0Test w kb p d k f l).heap.size = w.heap.size + 7 := by simp [W0Test]
  have hbl : Below w.heap.size w (W0Test w kb p d k f l) := by
    unfold W0Test
    repeat (first | exact Below.refl _ _ | (refine Below.alloc ?_ (by simp <;> omega) _))
  have hres : (W0Test w kb p d k f l).heap[w.heap.size + 6]? = some (.cells #[.int .i64 0, .int .i64 0, .slice none 0 0] 34 (0, 0)) := by
    unfold W0Test
    rw [show w.heap.size + 6 = (((((((w.alloc (.cells #[.pointer (some ⟨kb, 0, none⟩)] 26)).alloc (.cells #[.int .i64 p] 3)).alloc (.cells #[.int .i64 d] 3)).alloc (.cells #[.int .i64 k] 3)).alloc (.cells #[.int .i64 f] 3)).alloc (.cells #[.int .i64 l] 3))).heap.size by simp]
    exact heap_alloc_new _ _
  have HB := Hid.mk hbl
  have HS := Hid.mk hsz
  have HR := Hid.mk hres
  unfold Done rpV at HC
  have HCC := Hid.mk HC
  clear HC hbl hsz hres
  go_enter Tryz.func22, Tryz.ntmps22
  go_wp2_with (go_at_call 40; refine HCC.out.mono ?_; rintro e w1 ⟨v1, rfl, ho1, ⟨ι', rv', wv', qv', hkv⟩, hkp⟩; have hblk := (hkp.block (w.heap.size + 6) (by have := HS.out; omega) (by simp; omega)).trans HR.out; obtain ⟨a1, c1, rfl⟩ := own_form ho1; obtain ⟨q0, q1, q2, qz⟩ := reply_block hblk; have qz0 := qz 0; have qz1 := qz 1; have qz2 := qz 2; have HBK := Hid.mk hblk; have HO := Hid.mk ho1; have HKV := Hid.mk hkv; have HKP := Hid.mk hkp; clear ho1 hkv hkp hblk qz)
  have hfin := reply_set HBK.out (.int .i64 r.e) (.int .i64 r.n) (.slice a1 r.d.length c1)
  obtain ⟨y0, y1, y2, _⟩ := reply_block hfin
  refine bodyPost_ret (v := rpV r (.slice a1 r.d.length c1)) ?_ rfl ⟨_, rfl, ?_, ⟨ι', rv', wv', qv', HKV.out.reply3 HBK.out _ _ _⟩, ?_⟩
  · simp [results, Tryz.results22, go_sem, y0, y1, y2, rpV]
  · exact own_mono (own_reply3 HO.out HBK.out (by decide) _ _ _) (by have := HS.out; omega)
  · exact ((((Kp.below HB.out).trans HKP.out).newCell (by show _ ≤ w.heap.size + 6; omega) _).newCell (by show _ ≤ w.heap.size + 6; omega) _).newCell (by show _ ≤ w.heap.size + 6; omega) _
theorem W0Test_cells (w : World) (kb : Nat) (p d k f l : Int) : Below w.heap.size w (W0Test w kb p d k f l) ∧ (W0Test w kb p d k f l).heap.size = w.heap.size + 7 ∧ (W0Test w kb p d k f l).cell? ⟨w.heap.size, 0, none⟩ = some (.pointer (some ⟨kb, 0, none⟩)) ∧ (W0Test w kb p d k f l).cell? ⟨w.heap.size + 1, 0, none⟩ = some (.int .i64 p) ∧ (W0Test w kb p d k f l).cell? ⟨w.heap.size + 2, 0, none⟩ = some (.int .i64 d) ∧ (W0Test w kb p d k f l).cell? ⟨w.heap.size + 3, 0, none⟩ = some (.int .i64 k) ∧ (W0Test w kb p d k f l).cell? ⟨w.heap.size + 4, 0, none⟩ = some (.int .i64 f) ∧ (W0Test w kb p d k f l).cell? ⟨w.heap.size + 5, 0, none⟩ = some (.int .i64 l) := by
  refine ⟨?_, by simp [W0Test], ?_, ?_, ?_, ?_, ?_, ?_⟩
  · unfold W0Test
    repeat (first | exact Below.refl _ _ | (refine Below.alloc ?_ (by simp <;> omega) _))
  all_goals simp [W0Test, go_sem]
end Go.Proofs.YtaicdjhblbobbaaGreat

/- The landed program answers as the model. -/
namespace Go.Proofs.YtaicdjhblbobbaaGreat
open Go.RowKit Go.Lib

theorem Test_any {w : World} {kb tb mb : Nat} {P : Nat → Prop} {ι : Nat → Nat} {s : DS} {rv wv : Nat → Value} {qv : Value} {B : Nat} (h : KV w kb tb mb 0 P ι s rv wv qv) (hP : ∀ b, B ≤ b → P b) (hB : B ≤ w.heap.size) (hinv : s.Inv) (p d k f l : Int) :
    Calls Tryz.prog 22 #[.pointer (some ⟨kb, 0, none⟩), .int .i64 p, .int .i64 d, .int .i64 k, .int .i64 f, .int .i64 l] w fun e w' => Done w w' kb tb mb P e (s.test p d k f l) s := by
  obtain ⟨hbl, hsz, c0, c1, c2, c3, c4, c5⟩ := W0Test_cells w kb p d k f l
  have h0 := h.below hbl
  have hk := h.lt
  refine Test_out p d k f l hk h.t.lt h.m.lt ?_
  cases hw : s.waits p
  · have he := test_go hinv d k f l hw
    have h1 := congrArg Prod.fst he
    have h2 := congrArg Prod.snd he
    simp only at h1 h2
    have hc := call_go h0 hP (by omega) p 46 #[.pointer (some ⟨w.heap.size, 0, none⟩), .pointer (some ⟨w.heap.size + 1, 0, none⟩), .pointer (some ⟨w.heap.size + 2, 0, none⟩), .pointer (some ⟨w.heap.size + 3, 0, none⟩), .pointer (some ⟨w.heap.size + 4, 0, none⟩), .pointer (some ⟨w.heap.size + 5, 0, none⟩)] (by intro args w; simp [go_sem]) (s.test0 p d k f l).1 (s.test0 p d k f l).2 s hinv.toBas hw (fun W hkp hkv => by
      have hzW := hkp.size
      refine Test1_any (kb := kb) p d k f l (kp_cell hkp (by omega) (by omega) c0) (kp_cell hkp (by omega) (by omega) c1) (kp_cell hkp (by omega) (by omega) c2) (kp_cell hkp (by omega) (by omega) c3) (kp_cell hkp (by omega) (by omega) c4) (kp_cell hkp (by omega) (by omega) c5) ?_
      refine (test_any hkv p d k f l).mono ?_
      rintro e w' ⟨rfl, hb⟩
      exact ⟨rfl, ⟨ι, rv, wv, qv, hkv.below hb⟩, Kp.below hb⟩)
    rw [← h1, ← h2] at hc
    exact hc
  · rw [test_wait hinv d k f l hw]
    exact call_wait h0 hP (by omega) hinv.toBas p _ hw

theorem face : Face rep where
  frame := fun h hs hb => ⟨h.1, fun b hp => Nat.lt_of_lt_of_le (h.2.1 b hp) hs, by
    obtain ⟨tb, mb, ι, rv, wv, qv, hk⟩ := h.2.2
    exact ⟨tb, mb, ι, rv, wv, qv, hk.frame hb⟩⟩
  lt := fun h => h.2.1
  inv := fun h => h.1
  new := fun w => by
    refine (New_any w).mono ?_
    rintro e w' ⟨kb, tb, mb, rv, wv, qv, rfl, hkv, hb⟩
    refine ⟨kb, after w w' (fun _ => False) [], rfl, ⟨DS.Inv.new, fun b hp => hp.2.1, tb, mb, _, rv, wv, qv, (hkv.mono fun b hb => Or.inr hb).after fun v hv => by simp at hv⟩, ⟨hb.os, hb.tape, hb.output, hb.size, fun k hk _ => hb.block k hk, fun k hk hp => ?_⟩⟩
    rcases hp.1 with h | h
    · exact h
    · omega
  step := fun {w kb P s} c _ h => by
    obtain ⟨hi, hlt, tb, mb, ι, rv, wv, qv, hk⟩ := h
    have hkg := rep.grown hk
    have hP : ∀ b, w.heap.size ≤ b → (P b ∨ w.heap.size ≤ b) := fun b hb => Or.inr hb
    have hs := hi.step c
    cases c with
    | fork p => exact (Fork_any hkg hP (Nat.le_refl _) hi p).mono fun e w' hd => hd.told hs hk.pk
    | kill p => exact (Kill_any hkg hP (Nat.le_refl _) hi p).mono fun e w' hd => hd.told hs hk.pk
    | opn p f => exact (Open_any hkg hP (Nat.le_refl _) hi p f).mono fun e w' hd => hd.told hs hk.pk
    | dup p d => exact (Dup_any hkg hP (Nat.le_refl _) hi p d).mono fun e w' hd => hd.told hs hk.pk
    | close p d => exact (Close_any hkg hP (Nat.le_refl _) hi p d).mono fun e w' hd => hd.told hs hk.pk
    | lock p d k f l wt => exact (Lock_any hkg hP (Nat.le_refl _) hi p d k f l wt).mono fun e w' hd => hd.told hs hk.pk
    | test p d k f l => exact (Test_any hkg hP (Nat.le_refl _) hi p d k f l).mono fun e w' hd => hd.told hs hk.pk
    | whole p d k wt => exact (Whole_any hkg hP (Nat.le_refl _) hi p d k wt).mono fun e w' hd => hd.told hs hk.pk
  runs := fun {w kb P s} f _ h => by
    obtain ⟨hi, hlt, tb, mb, ι, rv, wv, qv, hk⟩ := h
    refine (Runs_any (rep.grown hk) f).mono ?_
    rintro e w' ⟨v, rfl, ho, hkv, hkp⟩
    refine ⟨after w w' P [v], v, rfl, ⟨ho, fun b e2 hp => hp.2.2 v (by simp) e2⟩, ⟨hi, fun b hp => hp.2.1, tb, mb, ι, rv, wv, qv, hkv.after fun u hu => ?_⟩, upd_after (hkp.mono (by simp)) hk.pk _⟩
    simp only [List.mem_cons, List.not_mem_nil, or_false] at hu
    subst hu
    exact own_told ho (by decide)
  holds := fun {w kb P s} f _ h => by
    obtain ⟨hi, hlt, tb, mb, ι, rv, wv, qv, hk⟩ := h
    refine (Holds_any (rep.grown hk) f).mono ?_
    rintro e w' ⟨v, vs, rfl, ho, hkv, hkp⟩
    have hget : ∀ u, u ∈ vs → ∃ (j : Nat) (d : Hd), (s.holds f)[j]? = some d ∧ vs[j]? = some u := fun u hu => by
      obtain ⟨j, hj⟩ := List.mem_iff_getElem?.1 hu
      have hl : j < (s.holds f).length := by rw [← ho.len]; exact (List.getElem?_eq_some_iff.1 hj).1
      exact ⟨j, _, List.getElem?_eq_getElem hl, hj⟩
    have hfar : ∀ u, u ∈ v :: vs → ∀ b, u.ownBlock = some b → ¬ after w w' P (v :: vs) b := fun u hu b e2 hp => hp.2.2 u hu e2
    refine ⟨after w w' P (v :: vs), v, vs, rfl, ho.len, ⟨ho.own, hfar v List.mem_cons_self⟩, fun i d u h1 h2 => ⟨ho.each i d u h1 h2, hfar u (List.mem_cons_of_mem _ (List.mem_of_getElem? h2))⟩, List.pairwise_cons.2 ⟨fun u hu b e1 e2 => ?_, ho.apart⟩, ⟨hi, fun b hp => hp.2.1, tb, mb, ι, rv, wv, qv, hkv.after fun u hu => ?_⟩, upd_after (hkp.mono (by simp)) hk.pk _⟩
    · obtain ⟨j, d, h1, h2⟩ := hget u hu
      obtain ⟨c1, k1⟩ := own_tag ho.own e1
      obtain ⟨c2, k2⟩ := own_tag (ho.each j d u h1 h2) e2
      rw [k1] at k2
      cases k2
    · rcases List.mem_cons.1 hu with rfl | hu
      · exact own_told ho.own (by decide)
      · obtain ⟨j, d, h1, h2⟩ := hget u hu
        exact own_told (ho.each j d u h1 h2) (by decide)
  waiting := fun {w kb P s} h => by
    obtain ⟨hi, hlt, tb, mb, ι, rv, wv, qv, hk⟩ := h
    refine (Waiting_any (rep.grown hk)).mono ?_
    rintro e w' ⟨v, rfl, ho, hkv, hkp⟩
    refine ⟨after w w' P [v], v, rfl, ⟨ho, fun b e2 hp => hp.2.2 v (by simp) e2⟩, ⟨hi, fun b hp => hp.2.1, tb, mb, ι, rv, wv, qv, hkv.after fun u hu => ?_⟩, upd_after (hkp.mono (by simp)) hk.pk _⟩
    simp only [List.mem_cons, List.not_mem_nil, or_false] at hu
    subst hu
    exact own_told ho (by decide)
end Go.Proofs.YtaicdjhblbobbaaGreat
