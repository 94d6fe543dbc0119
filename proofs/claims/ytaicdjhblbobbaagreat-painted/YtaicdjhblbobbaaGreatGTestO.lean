/- Contracts of the Kernel's calls: Test. -/
import Derived.Test.YtaicdjhblbobbaaGreatGCall
namespace Go.Proofs.YtaicdjhblbobbaaGreat
open Go.RowKit Go.Lib

set_option maxHeartbeats 1000000 in
set_option maxRecDepth 100000 in
theorem Test1_any {W : World} {kb b0 b1 b2 b3 b4 b5 : Nat} (p d k f l : Int) {N F : Int} {Q : World → Prop} (c0 : W.cell? ⟨b0, 0, none⟩ = some (.pointer (some ⟨kb, 0, none⟩))) (c1 : W.cell? ⟨b1, 0, none⟩ = some (.int .i64 p)) (c2 : W.cell? ⟨b2, 0, none⟩ = some (.int .i64 d)) (c3 : W.cell? ⟨b3, 0, none⟩ = some (.int .i64 k)) (c4 : W.cell? ⟨b4, 0, none⟩ = some (.int .i64 f)) (c5 : W.cell? ⟨b5, 0, none⟩ = some (.int .i64 l))
    (HI : Calls Tryz.prog 47 #[.pointer (some ⟨kb, 0, none⟩), .int .i64 p, .int .i64 d, .int .i64 k, .int .i64 f, .int .i64 l] W fun e w' => e = .returned (.tuple #[.int .i64 N, .int .i64 F]) ∧ Q w') :
    Calls Tryz.prog 46 #[.pointer (some ⟨b0, 0, none⟩), .pointer (some ⟨b1, 0, none⟩), .pointer (some ⟨b2, 0, none⟩), .pointer (some ⟨b3, 0, none⟩), .pointer (some ⟨b4, 0, none⟩), .pointer (some ⟨b5, 0, none⟩)] W fun e w' => e = .returned (.tuple #[.int .i64 N, .int .i64 F]) ∧ Q w' := by
  have HII := Hid.mk HI
  clear HI
  go_enter Tryz.func46, Tryz.ntmps46
  go_wp2_with (go_at_call 47; refine HII.out.mono ?_; rintro e w1 ⟨rfl, hq⟩; have HQ := Hid.mk hq; clear hq)
  go_ret2
  exact ⟨rfl, HQ.out⟩
def W0Test (w : World) (kb : Nat) (p d k f l : Int) : World := (((((((w.alloc (.cells #[.pointer (some ⟨kb, 0, none⟩)] 26)).alloc (.cells #[.int .i64 p] 3)).alloc (.cells #[.int .i64 d] 3)).alloc (.cells #[.int .i64 k] 3)).alloc (.cells #[.int .i64 f] 3)).alloc (.cells #[.int .i64 l] 3)).alloc (.cells #[.int .i64 0, .int .i64 0, .slice none 0 0] 34))
set_option maxHeartbeats 2000000 in
set_option maxRecDepth 100000 in
theorem Test_out {w : World} {kb tb mb : Nat} {P : Nat → Prop} (p d k f l : Int) {r : Rp} {t : DS} (h1 : kb < w.heap.size) (h2 : tb < w.heap.size) (h3 : mb < w.heap.size)
    (HC : Calls Tryz.prog 40 #[.pointer (some ⟨kb, 0, none⟩), .int .i64 p, .func (.func 46) #[] #[.pointer (some ⟨w.heap.size, 0, none⟩), .pointer (some ⟨w.heap.size + 1, 0, none⟩), .pointer (some ⟨w.heap.size + 2, 0, none⟩), .pointer (some ⟨w.heap.size + 3, 0, none⟩), .pointer (some ⟨w.heap.size + 4, 0, none⟩), .pointer (some ⟨w.heap.size + 5, 0, none⟩)]] (W0Test w kb p d k f l) fun e w' => Done (W0Test w kb p d k f l) w' kb tb mb P e r t) :
    Calls Tryz.prog 22 #[.pointer (some ⟨kb, 0, none⟩), .int .i64 p, .int .i64 d, .int .i64 k, .int .i64 f, .int .i64 l] w fun e w' => Done w w' kb tb mb P e r t := by
  have hsz : (W0Test w kb p d k f l).heap.size = w.heap.size + 7 := by simp [W0Test]
  have hbl : Below w.heap.size w (W0Test w kb p d k f l) := by
    unfold W0Test
    repeat (first | exact Below.refl _ _ | (refine Below.alloc ?_ (by simp <;> omega) _))
  have hres : (W0Test w kb p d k f l).heap[w.heap.size + 6]? = some (.cells #[.int .i64 0, .int .i64 0, .slice none 0 0] 34 (0, 0)) := by
    unfold W0Test
    rw [show w.heap.size + 6 = (((((((w.alloc (.cells #[.pointer (some ⟨kb, 0, none⟩)] 26)).alloc (.cells #[.int .i64 p] 3)).alloc (.cells #[.int .i64 d] 3)).alloc (.cells #[.int .i64 k] 3)).alloc (.cells #[.int .i64 f] 3)).alloc (.cells #[.int .i64 l] 3))).heap.size by simp]
    exact heap_alloc_new _ _
  have HB := Hid.mk hbl
  have HS := Hid.mk hsz
  have HR := Hid.mk hres
  unfold Done rpV at HC
  have HCC := Hid.mk HC
  clear HC hbl hsz hres
  go_enter Tryz.func22, Tryz.ntmps22
  go_wp2_with (go_at_call 40; refine HCC.out.mono ?_; rintro e w1 ⟨v1, rfl, ho1, ⟨ι', rv', wv', qv', hkv⟩, hkp⟩; have hblk := (hkp.block (w.heap.size + 6) (by have := HS.out; omega) (by simp; omega)).trans HR.out; obtain ⟨a1, c1, rfl⟩ := own_form ho1; obtain ⟨q0, q1, q2, qz⟩ := reply_block hblk; have qz0 := qz 0; have qz1 := qz 1; have qz2 := qz 2; have HBK := Hid.mk hblk; have HO := Hid.mk ho1; have HKV := Hid.mk hkv; have HKP := Hid.mk hkp; clear ho1 hkv hkp hblk qz)
  have hfin := reply_set HBK.out (.int .i64 r.e) (.int .i64 r.n) (.slice a1 r.d.length c1)
  obtain ⟨y0, y1, y2, _⟩ := reply_block hfin
  refine bodyPost_ret (v := rpV r (.slice a1 r.d.length c1)) ?_ rfl ⟨_, rfl, ?_, ⟨ι', rv', wv', qv', HKV.out.reply3 HBK.out _ _ _⟩, ?_⟩
  · simp [results, Tryz.results22, go_sem, y0, y1, y2, rpV]
  · exact own_mono (own_reply3 HO.out HBK.out (by decide) _ _ _) (by have := HS.out; omega)
  · exact ((((Kp.below HB.out).trans HKP.out).newCell (by show _ ≤ w.heap.size + 6; omega) _).newCell (by show _ ≤ w.heap.size + 6; omega) _).newCell (by show _ ≤ w.heap.size + 6; omega) _
theorem W0Test_cells (w : World) (kb : Nat) (p d k f l : Int) : Below w.heap.size w (W0Test w kb p d k f l) ∧ (W0Test w kb p d k f l).heap.size = w.heap.size + 7 ∧ (W0Test w kb p d k f l).cell? ⟨w.heap.size, 0, none⟩ = some (.pointer (some ⟨kb, 0, none⟩)) ∧ (W0Test w kb p d k f l).cell? ⟨w.heap.size + 1, 0, none⟩ = some (.int .i64 p) ∧ (W0Test w kb p d k f l).cell? ⟨w.heap.size + 2, 0, none⟩ = some (.int .i64 d) ∧ (W0Test w kb p d k f l).cell? ⟨w.heap.size + 3, 0, none⟩ = some (.int .i64 k) ∧ (W0Test w kb p d k f l).cell? ⟨w.heap.size + 4, 0, none⟩ = some (.int .i64 f) ∧ (W0Test w kb p d k f l).cell? ⟨w.heap.size + 5, 0, none⟩ = some (.int .i64 l) := by
  refine ⟨?_, by simp [W0Test], ?_, ?_, ?_, ?_, ?_, ?_⟩
  · unfold W0Test
    repeat (first | exact Below.refl _ _ | (refine Below.alloc ?_ (by simp <;> omega) _))
  all_goals simp [W0Test, go_sem]
end Go.Proofs.YtaicdjhblbobbaaGreat
