/-
  Several texts in one: The contract of model; The contract of bytes; string(b) of bytes that are known, in this program, in every world that has only grown since; The contract of strs; The contracts of model; The contract of model.
-/
import Derived.Test.YtfbimboemahhhaaGreatDoorTfG8
import Derived.Test.YtfbimboemahhhaaGreatDoorTfG1
import Derived.Test.YtfbimboemahhhaaGreatDoorTfG2
import Derived.Test.YtfbimboemahhhaaGreatDoorRows
import Derived.Test.YtfbimboemahhhaaGreatDoorTfG3
import Derived.Lib.BytesEntry
import Derived.Laws.Entries
import Derived.Test.YtfbimboemahhhaaGreatDoorTfG4
import Derived.Test.YtfbimboemahhhaaGreatDoorTfG7
namespace Go.Proofs.YtfbimboemahhhaaGreatDoor
open Go.Lib (hid)
open Go.RowKit
theorem c_ret {a b : Nat} {w w' : World} (h : b = a) (v : Value) (hv : v = eC a) (hg : Grow w w') : Ending.returned v = .returned (eC b) ∧ Grow w w' := ⟨by rw [h, hv], hg⟩
set_option maxHeartbeats 2000000 in
theorem mSecs_any (m : Md) (ok : m.Ok) (A1 A2 : Option Addr) (n1 c1 n2 c2 : Nat) (w : World) (g1 : ZR sgK w w.heap.size A1 n1 c1 m.segs) (g2 : ZR seK w w.heap.size A2 n2 c2 m.secs) :
  Calls Tryz.prog 117 #[.agg (mdC m (.slice A1 n1 c1) (.slice A2 n2 c2))] w fun e w' => e = .returned (eC m.secsC) ∧ Grow w w' := by
 have HS := hid (fun (p : Pl) (A : Option Addr) (n c : Nat) (w' : World) (hg : Grow w w') (g : RB w' w'.heap.size A n c p.own) => mMay_any m A1 A2 n1 c1 n2 c2 p A n c w' (g1.grow hg) g)
 obtain ⟨x0, x1, x2, x3, x4, x5, x6, x7, x10, hC⟩ : ∃ x0 x1 x2 x3 x4 x5 x6 x7 x10 : Value, mdC m (.slice A1 n1 c1) (.slice A2 n2 c2) = #[x0, x1, x2, x3, x4, x5, x6, x7, .slice A1 n1 c1, .slice A2 n2 c2, x10] := ⟨_, _, _, _, _, _, _, _, _, rfl⟩
 rw [hC] at HS ⊢
 have hcm := g2.max
 have hcc := g2.cap
 have HL := hid g2.len
 have HZ := hid g2
 have HOk := hid ok.secs
 have E : Hid (m.secsC = fstC m.secC m.secs) := hid rfl
 have ED : Hid (∀ s : Se, m.secC s = if m.may s.pl = false then 1 else if s.pl.size ≠ s.held then 1 else if n2 < s.link then 10 else 0) := hid fun s => by rw [HL.out]; rfl
 generalize m.secsC = C at E ⊢
 generalize m.secs = L at HL HZ HOk E
 clear hC g1 g2 ok
 unfold maxLen at hcm
 go_enter Tryz.func117, Tryz.ntmps117
 go_wp2_with fail
 generalize hW : World.alloc _ _ = W0
 obtain ⟨b1, hg0⟩ := blk1 hW
 clear hW
 have HB1 := hid b1
 have HG0 := hid hg0
 have y9 := b1.at 9
 clear b1 hg0
 go_wp2_with fail
 clear y9
 go_loopw [8] (fun i wr => ∃ k : Nat, k ≤ n2 ∧ i = .int .i64 k ∧ (∀ s ∈ L.take k, m.secC s = 0) ∧ Grow W0 wr) (fun i _ => n2 - (intOf i).toNat)
 case atStart => exact ⟨0, by omega, rfl, fun s h => absurd h (by simp), Grow.refl _⟩
 case round =>
  obtain ⟨k, hk, rfl, hz, hg⟩ := hrel
  have HZ0 := hid hz
  have HG := hid hg
  have HB2 := hid (HB1.out.grow hg)
  have hlw := HB2.out.lt
  clear hz hg
  by_cases hlt : k < n2
  ·have hkl : k < L.length := by rw [← HL.out]; exact hlt
   obtain ⟨b, off, rfl, hb⟩ := HZ.out.pos (by omega)
   obtain ⟨Ak, nk, ck, -, hcell, gk⟩ := HZ.out.at hkl
   have hcell' : ∀ i v, (seC L[k] (.slice Ak nk ck))[i]? = some v → wr.cell? ⟨b, off + k * 13 + i, none⟩ = some v := fun i v hv => (Below.cell (HG0.out.trans HG.out) hb).trans (hcell i v hv)
   have HS1 := hid (fun w' (hg : Grow wr w') => HS.out L[k].pl Ak nk ck w' (HG0.out.trans (HG.out.trans hg)) ((gk.belowAt (HG0.out.trans (HG.out.trans hg)) (Nat.le_refl _)).more (HG0.out.trans (HG.out.trans hg)).size))
   have HH := hid (fun w => mHeld_any L[k] (.slice Ak nk ck) w)
   have HE2 := hid (takeS L k hkl)
   have HE3 := hid (fun h => fstC_at (f := m.secC) hkl HZ0.out h)
   have hlk := (HOk.out _ (List.getElem_mem hkl)).link
   have HED := hid (ED.out L[k])
   unfold plC at HS1
   unfold seC at hcell' HH
   generalize L[k] = s at hcell' HS1 HH HE2 HE3 hlk HED
   have t0 : wr.cell? ⟨b, off + k * 13, none⟩ = _ := hcell' 0 _ rfl
   have t1 := hcell' 1 _ rfl
   have t2 := hcell' 2 _ rfl
   have t3 := hcell' 3 _ rfl
   have t4 := hcell' 4 _ rfl
   have t5 := hcell' 5 _ rfl
   have t6 := hcell' 6 _ rfl
   have t7 := hcell' 7 _ rfl
   have t8 := hcell' 8 _ rfl
   have t9 := hcell' 9 _ rfl
   have t10 := hcell' 10 _ rfl
   have t11 := hcell' 11 _ rfl
   have t12 := hcell' 12 _ rfl
   clear hcell hcell' gk
   generalize m.may s.pl = my at HS1 HED
   generalize s.held = hd at HH HED
   generalize s.typ = ty at t1 HH
   generalize s.size = sz at t4 HH
   generalize s.link = lk at t5 HH hlk HED
   generalize s.pl.size = ps at t11 HH HS1 HED
   obtain ⟨v0, v1, v2, v3, v4, v5, v6, v7, v8, v9, v10⟩ := HB2.out.c11
   have hne : ¬ (w.heap.size = wr.heap.size) := by omega
   go_wp2_with fail
   refine wp_region_chain [(0, true), (1, true), (2, true), (3, false), (4, true), (5, true), (6, true), (7, true), (8, true), (9, true), (10, false), (11, true), (12, true)] (by kernel_rfl) (by kernel_rfl) (by kernel_rfl) ?_
   generalize hW : World.alloc _ _ = W1
   obtain ⟨b5, hg5⟩ := blk1 hW
   clear hW t0 t1 t2 t3 t4 t5 t6 t7 t8 t9 t10 t11 t12 v0 v1 v2 v3 v4 v5 v6 v7 v8 v9 v10 hne
   have HB5 := hid b5
   have HB3 := hid (HB2.out.grow hg5)
   have HGr : Hid (Grow wr W1.drew) := hg5.trans (Grow.of_drew _)
   have HGW : Hid (Grow W0 W1.drew) := HG.out.trans HGr.out
   have q0 : ∀ W, Grow W1.drew W → W.cell? ⟨w.heap.size, 0, none⟩ = some (x0) := fun W hW => (HB3.out.grow ((Grow.of_drew _).trans hW)).at 0
   have q1 : ∀ W, Grow W1.drew W → W.cell? ⟨w.heap.size, 1, none⟩ = some (x1) := fun W hW => (HB3.out.grow ((Grow.of_drew _).trans hW)).at 1
   have q2 : ∀ W, Grow W1.drew W → W.cell? ⟨w.heap.size, 2, none⟩ = some (x2) := fun W hW => (HB3.out.grow ((Grow.of_drew _).trans hW)).at 2
   have q3 : ∀ W, Grow W1.drew W → W.cell? ⟨w.heap.size, 3, none⟩ = some (x3) := fun W hW => (HB3.out.grow ((Grow.of_drew _).trans hW)).at 3
   have q4 : ∀ W, Grow W1.drew W → W.cell? ⟨w.heap.size, 4, none⟩ = some (x4) := fun W hW => (HB3.out.grow ((Grow.of_drew _).trans hW)).at 4
   have q5 : ∀ W, Grow W1.drew W → W.cell? ⟨w.heap.size, 5, none⟩ = some (x5) := fun W hW => (HB3.out.grow ((Grow.of_drew _).trans hW)).at 5
   have q6 : ∀ W, Grow W1.drew W → W.cell? ⟨w.heap.size, 6, none⟩ = some (x6) := fun W hW => (HB3.out.grow ((Grow.of_drew _).trans hW)).at 6
   have q7 : ∀ W, Grow W1.drew W → W.cell? ⟨w.heap.size, 7, none⟩ = some (x7) := fun W hW => (HB3.out.grow ((Grow.of_drew _).trans hW)).at 7
   have q8 : ∀ W, Grow W1.drew W → W.cell? ⟨w.heap.size, 8, none⟩ = some (.slice A1 n1 c1) := fun W hW => (HB3.out.grow ((Grow.of_drew _).trans hW)).at 8
   have q9 : ∀ W, Grow W1.drew W → W.cell? ⟨w.heap.size, 9, none⟩ = some (.slice (some ⟨b, off, none⟩) n2 c2) := fun W hW => (HB3.out.grow ((Grow.of_drew _).trans hW)).at 9
   have q10 : ∀ W, Grow W1.drew W → W.cell? ⟨w.heap.size, 10, none⟩ = some (x10) := fun W hW => (HB3.out.grow ((Grow.of_drew _).trans hW)).at 10
   have r0 : ∀ W, Grow W1.drew W → W.cell? ⟨wr.heap.size, 0, none⟩ = some (.int .u32 (s.name : Nat)) := fun W hW => (HB5.out.grow ((Grow.of_drew _).trans hW)).at 0
   have r1 : ∀ W, Grow W1.drew W → W.cell? ⟨wr.heap.size, 1, none⟩ = some (.int .u32 (ty : Nat)) := fun W hW => (HB5.out.grow ((Grow.of_drew _).trans hW)).at 1
   have r2 : ∀ W, Grow W1.drew W → W.cell? ⟨wr.heap.size, 2, none⟩ = some (.int .u64 (s.flags : Nat)) := fun W hW => (HB5.out.grow ((Grow.of_drew _).trans hW)).at 2
   have r3 : ∀ W, Grow W1.drew W → W.cell? ⟨wr.heap.size, 3, none⟩ = some (.int .u64 (s.addr : Nat)) := fun W hW => (HB5.out.grow ((Grow.of_drew _).trans hW)).at 3
   have r4 : ∀ W, Grow W1.drew W → W.cell? ⟨wr.heap.size, 4, none⟩ = some (.int .u64 (sz : Nat)) := fun W hW => (HB5.out.grow ((Grow.of_drew _).trans hW)).at 4
   have r5 : ∀ W, Grow W1.drew W → W.cell? ⟨wr.heap.size, 5, none⟩ = some (.int .u32 (lk : Nat)) := fun W hW => (HB5.out.grow ((Grow.of_drew _).trans hW)).at 5
   have r6 : ∀ W, Grow W1.drew W → W.cell? ⟨wr.heap.size, 6, none⟩ = some (.int .u32 (s.info : Nat)) := fun W hW => (HB5.out.grow ((Grow.of_drew _).trans hW)).at 6
   have r7 : ∀ W, Grow W1.drew W → W.cell? ⟨wr.heap.size, 7, none⟩ = some (.int .u64 (s.align : Nat)) := fun W hW => (HB5.out.grow ((Grow.of_drew _).trans hW)).at 7
   have r8 : ∀ W, Grow W1.drew W → W.cell? ⟨wr.heap.size, 8, none⟩ = some (.int .u64 (s.entsize : Nat)) := fun W hW => (HB5.out.grow ((Grow.of_drew _).trans hW)).at 8
   have r9 : ∀ W, Grow W1.drew W → W.cell? ⟨wr.heap.size, 9, none⟩ = some (.int .i64 s.pl.inn) := fun W hW => (HB5.out.grow ((Grow.of_drew _).trans hW)).at 9
   have r10 : ∀ W, Grow W1.drew W → W.cell? ⟨wr.heap.size, 10, none⟩ = some (.int .u64 (s.pl.off : Nat)) := fun W hW => (HB5.out.grow ((Grow.of_drew _).trans hW)).at 10
   have r11 : ∀ W, Grow W1.drew W → W.cell? ⟨wr.heap.size, 11, none⟩ = some (.int .u64 (ps : Nat)) := fun W hW => (HB5.out.grow ((Grow.of_drew _).trans hW)).at 11
   have r12 : ∀ W, Grow W1.drew W → W.cell? ⟨wr.heap.size, 12, none⟩ = some (.slice Ak nk ck) := fun W hW => (HB5.out.grow ((Grow.of_drew _).trans hW)).at 12
   clear b5 hg5
   have HB3' := hid (HB3.out.drew)
   have HB5' := hid (HB5.out.drew)
   clear HB3 HB5
   generalize W1.drew = w2 at HGr HGW HB3' HB5' q0 q1 q2 q3 q4 q5 q6 q7 q8 q9 q10 r0 r1 r2 r3 r4 r5 r6 r7 r8 r9 r10 r11 r12 ⊢
   repeat ((first | (refine chain_take rfl (by rfl) ?_ (fun W hG => ?_) ?_; rotate_left; (go_simp; rfl)) | refine chain_skip rfl (by rfl) ?_); simp only [Act.put, List.setIfInBounds_toArray, List.set_cons_zero, List.set_cons_succ])
   refine chain_only rfl (by rfl) (fun K hK => ?_)
   go_simp
   refine (HS1.out _ HGr.out).mono ?_
   rintro e w3 ⟨rfl, hg3⟩
   refine hK _ _ hg3 ?_
   have HG3 : Hid (Grow W0 w3) := HGW.out.trans hg3
   clear hK K HS1
   cases my with
   | false =>
    clear q0 q1 q2 q3 q4 q5 q6 q7 q8 q9 q10 r0 r1 r2 r3 r4 r5 r6 r7 r8 r9 r10 r11 r12 hg3
    have E2 := hid (show C = 1 by
     have e1 : m.secC s = 1 := by rw [HED.out, if_pos rfl]
     rw [E.out, HE3.out (by omega), e1])
    repeat ((first | (refine chain_take rfl (by rfl) ?_ (fun W hG => ?_) ?_; rotate_left; (go_simp; rfl)) | refine chain_skip rfl (by rfl) ?_); simp only [Act.put, List.setIfInBounds_toArray, List.set_cons_zero, List.set_cons_succ])
    refine chain_none rfl (by rfl) ?_
    simp only [Act.put, List.setIfInBounds_toArray, List.set_cons_zero, List.set_cons_succ]
    repeat ((first | (refine chain_take rfl (by rfl) ?_ (fun W hG => ?_) ?_; rotate_left; (go_simp; rfl)) | refine chain_skip rfl (by rfl) ?_); simp only [Act.put, List.setIfInBounds_toArray, List.set_cons_zero, List.set_cons_succ])
    refine chain_done ?_
    go_wp2
    go_ret
    exact c_ret E2.out _ rfl (HG0.out.trans HG3.out)
   | true =>
    clear q0 q1 q2 q3 q4 q5 q6 q7 q8 q9 q10 r0 r1 r2 r3 r4 r5 r6 r7 r8 r9 r10 r11 r12
    have u'0 : ∀ W, Grow w3 W → W.cell? ⟨wr.heap.size, 0, none⟩ = some (.int .u32 (s.name : Nat)) := fun W hW => (HB5'.out.grow (hg3.trans hW)).at 0
    have u'1 : ∀ W, Grow w3 W → W.cell? ⟨wr.heap.size, 1, none⟩ = some (.int .u32 (ty : Nat)) := fun W hW => (HB5'.out.grow (hg3.trans hW)).at 1
    have u'2 : ∀ W, Grow w3 W → W.cell? ⟨wr.heap.size, 2, none⟩ = some (.int .u64 (s.flags : Nat)) := fun W hW => (HB5'.out.grow (hg3.trans hW)).at 2
    have u'3 : ∀ W, Grow w3 W → W.cell? ⟨wr.heap.size, 3, none⟩ = some (.int .u64 (s.addr : Nat)) := fun W hW => (HB5'.out.grow (hg3.trans hW)).at 3
    have u'4 : ∀ W, Grow w3 W → W.cell? ⟨wr.heap.size, 4, none⟩ = some (.int .u64 (sz : Nat)) := fun W hW => (HB5'.out.grow (hg3.trans hW)).at 4
    have u'5 : ∀ W, Grow w3 W → W.cell? ⟨wr.heap.size, 5, none⟩ = some (.int .u32 (lk : Nat)) := fun W hW => (HB5'.out.grow (hg3.trans hW)).at 5
    have u'6 : ∀ W, Grow w3 W → W.cell? ⟨wr.heap.size, 6, none⟩ = some (.int .u32 (s.info : Nat)) := fun W hW => (HB5'.out.grow (hg3.trans hW)).at 6
    have u'7 : ∀ W, Grow w3 W → W.cell? ⟨wr.heap.size, 7, none⟩ = some (.int .u64 (s.align : Nat)) := fun W hW => (HB5'.out.grow (hg3.trans hW)).at 7
    have u'8 : ∀ W, Grow w3 W → W.cell? ⟨wr.heap.size, 8, none⟩ = some (.int .u64 (s.entsize : Nat)) := fun W hW => (HB5'.out.grow (hg3.trans hW)).at 8
    have u'9 : ∀ W, Grow w3 W → W.cell? ⟨wr.heap.size, 9, none⟩ = some (.int .i64 s.pl.inn) := fun W hW => (HB5'.out.grow (hg3.trans hW)).at 9
    have u'10 : ∀ W, Grow w3 W → W.cell? ⟨wr.heap.size, 10, none⟩ = some (.int .u64 (s.pl.off : Nat)) := fun W hW => (HB5'.out.grow (hg3.trans hW)).at 10
    have u'11 : ∀ W, Grow w3 W → W.cell? ⟨wr.heap.size, 11, none⟩ = some (.int .u64 (ps : Nat)) := fun W hW => (HB5'.out.grow (hg3.trans hW)).at 11
    have u'12 : ∀ W, Grow w3 W → W.cell? ⟨wr.heap.size, 12, none⟩ = some (.slice Ak nk ck) := fun W hW => (HB5'.out.grow (hg3.trans hW)).at 12
    have HB3 := hid (HB3'.out.grow hg3)
    have HB5 := hid (HB5'.out.grow hg3)
    clear hg3 HB3' HB5' HGr HGW
    repeat ((first | (refine chain_take rfl (by rfl) ?_ (fun W hG => ?_) ?_; rotate_left; (go_simp; rfl)) | refine chain_skip rfl (by rfl) ?_); simp only [Act.put, List.setIfInBounds_toArray, List.set_cons_zero, List.set_cons_succ])
    refine chain_only rfl (by rfl) (fun K hK => ?_)
    go_simp
    refine (HH.out _).mono ?_
    rintro e w4 ⟨rfl, hg4⟩
    refine hK _ _ hg4 ?_
    have HG4 : Hid (Grow W0 w4) := HG3.out.trans hg4
    have HB6 := hid (HB3.out.grow hg4)
    have HB7 := hid (HB5.out.grow hg4)
    clear hK K HH hg4 HB3 HB5 HG3 u'0 u'1 u'2 u'3 u'4 u'5 u'6 u'7 u'8 u'9 u'10 u'11 u'12
    rw [if_neg (by decide)] at HED
    by_cases hps : ps = hd
    ·have d : ((ps : Int) != (hd : Int)) = false := by simp [hps]
     rw [if_neg (by simpa using hps)] at HED
     clear hps
     repeat ((first | (refine chain_take rfl (by rfl) ?_ (fun W hG => ?_) ?_; rotate_left; (go_simp; rfl)) | refine chain_skip rfl (by rfl) ?_); simp only [Act.put, List.setIfInBounds_toArray, List.set_cons_zero, List.set_cons_succ])
     refine chain_done ?_
     have y9 := HB6.out.at 9
     have y5 := HB7.out.at 5
     have z1 : IntKind.u64.wrap (lk : Int) = (lk : Int) := by rw [IntKind.wrap_u64]; omega
     have z2 : IntKind.u64.wrap (n2 : Int) = (n2 : Int) := by rw [IntKind.wrap_u64]; omega
     by_cases hk2 : n2 < lk
     ·have e1 : decide (n2 < lk) = true := decide_eq_true hk2
      have e2 : decide ((n2 : Int) < (lk : Int)) = true := decide_eq_true (by omega)
      have E2 := hid (show C = 10 by
       have e1 : m.secC s = 10 := by rw [HED.out, if_pos hk2]
       rw [E.out, HE3.out (by omega), e1])
      clear hk2 d
      go_wp2
      go_ret
      exact c_ret E2.out _ rfl (HG0.out.trans HG4.out)
     ·have e1 : decide (n2 < lk) = false := decide_eq_false hk2
      have e2 : decide ((n2 : Int) < (lk : Int)) = false := decide_eq_false (by omega)
      have HZ1 : Hid (∀ s ∈ L.take (k + 1), m.secC s = 0) := hid fun a ha => by
       rw [HE2.out] at ha
       rcases List.mem_append.1 ha with h | h
       ·exact HZ0.out a h
       ·obtain rfl : a = s := by simpa using h
        rw [HED.out, if_neg hk2]
      clear hk2 d
      go_wp2
      go_roundw
      case rel => exact ⟨k + 1, by omega, by go_num, HZ1.out, HG4.out⟩
      case measure => simp [intOf]; omega
    ·have d : ((ps : Int) != (hd : Int)) = true := by simp; omega
     have E2 := hid (show C = 1 by
      have e1 : m.secC s = 1 := by rw [HED.out, if_pos hps]
      rw [E.out, HE3.out (by omega), e1])
     clear hps
     repeat ((first | (refine chain_take rfl (by rfl) ?_ (fun W hG => ?_) ?_; rotate_left; (go_simp; rfl)) | refine chain_skip rfl (by rfl) ?_); simp only [Act.put, List.setIfInBounds_toArray, List.set_cons_zero, List.set_cons_succ])
     refine chain_done ?_
     go_wp2
     go_ret
     exact c_ret E2.out _ rfl (HG0.out.trans HG4.out)
  ·have hkn : k = n2 := by omega
   have HT : Hid (L.take k = L) := hid (by rw [hkn, HL.out, List.take_length])
   have E2 := hid (show C = 0 by rw [E.out]; exact fstC_zero.2 (by have := HZ0.out; rwa [HT.out] at this))
   clear hkn
   go_wp2
   go_ret
   exact c_ret E2.out _ rfl (HG0.out.trans HG.out)
set_option maxRecDepth 100000
theorem bytes_of (l : Bs) : Lib.bytesOf (l.map fun b => (b.toNat : Int)) = l := by
 simp [Lib.bytesOf, List.map_map, Function.comp_def]
theorem bidx_zero (a : Addr) (c : Nat) (w : World) : (Extern.BytealgIndexByte.indexByte #[.slice (some a) 0 c, .int .u8 0]).run Tryz.prog w = .ok (.int .i64 (Lib.indexByte [] 0)) w := by rfl
set_option maxHeartbeats 400000 in
theorem bidx_any (A : Option Addr) (n c : Nat) (l : Bs) (B : Nat) (w : World) (h : RB w B A n c l) :
  Calls Tryz.prog 50 #[.slice A n c, .int .u8 0] w fun e w' => e = .returned (.int .i64 (Lib.indexByte l 0)) ∧ w = w' := by
 rcases A with _ | ⟨b, off, sp⟩
 ·have hl : l = [] := by
   rcases Nat.eq_zero_or_pos n with h0 | h0
   ·exact List.eq_nil_of_length_eq_zero (by rw [← h.len]; exact h0)
   ·obtain ⟨_, _, e, _⟩ := h.pos h0
    cases e
  subst hl
  clear h
  go_enter Tryz.func50, Tryz.ntmps50
  go_wp2
  rw [run_callFunc_extern Tryz.func107 (by kernel_rfl) (by kernel_rfl) (by kernel_rfl) (e := Extern.BytealgIndexByte.indexByte) (by kernel_rfl), Lib.run_indexByteNil w n c 0]
  simp only [Result.andThen]
  rw [Oper.upon_value]
  go_wp2
  go_ret
  exact ⟨rfl, rfl⟩
 ·have run : (Extern.BytealgIndexByte.indexByte #[.slice (some ⟨b, off, sp⟩) n c, .int .u8 0]).run Tryz.prog w = .ok (.int .i64 (Lib.indexByte l 0)) w := by
   rcases Nat.eq_zero_or_pos n with h0 | h0
   ·have hl : l = [] := List.eq_nil_of_length_eq_zero (by rw [← h.len]; exact h0)
    subst hl
    subst h0
    exact bidx_zero _ _ _
   ·obtain ⟨b', off', e, _, hc⟩ := h.pos h0
    injection e with e
    obtain ⟨rfl, rfl, rfl⟩ := Addr.mk.inj e
    have := Lib.run_indexByteSlice (P := Tryz.prog) w b off n c (l.map fun b => (b.toNat : Int)) (by simp [h.len]) (fun i hi => by
     rw [hc i (by rw [← h.len]; exact hi)]
     simp [List.getElem?_eq_getElem (show i < l.length by rw [← h.len]; exact hi)]) 0
    rw [bytes_of] at this
    exact this
  clear h
  have R := hid run
  clear run
  go_enter Tryz.func50, Tryz.ntmps50
  go_wp2
  rw [run_callFunc_extern Tryz.func107 (by kernel_rfl) (by kernel_rfl) (by kernel_rfl) (e := Extern.BytealgIndexByte.indexByte) (by kernel_rfl), R.out]
  simp only [Result.andThen]
  rw [Oper.upon_value]
  go_wp2
  go_ret
  exact ⟨rfl, rfl⟩
theorem RB.conv {w : World} {B : Nat} {A : Option Addr} {n c : Nat} {l : List UInt8} (h : RB w B A n c l) (hB : B ≤ w.heap.size) :
  ∀ W, Grow w W → (convert 29 9 (.slice A n c)).run Tryz.prog W = .ok (.string ⟨l.toArray⟩) W := fun _ hk =>
 (h.belowAt hk hB).str _ _ _ Tryz.underlying29 Tryz.underlying5 Tryz.underlying9
def GotN (l : Bs) (off : Nat) (w : World) (e : Ending) (w' : World) : Prop :=
 e = .returned (.tuple #[.string (bstr ((nameAt l off).getD [])), .bool (nameAt l off).isSome]) ∧ w = w'
theorem gotN_none {l : Bs} {off : Nat} {w : World} (h : nameAt l off = none) : GotN l off w (.returned (.tuple #[.string { data := #[] }, .bool false])) w := by
 unfold GotN; rw [h]; exact ⟨rfl, rfl⟩
theorem gotN_some {l s : Bs} {off : Nat} {w : World} (h : nameAt l off = some s) : GotN l off w (.returned (.tuple #[.string ⟨s.toArray⟩, .bool true])) w := by
 unfold GotN; rw [h]; exact ⟨rfl, rfl⟩
theorem nameAt_far {l : Bs} {off : Nat} (h : l.length ≤ off) : nameAt l off = none := by unfold nameAt; rw [List.drop_of_length_le h]; rfl
set_option maxHeartbeats 400000 in
theorem strGet_any (A : Option Addr) (n c : Nat) (l : Bs) (off : Nat) (w : World) (h : RB w w.heap.size A n c l) (hof : off < 18446744073709551616) :
  Calls Tryz.prog 14 #[.slice A n c, .int .u64 off] w (GotN l off w) := by
 have HS := hid h
 have HL := hid h.len
 have hc := h.cap
 have hm := h.max
 unfold maxLen at hm
 clear h
 by_cases hfar : n ≤ off
 ·have E := hid (nameAt_far (l := l) (off := off) (by rw [← HL.out]; exact hfar))
  go_enter Tryz.func14, Tryz.ntmps14
  go_wp2
  go_ret2
  exact gotN_none E.out
 ·obtain ⟨b, o, rfl, hb, hcell⟩ := HS.out.pos (by omega)
  have hsub := HS.out.sub (p := off) (m := n - off) (by omega) (by omega)
  have e0 : (l.drop off).take (n - off) = l.drop off := by rw [List.take_of_length_le (by rw [List.length_drop, ← HL.out]; exact Nat.le_refl _)]
  rw [e0] at hsub
  have HB := hid hsub
  clear hcell hb hsub e0
  have i1 : (off : Int) ≤ n := by omega
  have i2 : ¬ c = off := by omega
  go_enter Tryz.func14, Tryz.ntmps14
  go_wp2_with fail
  refine (bidx_any _ _ _ _ _ _ HB.out).mono ?_
  rintro e w' ⟨rfl, rfl⟩
  rw [indexByte_cut]
  cases hcut : cut0 (l.drop off) with
  | none =>
   have E := hid hcut
   clear hcut
   go_wp2
   go_ret2
   exact gotN_none E.out
  | some s =>
   have E := hid hcut
   obtain ⟨h1, h2, h3⟩ := cut0_some hcut
   rw [List.length_drop, ← HL.out] at h1
   have hf := HB.out.first (m := s.length) (by omega)
   rw [h2] at hf
   have hcv := hf.conv (Nat.le_refl _) w (Grow.refl _)
   clear hcut h2 h3 hf
   dsimp only
   generalize s.length = k at h1 hcv ⊢
   have h4 : k ≤ c - off := by omega
   have h5 : ¬ ((k : Int) < 0) := by omega
   go_wp2
   go_ret2
   exact gotN_some E.out
theorem n_ret {a b : Nat} {w w' : World} (h : b = a) (v : Value) (hv : v = eC a) (hg : Grow w w') : Ending.returned v = .returned (eC b) ∧ Grow w w' := ⟨by rw [h, hv], hg⟩
theorem Md.tab_at (m : Md) (k : Nat) (h : m.str = (k : Int) + 1) (hk : k < m.secs.length) : m.tab = m.secs[k] := by
 unfold Md.tab
 rw [h]
 simp [List.getD_eq_getElem?_getD, hk]
set_option maxHeartbeats 2000000 in
theorem mNamed_any (m : Md) (ok : m.Ok) (A1 A2 : Option Addr) (n1 c1 n2 c2 : Nat) (w : World) (g2 : ZR seK w w.heap.size A2 n2 c2 m.secs) (h0 : 0 ≤ m.str) (h1 : m.str ≤ n2) :
  Calls Tryz.prog 150 #[.agg (mdC m (.slice A1 n1 c1) (.slice A2 n2 c2))] w fun e w' => e = .returned (.bool m.named) ∧ Grow w w' := by
 obtain ⟨x0, x1, x2, x3, x4, x5, x6, x7, hC⟩ : ∃ x0 x1 x2 x3 x4 x5 x6 x7 : Value, mdC m (.slice A1 n1 c1) (.slice A2 n2 c2) = #[x0, x1, x2, x3, x4, x5, x6, x7, .slice A1 n1 c1, .slice A2 n2 c2, .int .i64 m.str] := ⟨_, _, _, _, _, _, _, _, rfl⟩
 rw [hC]
 have hcm := g2.max
 have hcc := g2.cap
 have HL := hid g2.len
 have HZ := hid g2
 have HOk := hid ok.secs
 unfold maxLen at hcm
 by_cases hs : m.str = 0
 ·have E := hid (show m.named = m.secs.all fun s => decide (s.name = 0) by unfold Md.named; rw [if_pos hs])
  have HH := hid (fun (w' : World) (hg : Grow w w') => hasS_any A2 n2 c2 m.secs w' (g2.grow hg))
  rw [← E.out] at HH
  rw [hs]
  generalize m.named = R at HH ⊢
  clear hC g2 ok hs h0 h1 E HZ HOk HL
  go_enter Tryz.func150, Tryz.ntmps150
  go_wp2_with fail
  generalize hW : World.alloc _ _ = W0
  obtain ⟨b1, hg0⟩ := blk1 hW
  clear hW
  have HG0 := hid hg0
  have y9 := b1.at 9
  have y10 := b1.at 10
  clear b1 hg0
  go_wp2_with fail
  clear y9 y10
  refine (HH.out _ HG0.out).mono ?_
  rintro e w1 ⟨rfl, hg1⟩
  have HG1 : Hid (Grow w w1) := HG0.out.trans hg1
  clear hg1
  go_wp2
  go_ret
  exact ⟨ret_bool (by simp), HG1.out⟩
 ·obtain ⟨k, hk⟩ : ∃ k : Nat, m.str = (k : Int) + 1 := ⟨(m.str - 1).toNat, by omega⟩
  have hkl : k < m.secs.length := by have := g2.len; omega
  have hkn : k < n2 := by omega
  have E0 := hid (show m.named = (decide (m.tab.typ = 3) && decide (m.tab.pl.inn = -1) && m.secs.all fun s => (nameAt m.tab.pl.own s.name).isSome) by unfold Md.named; rw [if_neg hs])
  rw [m.tab_at k hk hkl] at E0
  obtain ⟨b, off, rfl, hb⟩ := g2.pos (by omega)
  obtain ⟨At, nt, ct, -, hcell, gt⟩ := g2.at hkl
  have hcellT : ∀ i v, (seC m.secs[k] (.slice At nt ct))[i]? = some v → w.cell? ⟨b, off + k * 13 + i, none⟩ = some v := hcell
  have HGT : Hid (RB w w.heap.size At nt ct m.secs[k].pl.own) := hid gt
  have HBb := hid hb
  rw [hk]
  unfold seC at hcellT
  generalize m.secs[k] = t at E0 hcellT HGT
  generalize m.named = R at E0 ⊢
  have t0 : w.cell? ⟨b, off + k * 13, none⟩ = _ := hcellT 0 _ rfl
  have t1 : w.cell? ⟨b, off + k * 13 + 1, none⟩ = _ := hcellT 1 _ rfl
  have t2 : w.cell? ⟨b, off + k * 13 + 2, none⟩ = _ := hcellT 2 _ rfl
  have t3 : w.cell? ⟨b, off + k * 13 + 3, none⟩ = _ := hcellT 3 _ rfl
  have t4 : w.cell? ⟨b, off + k * 13 + 4, none⟩ = _ := hcellT 4 _ rfl
  have t5 : w.cell? ⟨b, off + k * 13 + 5, none⟩ = _ := hcellT 5 _ rfl
  have t6 : w.cell? ⟨b, off + k * 13 + 6, none⟩ = _ := hcellT 6 _ rfl
  have t7 : w.cell? ⟨b, off + k * 13 + 7, none⟩ = _ := hcellT 7 _ rfl
  have t8 : w.cell? ⟨b, off + k * 13 + 8, none⟩ = _ := hcellT 8 _ rfl
  have t9 : w.cell? ⟨b, off + k * 13 + 9, none⟩ = _ := hcellT 9 _ rfl
  have t10 : w.cell? ⟨b, off + k * 13 + 10, none⟩ = _ := hcellT 10 _ rfl
  have t11 : w.cell? ⟨b, off + k * 13 + 11, none⟩ = _ := hcellT 11 _ rfl
  have t12 : w.cell? ⟨b, off + k * 13 + 12, none⟩ = _ := hcellT 12 _ rfl
  have hbne : ¬ (b = w.heap.size) := by omega
  have hbne' : ¬ (w.heap.size = b) := by omega
  generalize m.secs = L at HL HZ HOk E0
  clear hC g2 ok hs h0 h1 hcell hcellT gt hkl hk
  have e1 : ((k : Int) + 1 == 0) = false := by simp; omega
  have e2 : IntKind.i64.wrap ((k : Int) + 1 - 1) = (k : Int) := by rw [IntKind.wrap_i64]; omega
  generalize t.pl.own = own at E0 HGT
  generalize t.typ = ty at E0 t1
  generalize t.pl.inn = pi at E0 t9
  by_cases h3 : ty ≠ 3
  ·have E := hid (show R = false by rw [E0.out]; simp [h3])
   have d3 : ((ty : Int) != 3) = true := by simp; omega
   clear h3 E0
   go_enter Tryz.func150, Tryz.ntmps150
   go_wp2
   go_ret
   exact ⟨ret_bool E.out.symm, (Grow.of_alloc _ _).trans (Grow.of_alloc _ _)⟩
  have h3 : ty = 3 := by omega
  by_cases hi : pi ≠ -1
  ·have E := hid (show R = false by rw [E0.out]; simp [hi])
   have d3 : ((ty : Int) != 3) = false := by simp [h3]
   have di : (pi != -1) = true := by simpa using hi
   clear h3 hi E0
   go_enter Tryz.func150, Tryz.ntmps150
   go_wp2
   go_ret
   exact ⟨ret_bool E.out.symm, (Grow.of_alloc _ _).trans (Grow.of_alloc _ _)⟩
  have hi : pi = -1 := by omega
  have E := hid (show R = L.all fun s => (nameAt own s.name).isSome by rw [E0.out]; simp [h3, hi])
  have d3 : ((ty : Int) != 3) = false := by simp [h3]
  have di : (pi != -1) = false := by simp [hi]
  clear h3 hi E0
  go_enter Tryz.func150, Tryz.ntmps150
  go_wp2_with fail
  generalize hW : World.alloc _ _ = W1
  obtain ⟨-, b5, hg5⟩ := blk2 hW
  clear hW t0 t1 t2 t3 t4 t5 t6 t7 t8 t9 t10 t11 t12 d3 di hbne hbne' e1 e2 hb
  have HB5 := hid b5
  have HG5 := hid hg5
  have HGT1 := hid (HGT.out.grow hg5)
  clear b5 hg5
  go_loopw [34] (fun i wr => ∃ q : Nat, q ≤ n2 ∧ i = .int .i64 q ∧ (∀ s ∈ L.take q, (nameAt own s.name).isSome = true) ∧ Grow W1 wr) (fun i _ => n2 - (intOf i).toNat)
  case atStart => exact ⟨0, by omega, rfl, fun s h => absurd h (by simp), Grow.refl _⟩
  case round =>
   obtain ⟨q, hq, rfl, hz, hg⟩ := hrel
   have HZ0 := hid hz
   have HG := hid hg
   have HB6 := hid (HB5.out.grow hg)
   have hl5 := HB6.out.lt
   clear hz hg
   by_cases hlt : q < n2
   ·have hkl : q < L.length := by rw [← HL.out]; exact hlt
    obtain ⟨Ak, nk, ck, -, hcell, -⟩ := HZ.out.at hkl
    have hcell' : ∀ i v, (seC L[q] (.slice Ak nk ck))[i]? = some v → wr.cell? ⟨b, off + q * 13 + i, none⟩ = some v := fun i v hv => (Below.cell (HG5.out.trans HG.out) HBb.out).trans (hcell i v hv)
    have HT := hid (takeS L q hkl)
    have hnm := (HOk.out _ (List.getElem_mem hkl)).name
    unfold seC at hcell'
    generalize L[q] = s at hcell' HT hnm
    have t0 : wr.cell? ⟨b, off + q * 13, none⟩ = _ := hcell' 0 _ rfl
    have t1 := hcell' 1 _ rfl
    have t2 := hcell' 2 _ rfl
    have t3 := hcell' 3 _ rfl
    have t4 := hcell' 4 _ rfl
    have t5 := hcell' 5 _ rfl
    have t6 := hcell' 6 _ rfl
    have t7 := hcell' 7 _ rfl
    have t8 := hcell' 8 _ rfl
    have t9 := hcell' 9 _ rfl
    have t10 := hcell' 10 _ rfl
    have t11 := hcell' 11 _ rfl
    have t12 := hcell' 12 _ rfl
    clear hcell hcell'
    have y12 := HB6.out.at 12
    have hne : ¬ (w.heap.size + 1 = wr.heap.size) := by omega
    have z : IntKind.u64.wrap (s.name : Int) = (s.name : Int) := by rw [IntKind.wrap_u64]; omega
    go_wp2_with fail
    generalize hW : World.alloc _ _ = W2
    obtain ⟨b7, hg7⟩ := blk1 hW
    clear hW t0 t1 t2 t3 t4 t5 t6 t7 t8 t9 t10 t11 t12 y12 hne z b7
    have HG7 : Hid (Grow W1 W2) := HG.out.trans hg7
    refine (strGet_any At nt ct own s.name W2 (HGT1.out.grow HG7.out) (by omega)).mono ?_
    unfold GotN
    rintro e w' ⟨rfl, rfl⟩
    clear hg7
    generalize bstr ((nameAt own s.name).getD []) = str
    obtain ⟨v, hv⟩ : ∃ v, (nameAt own s.name).isSome = v := ⟨_, rfl⟩
    rw [hv]
    cases v with
    | true =>
     have HZ1 : Hid (∀ s ∈ L.take (q + 1), (nameAt own s.name).isSome = true) := hid fun a ha => by
      rw [HT.out] at ha
      rcases List.mem_append.1 ha with h | h
      ·exact HZ0.out a h
      ·obtain rfl : a = s := by simpa using h
       exact hv
     clear hv
     go_wp2
     go_roundw
     case rel => exact ⟨q + 1, by omega, by go_num, HZ1.out, HG7.out⟩
     case measure => simp [intOf]; omega
    | false =>
     have E2 := hid (show R = false by
      rw [E.out, List.all_eq_false]
      have hm : s ∈ L.take (q + 1) := by rw [HT.out]; simp
      exact ⟨s, List.mem_of_mem_take hm, by rw [hv]; decide⟩)
     clear hv
     go_wp2
     go_ret
     exact ⟨ret_bool E2.out.symm, HG5.out.trans HG7.out⟩
   ·have E2 := hid (show R = true by
     rw [E.out, List.all_eq_true]
     have : L.take q = L := by rw [List.take_of_length_le (by have := HL.out; omega)]
     have h := HZ0.out
     rwa [this] at h)
    go_wp2
    go_ret
    exact ⟨ret_bool E2.out.symm, HG5.out.trans HG.out⟩
set_option maxHeartbeats 400000 in
theorem mNames_any (m : Md) (ok : m.Ok) (A1 A2 : Option Addr) (n1 c1 n2 c2 : Nat) (w : World) (g2 : ZR seK w w.heap.size A2 n2 c2 m.secs) :
  Calls Tryz.prog 118 #[.agg (mdC m (.slice A1 n1 c1) (.slice A2 n2 c2))] w fun e w' => e = .returned (eC m.namesC) ∧ Grow w w' := by
 have HH := hid (fun (w' : World) (hg : Grow w w') h0 h1 => mNamed_any m ok A1 A2 n1 c1 n2 c2 w' (g2.grow hg) h0 h1)
 obtain ⟨x0, x1, x2, x3, x4, x5, x6, x7, hC⟩ : ∃ x0 x1 x2 x3 x4 x5 x6 x7 : Value, mdC m (.slice A1 n1 c1) (.slice A2 n2 c2) = #[x0, x1, x2, x3, x4, x5, x6, x7, .slice A1 n1 c1, .slice A2 n2 c2, .int .i64 m.str] := ⟨_, _, _, _, _, _, _, _, rfl⟩
 rw [hC] at HH ⊢
 have E := hid (show m.namesC = if m.str < 0 then 10 else if (n2 : Int) < m.str then 10 else if m.named then 0 else 9 by unfold Md.namesC; rw [g2.len])
 have hcm := g2.max
 have hcc := g2.cap
 unfold maxLen at hcm
 generalize m.namesC = C at E ⊢
 generalize m.named = R at HH E
 generalize m.str = st at HH E ⊢
 clear hC g2 ok
 by_cases h0 : st < 0
 ·have E2 := hid (show C = 10 by rw [E.out, if_pos h0])
  go_enter Tryz.func118, Tryz.ntmps118
  go_wp2
  go_ret
  exact n_ret E2.out _ rfl (Grow.of_alloc _ _)
 rw [if_neg h0] at E
 have d0 : decide (st < 0) = false := decide_eq_false h0
 by_cases h1 : (n2 : Int) < st
 ·have E2 := hid (show C = 10 by rw [E.out, if_pos h1])
  clear h0
  go_enter Tryz.func118, Tryz.ntmps118
  go_wp2
  go_ret
  exact n_ret E2.out _ rfl (Grow.of_alloc _ _)
 rw [if_neg h1] at E
 have d1 : decide ((n2 : Int) < st) = false := decide_eq_false h1
 have HQ := hid (show 0 ≤ st ∧ st ≤ (n2 : Int) from ⟨by omega, by omega⟩)
 clear h0 h1
 go_enter Tryz.func118, Tryz.ntmps118
 go_wp2_with fail
 clear d0 d1
 refine (HH.out _ (Grow.of_alloc _ _) HQ.out.1 HQ.out.2).mono ?_
 rintro e w1 ⟨rfl, hg1⟩
 have HG1 : Hid (Grow w w1) := (Grow.of_alloc _ _).trans hg1
 clear hg1
 cases R with
 | true =>
  have E2 := hid (show C = 0 by rw [E.out]; rfl)
  go_wp2
  go_ret
  exact n_ret E2.out _ rfl HG1.out
 | false =>
  have E2 := hid (show C = 9 by rw [E.out]; rfl)
  go_wp2
  go_ret
  exact n_ret E2.out _ rfl HG1.out
set_option maxHeartbeats 1000000 in
theorem check_any (m : Md) (ok : m.Ok) (A1 A2 : Option Addr) (n1 c1 n2 c2 : Nat) (w : World) (g1 : ZR sgK w w.heap.size A1 n1 c1 m.segs) (g2 : ZR seK w w.heap.size A2 n2 c2 m.secs) :
  Calls Tryz.prog 72 #[.agg (mdC m (.slice A1 n1 c1) (.slice A2 n2 c2))] w fun e w' => e = .returned (eC m.chk) ∧ Grow w w' := by
 have HF := hid (fun (w' : World) (hg : Grow w w') h1 h2 => mFits_any m ok A1 A2 n1 c1 n2 c2 w' (g1.grow hg) (g2.grow hg) h1 h2)
 have HS := hid (fun (w' : World) (hg : Grow w w') h1 => mSegs_any m ok A1 A2 n1 c1 n2 c2 w' (g1.grow hg) h1)
 have HC := hid (fun (w' : World) (hg : Grow w w') => mSecs_any m ok A1 A2 n1 c1 n2 c2 w' (g1.grow hg) (g2.grow hg))
 have HN := hid (fun (w' : World) (hg : Grow w w') => mNames_any m ok A1 A2 n1 c1 n2 c2 w' (g2.grow hg))
 obtain ⟨x0, x1, x2, x3, x4, x5, x6, x7, x10, hC⟩ : ∃ x0 x1 x2 x3 x4 x5 x6 x7 x10 : Value, mdC m (.slice A1 n1 c1) (.slice A2 n2 c2) = #[x0, x1, x2, x3, x4, x5, x6, x7, .slice A1 n1 c1, .slice A2 n2 c2, x10] := ⟨_, _, _, _, _, _, _, _, _, rfl⟩
 rw [hC] at HF HS HC HN ⊢
 have E := hid (show m.chk = if (decide (16 < n1) || decide (64 < n2)) = true then 8 else if m.fits = false then 1 else if m.segsC ≠ 0 then m.segsC else if m.secsC ≠ 0 then m.secsC else m.namesC by unfold Md.chk Md.large; rw [g1.len, g2.len])
 generalize m.chk = C at E ⊢
 generalize m.fits = fi at E HF
 generalize m.segsC = cs at E HS
 generalize m.secsC = cc at E HC
 generalize m.namesC = cn at E HN
 clear hC g1 g2 ok
 by_cases h1 : 16 < n1
 ·have E2 := hid (show C = 8 by rw [E.out]; simp [h1])
  have d1 : decide (16 < n1) = true := decide_eq_true h1
  have d1' : decide ((16 : Int) < (n1 : Int)) = true := decide_eq_true (by omega)
  clear h1
  go_enter Tryz.func72, Tryz.ntmps72
  go_wp2
  go_ret
  exact n_ret E2.out _ rfl (Grow.of_alloc _ _)
 have d1 : decide (16 < n1) = false := decide_eq_false h1
 have d1' : decide ((16 : Int) < (n1 : Int)) = false := decide_eq_false (by omega)
 by_cases h2 : 64 < n2
 ·have E2 := hid (show C = 8 by rw [E.out]; simp [h2])
  have d2 : decide (64 < n2) = true := decide_eq_true h2
  have d2' : decide ((64 : Int) < (n2 : Int)) = true := decide_eq_true (by omega)
  clear h1 h2
  go_enter Tryz.func72, Tryz.ntmps72
  go_wp2
  go_ret
  exact n_ret E2.out _ rfl (Grow.of_alloc _ _)
 have d2 : decide (64 < n2) = false := decide_eq_false h2
 have d2' : decide ((64 : Int) < (n2 : Int)) = false := decide_eq_false (by omega)
 have HQ := hid (show n1 ≤ 16 ∧ n2 ≤ 64 from ⟨by omega, by omega⟩)
 rw [d1, d2, Bool.false_or, if_neg (by decide)] at E
 clear h1 h2
 go_enter Tryz.func72, Tryz.ntmps72
 go_wp2_with fail
 generalize hW : World.alloc _ _ = W0
 obtain ⟨b1, hg0⟩ := blk1 hW
 clear hW d1 d1' d2 d2'
 have HB0 := hid b1
 have HG0 := hid hg0
 clear b1 hg0
 refine (HF.out _ HG0.out HQ.out.1 HQ.out.2).mono ?_
 rintro e w1 ⟨rfl, hg1⟩
 have HB1 := hid (HB0.out.grow hg1)
 have HG1 : Hid (Grow w w1) := HG0.out.trans hg1
 clear hg1 HB0 HG0 HF
 cases fi with
 | false =>
  have E2 := hid (show C = 1 by rw [E.out, if_pos rfl])
  go_wp2
  go_ret
  exact n_ret E2.out _ rfl HG1.out
 | true =>
 rw [if_neg (by decide)] at E
 obtain ⟨v0, v1, v2, v3, v4, v5, v6, v7, v8, v9, v10⟩ := HB1.out.c11
 go_wp2_with fail
 clear v0 v1 v2 v3 v4 v5 v6 v7 v8 v9 v10
 refine (HS.out _ HG1.out HQ.out.1).mono ?_
 rintro e w2 ⟨rfl, hg2⟩
 have HB2 := hid (HB1.out.grow hg2)
 have HG2 : Hid (Grow w w2) := HG1.out.trans hg2
 clear hg2 HB1 HG1 HS
 by_cases h3 : cs ≠ 0
 ·have E2 := hid (show C = cs by rw [E.out, if_pos h3])
  have HNE := hid h3
  rw [eC_some h3]
  clear h3
  go_wp2
  go_ret
  exact n_ret E2.out _ (eC_some HNE.out).symm HG2.out
 have h3 : cs = 0 := by omega
 rw [if_neg (by simpa using h3)] at E
 rw [h3, eC_zero]
 clear h3
 obtain ⟨v0, v1, v2, v3, v4, v5, v6, v7, v8, v9, v10⟩ := HB2.out.c11
 go_wp2_with fail
 clear v0 v1 v2 v3 v4 v5 v6 v7 v8 v9 v10
 refine (HC.out _ HG2.out).mono ?_
 rintro e w3 ⟨rfl, hg3⟩
 have HB3 := hid (HB2.out.grow hg3)
 have HG3 : Hid (Grow w w3) := HG2.out.trans hg3
 clear hg3 HB2 HG2 HC
 by_cases h4 : cc ≠ 0
 ·have E2 := hid (show C = cc by rw [E.out, if_pos h4])
  have HNE := hid h4
  rw [eC_some h4]
  clear h4
  go_wp2
  go_ret
  exact n_ret E2.out _ (eC_some HNE.out).symm HG3.out
 have h4 : cc = 0 := by omega
 rw [if_neg (by simpa using h4)] at E
 rw [h4, eC_zero]
 clear h4
 obtain ⟨v0, v1, v2, v3, v4, v5, v6, v7, v8, v9, v10⟩ := HB3.out.c11
 go_wp2_with fail
 clear v0 v1 v2 v3 v4 v5 v6 v7 v8 v9 v10
 refine (HN.out _ HG3.out).mono ?_
 rintro e w4 ⟨rfl, hg4⟩
 have HG4 : Hid (Grow w w4) := HG3.out.trans hg4
 clear hg4
 generalize hev : eC cn = ev
 have HE := hid hev
 clear hev
 go_wp2
 go_ret
 exact n_ret E.out _ HE.out.symm HG4.out
end Go.Proofs.YtfbimboemahhhaaGreatDoor
