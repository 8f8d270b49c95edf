/-
  Several texts in one: The contract of model; The contract of bytes; string(b) of bytes that are known, in this program, in every world that has only grown since; The contract of strs.
-/
import Derived.Test.YtaianmonokeimaaIbH9
import Derived.Test.YtaianmonokeimaaIbH1
import Derived.Test.YtaianmonokeimaaIbH2
import Derived.Test.YtaianmonokeimaaRows
import Derived.Test.YtaianmonokeimaaIbH3
import Derived.Lib.BytesEntry
import Derived.Laws.Entries
import Derived.Test.YtaianmonokeimaaIbH4
namespace Go.Proofs.Ytaianmonokeimaa
open Go.Lib (hid)
open Go.RowKit
theorem c_ret {a b : Nat} {w w' : World} (h : b = a) (v : Value) (hv : v = eC a) (hg : Grow w w') : Ending.returned v = .returned (eC b) ∧ Grow w w' := ⟨by rw [h, hv], hg⟩
set_option maxHeartbeats 2000000 in
theorem mSecs_any (m : Md) (ok : m.Ok) (A1 A2 : Option Addr) (n1 c1 n2 c2 : Nat) (w : World) (g1 : ZR sgK w w.heap.size A1 n1 c1 m.segs) (g2 : ZR seK w w.heap.size A2 n2 c2 m.secs) :
  Calls Try.prog 41 #[.agg (mdC m (.slice A1 n1 c1) (.slice A2 n2 c2))] w fun e w' => e = .returned (eC m.secsC) ∧ Grow w w' := by
 have HS := hid (fun (p : Pl) (A : Option Addr) (n c : Nat) (w' : World) (hg : Grow w w') (g : RB w' w'.heap.size A n c p.own) => mMay_any m A1 A2 n1 c1 n2 c2 p A n c w' (g1.grow hg) g)
 obtain ⟨x0, x1, x2, x3, x4, x5, x6, x7, x10, hC⟩ : ∃ x0 x1 x2 x3 x4 x5 x6 x7 x10 : Value, mdC m (.slice A1 n1 c1) (.slice A2 n2 c2) = #[x0, x1, x2, x3, x4, x5, x6, x7, .slice A1 n1 c1, .slice A2 n2 c2, x10] := ⟨_, _, _, _, _, _, _, _, _, rfl⟩
 rw [hC] at HS ⊢
 have hcm := g2.max
 have hcc := g2.cap
 have HL := hid g2.len
 have HZ := hid g2
 have HOk := hid ok.secs
 have E : Hid (m.secsC = fstC m.secC m.secs) := hid rfl
 have ED : Hid (∀ s : Se, m.secC s = if m.may s.pl = false then 1 else if s.pl.size ≠ s.held then 1 else if n2 < s.link then 10 else 0) := hid fun s => by rw [HL.out]; rfl
 generalize m.secsC = C at E ⊢
 generalize m.secs = L at HL HZ HOk E
 clear hC g1 g2 ok
 unfold maxLen at hcm
 go_enter Try.func41, Try.ntmps41
 go_wp2_with fail
 generalize hW : World.alloc _ _ = W0
 obtain ⟨b1, hg0⟩ := blk1 hW
 clear hW
 have HB1 := hid b1
 have HG0 := hid hg0
 have y9 := b1.at 9
 clear b1 hg0
 go_wp2_with fail
 clear y9
 go_loopw [8] (fun i wr => ∃ k : Nat, k ≤ n2 ∧ i = .int .i64 k ∧ (∀ s ∈ L.take k, m.secC s = 0) ∧ Grow W0 wr) (fun i _ => n2 - (intOf i).toNat)
 case atStart => exact ⟨0, by omega, rfl, fun s h => absurd h (by simp), Grow.refl _⟩
 case round =>
  obtain ⟨k, hk, rfl, hz, hg⟩ := hrel
  have HZ0 := hid hz
  have HG := hid hg
  have HB2 := hid (HB1.out.grow hg)
  have hlw := HB2.out.lt
  clear hz hg
  by_cases hlt : k < n2
  ·have hkl : k < L.length := by rw [← HL.out]; exact hlt
   obtain ⟨b, off, rfl, hb⟩ := HZ.out.pos (by omega)
   obtain ⟨Ak, nk, ck, -, hcell, gk⟩ := HZ.out.at hkl
   have hcell' : ∀ i v, (seC L[k] (.slice Ak nk ck))[i]? = some v → wr.cell? ⟨b, off + k * 13 + i, none⟩ = some v := fun i v hv => (Below.cell (HG0.out.trans HG.out) hb).trans (hcell i v hv)
   have HS1 := hid (fun w' (hg : Grow wr w') => HS.out L[k].pl Ak nk ck w' (HG0.out.trans (HG.out.trans hg)) ((gk.belowAt (HG0.out.trans (HG.out.trans hg)) (Nat.le_refl _)).more (HG0.out.trans (HG.out.trans hg)).size))
   have HH := hid (fun w => mHeld_any L[k] (.slice Ak nk ck) w)
   have HE2 := hid (takeS L k hkl)
   have HE3 := hid (fun h => fstC_at (f := m.secC) hkl HZ0.out h)
   have hlk := (HOk.out _ (List.getElem_mem hkl)).link
   have HED := hid (ED.out L[k])
   unfold plC at HS1
   unfold seC at hcell' HH
   generalize L[k] = s at hcell' HS1 HH HE2 HE3 hlk HED
   have t0 : wr.cell? ⟨b, off + k * 13, none⟩ = _ := hcell' 0 _ rfl
   have t1 := hcell' 1 _ rfl
   have t2 := hcell' 2 _ rfl
   have t3 := hcell' 3 _ rfl
   have t4 := hcell' 4 _ rfl
   have t5 := hcell' 5 _ rfl
   have t6 := hcell' 6 _ rfl
   have t7 := hcell' 7 _ rfl
   have t8 := hcell' 8 _ rfl
   have t9 := hcell' 9 _ rfl
   have t10 := hcell' 10 _ rfl
   have t11 := hcell' 11 _ rfl
   have t12 := hcell' 12 _ rfl
   clear hcell hcell' gk
   generalize m.may s.pl = my at HS1 HED
   generalize s.held = hd at HH HED
   generalize s.typ = ty at t1 HH
   generalize s.size = sz at t4 HH
   generalize s.link = lk at t5 HH hlk HED
   generalize s.pl.size = ps at t11 HH HS1 HED
   obtain ⟨v0, v1, v2, v3, v4, v5, v6, v7, v8, v9, v10⟩ := HB2.out.c11
   have hne : ¬ (w.heap.size = wr.heap.size) := by omega
   go_wp2_with fail
   refine wp_region_chain [(0, true), (1, true), (2, true), (3, false), (4, true), (5, true), (6, true), (7, true), (8, true), (9, true), (10, false), (11, true), (12, true)] (by kernel_rfl) (by kernel_rfl) (by kernel_rfl) ?_
   generalize hW : World.alloc _ _ = W1
   obtain ⟨b5, hg5⟩ := blk1 hW
   clear hW t0 t1 t2 t3 t4 t5 t6 t7 t8 t9 t10 t11 t12 v0 v1 v2 v3 v4 v5 v6 v7 v8 v9 v10 hne
   have HB5 := hid b5
   have HB3 := hid (HB2.out.grow hg5)
   have HGr : Hid (Grow wr W1.drew) := hg5.trans (Grow.of_drew _)
   have HGW : Hid (Grow W0 W1.drew) := HG.out.trans HGr.out
   have q0 : ∀ W, Grow W1.drew W → W.cell? ⟨w.heap.size, 0, none⟩ = some (x0) := fun W hW => (HB3.out.grow ((Grow.of_drew _).trans hW)).at 0
   have q1 : ∀ W, Grow W1.drew W → W.cell? ⟨w.heap.size, 1, none⟩ = some (x1) := fun W hW => (HB3.out.grow ((Grow.of_drew _).trans hW)).at 1
   have q2 : ∀ W, Grow W1.drew W → W.cell? ⟨w.heap.size, 2, none⟩ = some (x2) := fun W hW => (HB3.out.grow ((Grow.of_drew _).trans hW)).at 2
   have q3 : ∀ W, Grow W1.drew W → W.cell? ⟨w.heap.size, 3, none⟩ = some (x3) := fun W hW => (HB3.out.grow ((Grow.of_drew _).trans hW)).at 3
   have q4 : ∀ W, Grow W1.drew W → W.cell? ⟨w.heap.size, 4, none⟩ = some (x4) := fun W hW => (HB3.out.grow ((Grow.of_drew _).trans hW)).at 4
   have q5 : ∀ W, Grow W1.drew W → W.cell? ⟨w.heap.size, 5, none⟩ = some (x5) := fun W hW => (HB3.out.grow ((Grow.of_drew _).trans hW)).at 5
   have q6 : ∀ W, Grow W1.drew W → W.cell? ⟨w.heap.size, 6, none⟩ = some (x6) := fun W hW => (HB3.out.grow ((Grow.of_drew _).trans hW)).at 6
   have q7 : ∀ W, Grow W1.drew W → W.cell? ⟨w.heap.size, 7, none⟩ = some (x7) := fun W hW => (HB3.out.grow ((Grow.of_drew _).trans hW)).at 7
   have q8 : ∀ W, Grow W1.drew W → W.cell? ⟨w.heap.size, 8, none⟩ = some (.slice A1 n1 c1) := fun W hW => (HB3.out.grow ((Grow.of_drew _).trans hW)).at 8
   have q9 : ∀ W, Grow W1.drew W → W.cell? ⟨w.heap.size, 9, none⟩ = some (.slice (some ⟨b, off, none⟩) n2 c2) := fun W hW => (HB3.out.grow ((Grow.of_drew _).trans hW)).at 9
   have q10 : ∀ W, Grow W1.drew W → W.cell? ⟨w.heap.size, 10, none⟩ = some (x10) := fun W hW => (HB3.out.grow ((Grow.of_drew _).trans hW)).at 10
   have r0 : ∀ W, Grow W1.drew W → W.cell? ⟨wr.heap.size, 0, none⟩ = some (.int .u32 (s.name : Nat)) := fun W hW => (HB5.out.grow ((Grow.of_drew _).trans hW)).at 0
   have r1 : ∀ W, Grow W1.drew W → W.cell? ⟨wr.heap.size, 1, none⟩ = some (.int .u32 (ty : Nat)) := fun W hW => (HB5.out.grow ((Grow.of_drew _).trans hW)).at 1
   have r2 : ∀ W, Grow W1.drew W → W.cell? ⟨wr.heap.size, 2, none⟩ = some (.int .u64 (s.flags : Nat)) := fun W hW => (HB5.out.grow ((Grow.of_drew _).trans hW)).at 2
   have r3 : ∀ W, Grow W1.drew W → W.cell? ⟨wr.heap.size, 3, none⟩ = some (.int .u64 (s.addr : Nat)) := fun W hW => (HB5.out.grow ((Grow.of_drew _).trans hW)).at 3
   have r4 : ∀ W, Grow W1.drew W → W.cell? ⟨wr.heap.size, 4, none⟩ = some (.int .u64 (sz : Nat)) := fun W hW => (HB5.out.grow ((Grow.of_drew _).trans hW)).at 4
   have r5 : ∀ W, Grow W1.drew W → W.cell? ⟨wr.heap.size, 5, none⟩ = some (.int .u32 (lk : Nat)) := fun W hW => (HB5.out.grow ((Grow.of_drew _).trans hW)).at 5
   have r6 : ∀ W, Grow W1.drew W → W.cell? ⟨wr.heap.size, 6, none⟩ = some (.int .u32 (s.info : Nat)) := fun W hW => (HB5.out.grow ((Grow.of_drew _).trans hW)).at 6
   have r7 : ∀ W, Grow W1.drew W → W.cell? ⟨wr.heap.size, 7, none⟩ = some (.int .u64 (s.align : Nat)) := fun W hW => (HB5.out.grow ((Grow.of_drew _).trans hW)).at 7
   have r8 : ∀ W, Grow W1.drew W → W.cell? ⟨wr.heap.size, 8, none⟩ = some (.int .u64 (s.entsize : Nat)) := fun W hW => (HB5.out.grow ((Grow.of_drew _).trans hW)).at 8
   have r9 : ∀ W, Grow W1.drew W → W.cell? ⟨wr.heap.size, 9, none⟩ = some (.int .i64 s.pl.inn) := fun W hW => (HB5.out.grow ((Grow.of_drew _).trans hW)).at 9
   have r10 : ∀ W, Grow W1.drew W → W.cell? ⟨wr.heap.size, 10, none⟩ = some (.int .u64 (s.pl.off : Nat)) := fun W hW => (HB5.out.grow ((Grow.of_drew _).trans hW)).at 10
   have r11 : ∀ W, Grow W1.drew W → W.cell? ⟨wr.heap.size, 11, none⟩ = some (.int .u64 (ps : Nat)) := fun W hW => (HB5.out.grow ((Grow.of_drew _).trans hW)).at 11
   have r12 : ∀ W, Grow W1.drew W → W.cell? ⟨wr.heap.size, 12, none⟩ = some (.slice Ak nk ck) := fun W hW => (HB5.out.grow ((Grow.of_drew _).trans hW)).at 12
   clear b5 hg5
   have HB3' := hid (HB3.out.drew)
   have HB5' := hid (HB5.out.drew)
   clear HB3 HB5
   generalize W1.drew = w2 at HGr HGW HB3' HB5' q0 q1 q2 q3 q4 q5 q6 q7 q8 q9 q10 r0 r1 r2 r3 r4 r5 r6 r7 r8 r9 r10 r11 r12 ⊢
   repeat ((first | (refine chain_take rfl (by rfl) ?_ (fun W hG => ?_) ?_; rotate_left; (go_simp; rfl)) | refine chain_skip rfl (by rfl) ?_); simp only [Act.put, List.setIfInBounds_toArray, List.set_cons_zero, List.set_cons_succ])
   refine chain_only rfl (by rfl) (fun K hK => ?_)
   go_simp
   refine (HS1.out _ HGr.out).mono ?_
   rintro e w3 ⟨rfl, hg3⟩
   refine hK _ _ hg3 ?_
   have HG3 : Hid (Grow W0 w3) := HGW.out.trans hg3
   clear hK K HS1
   cases my with
   | false =>
    clear q0 q1 q2 q3 q4 q5 q6 q7 q8 q9 q10 r0 r1 r2 r3 r4 r5 r6 r7 r8 r9 r10 r11 r12 hg3
    have E2 := hid (show C = 1 by
     have e1 : m.secC s = 1 := by rw [HED.out, if_pos rfl]
     rw [E.out, HE3.out (by omega), e1])
    repeat ((first | (refine chain_take rfl (by rfl) ?_ (fun W hG => ?_) ?_; rotate_left; (go_simp; rfl)) | refine chain_skip rfl (by rfl) ?_); simp only [Act.put, List.setIfInBounds_toArray, List.set_cons_zero, List.set_cons_succ])
    refine chain_none rfl (by rfl) ?_
    simp only [Act.put, List.setIfInBounds_toArray, List.set_cons_zero, List.set_cons_succ]
    repeat ((first | (refine chain_take rfl (by rfl) ?_ (fun W hG => ?_) ?_; rotate_left; (go_simp; rfl)) | refine chain_skip rfl (by rfl) ?_); simp only [Act.put, List.setIfInBounds_toArray, List.set_cons_zero, List.set_cons_succ])
    refine chain_done ?_
    go_wp2
    go_ret
    exact c_ret E2.out _ rfl (HG0.out.trans HG3.out)
   | true =>
    clear q0 q1 q2 q3 q4 q5 q6 q7 q8 q9 q10 r0 r1 r2 r3 r4 r5 r6 r7 r8 r9 r10 r11 r12
    have u'0 : ∀ W, Grow w3 W → W.cell? ⟨wr.heap.size, 0, none⟩ = some (.int .u32 (s.name : Nat)) := fun W hW => (HB5'.out.grow (hg3.trans hW)).at 0
    have u'1 : ∀ W, Grow w3 W → W.cell? ⟨wr.heap.size, 1, none⟩ = some (.int .u32 (ty : Nat)) := fun W hW => (HB5'.out.grow (hg3.trans hW)).at 1
    have u'2 : ∀ W, Grow w3 W → W.cell? ⟨wr.heap.size, 2, none⟩ = some (.int .u64 (s.flags : Nat)) := fun W hW => (HB5'.out.grow (hg3.trans hW)).at 2
    have u'3 : ∀ W, Grow w3 W → W.cell? ⟨wr.heap.size, 3, none⟩ = some (.int .u64 (s.addr : Nat)) := fun W hW => (HB5'.out.grow (hg3.trans hW)).at 3
    have u'4 : ∀ W, Grow w3 W → W.cell? ⟨wr.heap.size, 4, none⟩ = some (.int .u64 (sz : Nat)) := fun W hW => (HB5'.out.grow (hg3.trans hW)).at 4
    have u'5 : ∀ W, Grow w3 W → W.cell? ⟨wr.heap.size, 5, none⟩ = some (.int .u32 (lk : Nat)) := fun W hW => (HB5'.out.grow (hg3.trans hW)).at 5
    have u'6 : ∀ W, Grow w3 W → W.cell? ⟨wr.heap.size, 6, none⟩ = some (.int .u32 (s.info : Nat)) := fun W hW => (HB5'.out.grow (hg3.trans hW)).at 6
    have u'7 : ∀ W, Grow w3 W → W.cell? ⟨wr.heap.size, 7, none⟩ = some (.int .u64 (s.align : Nat)) := fun W hW => (HB5'.out.grow (hg3.trans hW)).at 7
    have u'8 : ∀ W, Grow w3 W → W.cell? ⟨wr.heap.size, 8, none⟩ = some (.int .u64 (s.entsize : Nat)) := fun W hW => (HB5'.out.grow (hg3.trans hW)).at 8
    have u'9 : ∀ W, Grow w3 W → W.cell? ⟨wr.heap.size, 9, none⟩ = some (.int .i64 s.pl.inn) := fun W hW => (HB5'.out.grow (hg3.trans hW)).at 9
    have u'10 : ∀ W, Grow w3 W → W.cell? ⟨wr.heap.size, 10, none⟩ = some (.int .u64 (s.pl.off : Nat)) := fun W hW => (HB5'.out.grow (hg3.trans hW)).at 10
    have u'11 : ∀ W, Grow w3 W → W.cell? ⟨wr.heap.size, 11, none⟩ = some (.int .u64 (ps : Nat)) := fun W hW => (HB5'.out.grow (hg3.trans hW)).at 11
    have u'12 : ∀ W, Grow w3 W → W.cell? ⟨wr.heap.size, 12, none⟩ = some (.slice Ak nk ck) := fun W hW => (HB5'.out.grow (hg3.trans hW)).at 12
    have HB3 := hid (HB3'.out.grow hg3)
    have HB5 := hid (HB5'.out.grow hg3)
    clear hg3 HB3' HB5' HGr HGW
    repeat ((first | (refine chain_take rfl (by rfl) ?_ (fun W hG => ?_) ?_; rotate_left; (go_simp; rfl)) | refine chain_skip rfl (by rfl) ?_); simp only [Act.put, List.setIfInBounds_toArray, List.set_cons_zero, List.set_cons_succ])
    refine chain_only rfl (by rfl) (fun K hK => ?_)
    go_simp
    refine (HH.out _).mono ?_
    rintro e w4 ⟨rfl, hg4⟩
    refine hK _ _ hg4 ?_
    have HG4 : Hid (Grow W0 w4) := HG3.out.trans hg4
    have HB6 := hid (HB3.out.grow hg4)
    have HB7 := hid (HB5.out.grow hg4)
    clear hK K HH hg4 HB3 HB5 HG3 u'0 u'1 u'2 u'3 u'4 u'5 u'6 u'7 u'8 u'9 u'10 u'11 u'12
    rw [if_neg (by decide)] at HED
    by_cases hps : ps = hd
    ·have d : ((ps : Int) != (hd : Int)) = false := by simp [hps]
     rw [if_neg (by simpa using hps)] at HED
     clear hps
     repeat ((first | (refine chain_take rfl (by rfl) ?_ (fun W hG => ?_) ?_; rotate_left; (go_simp; rfl)) | refine chain_skip rfl (by rfl) ?_); simp only [Act.put, List.setIfInBounds_toArray, List.set_cons_zero, List.set_cons_succ])
     refine chain_done ?_
     have y9 := HB6.out.at 9
     have y5 := HB7.out.at 5
     have z1 : IntKind.u64.wrap (lk : Int) = (lk : Int) := by rw [IntKind.wrap_u64]; omega
     have z2 : IntKind.u64.wrap (n2 : Int) = (n2 : Int) := by rw [IntKind.wrap_u64]; omega
     by_cases hk2 : n2 < lk
     ·have e1 : decide (n2 < lk) = true := decide_eq_true hk2
      have e2 : decide ((n2 : Int) < (lk : Int)) = true := decide_eq_true (by omega)
      have E2 := hid (show C = 10 by
       have e1 : m.secC s = 10 := by rw [HED.out, if_pos hk2]
       rw [E.out, HE3.out (by omega), e1])
      clear hk2 d
      go_wp2
      go_ret
      exact c_ret E2.out _ rfl (HG0.out.trans HG4.out)
     ·have e1 : decide (n2 < lk) = false := decide_eq_false hk2
      have e2 : decide ((n2 : Int) < (lk : Int)) = false := decide_eq_false (by omega)
      have HZ1 : Hid (∀ s ∈ L.take (k + 1), m.secC s = 0) := hid fun a ha => by
       rw [HE2.out] at ha
       rcases List.mem_append.1 ha with h | h
       ·exact HZ0.out a h
       ·obtain rfl : a = s := by simpa using h
        rw [HED.out, if_neg hk2]
      clear hk2 d
      go_wp2
      go_roundw
      case rel => exact ⟨k + 1, by omega, by go_num, HZ1.out, HG4.out⟩
      case measure => simp [intOf]; omega
    ·have d : ((ps : Int) != (hd : Int)) = true := by simp; omega
     have E2 := hid (show C = 1 by
      have e1 : m.secC s = 1 := by rw [HED.out, if_pos hps]
      rw [E.out, HE3.out (by omega), e1])
     clear hps
     repeat ((first | (refine chain_take rfl (by rfl) ?_ (fun W hG => ?_) ?_; rotate_left; (go_simp; rfl)) | refine chain_skip rfl (by rfl) ?_); simp only [Act.put, List.setIfInBounds_toArray, List.set_cons_zero, List.set_cons_succ])
     refine chain_done ?_
     go_wp2
     go_ret
     exact c_ret E2.out _ rfl (HG0.out.trans HG4.out)
  ·have hkn : k = n2 := by omega
   have HT : Hid (L.take k = L) := hid (by rw [hkn, HL.out, List.take_length])
   have E2 := hid (show C = 0 by rw [E.out]; exact fstC_zero.2 (by have := HZ0.out; rwa [HT.out] at this))
   clear hkn
   go_wp2
   go_ret
   exact c_ret E2.out _ rfl (HG0.out.trans HG.out)
set_option maxRecDepth 100000
theorem bytes_of (l : Bs) : Lib.bytesOf (l.map fun b => (b.toNat : Int)) = l := by
 simp [Lib.bytesOf, List.map_map, Function.comp_def]
theorem bidx_zero (a : Addr) (c : Nat) (w : World) : (Extern.BytealgIndexByte.indexByte #[.slice (some a) 0 c, .int .u8 0]).run Try.prog w = .ok (.int .i64 (Lib.indexByte [] 0)) w := by rfl
set_option maxHeartbeats 400000 in
theorem bidx_any (A : Option Addr) (n c : Nat) (l : Bs) (B : Nat) (w : World) (h : RB w B A n c l) :
  Calls Try.prog 87 #[.slice A n c, .int .u8 0] w fun e w' => e = .returned (.int .i64 (Lib.indexByte l 0)) ∧ w = w' := by
 rcases A with _ | ⟨b, off, sp⟩
 ·have hl : l = [] := by
   rcases Nat.eq_zero_or_pos n with h0 | h0
   ·exact List.eq_nil_of_length_eq_zero (by rw [← h.len]; exact h0)
   ·obtain ⟨_, _, e, _⟩ := h.pos h0
    cases e
  subst hl
  clear h
  go_enter Try.func87, Try.ntmps87
  go_wp2
  rw [run_callFunc_extern Try.func88 (by kernel_rfl) (by kernel_rfl) (by kernel_rfl) (e := Extern.BytealgIndexByte.indexByte) (by kernel_rfl), Lib.run_indexByteNil w n c 0]
  simp only [Result.andThen]
  rw [Oper.upon_value]
  go_wp2
  go_ret
  exact ⟨rfl, rfl⟩
 ·have run : (Extern.BytealgIndexByte.indexByte #[.slice (some ⟨b, off, sp⟩) n c, .int .u8 0]).run Try.prog w = .ok (.int .i64 (Lib.indexByte l 0)) w := by
   rcases Nat.eq_zero_or_pos n with h0 | h0
   ·have hl : l = [] := List.eq_nil_of_length_eq_zero (by rw [← h.len]; exact h0)
    subst hl
    subst h0
    exact bidx_zero _ _ _
   ·obtain ⟨b', off', e, _, hc⟩ := h.pos h0
    injection e with e
    obtain ⟨rfl, rfl, rfl⟩ := Addr.mk.inj e
    have := Lib.run_indexByteSlice (P := Try.prog) w b off n c (l.map fun b => (b.toNat : Int)) (by simp [h.len]) (fun i hi => by
     rw [hc i (by rw [← h.len]; exact hi)]
     simp [List.getElem?_eq_getElem (show i < l.length by rw [← h.len]; exact hi)]) 0
    rw [bytes_of] at this
    exact this
  clear h
  have R := hid run
  clear run
  go_enter Try.func87, Try.ntmps87
  go_wp2
  rw [run_callFunc_extern Try.func88 (by kernel_rfl) (by kernel_rfl) (by kernel_rfl) (e := Extern.BytealgIndexByte.indexByte) (by kernel_rfl), R.out]
  simp only [Result.andThen]
  rw [Oper.upon_value]
  go_wp2
  go_ret
  exact ⟨rfl, rfl⟩
theorem RB.conv {w : World} {B : Nat} {A : Option Addr} {n c : Nat} {l : List UInt8} (h : RB w B A n c l) (hB : B ≤ w.heap.size) :
  ∀ W, Grow w W → (convert 35 9 (.slice A n c)).run Try.prog W = .ok (.string ⟨l.toArray⟩) W := fun _ hk =>
 (h.belowAt hk hB).str _ _ _ Try.underlying35 Try.underlying5 Try.underlying9
def GotN (l : Bs) (off : Nat) (w : World) (e : Ending) (w' : World) : Prop :=
 e = .returned (.tuple #[.string (bstr ((nameAt l off).getD [])), .bool (nameAt l off).isSome]) ∧ w = w'
theorem gotN_none {l : Bs} {off : Nat} {w : World} (h : nameAt l off = none) : GotN l off w (.returned (.tuple #[.string { data := #[] }, .bool false])) w := by
 unfold GotN; rw [h]; exact ⟨rfl, rfl⟩
theorem gotN_some {l s : Bs} {off : Nat} {w : World} (h : nameAt l off = some s) : GotN l off w (.returned (.tuple #[.string ⟨s.toArray⟩, .bool true])) w := by
 unfold GotN; rw [h]; exact ⟨rfl, rfl⟩
theorem nameAt_far {l : Bs} {off : Nat} (h : l.length ≤ off) : nameAt l off = none := by unfold nameAt; rw [List.drop_of_length_le h]; rfl
set_option maxHeartbeats 400000 in
theorem strGet_any (A : Option Addr) (n c : Nat) (l : Bs) (off : Nat) (w : World) (h : RB w w.heap.size A n c l) (hof : off < 18446744073709551616) :
  Calls Try.prog 83 #[.slice A n c, .int .u64 off] w (GotN l off w) := by
 have HS := hid h
 have HL := hid h.len
 have hc := h.cap
 have hm := h.max
 unfold maxLen at hm
 clear h
 by_cases hfar : n ≤ off
 ·have E := hid (nameAt_far (l := l) (off := off) (by rw [← HL.out]; exact hfar))
  go_enter Try.func83, Try.ntmps83
  go_wp2
  go_ret2
  exact gotN_none E.out
 ·obtain ⟨b, o, rfl, hb, hcell⟩ := HS.out.pos (by omega)
  have hsub := HS.out.sub (p := off) (m := n - off) (by omega) (by omega)
  have e0 : (l.drop off).take (n - off) = l.drop off := by rw [List.take_of_length_le (by rw [List.length_drop, ← HL.out]; exact Nat.le_refl _)]
  rw [e0] at hsub
  have HB := hid hsub
  clear hcell hb hsub e0
  have i1 : (off : Int) ≤ n := by omega
  have i2 : ¬ c = off := by omega
  go_enter Try.func83, Try.ntmps83
  go_wp2_with fail
  refine (bidx_any _ _ _ _ _ _ HB.out).mono ?_
  rintro e w' ⟨rfl, rfl⟩
  rw [indexByte_cut]
  cases hcut : cut0 (l.drop off) with
  | none =>
   have E := hid hcut
   clear hcut
   go_wp2
   go_ret2
   exact gotN_none E.out
  | some s =>
   have E := hid hcut
   obtain ⟨h1, h2, h3⟩ := cut0_some hcut
   rw [List.length_drop, ← HL.out] at h1
   have hf := HB.out.first (m := s.length) (by omega)
   rw [h2] at hf
   have hcv := hf.conv (Nat.le_refl _) w (Grow.refl _)
   clear hcut h2 h3 hf
   dsimp only
   generalize s.length = k at h1 hcv ⊢
   have h4 : k ≤ c - off := by omega
   have h5 : ¬ ((k : Int) < 0) := by omega
   go_wp2
   go_ret2
   exact gotN_some E.out
end Go.Proofs.Ytaianmonokeimaa
