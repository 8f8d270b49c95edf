/-
  The contract of rel.All: all relocations of any bytes, in new memory; or ErrShort, at the byte at which one begins that isn't whole.
-/
import Derived.Test.YtkgjebkjpcpoaaaReRead
import Derived.Test.YtkgjebkjpcpoaaaRoom
import Derived.Test.YtkgjebkjpcpoaaaErr
namespace Go.Proofs.Ytkgjebkjpcpoaaa
open Go.RowKit

theorem arr4 {R : Array Value} (h : R.size = 4) : ∃ r0 r1 r2 r3, R = #[r0, r1, r2, r3] := by
  match R, h with
  | ⟨[r0, r1, r2, r3]⟩, _ => exact ⟨_, _, _, _, rfl⟩

theorem makeF (N : Nat) (h : N ≤ 100000) (w : World) : (Instr.makeSlice 22 (.int .i64 0) (.int .i64 (N : Int))).run Try.prog w = .ok (.slice (some ⟨w.heap.size, 0, none⟩) 0 N)
    (w.alloc (.cells (madeCells re0.C (N * 4)) 47)) := by
  have hinfo : (Try.prog.info? 47).map (fun i => (i.zero, i.size, i.bytes)) = some (some re0.V, 4, 24) := by kernel_rfl
  obtain ⟨i, hi, hz, hs, hby⟩ := info_parts hinfo
  have := run_make (P := Try.prog) w 22 47 i re0.V Try.underlying22 hi hz .i64 .i64 0 (N : Int) (Int.le_refl _) (by omega) (by rw [hby]; omega) (by omega)
  rw [hs, show re0.V.cells = re0.C from rfl] at this
  simpa using this

/-- What All answers. -/
def EAll (l : List UInt8) (wide adds big : Bool) (w : World) (e : Ending) (w' : World) : Prop :=
  (l.length % reSize wide adds = 0 ∧ ∃ A c, e = .returned (.tuple #[.slice A (l.length / reSize wide adds) c, .nilIface]) ∧ ZS w' w'.heap.size 4 A (l.length / reSize wide adds) c ((rels l wide adds big).map Re.C) ∧ Grow w w') ∨
  (l.length % reSize wide adds ≠ 0 ∧ ∃ er, e = .returned (.tuple #[.slice none 0 0, er]) ∧ Err w' er 2 (l.length - l.length % reSize wide adds) ∧ Grow w w')

set_option maxHeartbeats 1000000 in
theorem eAll_any (A : Option Addr) (n c : Nat) (l : List UInt8) (wide adds big : Bool) (w : World) (h : RB w w.heap.size A n c l) (h10 : l.length ≤ 10000) :
    Calls Try.prog 9 #[.slice A n c, .agg #[.bool wide, .bool big], .bool adds] w (EAll l wide adds big w) := by
  have HR := Lib.hid h
  obtain rfl := h.len
  have hcp := h.cap
  have hmx := h.max
  unfold maxLen at hmx
  clear h
  have HSz := Lib.hid (fun w => reSize_any wide big adds w)
  have HRd : Hid (∀ (q : Nat) (B : Option Addr) (n c : Nat) (w : World), RB w w.heap.size B n c ((l.drop q).take (reSize wide adds)) → n = reSize wide adds → Calls Try.prog 21 #[.slice B n c, .agg #[.bool wide, .bool big], .bool adds] w fun e w' => e = .returned (reOf l q wide adds big).V ∧ Grow w w') :=
    Lib.hid (fun q B n c w h hn => by have := eRead_any B n c _ wide adds big w h hn; rwa [reOf_sub] at this)
  have hs24 := reSize_le wide adds
  have hs0 := reSize_pos wide adds
  have HTo : Hid (∀ k, relsTo l wide adds big (k + 1) = relsTo l wide adds big k ++ [reOf l (k * reSize wide adds) wide adds big]) := Lib.hid (relsTo_succ l wide adds big)
  have HSy : Hid (rels l wide adds big = relsTo l wide adds big (l.length / reSize wide adds)) := Lib.hid rfl
  unfold EAll
  generalize rels l wide adds big = S at HSy ⊢
  generalize reSize wide adds = sz at HSz HRd hs24 hs0 HTo HSy ⊢
  obtain ⟨r, hr⟩ : ∃ r, r = l.length % sz := ⟨_, rfl⟩
  obtain ⟨m, hm⟩ : ∃ m, m = l.length / sz := ⟨_, rfl⟩
  have hdm : sz * m + r = l.length := by rw [hr, hm]; exact Nat.div_add_mod _ _
  have tm : ((l.length : Int)).tmod (sz : Int) = (r : Int) := by rw [hr]; exact (Int.ofNat_tmod _ _).symm
  have td : ((l.length : Int)).tdiv (sz : Int) = (m : Int) := by rw [hm]; exact (Int.ofNat_tdiv _ _).symm
  rw [← hr]
  rw [← hm] at HSy ⊢
  have HDM := Lib.hid hdm
  have hr1 : r ≤ l.length := by omega
  have hm1 : m ≤ l.length := by
    have : 1 * m ≤ sz * m := Nat.mul_le_mul_right m hs0
    omega
  clear hr hm hdm
  have s0 : ((sz : Int) == 0) = false := by simp; omega
  have s1 : ¬ (sz : Int) = -1 := by omega
  go_enter Try.func9, Try.ntmps9
  go_wp2_with fail
  generalize hW : World.alloc _ _ = W0
  obtain ⟨bf, hg0⟩ := blk1 hW
  clear hW
  refine (HSz.out W0).mono ?_
  rintro e w1 ⟨rfl, hg1⟩
  have HBF1 := Lib.hid (bf.grow hg1)
  have HG1 : Hid (Grow w w1) := hg0.trans hg1
  clear bf hg0 hg1
  rcases Nat.eq_zero_or_pos r with r0 | r0
  · subst r0
    have hmk := makeF m (by omega) w1
    go_wp2_with fail
    have HO2 := Lib.hid (ZO.room w1 (w.heap.size + 1) 47 m 4 (madeCells re0.C (m * 4)) (by unfold maxLen; omega) (show w.heap.size + 1 ≤ w1.heap.size from HBF1.out.lt) (by simp [size_madeCells]))
    have HBF2 := Lib.hid (HBF1.out.alloc (.cells (madeCells re0.C (m * 4)) 47))
    have HG2 : Hid (Grow w (w1.alloc (.cells (madeCells re0.C (m * 4)) 47))) := HG1.out.trans (Grow.of_alloc _ _)
    generalize w1.alloc _ = w2 at HO2 HBF2 HG2 ⊢
    generalize w1.heap.size = g7 at HO2 ⊢
    clear hmk HG1 HBF1 HSz tm td s0 s1
    go_loopw [10, 11] (fun x i wr => ∃ (k q : Nat) (A2 : Option Addr) (c2 : Nat), k ≤ m ∧ q = k * sz ∧ i = .int .i64 q ∧ x = .slice A2 k c2 ∧ ZO wr (w.heap.size + 1) 47 4 A2 k c2 ((relsTo l wide adds big k).map Re.C) ∧
      Blk wr w.heap.size 24 #[.bool wide, .bool big] ∧ Grow w wr) (fun _ i _ => l.length - (intOf i).toNat)
    case atStart => exact ⟨0, 0, some ⟨g7, 0, none⟩, m, Nat.zero_le _, by omega, rfl, rfl, HO2.out, HBF2.out, HG2.out⟩
    case round =>
      obtain ⟨k, q, A2, c2, hk, hq, rfl, rfl, ho, hbf, hg⟩ := hrel
      have HO := Lib.hid ho
      have HBF := Lib.hid hbf
      have HG := Lib.hid hg
      have HQ := Lib.hid hq
      clear ho hbf hg HO2 HBF2 HG2
      by_cases hlt : k < m
      · have hqs : q + sz ≤ l.length := by
          have e1 := HDM.out
          have : (k + 1) * sz ≤ m * sz := Nat.mul_le_mul_right sz hlt
          rw [Nat.succ_mul, Nat.mul_comm m sz, ← hq] at this
          omega
        clear hq
        obtain ⟨b, off, rfl, -, -⟩ := HR.out.pos (by omega)
        have HSub := Lib.hid (HR.out.sub (p := q) (m := sz) hqs hs0)
        have HS1 := Lib.hid (HTo.out k)
        rw [← HQ.out] at HS1
        have HRk := Lib.hid (HRd.out q)
        have HOne := Lib.hid (reOf l q wide adds big).one
        have HCs : Hid ((reOf l q wide adds big).C.size = 4) := rfl
        have HV : Hid ((reOf l q wide adds big).V = .agg (reOf l q wide adds big).C) := rfl
        generalize reOf l q wide adds big = s at HS1 HRk HOne HCs HV
        rw [HV.out] at HRk
        obtain ⟨R, hR⟩ : ∃ R, R = s.C := ⟨_, rfl⟩
        rw [← hR] at HRk HOne HCs
        have HRs := Lib.hid hR
        clear HV hR
        obtain ⟨r0, r1, r2, r3, rfl⟩ := arr4 HCs.out
        have z1 : (q : Int) < (l.length : Int) := by omega
        have z2 : (q : Int) ≤ (q : Int) + (sz : Int) := by omega
        have z3 : IntKind.i64.wrap ((q : Int) + (sz : Int)) = (q : Int) + (sz : Int) := by rw [IntKind.wrap_i64]; omega
        go_wp2_with fail
        refine wp_region_leap (leap_below (w.heap.size + 1)) [(0, true), (1, true), (2, true), (3, true), (4, true), (5, true), (6, true), (7, true), (8, true), (9, false), (10, false), (11, false), (12, true)] (by kernel_rfl) (by kernel_rfl) (by kernel_rfl) ?_
        have HX : Hid (∀ W, Below (w.heap.size + 1) wr.drew W → _ ∧ _) := fun W hW => ((HBF.out.drew).below hW (Nat.lt_succ_self _)).c2
        have HB1 : Hid (Blk wr.drew w.heap.size 24 #[.bool wide, .bool big]) := HBF.out.drew
        have HO1 : Hid (ZO wr.drew _ _ _ _ _ _ _) := HO.out
        have HG1 : Hid (Grow w wr.drew) := HG.out.trans (Grow.of_drew _)
        generalize wr.drew = w3 at HX HB1 HO1 HG1 ⊢
        clear HO HBF HG
        have i1 : (q : Int) + (sz : Int) ≤ (c : Int) := by omega
        have i2 : ¬ c = q := by omega
        have i3 : ((q : Int) + (sz : Int)).toNat = q + sz := by omega
        repeat (refine chain_take rfl (by rfl) ?_ (fun W hG => ?_) ?_; rotate_left; (obtain ⟨q1, q2⟩ := HX.out W hG; go_simp; rfl); simp only [Act.put, List.setIfInBounds_toArray, List.set_cons_zero, List.set_cons_succ])
        clear HX z1 z2 z3 i1 i2 i3
        refine chain_only rfl (by rfl) (fun K hK => ?_)
        go_simp
        refine (HRk.out (some ⟨b, off + q, none⟩) sz (c - q) _ ((HSub.out.belowAt HG1.out (Nat.le_refl _)).more HG1.out.size) rfl).mono ?_
        rintro e w4 ⟨rfl, hg4⟩
        refine hK _ _ (hg4.mono HB1.out.lt) ?_
        clear hK K
        have HB2 := Lib.hid (HB1.out.grow hg4)
        have HO2 := Lib.hid (HO1.out.keep hg4)
        have HG2 : Hid (Grow w w4) := HG1.out.trans hg4
        clear hg4 HB1 HO1 HG1
        refine chain_only rfl (by rfl) (fun K hK => ?_)
        go_simp
        refine hK _ _ (Below.alloc (Below.refl _ _) (show w.heap.size + 1 ≤ w4.heap.size from HB2.out.lt) _) ?_
        clear hK K
        have HBR := Lib.hid (Blk.new w4 47 #[r0, r1, r2, r3])
        have HB3 := Lib.hid (HB2.out.alloc (.cells #[r0, r1, r2, r3] 47))
        have HO3 := Lib.hid (HO2.out.keep (Grow.of_alloc w4 (.cells #[r0, r1, r2, r3] 47)))
        have HG3 : Hid (Grow w (w4.alloc (.cells #[r0, r1, r2, r3] 47))) := HG2.out.trans (Grow.of_alloc _ _)
        generalize w4.alloc _ = w5 at HBR HB3 HO3 HG3 ⊢
        generalize w4.heap.size = g at HBR ⊢
        clear HB2 HO2 HG2
        refine chain_only rfl (by rfl) (fun K hK => ?_)
        refine wp_appendZ w5 (.tmp 40) (.tmp 50) 22 rfl (w.heap.size + 1) 47 re0.V 4 24 Try.underlying22 (by kernel_rfl) rfl (by omega) A2 k c2 _ rfl HO3.out g _ #[r0, r1, r2, r3] rfl HBR.out rfl HOne.out (by unfold maxLen; omega) (by omega) HB3.out.lt ?_
        intro A5 c5 w6 ho5 hg5 _
        have hb5 : Below (w.heap.size + 1) w5 w6 := (Below.refl _ _).grown hg5 HB3.out.lt (fun j hj => HO3.out.ge hj)
        refine hK _ _ hb5 ?_
        clear hK K
        have HB6 := Lib.hid (HB3.out.below hb5 (Nat.lt_succ_self _))
        have HG6 : Hid (Grow w w6) := HG3.out.trans' (hb5.mono (Nat.le_succ _))
        have HO6 : Hid (ZO w6 (w.heap.size + 1) 47 4 A5 (k + 1) c5 ((relsTo l wide adds big (k + 1)).map Re.C)) := by
          rw [HS1.out, List.map_append, List.map_cons, List.map_nil, ← HRs.out]; exact ho5
        clear ho5 hg5 hb5 HBR HB3 HO3 HG3
        repeat (refine chain_take rfl (by rfl) ?_ (fun W hG => ?_) ?_; rotate_left; (go_simp; rfl); simp only [Act.put, List.setIfInBounds_toArray, List.set_cons_zero, List.set_cons_succ])
        refine chain_done ?_
        have z4 : IntKind.i64.wrap ((q : Int) + (sz : Int)) = ((q + sz : Nat) : Int) := by rw [IntKind.wrap_i64]; omega
        go_wp2
        go_roundw
        case rel => exact ⟨k + 1, q + sz, A5, c5, by omega, by rw [HQ.out, Nat.succ_mul], rfl, rfl, HO6.out, HB6.out, HG6.out⟩
        case measure => simp [intOf]; omega
      · have z1 : ¬ (q : Int) < (l.length : Int) := by
          obtain rfl : k = m := by omega
          have e1 := HDM.out
          rw [Nat.mul_comm k sz] at hq
          omega
        obtain rfl : k = m := by omega
        clear hq
        go_wp2
        go_ret2
        exact ⟨A2, c2, rfl, by rw [HSy.out]; exact HO.out.zs, HG.out⟩
  · have r1 : ((r : Int) != 0) = true := by simp; omega
    have z3 : IntKind.i64.wrap ((l.length : Int) - (r : Int)) = ((l.length - r : Nat) : Int) := by rw [IntKind.wrap_i64]; omega
    have HG2 : Hid (Grow w (w1.alloc (.cells #[.int .i64 ((l.length - r : Nat) : Int), .int .i64 2] 58))) := HG1.out.trans (Grow.of_alloc _ _)
    have HE : Hid (Err (w1.alloc (.cells #[.int .i64 ((l.length - r : Nat) : Int), .int .i64 2] 58)) (.iface 56 (.pointer (some ⟨w1.heap.size, 0, none⟩))) 2 (l.length - r)) := Err.box w1 2 (l.length - r) _ (by omega)
    have HR0 : Hid (r ≠ 0) := Lib.hid (by omega)
    go_wp2
    go_ret2
    exact .inr ⟨HR0.out, _, rfl, HE.out, HG2.out⟩
end Go.Proofs.Ytkgjebkjpcpoaaa
