/-
  Several texts in one: The contract of image; In a plan that ends in the file nothing stands in one place with another thing, and all is in the file; A model that may be planned; The contract of head; What was put is got, in plain words; A file's bytes, as plain data.
-/
import Derived.Test.YtfglppjilcaafaaGreatDoorTbH15
import Derived.Test.YtfglppjilcaafaaGreatDoorTbH17
import Derived.Test.YtfglppjilcaafaaGreatDoorTbH10
import Derived.Test.YtfglppjilcaafaaGreatDoorTbH7
import Derived.Test.YtfglppjilcaafaaGreatDoorTbH12
import Derived.Test.YtfglppjilcaafaaGreatDoorTbH13
import Derived.Test.YtfglppjilcaafaaGreatDoorTbH14
namespace Go.Proofs.YtfglppjilcaafaaGreatDoor
open Go.Lib (hid)
open Go.RowKit
set_option maxRecDepth 100000
set_option linter.unusedVariables false
def FileR (l : List UInt8) (w : World) (e : Ending) (w' : World) : Prop :=
 (Img l ∧ ∃ A c, e = .returned (.tuple #[.agg (imC (hdOf l).en (.slice A (imL l).length c)), .nilIface]) ∧ GR rgK w' w.heap.size 107 A (imL l).length c (imL l) ∧ Grow w w') ∨
 (¬ Img l ∧ e = .returned (.tuple #[.agg (imC 0 (.slice none 0 0)), .iface 81 (.int .i64 4)]) ∧ Grow w w')
theorem if_ret {K : Ending → World → Prop} {W : World} {tmps : Array Value} {g : Nat} {ev a b : Value} (ht : tmps.getD 2 undef = .pointer (some ⟨g, 0, none⟩)) (he : tmps.getD 3 undef = ev)
  (hx : Blk W g 52 #[a, b]) (hk : K (.returned (.tuple #[.agg #[a, b], ev])) W) : bodyPost Tryz.prog Tryz.f14 K .ret ⟨tmps, []⟩ W := by
 refine bodyPost_ret (v := .tuple #[.agg #[a, b], ev]) ?_ rfl hk
 rw [results_cell_tmp rfl, ht, he]
 simp [asAddr, Result.andThen, hx.var _ _ Tryz.underlying52 rfl (by kernel_rfl)]
set_option maxHeartbeats 8000000 in
theorem imFile_any (l : List UInt8) (A : Option Addr) (n c : Nat) (w : World) (hr : RB w w.heap.size A n c l) (hn : n ≤ 140737488355328) :
  Calls Tryz.prog 14 #[.slice A n c] w (FileR l w) := by
 have HGe := hid (fun W (hW : Grow w W) => hGet_any A n c l W (hr.grow hW))
 have HHd := hid (fun W (hW : Grow w W) => imHeaders_any l A n c W (hr.grow hW))
 have HPn : (hdOf l).pn < 65536 := (hdOf_ok l).pn
 have HLd := hid (fun (A1 : Option Addr) (c1 : Nat) W (hW : Grow w W) hz => imLoaded_any l A n c (hdOf l).en A1 (hdOf l).pn c1 W (hr.grow hW) hz (by omega) hn)
 have HNz : Hid (∀ c p v, HTold l c p v → c ≠ 0 → ¬ Img l ∧ v = hd0.V) := hid fun c p v h hc => ⟨fun hi => hc (h.one hi.1).1, h.not hc⟩
 have HZe : Hid (∀ p v, HTold l 0 p v → v = (hdOf l).V) := hid fun p v h => (h.zero rfl).2
 have HYe : Hid (∀ p v, HTold l 0 p v → (Img l ↔ (hdOf l).pn ≠ 65535 ∧ ImIn l ∧ OwnIn l (hdOf l).pn)) := hid fun p v h => by
  obtain ⟨rfl, rfl⟩ := h.zero rfl
  exact ⟨fun hi => hi.2, fun hi => ⟨h, hi⟩⟩
 have HIm : Hid (fImg l (hdOf l).pn = imL l) := hid rfl
 unfold HGot at HGe
 unfold HdsR at HHd
 unfold LdR at HLd
 unfold FileR imC
 unfold imC at HLd
 clear hr hn
 obtain ⟨x0, x1, x2, x3, x4, x5, x7, x8, x9, x11, x12, hC, hO⟩ : ∃ x0 x1 x2 x3 x4 x5 x7 x8 x9 x11 x12 : Value, (hdOf l).V = .agg #[x0, x1, x2, x3, x4, x5, .int .u64 ((hdOf l).en : Nat), x7, x8, x9, .int .u16 ((hdOf l).pn : Nat), x11, x12] ∧ (#[x0, x1, x2, x3, x4, x5, .int .u64 ((hdOf l).en : Nat), x7, x8, x9, .int .u16 ((hdOf l).pn : Nat), x11, x12] : Array Value).all (·.oneCell') = true := ⟨_, _, _, _, _, _, _, _, _, _, _, rfl, (hdOf l).one⟩
 have HO := hid hO
 clear hO
 rw [hC] at HZe HHd
 clear hC
 rw [HIm.out] at HLd
 generalize imL l = IM at *
 generalize (hdOf l).en = en at *
 generalize (hdOf l).pn = P at *
 generalize Img l = IG at *
 generalize ImIn l = II at *
 generalize OwnIn l P = OI at *
 generalize pgR l P = PR at *
 go_enter Tryz.func14, Tryz.ntmps14
 go_wp2_with fail
 generalize hW : World.alloc _ _ = W0
 obtain ⟨b1, hg0⟩ := blk1 hW
 clear hW
 have HZ := hid b1
 have HG := hid hg0
 have HG2 : Hid (w.heap.size ≤ w.heap.size) := hid (Nat.le_refl _)
 clear b1 hg0
 refine (HGe.out _ HG.out).mono ?_
 rintro e w1 ⟨cc, p, v, err, rfl, ht, he, hg⟩
 have HZ1 := hid (HZ.out.grow hg)
 have HG1 : Hid (Grow w w1) := hid (HG.out.trans hg)
 clear hg HZ HG HGe
 by_cases h0 : cc = 0
 ·subst h0
  have e0 := he.nil
  subst e0
  have e1 := HZe.out p v ht
  have HY := hid (HYe.out p v ht)
  subst e1
  clear ht he HZe HYe HNz
  go_wp2_with (refine wpList_store_row rfl 58 (.tmp 4) (.tmp 10) rfl w1.heap.size _ rfl rfl _ _ (Blk.new _ _ _) (by kernel_rfl) rfl HO.out ?_; rw [World.setRow_alloc_new]; refine Hid.out ?_)
  generalize hW : World.alloc _ _ = W2
  obtain ⟨b4, hg⟩ := blk1 hW
  clear hW
  have HB2 := hid b4
  have HZ2 := hid (HZ1.out.grow hg)
  have HG2 : Hid (Grow w W2) := hid (HG1.out.trans hg)
  clear b4 hg HZ1 HG1
  generalize w1.heap.size = g4 at HB2 ⊢
  refine hid ?_
  have c10 := HB2.out.at 10
  by_cases hp : P = 65535
  ·have d1 : ((P : Int) == 65535) = true := by simp [hp]
   have HNo : Hid (¬ IG) := hid (by rw [HY.out]; exact fun h => h.1 hp)
   clear hp
   go_wp2_with (refine wpList_store_row rfl 52 (.tmp 2) (.tmp 19) rfl w.heap.size #[.int .u64 0, .slice none 0 0] rfl rfl _ _ HZ2.out (by kernel_rfl) rfl (by simp [Value.oneCell']) ?_)
   refine if_ret (by rfl) (by rfl) (HZ2.out.set _) ?_
   exact .inr ⟨HNo.out, rfl, Grow.set HG2.out (Nat.le_refl _) _⟩
  ·have d1 : ((P : Int) == 65535) = false := by simp; omega
   have HP := hid hp
   clear hp
   go_wp2_with (refine wpList_load_row rfl 58 (.tmp 4) rfl g4 rfl _ _ (0, 0) _ HB2.out Tryz.underlying58 rfl (by kernel_rfl) ?_)
   clear c10
   refine (HHd.out _ HG2.out).mono ?_
   rintro e w3 (⟨hi, A1, c1, rfl, hzs, hg⟩ | ⟨hi, rfl, hg⟩)
   ·have HZ3 := hid (HZ2.out.grow hg)
    have HG3 : Hid (Grow w w3) := hid (HG2.out.trans hg)
    have HB3 := hid (HB2.out.grow hg)
    have HLk := hid (HLd.out A1 c1 w3 HG3.out hzs)
    have HI := hid hi
    clear hg HZ2 HG2 HB2 hzs hi HLd HHd
    have c6 := HB3.out.at 6
    go_wp2_with fail
    clear c6
    refine HLk.out.mono ?_
    rintro e w4 (⟨ho, A2, c2, rfl, hgr, hg⟩ | ⟨ho, rfl, hg⟩)
    ·have HZ4 := hid (HZ3.out.grow hg)
     have HG4 : Hid (Grow w w4) := hid (HG3.out.trans hg)
     have HR4 : Hid (GR rgK w4 (w.heap.size + 1) 107 A2 IM.length c2 IM) := hid (hgr.mono HZ3.out.lt)
     have HYs : Hid IG := hid (HY.out.2 ⟨HP.out, HI.out, ho⟩)
     clear hg HZ3 HG3 hgr ho HLk
     go_wp2_with (refine wpList_store_row rfl 52 (.tmp 2) (.tmp 36) rfl w.heap.size _ rfl rfl _ _ HZ4.out (by kernel_rfl) rfl (by simp [Value.oneCell']) ?_)
     refine if_ret (by rfl) (by rfl) (HZ4.out.set _) ?_
     exact .inl ⟨HYs.out, A2, c2, rfl, (HR4.out.set (Nat.lt_succ_self _) _).mono (Nat.le_succ _), Grow.set HG4.out (Nat.le_refl _) _⟩
    ·have HZ4 := hid (HZ3.out.grow hg)
     have HG4 : Hid (Grow w w4) := hid (HG3.out.trans hg)
     have HNo : Hid (¬ IG) := hid (by rw [HY.out]; exact fun h => ho h.2.2)
     clear hg HZ3 HG3 ho HLk
     go_wp2_with (refine wpList_store_row rfl 52 (.tmp 2) (.tmp 36) rfl w.heap.size _ rfl rfl _ _ HZ4.out (by kernel_rfl) rfl (by simp [Value.oneCell']) ?_)
     refine if_ret (by rfl) (by rfl) (HZ4.out.set _) ?_
     exact .inr ⟨HNo.out, rfl, Grow.set HG4.out (Nat.le_refl _) _⟩
   ·have HZ3 := hid (HZ2.out.grow hg)
    have HG3 : Hid (Grow w w3) := hid (HG2.out.trans hg)
    have HNo : Hid (¬ IG) := hid (by rw [HY.out]; exact fun h => hi h.2.1)
    clear hg HZ2 HG2 HB2 hi HLd HHd
    go_wp2_with (refine wpList_store_row rfl 52 (.tmp 2) (.tmp 29) rfl w.heap.size #[.int .u64 0, .slice none 0 0] rfl rfl _ _ HZ3.out (by kernel_rfl) rfl (by simp [Value.oneCell']) ?_)
    refine if_ret (by rfl) (by rfl) (HZ3.out.set _) ?_
    exact .inr ⟨HNo.out, rfl, Grow.set HG3.out (Nat.le_refl _) _⟩
 ·obtain ⟨hno, rfl⟩ := HNz.out cc p v ht h0
  have HNo := hid hno
  obtain ⟨_, bb, rfl, _⟩ : 0 < cc ∧ ∃ b, err = .iface 116 (.pointer (some ⟨b, 0, none⟩)) ∧ True := by
   rcases he with ⟨h, _⟩ | ⟨h1, b, h2, _⟩
   ·exact absurd h h0
   ·exact ⟨h1, b, h2, trivial⟩
  clear ht he h0 HYe HZe HNz hno HHd HLd
  unfold hd0 Hd.V Hd.C
  simp only []
  go_wp2_with (first | (refine wpList_store_row rfl 52 (.tmp 2) (.tmp 19) rfl w.heap.size #[.int .u64 0, .slice none 0 0] rfl rfl _ _ (HZ1.out.grow (Grow.of_alloc _ _)) (by kernel_rfl) rfl (by simp [Value.oneCell']) ?_))
  refine if_ret (by rfl) (by rfl) ((HZ1.out.grow (Grow.of_alloc _ _)).set _) ?_
  exact .inr ⟨HNo.out, rfl, Grow.set (HG1.out.trans (Grow.of_alloc _ _)) (Nat.le_refl _) _⟩
end Go.Proofs.YtfglppjilcaafaaGreatDoor
namespace Go.Proofs.YtfglppjilcaafaaGreatDoor
open Go.Lib (hid)
namespace Md
variable (m : Md)
theorem eL_step (h : m.segs.length ≤ 16) (k : Nat) : m.eL k ≤ m.eL (k + 1) := by
 rw [eL]
 split
 ·exact fin_ge (m.eL_le h k)
 ·exact Nat.le_refl _
theorem eO_step (h : m.segs.length ≤ 16) (k : Nat) : m.eO k ≤ m.eO (k + 1) := by
 rw [eO]
 split
 ·exact Nat.le_refl _
 split
 ·exact fin_ge (m.eO_le h k)
 ·exact Nat.le_refl _
theorem eS_step (h : m.segs.length ≤ 16) (k : Nat) : m.eS k ≤ m.eS (k + 1) := by
 rw [eS]
 split
 ·exact fin_ge (m.eS_le h k)
 ·exact Nat.le_refl _
end Md
theorem mono_of {f : Nat → Nat} (h : ∀ k, f k ≤ f (k + 1)) {a b : Nat} (hab : a ≤ b) : f a ≤ f b := by
 induction b with
 | zero => rw [show a = 0 by omega]; exact Nat.le_refl _
 | succ b ih =>
  rcases Nat.lt_or_ge a (b + 1) with h1 | h1
  ·exact Nat.le_trans (ih (by omega)) (h b)
  ·rw [show a = b + 1 by omega]; exact Nat.le_refl _
structure Planned (m : Md) : Prop where
 ok : PlOk m
 load : ∀ k, k < m.segs.length → (m.sg k).typ = 1 → (m.sg k).pl.inn = -1
 fits : m.eT ≤ 65536
theorem Planned.eS_in {m : Md} (h : Planned m) {k : Nat} (hk : k ≤ m.secs.length) : m.eS k ≤ 65536 := by
 have h1 := h.fits
 have h2 : m.eS k ≤ m.eS m.secs.length := mono_of (m.eS_step h.ok.n1) hk
 have h3 : m.eS m.secs.length ≤ m.eT := by
  unfold Md.eT
  split
  ·exact fin_ge (m.eS_le h.ok.n1 _)
  ·exact Nat.le_refl _
 omega
theorem Planned.eO_in {m : Md} (h : Planned m) {k : Nat} (hk : k ≤ m.segs.length) : m.eO k ≤ m.eO m.segs.length ∧ m.eO m.segs.length ≤ 65536 := by
 have h1 := h.eS_in (k := 0) (by omega)
 exact ⟨mono_of (m.eO_step h.ok.n1) hk, h1⟩
theorem Planned.eL_in {m : Md} (h : Planned m) {k : Nat} (hk : k ≤ m.segs.length) : m.eL k ≤ m.eL m.segs.length ∧ m.eL m.segs.length ≤ 65536 := by
 have h1 := (h.eO_in (k := 0) (by omega))
 have h2 : m.eO 0 = m.eL m.segs.length := rfl
 exact ⟨mono_of (m.eL_step h.ok.n1) hk, by omega⟩
theorem Planned.load_at {m : Md} (h : Planned m) {k : Nat} (hk : k < m.segs.length) (ht : (m.sg k).typ = 1) : m.eL k ≤ m.P2 k ∧ m.P2 k + (m.sg k).pl.size = m.eL (k + 1) ∧ m.P2 k = nxt (m.eL k) (m.sg k).vaddr (m.sg k).align := by
 have h1 := h.eL_in (k := k + 1) hk
 have e : m.eL (k + 1) = fin (m.eL k) (m.sg k).vaddr (m.sg k).align (m.sg k).pl.size := by rw [Md.eL, if_pos ht]
 have hin := fin_in (e := m.eL k) (v := (m.sg k).vaddr) (a := (m.sg k).align) (n := (m.sg k).pl.size) (by rw [← e]; omega)
 have e2 : m.P2 k = plc (m.eL k) (m.sg k).vaddr (m.sg k).align := by unfold Md.P2 Md.P1; rw [if_pos ht, if_pos ht]
 rw [e2, e]
 exact ⟨hin.2.2.2, hin.2.2.1, hin.1⟩
theorem Planned.other_at {m : Md} (h : Planned m) {k : Nat} (hk : k < m.segs.length) (ht : (m.sg k).typ ≠ 1) (hi : (m.sg k).pl.inn = -1) : m.eO k ≤ m.P2 k ∧ m.P2 k + (m.sg k).pl.size = m.eO (k + 1) := by
 have h1 := h.eO_in (k := k + 1) hk
 have e : m.eO (k + 1) = fin (m.eO k) 0 8 (m.sg k).pl.size := by rw [Md.eO, if_neg ht, if_pos hi]
 have hin := fin_in (e := m.eO k) (v := 0) (a := 8) (n := (m.sg k).pl.size) (by rw [← e]; omega)
 have e2 : m.P2 k = plc (m.eO k) 0 8 := by unfold Md.P2; rw [if_neg ht, if_pos hi]
 rw [e2, e]
 exact ⟨hin.2.2.2, hin.2.2.1⟩
theorem Planned.sec_at {m : Md} (h : Planned m) {k : Nat} (hk : k < m.secs.length) (hi : (m.se k).pl.inn = -1) : m.eS k ≤ m.P3 k ∧ m.P3 k + (m.se k).pl.size = m.eS (k + 1) := by
 have h1 := h.eS_in (k := k + 1) hk
 have e : m.eS (k + 1) = fin (m.eS k) 0 8 (m.se k).pl.size := by rw [Md.eS, if_pos hi]
 have hin := fin_in (e := m.eS k) (v := 0) (a := 8) (n := (m.se k).pl.size) (by rw [← e]; exact h1)
 have e2 : m.P3 k = plc (m.eS k) 0 8 := by unfold Md.P3; rw [if_pos hi]
 rw [e2, e]
 exact ⟨hin.2.2.2, hin.2.2.1⟩
theorem Planned.order {m : Md} (h : Planned m) : hSize m.wide ≤ m.e1 ∧ m.e1 ≤ m.eL m.segs.length ∧ m.eL m.segs.length ≤ m.eO m.segs.length ∧ m.eO m.segs.length = m.eS 0 ∧ m.eS 0 ≤ m.eS m.secs.length ∧ m.eS m.secs.length ≤ m.eT := by
 have a : m.eL 0 ≤ m.eL m.segs.length := mono_of (m.eL_step h.ok.n1) (by omega)
 have b : m.eO 0 ≤ m.eO m.segs.length := mono_of (m.eO_step h.ok.n1) (by omega)
 have c : m.eS 0 ≤ m.eS m.secs.length := mono_of (m.eS_step h.ok.n1) (by omega)
 have d : m.eS m.secs.length ≤ m.eT := by
  unfold Md.eT
  split
  ·exact fin_ge (m.eS_le h.ok.n1 _)
  ·exact Nat.le_refl _
 exact ⟨Nat.le_add_right _ _, a, b, rfl, c, d⟩
end Go.Proofs.YtfglppjilcaafaaGreatDoor
namespace Go.Proofs.YtfglppjilcaafaaGreatDoor
open Go.Lib (hid)
open Go.RowKit
theorem segC_own {m : Md} {s : Sg} (h : m.segC s = 0) (ht : s.typ = 1) : s.pl.inn = -1 := by
 unfold Md.segC at h
 split at h
 ·omega
 split at h
 ·omega
 split at h
 ·omega
 split at h
 ·omega
 ·rename_i h1
  omega
theorem planned_of {m : Md} (ok : m.Ok) (h : m.planC = 0) (hl : ∀ s ∈ m.segs, s.pl.own.length ≤ maxLen) (hl2 : ∀ s ∈ m.secs, s.pl.own.length ≤ maxLen) : Planned m := by
 unfold Md.planC at h
 split at h
 ·omega
 ·rename_i h1
  have hc : m.chk = 0 := by omega
  split at h
  ·rename_i h2
   exact ⟨plan_ok ok hc hl hl2, fun k hk ht => segC_own ((Md.chk_zero hc).1 _ (m.sg_mem hk)) ht, h2⟩
  ·omega
theorem Planned.seg_in {m : Md} (h : Planned m) {k : Nat} (hk : k < m.segs.length) (hi : (m.sg k).pl.inn ≠ -1) : (m.sg k).typ ≠ 1 ∧ ∃ i : Nat, (m.sg k).pl.inn = (i : Int) ∧ i < m.segs.length ∧ m.P2 k = m.P2 i + (m.sg k).pl.off ∧ m.P2 k < 18446744073709551616 := by
 have ht : (m.sg k).typ ≠ 1 := fun e => hi (h.load k hk e)
 refine ⟨ht, ?_⟩
 rcases (h.ok.sg k hk).pl ht with a | ⟨i, a, b, c, d⟩
 ·exact absurd a hi
 ·have e1 : m.P2 i = m.P1 i := by unfold Md.P2; rw [if_pos c]
  have e2 : m.P2 k = m.P1 i + (m.sg k).pl.off := by unfold Md.P2; rw [if_neg ht, if_neg hi, a]; rfl
  have := m.P1_le i
  exact ⟨i, a, b, by rw [e1, e2], by omega⟩
theorem Planned.sec_in {m : Md} (h : Planned m) {k : Nat} (hk : k < m.secs.length) (hi : (m.se k).pl.inn ≠ -1) : ∃ i : Nat, (m.se k).pl.inn = (i : Int) ∧ i < m.segs.length ∧ m.P3 k = m.P2 i + (m.se k).pl.off ∧ m.P3 k < 18446744073709551616 := by
 rcases h.ok.se k hk with a | ⟨i, a, b, c⟩
 ·exact absurd a hi
 ·have e2 : m.P3 k = m.P2 i + (m.se k).pl.off := by unfold Md.P3; rw [if_neg hi, a]; rfl
  exact ⟨i, a, b, e2, by omega⟩
end Go.Proofs.YtfglppjilcaafaaGreatDoor
namespace Go.Proofs.YtfglppjilcaafaaGreatDoor
open Go.Lib (hid)
open Go.RowKit
def Hd.Q (h : Hd) : List (Nat × Nat) := h.N.zip (hRow h.wide)
def Hd.L (h : Hd) : List UInt8 := idL h.wide h.big h.o h.a ++ rowB h.big h.Q
theorem Hd.lenQ (h : Hd) : h.Q.length = 13 := by simp [Hd.Q, Hd.N, hRow]
theorem Hd.rowed (h : Hd) (ok : h.Ok) : Rowed h.Q := by
 obtain ⟨k1, k2, k3, k4, k5, k6, k7, k8, k9⟩ := ok
 have s0 : hSize h.wide ≤ 64 := byWide_le _ _ _ _ (by omega) (by omega)
 have s1 := ifSome_le ((h.pn : Int) != 0) (byWide h.wide 32 56)
 have s2 := ifSome_le ((h.sh : Int) != 0) (byWide h.wide 40 64)
 have s3 : byWide h.wide 32 56 ≤ 64 := byWide_le _ _ _ _ (by omega) (by omega)
 have s4 : byWide h.wide 40 64 ≤ 64 := byWide_le _ _ _ _ (by omega) (by omega)
 have hw : wid (byWide h.wide 4 8 : Nat) = true := by cases h.wide <;> rfl
 refine ⟨by rw [h.lenQ]; omega, fun k hk => ?_, fun k hk => ?_⟩
 ·rw [h.lenQ] at hk
  match k, hk with
  | 0, _ => rfl
  | 1, _ => rfl
  | 2, _ => rfl
  | 3, _ => exact hw
  | 4, _ => exact hw
  | 5, _ => exact hw
  | 6, _ => rfl
  | 7, _ => rfl
  | 8, _ => rfl
  | 9, _ => rfl
  | 10, _ => rfl
  | 11, _ => rfl
  | 12, _ => rfl
 ·rw [h.lenQ] at hk
  match k, hk with
  | 0, _ => show h.ty < _; omega
  | 1, _ => show h.ma < _; omega
  | 2, _ => show 1 < _; omega
  | 3, _ => show h.en < _; omega
  | 4, _ => show h.ph < _; omega
  | 5, _ => show h.sh < _; omega
  | 6, _ => show h.fl < _; omega
  | 7, _ => show hSize h.wide < _; omega
  | 8, _ => show ifSome ((h.pn : Int) != 0) (byWide h.wide 32 56) < _; omega
  | 9, _ => show h.pn < _; omega
  | 10, _ => show ifSome ((h.sh : Int) != 0) (byWide h.wide 40 64) < _; omega
  | 11, _ => show h.sn < _; omega
  | 12, _ => show h.st < _; omega
theorem Hd.atN (h : Hd) (k : Nat) (hk : k < h.Q.length) : (u64s h.N)[k]? = some (.int .u64 (h.Q[k].1 : Int)) := by
 have hk' := hk
 rw [h.lenQ] at hk
 simp [u64s, Hd.Q, show k < h.N.length from hk]
theorem Hd.atW (h : Hd) (k : Nat) (hk : k < h.Q.length) : (i64s (hRow h.wide))[k]? = some (.int .i64 (h.Q[k].2 : Int)) := by
 have hk' := hk
 rw [h.lenQ] at hk
 simp [i64s, Hd.Q, show k < (hRow h.wide).length from hk]
def HPut (h : Hd) (w : World) (e : Ending) (w' : World) : Prop :=
 (rowF h.Q = true ∧ ∃ A c, e = .returned (.tuple #[.slice A h.L.length c, .nilIface]) ∧ OB w' w.heap.size 5 A h.L.length c h.L ∧ Grow w w') ∨
 (rowF h.Q = false ∧ e = .returned (.tuple #[.slice none 0 0, .iface 81 (.int .i64 1)]) ∧ Grow w w')
set_option maxHeartbeats 400000 in
theorem hPut_any (h : Hd) (ok : h.Ok) (w : World) : Calls Tryz.prog 54 #[h.V] w (HPut h w) := by
 have HR := hid (h.rowed ok)
 have HN := hid (fun w => numbers_any h ok w)
 have HAN := hid h.atN
 have HAW := hid h.atW
 have HSN : Hid ((u64s h.N).size = 13) := hid (by simp [u64s, Hd.N])
 have HON := hid (one_u64s h.N)
 have HI := hid (fun w => idPut_any h.wide h.big h.o h.a w)
 have HWi := hid (fun w => widths_any h.wide h.big w)
 have HLQ := hid h.lenQ
 have HL : Hid (h.L = idL h.wide h.big h.o h.a ++ rowB h.big h.Q) := hid rfl
 unfold HPut
 generalize h.L = L at HL ⊢
 generalize h.Q = q at HR HAN HAW HLQ HL ⊢
 generalize u64s h.N = RN at HN HAN HSN HON
 generalize i64s (hRow h.wide) = RW at HAW HWi
 obtain ⟨wide, big, o, a, ty, ma, en, ph, sh, fl, pn, sn, st⟩ := h
 unfold Hd.V Hd.C idV at *
 simp only [] at *
 go_enter Tryz.func54, Tryz.ntmps54
 go_wp2_with fail
 generalize hW : World.alloc _ _ = W0
 obtain ⟨b1, bf, hg0⟩ := blk2 hW
 have HB1 := hid b1
 have HBF := hid bf
 have HG0 := hid hg0
 clear hW b1 bf hg0
 refine (HI.out W0).mono ?_
 rintro e w1 ⟨rfl, ob, hw1⟩
 have hg1 : Grow W0 w1 := by rw [hw1]; exact (Grow.of_alloc _ _).trans (Grow.of_alloc _ _)
 have HBB : Hid (Blk w1 (W0.heap.size + 1) 5 ((idL wide big o a).map byt).toArray) := by
  have := Blk.new (W0.alloc ob) 5 (idC wide big o a)
  rw [show (W0.alloc ob).heap.size = W0.heap.size + 1 by simp] at this
  rw [hw1]; exact this
 have HG1 : Hid (Grow w w1) := HG0.out.trans hg1
 have hb1 := (HB1.out.grow hg1).c13
 have HBF1 := hid (HBF.out.grow hg1)
 have HG5 : Hid (w.heap.size + 1 < W0.heap.size + 1) := Nat.succ_lt_succ (Nat.lt_of_lt_of_le (Nat.lt_succ_self _) (Nat.le_of_lt HBF.out.lt))
 generalize W0.heap.size + 1 = g5 at HBB HG5 ⊢
 clear hw1 hg1 HB1 HBF HG0
 obtain ⟨x0, x1, x2, x3, x4, x5, x6, x7, x8, x9, x10, x11, x12⟩ := hb1
 go_wp2_with fail
 clear x0 x1 x2 x3 x4 x5 x6 x7 x8 x9 x10 x11 x12
 refine (HN.out w1).mono ?_
 rintro e w2 ⟨rfl, hg2⟩
 have HG2 : Hid (Grow w w2) := HG1.out.trans hg2
 have HBB2 := hid (HBB.out.grow hg2)
 have HBF2 := hid (HBF1.out.grow hg2)
 clear hg2 HG1 HBB HBF1
 obtain ⟨y0, y1⟩ := (HBF2.out.alloc (.cells RN 140)).c2
 go_wp2_with (refine wpList_store_row rfl 140 (.tmp 6) (.tmp 16) rfl w2.heap.size RN rfl rfl _ _ (Blk.new _ _ _) (by rw [HSN.out]; kernel_rfl) (by rw [HSN.out]; rfl) HON.out ?_; rw [World.setRow_alloc_new])
 clear y0 y1
 refine (HWi.out _).mono ?_
 rintro e w3 ⟨rfl, hg3⟩
 have HBN := hid ((Blk.new w2 140 RN).grow hg3)
 have HBB3 := hid ((HBB2.out.alloc _).grow hg3)
 have HBF3 := hid ((HBF2.out.alloc _).grow hg3)
 have HG3 : Hid (Grow w w3) := (HG2.out.trans (Grow.of_alloc _ _)).trans hg3
 have HG6 : Hid (g5 < w2.heap.size) := HBB2.out.lt
 generalize w2.heap.size = g6 at HBN HG6 ⊢
 clear hg3 HG2 HBB2 HBF2
 go_wp2_with fail
 have HI0 : Hid (OB w3 w.heap.size 5 (some ⟨g5, 0, none⟩) 16 16 (idL wide big o a)) := OB.of_blk HBB3.out (by have := HG5.out; omega) (by simp [idL, maxLen])
 have HD : Hid (g5 ≠ w.heap.size + 1) := by have := HG5.out; exact hid (by omega)
 have HD6 : Hid (g5 ≠ g6) := by have := HG6.out; exact hid (by omega)
 have HLL : Hid ((idL wide big o a).length = 16) := hid rfl
 generalize idL wide big o a = I at HL HI0 HLL
 clear HBB3 HI HN HWi
 go_loopw [5, 19] (fun x i wr => ∃ (k : Nat) (A : Option Addr) (c : Nat), k ≤ 13 ∧ i = .int .i64 k ∧ x = .slice A (16 + (rowB big (q.take k)).length) c ∧ OB wr w.heap.size 5 A (16 + (rowB big (q.take k)).length) c (I ++ rowB big (q.take k)) ∧
  own A ≠ some (w.heap.size + 1) ∧ own A ≠ some g6 ∧ Blk wr (w.heap.size + 1) 23 #[.bool wide, .bool big] ∧ Blk wr g6 140 RN ∧ rowF (q.take k) = true ∧ Grow w wr) (fun _ i _ => 13 - (intOf i).toNat)
 case atStart => exact ⟨0, some ⟨g5, 0, none⟩, 16, by omega, rfl, rfl, by rw [List.take_zero, rowB, List.append_nil]; exact HI0.out, fun h => HD.out (by injection h), fun h => HD6.out (by injection h), HBF3.out, HBN.out, rfl, HG3.out⟩
 case round =>
  obtain ⟨k, A, c, hk, rfl, rfl, ho, hd1, hd2, hbf, hbn, hrf, hg⟩ := hrel
  have HO := hid ho
  have HD1 := hid hd1
  have HD2 := hid hd2
  have HBF := hid hbf
  have HBN2 := hid hbn
  have HRF := hid hrf
  have HG := hid hg
  clear ho hd1 hd2 hbf hbn hrf hg HI0 HBN HBF3 HG3
  by_cases hlt : k < 13
  ·have hkq : k < q.length := by rw [HLQ.out]; exact hlt
   have HB := hid (rowB_succ big q k hkq)
   have HF := hid (rowF_succ q k hkq)
   have HW := hid (HR.out.wide k hkq)
   have HZ := hid (fun h => rowF_false hkq h)
   have HLE := hid (rowB_le HR.out big k (by omega))
   have hv := HR.out.lt k hkq
   have hw8 := HR.out.wide8 k hkq
   have HK1 := hid (HAN.out k hkq)
   have HK2 := hid (HAW.out k hkq)
   rw [HRF.out, Bool.true_and] at HF
   generalize q[k].1 = v at HB HF HZ hv HK1
   generalize q[k].2 = m at HB HF HZ HW hw8 HK2
   have y1 : wr.cell? ⟨g6, k, none⟩ = some (.int .u64 (v : Int)) := (HBN2.out.at k).trans HK1.out
   have z1 : (0 : Int) ≤ (k : Int) := by omega
   have z2 : (k : Int) < 13 := by omega
   clear hkq
   go_wp2_with (refine wpList_index rfl 141 3 (.tmp 18) (.tmp 19) rfl 13 _ Tryz.underlying141 Tryz.underlying3 rfl (by kernel_rfl) RW k (.int .i64 (m : Int)) rfl rfl hlt HK2.out ?_)
   refine (fits_any v m _ (by omega) (by omega)).mono ?_
   rintro e w5 ⟨rfl, rfl⟩
   rw [fits_row v m HW.out]
   cases hfit : decide (v < 256 ^ m)
   ·have HZ2 := hid (HZ.out hfit)
    clear hfit
    go_wp2
    go_ret2
    exact .inr ⟨HZ2.out, rfl, HG.out⟩
   ·rw [hfit] at HF
    clear hfit HZ
    go_wp2_with fail
    clear y1
    refine wp_region_leap (leap_kept (fun j => j = w.heap.size + 1 ∨ j = g6)) [(0, true), (1, true), (2, true), (3, true), (4, true), (5, true), (6, true), (7, false), (8, false), (9, true)] (by kernel_rfl) (by kernel_rfl) (by kernel_rfl) ?_
    have HX : Hid (∀ W, Kept (fun j => j = w.heap.size + 1 ∨ j = g6) wr.drew W → (_ ∧ _) ∧ W.cell? ⟨g6, k, none⟩ = some (.int .u64 (v : Int))) := fun W hW =>
     ⟨(HBF.out.drew.kept hW (.inl rfl)).c2, ((HBN2.out.drew.kept hW (.inr rfl)).at k).trans HK1.out⟩
    have HO1 : Hid (OB wr.drew _ _ _ _ _ _) := HO.out
    have HBF1 := hid HBF.out.drew
    have HBN1 := hid HBN2.out.drew
    have HG1 : Hid (Grow w wr.drew) := HG.out.trans (Grow.of_drew _)
    generalize wr.drew = w6 at HX HO1 HBF1 HBN1 HG1 ⊢
    clear HO HBF HBN2 HG
    repeat (refine chain_take rfl (by rfl) ?_ (fun W hG => ?_) ?_; rotate_left; (obtain ⟨⟨q1, q2⟩, q3⟩ := HX.out W hG; go_simp; rfl); simp only [Act.put, List.setIfInBounds_toArray, List.set_cons_zero, List.set_cons_succ])
    clear HX
    refine chain_only rfl (by rfl) (fun K hK => ?_)
    go_simp
    refine (put_wide v m big _ HW.out (by omega)).mono ?_
    rintro e w7 ⟨A3, c3, rfl, ho3, hb3⟩
    refine hK _ _ (Kept.of_grow hb3) ?_
    clear hK K
    have HO3 := hid ho3
    have HO4 := hid (HO1.out.keep hb3)
    have HBF7 := hid (HBF1.out.grow hb3)
    have HBN7 := hid (HBN1.out.grow hb3)
    have HG7 : Hid (Grow w w7) := HG1.out.trans hb3
    clear ho3 hb3 HO1 HBF1 HBN1 HG1
    rw [Int.toNat_natCast] at HO3
    refine chain_only rfl (by rfl) (fun K hK => ?_)
    refine wp_appendS w7 (.tmp 30) (.tmp 37) 33 rfl w.heap.size 5 Tryz.underlying33 (by kernel_rfl) A _ c _ rfl HO4.out w7.heap.size A3 m c3 _ rfl HO3.out.rb (by have := HLE.out; omega) HG7.out.size ?_
    intro A5 c5 w8 ho5 hb5 hk5 hn5
    have HBF8 : Hid (Blk w8 (w.heap.size + 1) 23 #[.bool wide, .bool big]) := (hk5 _ HBF7.out.lt HD1.out).trans HBF7.out
    have HBN8 : Hid (Blk w8 g6 140 RN) := (hk5 _ HBN7.out.lt HD2.out).trans HBN7.out
    refine hK _ _ ⟨hb5.size, fun j hj hj2 => by
     rcases hj2 with rfl | rfl
     ·exact hk5 _ hj HD1.out
     ·exact hk5 _ hj HD2.out⟩ ?_
    clear hK K
    have HD1' : Hid (own A5 ≠ some (w.heap.size + 1)) := by
     rcases hn5 with e | e
     ·rw [e]; exact HD1
     ·rw [e]; have := HBF7.out.lt; exact fun h => by injection h; omega
    have HD2' : Hid (own A5 ≠ some g6) := by
     rcases hn5 with e | e
     ·rw [e]; exact HD2
     ·rw [e]; have := HBN7.out.lt; exact fun h => by injection h; omega
    have HG8 : Hid (Grow w w8) := HG7.out.trans' hb5
    rw [List.append_assoc, ← HB.out] at ho5
    have hm : 16 + (rowB big (q.take k)).length + m = 16 + (rowB big (q.take (k + 1))).length := by rw [HB.out, List.length_append, length_putB]; omega
    rw [hm] at ho5 ⊢
    have HO5 := hid ho5
    clear ho5 hb5 hk5 hn5 hm HO3 HO4 HG7 HBF7 HBN7
    repeat (refine chain_take rfl (by rfl) ?_ (fun W hG => ?_) ?_; rotate_left; (go_simp; rfl); simp only [Act.put, List.setIfInBounds_toArray, List.set_cons_zero, List.set_cons_succ])
    refine chain_done ?_
    go_wp2
    go_roundw
    case rel => exact ⟨k + 1, A5, c5, by omega, by go_num, rfl, HO5.out, HD1'.out, HD2'.out, HBF8.out, HBN8.out, HF.out, HG8.out⟩
    case measure => simp [intOf]; omega
  ·have HK : Hid (q.take k = q) := by
    have e : k = q.length := by rw [HLQ.out]; omega
    rw [e]
    exact List.take_length
   rw [HK.out] at HO HRF ⊢
   have HE : Hid (16 + (rowB big q).length = L.length) := by
    have := HLL.out
    rw [HL.out, List.length_append, this]
    exact hid rfl
   rw [HE.out, ← HL.out] at HO
   rw [HE.out]
   go_wp2
   go_ret2
   exact .inl ⟨HRF.out, A, c, rfl, HO.out, HG.out⟩
end Go.Proofs.YtfglppjilcaafaaGreatDoor
namespace Go.Proofs.YtfglppjilcaafaaGreatDoor
open Go.Lib (hid)
open Go.RowKit
theorem Hd.lenL (h : Hd) : h.L.length = hSize h.wide := by
 rw [Hd.L, List.length_append, length_rowB, ← sum_hRow h.wide]
 rfl
theorem wide_idL (wide big : Bool) (o a : UInt8) (r : List UInt8) : lWide (idL wide big o a ++ r) = wide := by cases wide <;> rfl
theorem big_idL (wide big : Bool) (o a : UInt8) (r : List UInt8) : lBig (idL wide big o a ++ r) = big := by cases big <;> rfl
theorem clean_idL (wide big : Bool) (o a : UInt8) (r : List UInt8) : Clean (idL wide big o a ++ r) 7 := clean_of fun j hj hlt => by
 rw [List.getElem_append_left (by simp [idL]; omega), List.getD_eq_getElem?_getD, List.getElem?_eq_getElem (by simp [idL]; omega)]
 rfl
theorem hdX_put (h : Hd) (hf : rowF h.Q = true) (r : List UInt8) : hdX (h.L ++ r) = h.N := by
 have e := nums_rowB h.big r h.Q (idL h.wide h.big h.o h.a) hf
 unfold hdX
 rw [Hd.L, List.append_assoc, wide_idL, big_idL, ← List.append_assoc]
 exact e
theorem hdOf_put (h : Hd) (hf : rowF h.Q = true) (r : List UInt8) : hdOf (h.L ++ r) = h := by
 have e := hdX_put h hf r
 unfold hdOf
 rw [e, Hd.L, List.append_assoc, wide_idL, big_idL]
 rfl
theorem put_told (h : Hd) (hf : rowF h.Q = true) (r : List UInt8) : HTold (h.L ++ r) 0 0 h.V := by
 have e1 := hdX_put h hf r
 have e2 := hdOf_put h hf r
 have hl := h.lenL
 have hs : lWide (h.L ++ r) = h.wide := by rw [Hd.L, List.append_assoc, wide_idL]
 have h16 : 16 ≤ hSize h.wide := by cases h.wide <;> decide
 have ht : Told (h.L ++ r) 0 0 := .inl ⟨rfl, rfl, by rw [Hd.L, List.append_assoc]; exact clean_idL _ _ _ _ _, by rw [List.length_append]; omega⟩
 refine .inr ⟨ht, .inr (.inl ⟨by rw [hs, List.length_append]; omega, fun j _ hb => ?_, rfl, rfl⟩), by rw [e2]; rfl⟩
 unfold HBad at hb
 rw [e1, e2] at hb
 exact hb.1 rfl
end Go.Proofs.YtfglppjilcaafaaGreatDoor
namespace Go.Proofs.YtfglppjilcaafaaGreatDoor
open Go.Lib (hid)
open Go.RowKit
set_option linter.unusedVariables false
namespace Md
variable (m : Md)
def hd : Hd := ⟨m.wide, m.big, UInt8.ofNat m.osabi, UInt8.ofNat m.abi, m.typ, m.mach, m.entry, m.phoff, m.shoff, m.flags, m.segs.length, if 0 < m.secs.length then m.secs.length + 1 else 0, m.str.toNat⟩
def pg (k : Nat) : Pg := ⟨(m.sg k).typ, (m.sg k).flags, m.P2 k, (m.sg k).vaddr, (m.sg k).paddr, (m.sg k).pl.size, (m.sg k).memsz, (m.sg k).align⟩
def sc (k : Nat) : Sc := ⟨(m.se k).name, (m.se k).typ, (m.se k).flags, (m.se k).addr, m.P3 k, (m.se k).size, (m.se k).link, (m.se k).info, (m.se k).align, (m.se k).entsize⟩
end Md
structure Good (m : Md) : Prop where
 ok : m.Ok
 plan : m.planC = 0
 own1 : ∀ s ∈ m.segs, s.pl.own.length ≤ maxLen
 own2 : ∀ s ∈ m.secs, s.pl.own.length ≤ maxLen
section
variable {m : Md}
theorem Good.planned (h : Good m) : Planned m := planned_of h.ok h.plan h.own1 h.own2
theorem Good.chk (h : Good m) : m.chk = 0 := by
 have := h.plan
 unfold Md.planC at this
 split at this
 ·omega
 ·omega
theorem Good.eT (h : Good m) : m.eT ≤ 65536 := h.planned.fits
theorem Good.n1 (h : Good m) : m.segs.length ≤ 16 := h.planned.ok.n1
theorem Good.n2 (h : Good m) : m.secs.length ≤ 64 := h.planned.ok.n2
theorem Good.fits (h : Good m) : m.fits = true := by
 have := h.chk
 unfold Md.chk at this
 split at this
 ·omega
 split at this
 ·omega
 ·rename_i h1
  simpa using h1
theorem Good.nums (h : Good m) : ∀ v ∈ m.nums, v < 256 ^ byWide m.wide 4 8 := fun v hv => by
 have := List.all_eq_true.1 h.fits v hv
 unfold fitW at this
 simpa using this
theorem Good.entry (h : Good m) : m.entry < 256 ^ byWide m.wide 4 8 := h.nums _ (by simp [Md.nums])
theorem Good.segNum (h : Good m) {k : Nat} (hk : k < m.segs.length) : ∀ v ∈ (m.sg k).nums, v < 256 ^ byWide m.wide 4 8 := fun v hv => h.nums _ (by
 unfold Md.nums
 exact List.mem_cons_of_mem _ (List.mem_append_left _ (List.mem_flatMap.2 ⟨_, m.sg_mem hk, hv⟩)))
theorem Good.secNum (h : Good m) {k : Nat} (hk : k < m.secs.length) : ∀ v ∈ (m.se k).nums, v < 256 ^ byWide m.wide 4 8 := fun v hv => h.nums _ (by
 unfold Md.nums
 exact List.mem_cons_of_mem _ (List.mem_append_right _ (List.mem_flatMap.2 ⟨_, m.se_mem hk, hv⟩)))
theorem Good.segMay (h : Good m) {k : Nat} (hk : k < m.segs.length) : m.may (m.sg k).pl = true := Md.segC_may ((Md.chk_zero h.chk).1 _ (m.sg_mem hk))
theorem Good.secMay (h : Good m) {k : Nat} (hk : k < m.secs.length) : m.may (m.se k).pl = true ∧ (m.se k).pl.size = (m.se k).held := Md.secC_zero ((Md.chk_zero h.chk).2.2 _ (m.se_mem hk))
theorem Good.str (h : Good m) : 0 ≤ m.str ∧ m.str ≤ m.secs.length := by
 have hc := h.chk
 unfold Md.chk at hc
 split at hc
 ·omega
 split at hc
 ·omega
 split at hc
 ·omega
 split at hc
 ·omega
 ·unfold Md.namesC at hc
  split at hc
  ·omega
  split at hc
  ·omega
  ·omega
theorem may_own_len {p : Pl} (h : m.may p = true) (hi : p.inn = -1) : p.off = 0 ∧ p.own.length = p.size := by
 rw [may_own hi] at h
 unfold Pl.ownMay at h
 simp at h
 exact ⟨h.1, h.2.symm⟩
theorem may_in_is {p : Pl} (h : m.may p = true) (hi : p.inn ≠ -1) : p.own = [] ∧ 0 < p.size ∧ ∃ i : Nat, p.inn = (i : Int) ∧ i < m.segs.length ∧ (m.sg i).typ = 1 ∧ p.off + p.size ≤ (m.sg i).pl.own.length := by
 rw [may_in hi] at h
 simp only [Bool.and_eq_true, decide_eq_true_eq] at h
 obtain ⟨⟨h1, h2⟩, h3⟩ := h
 obtain ⟨i, hi, hil⟩ := isSegN_true h1
 rw [hi, m.seg_sg] at h2 h3
 unfold Pl.inMay Pl.within at h3
 simp at h3
 exact ⟨h3.1.1, h3.1.2, i, hi, hil, h2, h3.2⟩
theorem Good.load_len (h : Good m) {k : Nat} (hk : k < m.segs.length) (ht : (m.sg k).typ = 1) : (m.sg k).pl.inn = -1 ∧ (m.sg k).pl.own.length = (m.sg k).pl.size := by
 have a := h.planned.load k hk ht
 exact ⟨a, (may_own_len (h.segMay hk) a).2⟩
theorem Good.seg_at (h : Good m) {k : Nat} (hk : k < m.segs.length) : m.P2 k + (m.sg k).pl.size ≤ m.eT ∧ (m.sg k).pl.own.length ≤ (m.sg k).pl.size ∧ ((m.sg k).pl.own ≠ [] → (m.sg k).pl.inn = -1) := by
 have P := h.planned
 have ho := P.order
 by_cases hi : (m.sg k).pl.inn = -1
 ·have hl := (may_own_len (h.segMay hk) hi).2
  refine ⟨?_, by omega, fun _ => hi⟩
  by_cases ht : (m.sg k).typ = 1
  ·have a := P.load_at hk ht
   have b := P.eL_in (k := k + 1) hk
   omega
  ·have a := P.other_at hk ht hi
   have b := P.eO_in (k := k + 1) hk
   omega
 ·obtain ⟨q1, q2, i, q3, q4, q5, q6⟩ := may_in_is (h.segMay hk) hi
  obtain ⟨_, i', r1, r2, r3, r4⟩ := P.seg_in hk hi
  have e : i = i' := by omega
  subst e
  have a := P.load_at q4 q5
  have b := P.eL_in (k := i + 1) q4
  have c := h.load_len q4 q5
  refine ⟨by omega, by rw [q1]; simp, fun hne => absurd q1 hne⟩
theorem Good.sec_at (h : Good m) {k : Nat} (hk : k < m.secs.length) : m.P3 k + (m.se k).pl.size ≤ m.eT ∧ (m.se k).pl.own.length ≤ (m.se k).pl.size ∧ ((m.se k).pl.own ≠ [] → (m.se k).pl.inn = -1) := by
 have P := h.planned
 have ho := P.order
 by_cases hi : (m.se k).pl.inn = -1
 ·have hl := (may_own_len (h.secMay hk).1 hi).2
  refine ⟨?_, by omega, fun _ => hi⟩
  have a := P.sec_at hk hi
  have b : m.eS (k + 1) ≤ m.eS m.secs.length := mono_of (m.eS_step P.ok.n1) hk
  omega
 ·obtain ⟨q1, q2, i, q3, q4, q5, q6⟩ := may_in_is (h.secMay hk).1 hi
  obtain ⟨i', r1, r2, r3, r4⟩ := P.sec_in hk hi
  have e : i = i' := by omega
  subst e
  have a := P.load_at q4 q5
  have b := P.eL_in (k := i + 1) q4
  have c := h.load_len q4 q5
  refine ⟨by omega, by rw [q1]; simp, fun hne => absurd q1 hne⟩
theorem pow48 (wide : Bool) : 4294967296 ≤ 256 ^ byWide wide 4 8 ∧ 256 ^ byWide wide 4 8 ≤ 18446744073709551616 := by cases wide <;> decide
theorem Good.phoff_le (h : Good m) : m.phoff ≤ 64 := by
 unfold Md.phoff hSize byWide
 split
 ·split <;> omega
 ·omega
theorem Good.shoff_le (h : Good m) : m.shoff ≤ 65536 := by
 have hf := h.eT
 unfold Md.shoff
 split
 ·rename_i h0
  have e : m.eT = fin (m.eS m.secs.length) 0 8 (byWide m.wide 40 64 * (m.secs.length + 1)) := by unfold Md.eT; rw [if_pos h0]
  have hin := fin_in (e := m.eS m.secs.length) (v := 0) (a := 8) (n := byWide m.wide 40 64 * (m.secs.length + 1)) (by rw [← e]; exact hf)
  omega
 ·omega
theorem u8_of (x : Nat) (h : x < 256) : (UInt8.ofNat x).toNat = x := by rw [UInt8.toNat_ofNat', Nat.mod_eq_of_lt h]
theorem Good.hdOk (h : Good m) : m.hd.Ok := by
 have h1 := h.phoff_le
 have h2 := h.shoff_le
 have h3 := h.n1
 have h4 := h.n2
 have h5 := h.str
 refine ⟨h.ok.typ, h.ok.mach, h.ok.entry, ?_, ?_, h.ok.flags, ?_, ?_, ?_⟩
 ·show m.phoff < _; omega
 ·show m.shoff < _; omega
 ·show m.segs.length < _; omega
 ·show (if 0 < m.secs.length then m.secs.length + 1 else 0) < _; split <;> omega
 ·show m.str.toNat < _; omega
theorem Good.hdFits (h : Good m) : rowF m.hd.Q = true := by
 have h1 := h.phoff_le
 have h2 := h.shoff_le
 have h3 := h.n1
 have h4 := h.n2
 have h5 := h.str
 have h6 := h.entry
 have h7 := pow48 m.wide
 have ok := h.hdOk
 have k1 : hSize m.wide ≤ 64 := hSize_le _
 have k2 := ifSome_le ((m.hd.pn : Int) != 0) (byWide m.wide 32 56)
 have k3 := ifSome_le ((m.hd.sh : Int) != 0) (byWide m.wide 40 64)
 have k4 : byWide m.wide 32 56 ≤ 56 := by unfold byWide; split <;> omega
 have k5 : byWide m.wide 40 64 ≤ 64 := by unfold byWide; split <;> omega
 have e1 : (256 : Nat) ^ 2 = 65536 := by decide
 have e2 : (256 : Nat) ^ 4 = 4294967296 := by decide
 have p1 : m.hd.ph ≤ 64 := h1
 have p2 : m.hd.sh ≤ 65536 := h2
 have p3 : m.hd.en < 256 ^ byWide m.wide 4 8 := h6
 have ew : m.hd.wide = m.wide := rfl
 obtain ⟨o1, o2, o3, o4, o5, o6, o7, o8, o9⟩ := ok
 unfold Hd.Q Hd.N hRow
 rw [ew]
 generalize m.hd = H at *
 simp only [List.zip_cons_cons, List.zip_nil_right, rowF, Bool.and_true, Bool.and_eq_true, decide_eq_true_eq, e1, e2]
 generalize 256 ^ byWide m.wide 4 8 = W at *
 omega
end
end Go.Proofs.YtfglppjilcaafaaGreatDoor
