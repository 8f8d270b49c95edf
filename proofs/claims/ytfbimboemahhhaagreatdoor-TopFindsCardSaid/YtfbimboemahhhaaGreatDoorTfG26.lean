/-
  Several texts in one: The contract of image; Bytes laid piece by piece; What was put is got, and what is got, put, is those bytes, in plain words; What was put is got, and what is got, put, is those bytes, in plain words.
-/
import Derived.Test.YtfbimboemahhhaaGreatDoorTfG23
import Derived.Test.YtfbimboemahhhaaGreatDoorTfG25
import Derived.Test.YtfbimboemahhhaaGreatDoorTfG14
import Derived.Test.YtfbimboemahhhaaGreatDoorTfG22
namespace Go.Proofs.YtfbimboemahhhaaGreatDoor
open Go.Lib (hid)
open Go.RowKit
set_option maxRecDepth 100000
set_option linter.unusedVariables false
def FileR (l : List UInt8) (w : World) (e : Ending) (w' : World) : Prop :=
 (Img l ∧ ∃ A c, e = .returned (.tuple #[.agg (imC (hdOf l).en (.slice A (imL l).length c)), .nilIface]) ∧ GR rgK w' w.heap.size 144 A (imL l).length c (imL l) ∧ Grow w w') ∨
 (¬ Img l ∧ e = .returned (.tuple #[.agg (imC 0 (.slice none 0 0)), .iface 86 (.int .i64 4)]) ∧ Grow w w')
theorem if_ret {K : Ending → World → Prop} {W : World} {tmps : Array Value} {g : Nat} {ev a b : Value} (ht : tmps.getD 2 undef = .pointer (some ⟨g, 0, none⟩)) (he : tmps.getD 3 undef = ev)
  (hx : Blk W g 73 #[a, b]) (hk : K (.returned (.tuple #[.agg #[a, b], ev])) W) : bodyPost Tryz.prog Tryz.f16 K .ret ⟨tmps, []⟩ W := by
 refine bodyPost_ret (v := .tuple #[.agg #[a, b], ev]) ?_ rfl hk
 rw [results_cell_tmp rfl, ht, he]
 simp [asAddr, Result.andThen, hx.var _ _ Tryz.underlying73 rfl (by kernel_rfl)]
set_option maxHeartbeats 8000000 in
theorem imFile_any (l : List UInt8) (A : Option Addr) (n c : Nat) (w : World) (hr : RB w w.heap.size A n c l) (hn : n ≤ 140737488355328) :
  Calls Tryz.prog 16 #[.slice A n c] w (FileR l w) := by
 have HGe := hid (fun W (hW : Grow w W) => hGet_any A n c l W (hr.grow hW))
 have HHd := hid (fun W (hW : Grow w W) => imHeaders_any l A n c W (hr.grow hW))
 have HPn : (hdOf l).pn < 65536 := (hdOf_ok l).pn
 have HLd := hid (fun (A1 : Option Addr) (c1 : Nat) W (hW : Grow w W) hz => imLoaded_any l A n c (hdOf l).en A1 (hdOf l).pn c1 W (hr.grow hW) hz (by omega) hn)
 have HNz : Hid (∀ c p v, HTold l c p v → c ≠ 0 → ¬ Img l ∧ v = hd0.V) := hid fun c p v h hc => ⟨fun hi => hc (h.one hi.1).1, h.not hc⟩
 have HZe : Hid (∀ p v, HTold l 0 p v → v = (hdOf l).V) := hid fun p v h => (h.zero rfl).2
 have HYe : Hid (∀ p v, HTold l 0 p v → (Img l ↔ (hdOf l).pn ≠ 65535 ∧ ImIn l ∧ OwnIn l (hdOf l).pn)) := hid fun p v h => by
  obtain ⟨rfl, rfl⟩ := h.zero rfl
  exact ⟨fun hi => hi.2, fun hi => ⟨h, hi⟩⟩
 have HIm : Hid (fImg l (hdOf l).pn = imL l) := hid rfl
 unfold HGot at HGe
 unfold HdsR at HHd
 unfold LdR at HLd
 unfold FileR imC
 unfold imC at HLd
 clear hr hn
 obtain ⟨x0, x1, x2, x3, x4, x5, x7, x8, x9, x11, x12, hC, hO⟩ : ∃ x0 x1 x2 x3 x4 x5 x7 x8 x9 x11 x12 : Value, (hdOf l).V = .agg #[x0, x1, x2, x3, x4, x5, .int .u64 ((hdOf l).en : Nat), x7, x8, x9, .int .u16 ((hdOf l).pn : Nat), x11, x12] ∧ (#[x0, x1, x2, x3, x4, x5, .int .u64 ((hdOf l).en : Nat), x7, x8, x9, .int .u16 ((hdOf l).pn : Nat), x11, x12] : Array Value).all (·.oneCell') = true := ⟨_, _, _, _, _, _, _, _, _, _, _, rfl, (hdOf l).one⟩
 have HO := hid hO
 clear hO
 rw [hC] at HZe HHd
 clear hC
 rw [HIm.out] at HLd
 generalize imL l = IM at *
 generalize (hdOf l).en = en at *
 generalize (hdOf l).pn = P at *
 generalize Img l = IG at *
 generalize ImIn l = II at *
 generalize OwnIn l P = OI at *
 generalize pgR l P = PR at *
 go_enter Tryz.func16, Tryz.ntmps16
 go_wp2_with fail
 generalize hW : World.alloc _ _ = W0
 obtain ⟨b1, hg0⟩ := blk1 hW
 clear hW
 have HZ := hid b1
 have HG := hid hg0
 have HG2 : Hid (w.heap.size ≤ w.heap.size) := hid (Nat.le_refl _)
 clear b1 hg0
 refine (HGe.out _ HG.out).mono ?_
 rintro e w1 ⟨cc, p, v, err, rfl, ht, he, hg⟩
 have HZ1 := hid (HZ.out.grow hg)
 have HG1 : Hid (Grow w w1) := hid (HG.out.trans hg)
 clear hg HZ HG HGe
 by_cases h0 : cc = 0
 ·subst h0
  have e0 := he.nil
  subst e0
  have e1 := HZe.out p v ht
  have HY := hid (HYe.out p v ht)
  subst e1
  clear ht he HZe HYe HNz
  go_wp2_with (refine wpList_store_row rfl 110 (.tmp 4) (.tmp 10) rfl w1.heap.size _ rfl rfl _ _ (Blk.new _ _ _) (by kernel_rfl) rfl HO.out ?_; rw [World.setRow_alloc_new]; refine Hid.out ?_)
  generalize hW : World.alloc _ _ = W2
  obtain ⟨b4, hg⟩ := blk1 hW
  clear hW
  have HB2 := hid b4
  have HZ2 := hid (HZ1.out.grow hg)
  have HG2 : Hid (Grow w W2) := hid (HG1.out.trans hg)
  clear b4 hg HZ1 HG1
  generalize w1.heap.size = g4 at HB2 ⊢
  refine hid ?_
  have c10 := HB2.out.at 10
  by_cases hp : P = 65535
  ·have d1 : ((P : Int) == 65535) = true := by simp [hp]
   have HNo : Hid (¬ IG) := hid (by rw [HY.out]; exact fun h => h.1 hp)
   clear hp
   go_wp2_with (refine wpList_store_row rfl 73 (.tmp 2) (.tmp 19) rfl w.heap.size #[.int .u64 0, .slice none 0 0] rfl rfl _ _ HZ2.out (by kernel_rfl) rfl (by simp [Value.oneCell']) ?_)
   refine if_ret (by rfl) (by rfl) (HZ2.out.set _) ?_
   exact .inr ⟨HNo.out, rfl, Grow.set HG2.out (Nat.le_refl _) _⟩
  ·have d1 : ((P : Int) == 65535) = false := by simp; omega
   have HP := hid hp
   clear hp
   go_wp2_with (refine wpList_load_row rfl 110 (.tmp 4) rfl g4 rfl _ _ (0, 0) _ HB2.out Tryz.underlying110 rfl (by kernel_rfl) ?_)
   clear c10
   refine (HHd.out _ HG2.out).mono ?_
   rintro e w3 (⟨hi, A1, c1, rfl, hzs, hg⟩ | ⟨hi, rfl, hg⟩)
   ·have HZ3 := hid (HZ2.out.grow hg)
    have HG3 : Hid (Grow w w3) := hid (HG2.out.trans hg)
    have HB3 := hid (HB2.out.grow hg)
    have HLk := hid (HLd.out A1 c1 w3 HG3.out hzs)
    have HI := hid hi
    clear hg HZ2 HG2 HB2 hzs hi HLd HHd
    have c6 := HB3.out.at 6
    go_wp2_with fail
    clear c6
    refine HLk.out.mono ?_
    rintro e w4 (⟨ho, A2, c2, rfl, hgr, hg⟩ | ⟨ho, rfl, hg⟩)
    ·have HZ4 := hid (HZ3.out.grow hg)
     have HG4 : Hid (Grow w w4) := hid (HG3.out.trans hg)
     have HR4 : Hid (GR rgK w4 (w.heap.size + 1) 144 A2 IM.length c2 IM) := hid (hgr.mono HZ3.out.lt)
     have HYs : Hid IG := hid (HY.out.2 ⟨HP.out, HI.out, ho⟩)
     clear hg HZ3 HG3 hgr ho HLk
     go_wp2_with (refine wpList_store_row rfl 73 (.tmp 2) (.tmp 36) rfl w.heap.size _ rfl rfl _ _ HZ4.out (by kernel_rfl) rfl (by simp [Value.oneCell']) ?_)
     refine if_ret (by rfl) (by rfl) (HZ4.out.set _) ?_
     exact .inl ⟨HYs.out, A2, c2, rfl, (HR4.out.set (Nat.lt_succ_self _) _).mono (Nat.le_succ _), Grow.set HG4.out (Nat.le_refl _) _⟩
    ·have HZ4 := hid (HZ3.out.grow hg)
     have HG4 : Hid (Grow w w4) := hid (HG3.out.trans hg)
     have HNo : Hid (¬ IG) := hid (by rw [HY.out]; exact fun h => ho h.2.2)
     clear hg HZ3 HG3 ho HLk
     go_wp2_with (refine wpList_store_row rfl 73 (.tmp 2) (.tmp 36) rfl w.heap.size _ rfl rfl _ _ HZ4.out (by kernel_rfl) rfl (by simp [Value.oneCell']) ?_)
     refine if_ret (by rfl) (by rfl) (HZ4.out.set _) ?_
     exact .inr ⟨HNo.out, rfl, Grow.set HG4.out (Nat.le_refl _) _⟩
   ·have HZ3 := hid (HZ2.out.grow hg)
    have HG3 : Hid (Grow w w3) := hid (HG2.out.trans hg)
    have HNo : Hid (¬ IG) := hid (by rw [HY.out]; exact fun h => hi h.2.1)
    clear hg HZ2 HG2 HB2 hi HLd HHd
    go_wp2_with (refine wpList_store_row rfl 73 (.tmp 2) (.tmp 29) rfl w.heap.size #[.int .u64 0, .slice none 0 0] rfl rfl _ _ HZ3.out (by kernel_rfl) rfl (by simp [Value.oneCell']) ?_)
    refine if_ret (by rfl) (by rfl) (HZ3.out.set _) ?_
    exact .inr ⟨HNo.out, rfl, Grow.set HG3.out (Nat.le_refl _) _⟩
 ·obtain ⟨hno, rfl⟩ := HNz.out cc p v ht h0
  have HNo := hid hno
  obtain ⟨_, bb, rfl, _⟩ : 0 < cc ∧ ∃ b, err = .iface 126 (.pointer (some ⟨b, 0, none⟩)) ∧ True := by
   rcases he with ⟨h, _⟩ | ⟨h1, b, h2, _⟩
   ·exact absurd h h0
   ·exact ⟨h1, b, h2, trivial⟩
  clear ht he h0 HYe HZe HNz hno HHd HLd
  unfold hd0 Hd.V Hd.C
  simp only []
  go_wp2_with (first | (refine wpList_store_row rfl 73 (.tmp 2) (.tmp 19) rfl w.heap.size #[.int .u64 0, .slice none 0 0] rfl rfl _ _ (HZ1.out.grow (Grow.of_alloc _ _)) (by kernel_rfl) rfl (by simp [Value.oneCell']) ?_))
  refine if_ret (by rfl) (by rfl) ((HZ1.out.grow (Grow.of_alloc _ _)).set _) ?_
  exact .inr ⟨HNo.out, rfl, Grow.set (HG1.out.trans (Grow.of_alloc _ _)) (Nat.le_refl _) _⟩
set_option linter.unusedVariables false
def put (b : List UInt8) (p : Nat) (x : List UInt8) : List UInt8 := b.take p ++ x ++ b.drop (p + x.length)
theorem put_len {b x : List UInt8} {p : Nat} (h : p + x.length ≤ b.length) : (put b p x).length = b.length := by
 unfold put
 simp only [List.length_append, List.length_take, List.length_drop]
 omega
theorem put_get {b x : List UInt8} {p : Nat} (h : p + x.length ≤ b.length) (j : Nat) : (put b p x)[j]? = if p ≤ j ∧ j < p + x.length then x[j - p]? else b[j]? := by
 unfold put
 have hl : (b.take p).length = p := by rw [List.length_take]; omega
 rcases Nat.lt_or_ge j p with h1 | h1
 ·rw [if_neg (by omega), List.append_assoc, List.getElem?_append_left (by omega), List.getElem?_take_of_lt h1]
 ·rcases Nat.lt_or_ge j (p + x.length) with h2 | h2
  ·rw [if_pos ⟨h1, h2⟩, List.append_assoc, List.getElem?_append_right (by omega), hl, List.getElem?_append_left (by omega)]
  ·rw [if_neg (by omega), List.getElem?_append_right (by rw [List.length_append, hl]; omega), List.length_append, hl, List.getElem?_drop, show p + x.length + (j - (p + x.length)) = j by omega]
def Off (p : Nat) (x : List UInt8) (q : Nat) (y : List UInt8) : Prop := (p = q ∧ x = y) ∨ x.length = 0 ∨ y.length = 0 ∨ p + x.length ≤ q ∨ q + y.length ≤ p
theorem Off.symm {p q : Nat} {x y : List UInt8} (h : Off p x q y) : Off q y p x := by
 rcases h with ⟨h1, h2⟩ | h | h | h | h
 ·exact .inl ⟨h1.symm, h2.symm⟩
 ·exact .inr (.inr (.inl h))
 ·exact .inr (.inl h)
 ·exact .inr (.inr (.inr (.inr h)))
 ·exact .inr (.inr (.inr (.inl h)))
def Laid (S : Nat → List UInt8 → Prop) (b : List UInt8) : Prop :=
 (∀ p x, S p x → ∀ j, j < x.length → b[p + j]? = x[j]?) ∧ ∀ j, j < b.length → (∀ p x, S p x → ¬(p ≤ j ∧ j < p + x.length)) → b[j]? = some 0
theorem Laid.none (n : Nat) : Laid (fun _ _ => False) (List.replicate n 0) := ⟨fun _ _ h => h.elim, fun j hj _ => by rw [List.length_replicate] at hj; rw [List.getElem?_replicate, if_pos hj]⟩
theorem Laid.put {S T : Nat → List UInt8 → Prop} {b x : List UInt8} {p : Nat} (h : Laid S b) (e : ∀ q y, T q y ↔ S q y ∨ (q = p ∧ y = x)) (ho : ∀ q y, S q y → Off q y p x) (hl : p + x.length ≤ b.length) : Laid T (put b p x) := by
 refine ⟨fun q y ht j hj => ?_, fun j hj hn => ?_⟩
 ·rw [put_get hl]
  rcases (e q y).1 ht with hs | ⟨rfl, rfl⟩
  ·split
   ·rename_i hin
    rcases ho q y hs with ⟨rfl, rfl⟩ | h1 | h1 | h1 | h1
    ·congr 1; omega
    ·omega
    ·omega
    ·omega
    ·omega
   ·exact h.1 q y hs j hj
  ·rw [if_pos (by omega)]
   congr 1; omega
 ·rw [put_len hl] at hj
  rw [put_get hl, if_neg (hn p x ((e p x).2 (.inr ⟨rfl, rfl⟩)))]
  exact h.2 j hj fun q y hs => hn q y ((e q y).2 (.inl hs))
theorem Laid.read {S : Nat → List UInt8 → Prop} {b x : List UInt8} {p : Nat} (h : Laid S b) (hs : S p x) : (b.drop p).take x.length = x := by
 apply List.ext_getElem?
 intro j
 rcases Nat.lt_or_ge j x.length with hj | hj
 ·rw [List.getElem?_take_of_lt hj, List.getElem?_drop, h.1 p x hs j hj]
 ·rw [List.getElem?_take_eq_none hj, List.getElem?_eq_none hj]
def Stg (m : Md) (a b c d : Nat) (p : Nat) (x : List UInt8) : Prop :=
 (p = 0 ∧ x = m.hd.L) ∨ (∃ k, k < a ∧ p = m.phoff + k * pSize m.wide ∧ x = (m.pg k).L m.wide m.big) ∨ (∃ k, k < b ∧ p = m.P2 k ∧ x = (m.sg k).pl.own) ∨
 (∃ k, k < c ∧ p = m.P3 k ∧ x = (m.se k).pl.own) ∨ (∃ k, k < d ∧ p = m.shoff + (k + 1) * sSize m.wide ∧ x = (m.sc k).L m.wide m.big)
theorem Stg.head (m : Md) (a b c d : Nat) : Stg m a b c d 0 m.hd.L := .inl ⟨rfl, rfl⟩
theorem Stg.mono {m : Md} {a b c d a' b' c' d' p : Nat} {x : List UInt8} (h : Stg m a b c d p x) (h1 : a ≤ a') (h2 : b ≤ b') (h3 : c ≤ c') (h4 : d ≤ d') : Stg m a' b' c' d' p x := by
 rcases h with h | ⟨k, hk, h⟩ | ⟨k, hk, h⟩ | ⟨k, hk, h⟩ | ⟨k, hk, h⟩
 ·exact .inl h
 ·exact .inr (.inl ⟨k, by omega, h⟩)
 ·exact .inr (.inr (.inl ⟨k, by omega, h⟩))
 ·exact .inr (.inr (.inr (.inl ⟨k, by omega, h⟩)))
 ·exact .inr (.inr (.inr (.inr ⟨k, by omega, h⟩)))
theorem ex_succ {P : Nat → Prop} {n : Nat} : (∃ k, k < n + 1 ∧ P k) ↔ (∃ k, k < n ∧ P k) ∨ P n := by
 constructor
 ·rintro ⟨k, hk, h⟩
  rcases Nat.lt_or_ge k n with h1 | h1
  ·exact .inl ⟨k, h1, h⟩
  ·exact .inr (by rwa [show n = k by omega])
 ·rintro (⟨k, hk, h⟩ | h)
  ·exact ⟨k, by omega, h⟩
  ·exact ⟨n, by omega, h⟩
theorem Stg.a1 (m : Md) (a b c d : Nat) (p : Nat) (x : List UInt8) : Stg m (a + 1) b c d p x ↔ Stg m a b c d p x ∨ (p = m.phoff + a * pSize m.wide ∧ x = (m.pg a).L m.wide m.big) := by
 unfold Stg
 rw [ex_succ]
 simp only [or_assoc, or_comm, or_left_comm]
theorem Stg.b1 (m : Md) (a b c d : Nat) (p : Nat) (x : List UInt8) : Stg m a (b + 1) c d p x ↔ Stg m a b c d p x ∨ (p = m.P2 b ∧ x = (m.sg b).pl.own) := by
 unfold Stg
 rw [ex_succ]
 simp only [or_assoc, or_comm, or_left_comm]
theorem Stg.c1 (m : Md) (a b c d : Nat) (p : Nat) (x : List UInt8) : Stg m a b (c + 1) d p x ↔ Stg m a b c d p x ∨ (p = m.P3 c ∧ x = (m.se c).pl.own) := by
 unfold Stg
 rw [ex_succ]
 simp only [or_assoc, or_comm, or_left_comm]
theorem Stg.d1 (m : Md) (a b c d : Nat) (p : Nat) (x : List UInt8) : Stg m a b c (d + 1) p x ↔ Stg m a b c d p x ∨ (p = m.shoff + (d + 1) * sSize m.wide ∧ x = (m.sc d).L m.wide m.big) := by
 unfold Stg
 rw [ex_succ]
 simp only [or_assoc, or_comm, or_left_comm]
section
variable {m : Md}
theorem shoff_is (h : Good m) (h0 : 0 < m.secs.length) : m.eS m.secs.length ≤ m.shoff ∧ m.shoff + sSize m.wide * (m.secs.length + 1) = m.eT := by
 have hf := h.eT
 have e : m.eT = fin (m.eS m.secs.length) 0 8 (byWide m.wide 40 64 * (m.secs.length + 1)) := by unfold Md.eT; rw [if_pos h0]
 have e2 : m.shoff = plc (m.eS m.secs.length) 0 8 := by unfold Md.shoff; rw [if_pos h0]
 have hin := fin_in (e := m.eS m.secs.length) (v := 0) (a := 8) (n := byWide m.wide 40 64 * (m.secs.length + 1)) (by rw [← e]; exact hf)
 rw [e, e2]
 exact ⟨hin.2.2.2, hin.2.2.1⟩
theorem phoff_is (h : Good m) (h0 : 0 < m.segs.length) : m.phoff = hSize m.wide ∧ m.phoff + pSize m.wide * m.segs.length = m.e1 := by
 unfold Md.phoff Md.e1 pSize
 rw [if_pos h0]
 exact ⟨rfl, rfl⟩
theorem mul_step {k n z : Nat} (h : k < n) : k * z + z ≤ n * z := by
 have := Nat.mul_le_mul_right z (show k + 1 ≤ n from h)
 rw [Nat.succ_mul] at this
 exact this
theorem Good.z1 (h : Good m) {k : Nat} (hk : k < m.segs.length) : hSize m.wide ≤ m.phoff + k * pSize m.wide ∧ m.phoff + k * pSize m.wide + ((m.pg k).L m.wide m.big).length ≤ m.e1 := by
 obtain ⟨h1, h2⟩ := phoff_is h (by omega)
 have := mul_step (z := pSize m.wide) hk
 rw [Nat.mul_comm] at h2
 rw [Pg.lenL]
 omega
theorem Good.z2 (h : Good m) {k : Nat} (hk : k < m.segs.length) : (m.sg k).pl.own.length = 0 ∨ (m.e1 ≤ m.P2 k ∧ m.P2 k + (m.sg k).pl.own.length ≤ m.eS 0) := by
 by_cases hi : (m.sg k).pl.inn = -1
 ·refine .inr ?_
  have hl := (may_own_len (h.segMay hk) hi).2
  have P := h.planned
  have ho := P.order
  by_cases ht : (m.sg k).typ = 1
  ·have a := P.load_at hk ht
   have b := P.eL_in (k := k + 1) hk
   have c : m.eL 0 ≤ m.eL k := mono_of (m.eL_step P.ok.n1) (by omega)
   have d : m.eL 0 = m.e1 := rfl
   omega
  ·have a := P.other_at hk ht hi
   have b := P.eO_in (k := k + 1) hk
   have c : m.eO 0 ≤ m.eO k := mono_of (m.eO_step P.ok.n1) (by omega)
   have d : m.eO 0 = m.eL m.segs.length := rfl
   omega
 ·exact .inl (by rw [(may_in_is (h.segMay hk) hi).1]; rfl)
theorem Good.z3 (h : Good m) {k : Nat} (hk : k < m.secs.length) : (m.se k).pl.own.length = 0 ∨ (m.eS 0 ≤ m.P3 k ∧ m.P3 k + (m.se k).pl.own.length ≤ m.eS m.secs.length) := by
 by_cases hi : (m.se k).pl.inn = -1
 ·refine .inr ?_
  have hl := (may_own_len (h.secMay hk).1 hi).2
  have P := h.planned
  have a := P.sec_at hk hi
  have b : m.eS (k + 1) ≤ m.eS m.secs.length := mono_of (m.eS_step P.ok.n1) hk
  have c : m.eS 0 ≤ m.eS k := mono_of (m.eS_step P.ok.n1) (by omega)
  omega
 ·exact .inl (by rw [(may_in_is (h.secMay hk).1 hi).1]; rfl)
theorem Good.z4 (h : Good m) {k : Nat} (hk : k < m.secs.length) : m.eS m.secs.length ≤ m.shoff + (k + 1) * sSize m.wide ∧ m.shoff + (k + 1) * sSize m.wide + ((m.sc k).L m.wide m.big).length ≤ m.eT := by
 obtain ⟨h1, h2⟩ := shoff_is h (by omega)
 have := mul_step (z := sSize m.wide) (show k + 1 < m.secs.length + 1 by omega)
 rw [Nat.mul_comm] at h2
 rw [Sc.lenL]
 omega
theorem Good.p2 (h : Good m) {k l : Nat} (hk : k < l) (hl : l < m.segs.length) : Off (m.P2 k) (m.sg k).pl.own (m.P2 l) (m.sg l).pl.own := by
 by_cases hi : (m.sg k).pl.inn = -1
 ·by_cases hj : (m.sg l).pl.inn = -1
  ·have h1 := (may_own_len (h.segMay (by omega)) hi).2
   have h2 := (may_own_len (h.segMay hl) hj).2
   have P := h.planned
   refine .inr (.inr (.inr ?_))
   have d : m.eO 0 = m.eL m.segs.length := rfl
   by_cases tk : (m.sg k).typ = 1
   ·have a := P.load_at (k := k) (by omega) tk
    by_cases tl : (m.sg l).typ = 1
    ·have b := P.load_at hl tl
     have c : m.eL (k + 1) ≤ m.eL l := mono_of (m.eL_step P.ok.n1) (by omega)
     omega
    ·have b := P.other_at hl tl hj
     have c := P.eL_in (k := k + 1) (by omega)
     have c2 : m.eO 0 ≤ m.eO l := mono_of (m.eO_step P.ok.n1) (by omega)
     omega
   ·have a := P.other_at (k := k) (by omega) tk hi
    by_cases tl : (m.sg l).typ = 1
    ·have b := P.load_at hl tl
     have c := P.eL_in (k := l + 1) hl
     have c2 : m.eO 0 ≤ m.eO k := mono_of (m.eO_step P.ok.n1) (by omega)
     omega
    ·have b := P.other_at hl tl hj
     have c : m.eO (k + 1) ≤ m.eO l := mono_of (m.eO_step P.ok.n1) (by omega)
     omega
  ·exact .inr (.inr (.inl (by rw [(may_in_is (h.segMay hl) hj).1]; rfl)))
 ·exact .inr (.inl (by rw [(may_in_is (h.segMay (by omega)) hi).1]; rfl))
theorem Good.p3 (h : Good m) {k l : Nat} (hk : k < l) (hl : l < m.secs.length) : Off (m.P3 k) (m.se k).pl.own (m.P3 l) (m.se l).pl.own := by
 by_cases hi : (m.se k).pl.inn = -1
 ·by_cases hj : (m.se l).pl.inn = -1
  ·have h1 := (may_own_len (h.secMay (k := k) (by omega)).1 hi).2
   have P := h.planned
   refine .inr (.inr (.inr ?_))
   have a := P.sec_at (k := k) (by omega) hi
   have b := P.sec_at hl hj
   have c : m.eS (k + 1) ≤ m.eS l := mono_of (m.eS_step P.ok.n1) (by omega)
   omega
  ·exact .inr (.inr (.inl (by rw [(may_in_is (h.secMay hl).1 hj).1]; rfl)))
 ·exact .inr (.inl (by rw [(may_in_is (h.secMay (k := k) (by omega)).1 hi).1]; rfl))
theorem Good.p1 (h : Good m) {k l : Nat} (hk : k < l) : Off (m.phoff + k * pSize m.wide) ((m.pg k).L m.wide m.big) (m.phoff + l * pSize m.wide) ((m.pg l).L m.wide m.big) := by
 have := mul_step (z := pSize m.wide) hk
 refine .inr (.inr (.inr (.inl ?_)))
 rw [Pg.lenL]
 omega
theorem Good.p4 (h : Good m) {k l : Nat} (hk : k < l) : Off (m.shoff + (k + 1) * sSize m.wide) ((m.sc k).L m.wide m.big) (m.shoff + (l + 1) * sSize m.wide) ((m.sc l).L m.wide m.big) := by
 have := mul_step (z := sSize m.wide) (show k + 1 < l + 1 by omega)
 refine .inr (.inr (.inr (.inl ?_)))
 rw [Sc.lenL]
 omega
theorem Good.off (h : Good m) {p q : Nat} {x y : List UInt8} (hp : Stg m m.segs.length m.segs.length m.secs.length m.secs.length p x) (hq : Stg m m.segs.length m.segs.length m.secs.length m.secs.length q y) : Off p x q y := by
 have ho := h.planned.order
 have hh : m.hd.L.length = hSize m.wide := m.hd.lenL
 have key : ∀ {p q : Nat} {x y : List UInt8}, x.length = 0 ∨ y.length = 0 ∨ p + x.length ≤ q → Off p x q y := fun hh => by
  rcases hh with hh | hh | hh
  ·exact .inr (.inl hh)
  ·exact .inr (.inr (.inl hh))
  ·exact .inr (.inr (.inr (.inl hh)))
 rcases hp with ⟨rfl, rfl⟩ | ⟨k, hk, rfl, rfl⟩ | ⟨k, hk, rfl, rfl⟩ | ⟨k, hk, rfl, rfl⟩ | ⟨k, hk, rfl, rfl⟩ <;> rcases hq with ⟨rfl, rfl⟩ | ⟨l, hl, rfl, rfl⟩ | ⟨l, hl, rfl, rfl⟩ | ⟨l, hl, rfl, rfl⟩ | ⟨l, hl, rfl, rfl⟩
 ·exact .inl ⟨rfl, rfl⟩
 ·have b := h.z1 hl; exact key (by omega)
 ·have b := h.z2 hl; exact key (by omega)
 ·have b := h.z3 hl; exact key (by omega)
 ·have b := h.z4 hl; exact key (by omega)
 ·have b := h.z1 hk; exact (key (by omega)).symm
 ·rcases Nat.lt_trichotomy k l with e | rfl | e
  ·exact h.p1 e
  ·exact .inl ⟨rfl, rfl⟩
  ·exact (h.p1 e).symm
 ·have a := h.z1 hk; have b := h.z2 hl; exact key (by omega)
 ·have a := h.z1 hk; have b := h.z3 hl; exact key (by omega)
 ·have a := h.z1 hk; have b := h.z4 hl; exact key (by omega)
 ·have b := h.z2 hk; exact (key (by omega)).symm
 ·have a := h.z1 hl; have b := h.z2 hk; exact (key (by omega)).symm
 ·rcases Nat.lt_trichotomy k l with e | rfl | e
  ·exact h.p2 e hl
  ·exact .inl ⟨rfl, rfl⟩
  ·exact (h.p2 e hk).symm
 ·have a := h.z2 hk; have b := h.z3 hl; exact key (by omega)
 ·have a := h.z2 hk; have b := h.z4 hl; exact key (by omega)
 ·have b := h.z3 hk; exact (key (by omega)).symm
 ·have a := h.z1 hl; have b := h.z3 hk; exact (key (by omega)).symm
 ·have a := h.z2 hl; have b := h.z3 hk; exact (key (by omega)).symm
 ·rcases Nat.lt_trichotomy k l with e | rfl | e
  ·exact h.p3 e hl
  ·exact .inl ⟨rfl, rfl⟩
  ·exact (h.p3 e hk).symm
 ·have a := h.z3 hk; have b := h.z4 hl; exact key (by omega)
 ·have b := h.z4 hk; exact (key (by omega)).symm
 ·have a := h.z1 hl; have b := h.z4 hk; exact (key (by omega)).symm
 ·have a := h.z2 hl; have b := h.z4 hk; exact (key (by omega)).symm
 ·have a := h.z3 hl; have b := h.z4 hk; exact (key (by omega)).symm
 ·rcases Nat.lt_trichotomy k l with e | rfl | e
  ·exact h.p4 e
  ·exact .inl ⟨rfl, rfl⟩
  ·exact (h.p4 e).symm
def FileIs (m : Md) (b : List UInt8) : Prop := Laid (Stg m m.segs.length m.segs.length m.secs.length m.secs.length) b ∧ b.length = m.eT
theorem Good.putA (h : Good m) {a b c d : Nat} {L : List UInt8} (hL : Laid (Stg m a b c d) L) (ha : a < m.segs.length) (hb : b ≤ m.segs.length) (hc : c ≤ m.secs.length) (hd : d ≤ m.secs.length)
  (hl : m.phoff + a * pSize m.wide + ((m.pg a).L m.wide m.big).length ≤ L.length) : Laid (Stg m (a + 1) b c d) (put L (m.phoff + a * pSize m.wide) ((m.pg a).L m.wide m.big)) :=
 hL.put (Stg.a1 m a b c d) (fun q y hs => h.off (hs.mono (by omega) hb hc hd) (.inr (.inl ⟨a, ha, rfl, rfl⟩))) hl
theorem Good.putB (h : Good m) {a b c d : Nat} {L : List UInt8} (hL : Laid (Stg m a b c d) L) (ha : a ≤ m.segs.length) (hb : b < m.segs.length) (hc : c ≤ m.secs.length) (hd : d ≤ m.secs.length)
  (hl : m.P2 b + (m.sg b).pl.own.length ≤ L.length) : Laid (Stg m a (b + 1) c d) (put L (m.P2 b) (m.sg b).pl.own) :=
 hL.put (Stg.b1 m a b c d) (fun q y hs => h.off (hs.mono ha (by omega) hc hd) (.inr (.inr (.inl ⟨b, hb, rfl, rfl⟩)))) hl
theorem Good.putC (h : Good m) {a b c d : Nat} {L : List UInt8} (hL : Laid (Stg m a b c d) L) (ha : a ≤ m.segs.length) (hb : b ≤ m.segs.length) (hc : c < m.secs.length) (hd : d ≤ m.secs.length)
  (hl : m.P3 c + (m.se c).pl.own.length ≤ L.length) : Laid (Stg m a b (c + 1) d) (put L (m.P3 c) (m.se c).pl.own) :=
 hL.put (Stg.c1 m a b c d) (fun q y hs => h.off (hs.mono ha hb (by omega) hd) (.inr (.inr (.inr (.inl ⟨c, hc, rfl, rfl⟩))))) hl
theorem Good.putD (h : Good m) {a b c d : Nat} {L : List UInt8} (hL : Laid (Stg m a b c d) L) (ha : a ≤ m.segs.length) (hb : b ≤ m.segs.length) (hc : c ≤ m.secs.length) (hd : d < m.secs.length)
  (hl : m.shoff + (d + 1) * sSize m.wide + ((m.sc d).L m.wide m.big).length ≤ L.length) : Laid (Stg m a b c (d + 1)) (put L (m.shoff + (d + 1) * sSize m.wide) ((m.sc d).L m.wide m.big)) :=
 hL.put (Stg.d1 m a b c d) (fun q y hs => h.off (hs.mono ha hb hc (by omega)) (.inr (.inr (.inr (.inr ⟨d, hd, rfl, rfl⟩))))) hl
theorem first_laid {L : List UInt8} (hL : Laid (fun _ _ => False) L) (hl : m.hd.L.length ≤ L.length) : Laid (Stg m 0 0 0 0) (put L 0 m.hd.L) := by
 refine hL.put (fun q y => ?_) (fun q y hs => hs.elim) (by omega)
 unfold Stg
 simp
end
theorem Pg.sndQ (p : Pg) (wide : Bool) : (p.Q wide).map (·.2) = pRow wide := by
 rw [Pg.Q, pRow, List.map_map]; rfl
theorem pX_put (p : Pg) (wide big : Bool) (hf : rowF (p.Q wide) = true) (pre post : List UInt8) : pX (pre ++ p.L wide big ++ post) pre.length wide big = (pOrd wide).map fun i => p.N.getD i 0 := by
 have := nums_rowB big post (p.Q wide) pre hf
 rw [p.sndQ] at this
 rw [pX, Pg.L, this, Pg.Q, List.map_map]
 rfl
theorem pgOf_put (p : Pg) (wide big : Bool) (hf : rowF (p.Q wide) = true) (pre post : List UInt8) : pgOf (pre ++ p.L wide big ++ post) pre.length wide big = p := by
 have e := pX_put p wide big hf pre post
 unfold pgOf
 rw [e]
 obtain ⟨ty, fl, off, va, pa, fs, ms, al⟩ := p
 cases wide <;> rfl
theorem sX_put (p : Sc) (wide big : Bool) (hf : rowF (p.Q wide) = true) (pre post : List UInt8) : sX (pre ++ p.L wide big ++ post) pre.length wide big = p.N := by
 have := nums_rowB big post (p.Q wide) pre hf
 rw [p.sndQ, p.fstQ] at this
 exact this
theorem scOf_put (p : Sc) (wide big : Bool) (hf : rowF (p.Q wide) = true) (pre post : List UInt8) : scOf (pre ++ p.L wide big ++ post) pre.length wide big = p := by
 have e := sX_put p wide big hf pre post
 unfold scOf
 rw [e]
 rfl
end Go.Proofs.YtfbimboemahhhaaGreatDoor
