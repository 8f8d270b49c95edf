/-
  Several texts in one: The contract of sect; A file's model, as plain data; Rows of the call's own, of several kinds; Images, as plain data.
-/
import Derived.Test.YtaianmonokeimaaIbH8
import Derived.Test.YtaianmonokeimaaIbH17
import Derived.Test.YtaianmonokeimaaIbH16
import Derived.Test.YtaianmonokeimaaIbH13
import Derived.Test.YtaianmonokeimaaIbH5
import Derived.Test.YtaianmonokeimaaIbH2
namespace Go.Proofs.Ytaianmonokeimaa
open Go.Lib (hid)
open Go.RowKit
theorem Blk.belowS {w W : World} {g B : Nat} {t : TypeId} {cs : Array Value} (h : Blk w g t cs) (hb : Below B w W) (hg : g < B) : Blk W g t cs := by rw [Blk, hb.block g hg]; exact h
def Sc.Q (p : Sc) (wide : Bool) : List (Nat × Nat) := p.N.zip (sRow wide)
def Sc.L (p : Sc) (wide big : Bool) : List UInt8 := rowB big (p.Q wide)
theorem Sc.lenN (p : Sc) : p.N.length = 10 := rfl
theorem Sc.lenQ (p : Sc) (wide : Bool) : (p.Q wide).length = 10 := by rw [Sc.Q, List.length_zip, len_sRow]; rfl
theorem Sc.sndQ (p : Sc) (wide : Bool) : (p.Q wide).map (·.2) = sRow wide := List.map_snd_zip (by rw [len_sRow]; exact Nat.le_refl _)
theorem Sc.lenL (p : Sc) (wide big : Bool) : (p.L wide big).length = sSize wide := by
 rw [Sc.L, length_rowB, ← sum_sRow, Sc.sndQ]
theorem Sc.atN (p : Sc) (ok : p.Ok) (i : Nat) : p.N.getD i 0 < 18446744073709551616 := by
 obtain ⟨k1, k2, k3, k4, k5, k6, k7, k8, k9, k10⟩ := ok
 match i with
 | 0 => show p.na < _; omega
 | 1 => show p.ty < _; omega
 | 2 => show p.fl < _; omega
 | 3 => show p.ad < _; omega
 | 4 => show p.off < _; omega
 | 5 => show p.sz < _; omega
 | 6 => show p.li < _; omega
 | 7 => show p.inf < _; omega
 | 8 => show p.al < _; omega
 | 9 => show p.en < _; omega
 | _ + 10 => show 0 < _; omega
theorem Sc.atQ (p : Sc) (wide : Bool) (k : Nat) (h : k < (p.Q wide).length) : (p.Q wide)[k].1 = p.N.getD k 0 ∧ (p.Q wide)[k].2 = sWid wide k := by
 have hk : k < 10 := by rw [p.lenQ] at h; exact h
 simp only [Sc.Q, List.getElem_zip]
 constructor
 ·rw [List.getD_eq_getElem?_getD, List.getElem?_eq_getElem (by rw [p.lenN]; exact hk)]; rfl
 ·rw [← sRow_at wide k hk, List.getD_eq_getElem?_getD, List.getElem?_eq_getElem (by rw [len_sRow]; exact hk)]; rfl
theorem Sc.rowed (p : Sc) (ok : p.Ok) (wide : Bool) : Rowed (p.Q wide) :=
 ⟨by rw [p.lenQ]; omega, fun k hk => by rw [(p.atQ wide k hk).2]; exact sWid_wid _ _, fun k hk => by rw [(p.atQ wide k hk).1]; exact p.atN ok _⟩
theorem makeS (wide : Bool) (w : World) : (Instr.makeSlice 35 (.int .i64 0) (.int .i64 (sSize wide : Nat))).run Try.prog w = .ok (.slice (some ⟨w.heap.size, 0, none⟩) 0 (sSize wide))
  (w.alloc (.cells (Array.replicate (sSize wide) (.int .u8 0)) 5)) := by cases wide <;> kernel_rfl
def SPut (p : Sc) (wide big : Bool) (w : World) (e : Ending) (w' : World) : Prop :=
 (rowF (p.Q wide) = true ∧ ∃ A c, e = .returned (.tuple #[.slice A (p.L wide big).length c, .nilIface]) ∧ OB w' w.heap.size 5 A (p.L wide big).length c (p.L wide big) ∧ Grow w w') ∨
 (rowF (p.Q wide) = false ∧ e = .returned (.tuple #[.slice none 0 0, .iface 67 (.int .i64 1)]) ∧ Grow w w')
set_option maxHeartbeats 400000 in
theorem sPut_any (p : Sc) (ok : p.Ok) (wide big : Bool) (w : World) : Calls Try.prog 27 #[p.V, .agg #[.bool wide, .bool big]] w (SPut p wide big w) := by
 have HR := hid (p.rowed ok wide)
 have HN := hid (fun w => sNum_any p ok w)
 have HSz := hid (fun w => sSize_any wide big w)
 have HWi := hid (fun i w => sWid_any wide big i w)
 have HLQ := hid (p.lenQ wide)
 have HMk := hid (makeS wide)
 have HSp : Hid (sSize wide ≤ 64) := by cases wide <;> exact hid (by decide)
 have HAN : Hid (∀ i, i < 10 → (u64s p.N)[i]? = some (.int .u64 (p.N.getD i 0 : Nat))) := hid (fun i hi => idx_u64s _ _ hi)
 have HAQ := hid (p.atQ wide)
 have HC1 : Hid (p.C.size = 10) := hid rfl
 unfold SPut Sc.L
 unfold Sc.V
 generalize p.Q wide = q at HR HLQ HAQ ⊢
 generalize u64s p.N = RN at HN HAN
 generalize p.N = pn at HAN HAQ
 unfold Sc.V at HN
 generalize p.C = C at HN HC1 ⊢
 generalize sSize wide = sz at HSz HMk HSp
 go_enter Try.func27, Try.ntmps27
 go_wp2_with fail
 generalize hW : World.alloc _ _ = W0
 obtain ⟨b1, bf, hg0⟩ := blk2 hW
 clear hW
 refine (HSz.out W0).mono ?_
 rintro e w1 ⟨rfl, hg1⟩
 have HB1 := hid (b1.grow hg1)
 have HBF1 := hid (bf.grow hg1)
 have HG1 : Hid (Grow w w1) := hg0.trans hg1
 clear b1 bf hg0 hg1
 have hmk := HMk.out w1
 have HB2 := hid (HB1.out.alloc (.cells (Array.replicate sz (.int .u8 0)) 5))
 go_wp2_with (refine wpList_load_row rfl 88 (.tmp 2) rfl w.heap.size rfl _ C (0, 0) _ HB2.out Try.underlying88 rfl (by rw [HC1.out]; kernel_rfl) ?_)
 clear hmk HMk
 refine (HN.out _).mono ?_
 rintro e w3 ⟨rfl, hg3⟩
 have HO3 := hid ((OB.room w1 w1.heap.size 5 sz (.int .u8 0) (by have := HSp.out; unfold maxLen; omega) (Nat.le_refl _)).keep hg3)
 have HBF3 := hid ((HBF1.out.alloc _).grow hg3)
 have HG3 : Hid (Grow w w3) := (HG1.out.trans (Grow.of_alloc _ _)).trans hg3
 have HD : Hid (w.heap.size + 1 < w1.heap.size) := HBF1.out.lt
 have HDs : Hid (w1.heap.size ≤ w3.heap.size) := by have := hg3.size; simp at this; exact hid (by omega)
 generalize w1.heap.size = g7 at HO3 HD HDs ⊢
 clear hg3 HG1 HBF1 HB1 HB2
 go_wp2_with fail
 go_loopw [6, 15] (fun x i wr => ∃ (k : Nat) (A : Option Addr) (c : Nat), k ≤ 10 ∧ i = .int .i64 k ∧ x = .slice A (rowB big (q.take k)).length c ∧ OB wr g7 5 A (rowB big (q.take k)).length c (rowB big (q.take k)) ∧
  Blk wr (w.heap.size + 1) 23 #[.bool wide, .bool big] ∧ rowF (q.take k) = true ∧ Grow w wr ∧ g7 ≤ wr.heap.size) (fun _ i _ => 10 - (intOf i).toNat)
 case atStart => exact ⟨0, some ⟨g7, 0, none⟩, sz, by omega, rfl, rfl, HO3.out, HBF3.out, rfl, HG3.out, HDs.out⟩
 case round =>
  obtain ⟨k, A, c, hk, rfl, rfl, ho, hbf, hrf, hg, hgs⟩ := hrel
  have HO := hid ho
  have HBF := hid hbf
  have HRF := hid hrf
  have HG := hid hg
  have HGs := hid hgs
  clear ho hbf hrf hg hgs HO3 HBF3 HG3 HDs
  by_cases hlt : k < 10
  ·have hkq : k < q.length := by rw [HLQ.out]; exact hlt
   have HB := hid (rowB_succ big q k hkq)
   have HF := hid (rowF_succ q k hkq)
   have HW := hid (HR.out.wide k hkq)
   have HZ := hid (fun h => rowF_false hkq h)
   have HLE := hid (rowB_le HR.out big k (by omega))
   have hv := HR.out.lt k hkq
   have hw8 := HR.out.wide8 k hkq
   have HK1 := hid (HAN.out k hlt)
   obtain ⟨e1, e2⟩ := HAQ.out k hkq
   rw [HRF.out, Bool.true_and] at HF
   rw [← e1] at HK1
   have HW2 := hid (fun w => HWi.out k w)
   rw [← e2] at HW2
   clear e1 e2
   generalize q[k].1 = v at HB HF HZ hv HK1
   generalize q[k].2 = m at HB HF HZ HW hw8 HW2
   obtain ⟨y0, y1⟩ := HBF.out.c2
   clear hkq
   go_wp2_with (refine wpList_index rfl 122 28 (.tmp 14) (.tmp 15) rfl 10 _ Try.underlying122 Try.underlying28 rfl (by kernel_rfl) RN k (.int .u64 (v : Int)) rfl rfl hlt HK1.out ?_)
   clear y0 y1
   refine (HW2.out _).mono ?_
   rintro e w4 ⟨rfl, hg4⟩
   have HO4 := hid (HO.out.keep hg4)
   have HBF4 := hid (HBF.out.grow hg4)
   have HG4 : Hid (Grow w w4) := HG.out.trans hg4
   have HGs4 : Hid (g7 ≤ w4.heap.size) := Nat.le_trans HGs.out hg4.size
   clear hg4 HO HBF HG HGs
   go_wp2_with fail
   refine (fits_any v m _ (by omega) (by omega)).mono ?_
   rintro e w5 ⟨rfl, rfl⟩
   rw [fits_row v m HW.out]
   cases hfit : decide (v < 256 ^ m)
   ·have HZ2 := hid (HZ.out hfit)
    clear hfit
    go_wp2
    go_ret2
    exact .inr ⟨HZ2.out, rfl, HG4.out⟩
   ·rw [hfit] at HF
    clear hfit HZ
    obtain ⟨y0, y1⟩ := HBF4.out.c2
    go_wp2_with fail
    clear y0 y1
    refine (put_wide v m big _ HW.out (by omega)).mono ?_
    rintro e w7 ⟨A3, c3, rfl, ho3, hb3⟩
    have HO7 := hid (HO4.out.keep hb3)
    have HO3 := hid ho3
    have HBF7 := hid (HBF4.out.grow hb3)
    have HG7 : Hid (Grow w w7) := HG4.out.trans hb3
    have HGs7 : Hid (g7 ≤ w7.heap.size) := Nat.le_trans HGs4.out hb3.size
    clear ho3 hb3 HO4 HBF4 HG4 HGs4
    rw [Int.toNat_natCast] at HO3
    have HS : Hid (w.heap.size ≤ g7) := by have := HD.out; exact hid (by omega)
    go_wp2_with (refine wpList_appendB w7 rfl (.tmp 27) (.tmp 32) 35 rfl g7 5 Try.underlying35 (by kernel_rfl) A _ c _ rfl HO7.out w7.heap.size A3 m c3 _ rfl HO3.out.rb (by have := HLE.out; omega) HGs7.out ?_; intro A5 c5 w8 ho5 hb5)
    have HBF8 := hid (HBF7.out.belowS hb5 HD.out)
    have HG8 : Hid (Grow w w8) := HG7.out.trans' (hb5.mono HS.out)
    have HGs8 : Hid (g7 ≤ w8.heap.size) := Nat.le_trans HGs7.out hb5.size
    rw [← HB.out] at ho5
    have hm : (rowB big (q.take k)).length + m = (rowB big (q.take (k + 1))).length := by rw [HB.out, List.length_append, length_putB]
    rw [hm] at ho5 ⊢
    have HO5 := hid ho5
    clear ho5 hb5 hm HO3 HO7 HG7 HBF7 HGs7
    go_roundw
    case rel => exact ⟨k + 1, A5, c5, by omega, by go_num, rfl, HO5.out, HBF8.out, HF.out, HG8.out, HGs8.out⟩
    case measure => simp [intOf]; omega
  ·have HK : Hid (q.take k = q) := by
    have e : k = q.length := by rw [HLQ.out]; omega
    rw [e]
    exact List.take_length
   rw [HK.out] at HO HRF ⊢
   have HO' := hid (HO.out.mono (base' := w.heap.size) (by have := HD.out; omega))
   go_wp2
   go_ret2
   exact .inl ⟨HRF.out, A, c, rfl, HO'.out, HG.out⟩
set_option linter.unusedVariables false
def inB (len p n : Nat) : Bool := decide (n = 0) || decide (p + n ≤ len)
section
variable (l : List UInt8)
def pAt (i : Nat) : Nat := (hdOf l).ph + i * pSize (lWide l)
def pgs (i : Nat) : Pg := pgOf l (pAt l i) (lWide l) (lBig l)
end
section
variable {l : List UInt8}
theorem HTold.zero {c p : Nat} {v : Value} (h : HTold l c p v) (hc : c = 0) : p = 0 ∧ v = (hdOf l).V := by
 subst hc
 rcases h with ⟨h, _⟩ | ⟨_, h, e⟩
 ·exact absurd rfl h
 ·rw [if_pos rfl] at e
  rcases h with ⟨_, h, _⟩ | ⟨_, _, _, h⟩ | ⟨_, h, _⟩
  ·omega
  ·exact ⟨h, e⟩
  ·omega
theorem HTold.not {c p : Nat} {v : Value} (h : HTold l c p v) (hc : c ≠ 0) : v = hd0.V := by
 rcases h with ⟨_, _, e⟩ | ⟨_, _, e⟩
 ·exact e
 ·rwa [if_neg hc] at e
end
set_option linter.unusedVariables false
def pgR (l : List UInt8) (k : Nat) : List (Array Value) := (List.range k).map fun i => (pgs l i).C
theorem pgR_succ (l : List UInt8) (k : Nat) : pgR l (k + 1) = pgR l k ++ [(pgs l k).C] := by unfold pgR; rw [List.range_succ, List.map_append]; rfl
theorem pgR_at (l : List UInt8) (P k : Nat) (h : k < P) (h' : k < (pgR l P).length) : (pgR l P)[k] = (pgs l k).C := by simp [pgR]
theorem OB.from_ {w : World} {base : Nat} {e : TypeId} {A : Option Addr} {n c : Nat} {l : List UInt8} (h : OB w base e A n c l) {g : Nat} (hg : own A = some g) : base ≤ g ∧ g < w.heap.size := by
 rcases h.2 with ⟨hv, _⟩ | ⟨g', cap, cur, hv, hb, hh, _⟩
 ·injection hv with e1 _ _
  subst e1
  cases hg
 ·injection hv with e1 _ _
  subst e1
  have e3 : g' = g := Option.some.inj hg
  subst e3
  refine ⟨hb, ?_⟩
  rcases Nat.lt_or_ge g' w.heap.size with h1 | h1
  ·exact h1
  ·rw [Array.getElem?_eq_none h1] at hh; cases hh
theorem OB.beside {w : World} {base : Nat} {e : TypeId} {A : Option Addr} {n c g : Nat} {l : List UInt8} (h : OB w base e A n c l) (hne : own A ≠ some g) (cs' : Array Value) : OB (w.setRow g cs') base e A n c l := by
 refine ⟨h.1, ?_⟩
 rcases h.2 with h0 | ⟨g', cap, cur, hv, hb, hh, r⟩
 ·exact .inl h0
 ·refine .inr ⟨g', cap, cur, hv, hb, ?_, r⟩
  have : g' ≠ g := fun he => hne (by injection hv with e1 _ _; subst e1; subst he; rfl)
  rw [setRow_other w g g' cs' (by exact this)]
  exact hh
section
variable {W W' : World} {base : Nat}
theorem ZO.notb {e : TypeId} {z : Nat} {A : Option Addr} {n c g : Nat} {l : List (Array Value)} (h : ZO W base e z A n c l) (hg : g < base) : own A ≠ some g := fun e => by have := h.ge e; omega
end
def RO {α : Type} (K : RK α) (w : World) (base : Nat) (r : Array Value) (a : α) : Prop := ∃ A n c, r = K.cs a (.slice A n c) ∧ OB w base 5 A n c (K.by_ a)
def GR {α : Type} (K : RK α) (w : World) (base : Nat) (e : TypeId) (A : Option Addr) (k c : Nat) (L : List α) : Prop :=
 ∃ R, ZO w base e K.z A k c R ∧ R.length = L.length ∧ ∀ j (h : j < R.length) (h' : j < L.length), RO K w base R[j] L[j]
theorem OB.kindNe {w : World} {base base' : Nat} {e e' : TypeId} {z : Nat} {A A' : Option Addr} {n c n' c' : Nat} {l : List UInt8} {R : List (Array Value)} (h : OB w base e A n c l) (h' : ZO w base' e' z A' n' c' R) (ht : e ≠ e') : own A = none ∨ own A ≠ own A' := by
 rcases h.2 with ⟨hv, _⟩ | ⟨g, cap, cur, hv, _, hh, _⟩
 ·injection hv with e1 _ _
  subst e1
  exact .inl rfl
 ·injection hv with e1 _ _
  subst e1
  refine .inr fun hA => ?_
  rcases h'.1.2 with ⟨hv', _⟩ | ⟨g', cap', cur', hv', _, hh', _⟩
  ·injection hv' with e1 _ _
   subst e1
   cases hA
  ·injection hv' with e1 _ _
   subst e1
   have e3 : g = g' := Option.some.inj hA
   subst e3
   rw [hh] at hh'
   injection hh' with hh'
   injection hh' with _ hh'
   exact ht hh'
theorem OB.passed {w w' : World} {base : Nat} {e : TypeId} {A : Option Addr} {n c : Nat} {l : List UInt8} {row : Option Nat} (h : OB w base e A n c l) (hg : w.grownBy w' row) (hne : own A = none ∨ own A ≠ row) : OB w' base e A n c l := World.ownsRow.kept h hg (by rw [own_slice]; exact hne)
section
variable {α β : Type} {K : RK α} {K' : RK β} {w w' : World} {base : Nat} {e e' : TypeId} {A A' : Option Addr} {k c k' c' : Nat} {L : List α} {L' : List β}
theorem GR.nil (hz : True) : GR K w base e none 0 0 ([] : List α) := ⟨[], ZO.nil, rfl, fun j h => absurd h (by simp)⟩
theorem RO.keep {r : Array Value} {a : α} (h : RO K w base r a) (hg : Grow w w') : RO K w' base r a := by
 obtain ⟨A, n, c, e1, h1⟩ := h
 exact ⟨A, n, c, e1, h1.keep hg⟩
theorem GR.keep (h : GR K w base e A k c L) (hg : Grow w w') : GR K w' base e A k c L := by
 obtain ⟨R, h1, h2, h3⟩ := h
 exact ⟨R, h1.keep hg, h2, fun j a b => (h3 j a b).keep hg⟩
theorem GR.set {g : Nat} (h : GR K w base e A k c L) (hg : g < base) (cs : Array Value) : GR K (w.setRow g cs) base e A k c L := by
 obtain ⟨R, h1, h2, h3⟩ := h
 refine ⟨R, h1.other (h1.notb hg) cs, h2, fun j a b => ?_⟩
 obtain ⟨A, n, c, e1, h4⟩ := h3 j a b
 exact ⟨A, n, c, e1, h4.beside (fun e => by have := (h4.from_ e).1; omega) cs⟩
theorem GR.mono {b : Nat} (h : GR K w base e A k c L) (hb : b ≤ base) : GR K w b e A k c L := by
 obtain ⟨R, h1, h2, h3⟩ := h
 exact ⟨R, h1.mono hb, h2, fun j a b' => by
  obtain ⟨A, n, c, e1, h4⟩ := h3 j a b'
  exact ⟨A, n, c, e1, h4.mono hb⟩⟩
theorem GR.zr (h : GR K w base e A k c L) : ZR K w w.heap.size A k c L := by
 obtain ⟨R, h1, h2, h3⟩ := h
 exact ⟨R, h1.zs, h2, fun j a b => by
  obtain ⟨A, n, c, e1, h4⟩ := h3 j a b
  exact ⟨A, n, c, e1, h4.rb⟩⟩
theorem GR.snoc {A2 : Option Addr} {c2 : Nat} {r : Array Value} {a : α} {R : List (Array Value)} (h1 : ZO w base e K.z A k c R) (h2 : R.length = L.length) (h3 : ∀ j (h : j < R.length) (h' : j < L.length), RO K w base R[j] L[j]) (hr : RO K w base r a) (hu : 5 ≠ e)
  (ho : ZO w' base e K.z A2 (k + 1) c2 (R ++ [r])) (hg : w.grownBy w' (own A)) : GR K w' base e A2 (k + 1) c2 (L ++ [a]) := by
 have key : ∀ {r : Array Value} {a : α}, RO K w base r a → RO K w' base r a := fun h => by
  obtain ⟨A, n, c, e1, h4⟩ := h
  exact ⟨A, n, c, e1, h4.passed hg (h4.kindNe h1 hu)⟩
 refine ⟨R ++ [r], ho, by simp [h2], fun j h h' => ?_⟩
 by_cases hj : j < R.length
 ·have hj' : j < L.length := by rw [← h2]; exact hj
  rw [List.getElem_append_left hj, List.getElem_append_left hj']
  exact key (h3 j hj hj')
 ·have e1 : j = R.length := by simp at h; omega
  subst e1
  have hl : L.length ≤ R.length := by rw [h2]; exact Nat.le_refl _
  rw [List.getElem_append_right (Nat.le_refl _), List.getElem_append_right hl]
  simpa using key hr
end
theorem Blk.rb {w : World} {g : Nat} {t : TypeId} {l : List UInt8} (h : Blk w g t (l.map byt).toArray) (hm : l.length ≤ maxLen) : RB w w.heap.size (some ⟨g, 0, none⟩) l.length l.length l :=
 ⟨rfl, Nat.le_refl _, hm, fun _ => ⟨g, 0, rfl, h.lt, fun j hj => by
  rw [Nat.zero_add, h.at j]
  simp [byt, hj]⟩⟩
theorem ZR.one {α : Type} {K : RK α} {w : World} {B g : Nat} {t : TypeId} {a : α} {A : Option Addr} {n c : Nat} (h : Blk w g t (K.cs a (.slice A n c))) (hr : RB w B A n c (K.by_ a)) (hz : (K.cs a (.slice A n c)).size = K.z) (hB : g < B) : ZR K w B (some ⟨g, 0, none⟩) 1 1 [a] :=
 ⟨[K.cs a (.slice A n c)], hz ▸ ZS.one h hB, rfl, fun j h1 h2 => by
  obtain rfl : j = 0 := by simpa using h1
  exact ⟨A, n, c, rfl, hr⟩⟩
theorem kept_row {w W : World} {S : Nat → Prop} {row : Option Nat} (h : w.grownBy W row) (hS : ∀ k, row = some k → ¬ S k) : Kept S w W := ⟨h.size, fun k hk hs => h.block k hk (fun e => hS k e.symm hs)⟩
set_option linter.unusedVariables false
structure Rg where
 addr : Nat
 size : Nat
 flags : Nat
 bytes : List UInt8
def rgC (r : Rg) (s : Value) : Array Value := #[.int .u64 (r.addr : Nat), .int .u64 (r.size : Nat), .int .u32 (r.flags : Nat), s]
def rgK : RK Rg := ⟨4, rgC, fun r => r.bytes⟩
def imC (e : Nat) (s : Value) : Array Value := #[.int .u64 (e : Nat), s]
def Rg.has (r : Rg) (x : Nat) : Bool := decide (r.addr ≤ x) && decide (x - r.addr < r.size)
def Rg.at_ (r : Rg) (x : Nat) : Nat := (r.bytes.getD (x - r.addr) 0).toNat
def atL : List Rg → Nat → Nat × Nat × Bool
 | [], _ => (0, 0, false)
 | r :: L, x => if r.has x then (r.at_ x, r.flags, true) else atL L x
theorem atL_drop {L : List Rg} {k : Nat} (h : k < L.length) (x : Nat) : atL (L.drop k) x = if L[k].has x then (L[k].at_ x, L[k].flags, true) else atL (L.drop (k + 1)) x := by
 rw [List.drop_eq_getElem_cons h]
 rfl
def sgRg (s : Sg) : Rg := ⟨s.vaddr, s.memsz, s.flags, s.pl.own⟩
def sgImg (l : List Sg) : List Rg := (l.filter (fun s => s.typ == 1)).map sgRg
def Md.img (m : Md) : List Rg := sgImg m.segs
theorem sgImg_succ {l : List Sg} {k : Nat} (h : k < l.length) : sgImg (l.take (k + 1)) = sgImg (l.take k) ++ if l[k].typ = 1 then [sgRg l[k]] else [] := by
 unfold sgImg
 rw [List.take_succ_eq_append_getElem h, List.filter_append, List.map_append]
 congr 1
 by_cases ht : l[k].typ = 1
 ·simp [ht]
 ·simp [ht]
theorem sgImg_le {l : List Sg} {k : Nat} : (sgImg (l.take k)).length ≤ k := by
 unfold sgImg
 rw [List.length_map]
 exact Nat.le_trans (List.length_filter_le _ _) (List.length_take_le _ _)
section
variable (l : List UInt8)
def pgRg (p : Pg) : Rg := ⟨p.va, p.ms, p.fl, (l.drop p.off).take p.fs⟩
def fImg (k : Nat) : List Rg := ((List.range k).filter (fun i => (pgs l i).ty == 1)).map (fun i => pgRg l (pgs l i))
def imL : List Rg := fImg l (hdOf l).pn
def ImIn : Prop := ∀ i, i < (hdOf l).pn → pAt l i + pSize (lWide l) ≤ l.length
def ImOwn : Prop := ∀ i, i < (hdOf l).pn → (pgs l i).ty = 1 → inB l.length (pgs l i).off (pgs l i).fs = true
def Img : Prop := HTold l 0 0 (hdOf l).V ∧ (hdOf l).pn ≠ 65535 ∧ ImIn l ∧ ImOwn l
theorem fImg_succ (k : Nat) : fImg l (k + 1) = fImg l k ++ if (pgs l k).ty = 1 then [pgRg l (pgs l k)] else [] := by
 unfold fImg
 rw [List.range_succ, List.filter_append, List.map_append]
 congr 1
 by_cases ht : (pgs l k).ty = 1
 ·simp [ht]
 ·simp [ht]
theorem fImg_le (k : Nat) : (fImg l k).length ≤ k := by
 unfold fImg
 rw [List.length_map]
 exact Nat.le_trans (List.length_filter_le _ _) (by simp)
end
theorem filter_map_same {α β γ : Type} {f : α → γ} {g : β → γ} {p : α → Bool} {q : β → Bool} : ∀ {a : List α} {b : List β}, a.length = b.length → (∀ i (h : i < a.length) (h' : i < b.length), p a[i] = q b[i] ∧ (p a[i] = true → f a[i] = g b[i])) →
  (a.filter p).map f = (b.filter q).map g
 | [], [], _, _ => rfl
 | x :: a, y :: b, hl, h => by
  obtain ⟨h1, h2⟩ := h 0 (by simp) (by simp)
  simp only [List.getElem_cons_zero] at h1 h2
  have ih := filter_map_same (f := f) (g := g) (p := p) (q := q) (a := a) (b := b) (by simpa using hl) (fun i h3 h4 => by
   have := h (i + 1) (by simpa using h3) (by simpa using h4)
   simpa using this)
  rw [List.filter_cons, List.filter_cons, ← h1]
  cases hp : p x with
  | true => simp only [if_true, List.map_cons]; rw [h2 hp, ih]
  | false => simpa using ih
end Go.Proofs.Ytaianmonokeimaa
