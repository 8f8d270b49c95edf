/-
  Several texts in one: What was put is got, in plain words; Plain answers of layer 5, and the contracts of prog; The contract of prog.
-/
import Derived.Test.YtlccbekalccahaaGreatDoorFbG20
import Derived.Test.YtlccbekalccahaaGreatDoorRows
import Derived.Test.YtlccbekalccahaaGreatDoorFbG3
import Derived.Test.YtlccbekalccahaaGreatDoorFbG6
import Derived.Test.YtlccbekalccahaaGreatDoorFbG18
import Derived.WalkKit
import Derived.Laws.ResultCell
import Derived.Lib.Hide
import Derived.Test.YtlccbekalccahaaGreatDoorFbG9
import Derived.Test.YtlccbekalccahaaGreatDoorFbG19

namespace Go.Proofs.YtlccbekalccahaaGreatDoor
open Go.RowKit

theorem Hd.lenL (h : Hd) : h.L.length = hSize h.wide := by
  rw [Hd.L, List.length_append, length_rowB, ← sum_hRow h.wide]
  rfl

theorem getD_append (l r : List UInt8) (k : Nat) (hk : k < l.length) : (l ++ r).getD k 0 = l.getD k 0 := by
  rw [List.getD_eq_getElem?_getD, List.getD_eq_getElem?_getD, List.getElem?_append_left hk]
theorem wide_idL (wide big : Bool) (o a : UInt8) (r : List UInt8) : lWide (idL wide big o a ++ r) = wide := by cases wide <;> rfl
theorem big_idL (wide big : Bool) (o a : UInt8) (r : List UInt8) : lBig (idL wide big o a ++ r) = big := by cases big <;> rfl
theorem clean_idL (wide big : Bool) (o a : UInt8) (r : List UInt8) : Clean (idL wide big o a ++ r) 7 := clean_of fun j hj hlt => by
  rw [List.getElem_append_left (by simp [idL]; omega), List.getD_eq_getElem?_getD, List.getElem?_eq_getElem (by simp [idL]; omega)]
  rfl

/-- The numbers of bytes that were put. -/
theorem hdX_put (h : Hd) (hf : rowF h.Q = true) (r : List UInt8) : hdX (h.L ++ r) = h.N := by
  have e := nums_rowB h.big r h.Q (idL h.wide h.big h.o h.a) hf
  unfold hdX
  rw [Hd.L, List.append_assoc, wide_idL, big_idL, ← List.append_assoc]
  exact e
theorem hdOf_put (h : Hd) (hf : rowF h.Q = true) (r : List UInt8) : hdOf (h.L ++ r) = h := by
  have e := hdX_put h hf r
  unfold hdOf
  rw [e, Hd.L, List.append_assoc, wide_idL, big_idL]
  rfl

theorem put_told (h : Hd) (hf : rowF h.Q = true) (r : List UInt8) : HTold (h.L ++ r) 0 0 h.V := by
  have e1 := hdX_put h hf r
  have e2 := hdOf_put h hf r
  have hl := h.lenL
  have hs : lWide (h.L ++ r) = h.wide := by rw [Hd.L, List.append_assoc, wide_idL]
  have h16 : 16 ≤ hSize h.wide := by cases h.wide <;> decide
  have ht : Told (h.L ++ r) 0 0 := .inl ⟨rfl, rfl, by rw [Hd.L, List.append_assoc]; exact clean_idL _ _ _ _ _, by rw [List.length_append]; omega⟩
  refine .inr ⟨ht, .inr (.inl ⟨by rw [hs, List.length_append]; omega, fun j _ hb => ?_, rfl, rfl⟩), by rw [e2]; rfl⟩
  unfold HBad at hb
  rw [e1, e2] at hb
  exact hb.1 rfl

theorem take_split (h : Hd) (k : Nat) (hk : 16 ≤ k) : h.L.take k = idL h.wide h.big h.o h.a ++ (rowB h.big h.Q).take (k - 16) := by
  rw [Hd.L, List.take_append]
  rw [List.take_of_length_le (by simp [idL]; omega)]
  rfl

theorem cut_told (h : Hd) (k : Nat) (hk : k < h.L.length) : HTold (h.L.take k) 2 k hd0.V := by
  have hl : (h.L.take k).length = k := by simp; omega
  by_cases h16 : k < 16
  · refine .inl ⟨by omega, .inr (.inl ⟨rfl, hl.symm, clean_of (wide := h.wide) (big := h.big) (o := h.o) (a := h.a) fun j hj hlt => ?_, by omega⟩), rfl⟩
    rw [List.getElem_take]
    simp only [Hd.L]
    rw [List.getElem_append_left (by simp [idL]; omega), List.getD_eq_getElem?_getD, List.getElem?_eq_getElem (by simp [idL]; omega)]
    rfl
  · have e := take_split h k (by omega)
    have hs : lWide (h.L.take k) = h.wide := by rw [e, wide_idL]
    have ht : Told (h.L.take k) 0 0 := .inl ⟨rfl, rfl, by rw [e]; exact clean_idL _ _ _ _ _, by omega⟩
    exact .inr ⟨ht, .inl ⟨by rw [hs, ← h.lenL, hl]; exact hk, rfl, hl.symm⟩, by rw [if_neg (by omega)]⟩

theorem wide_fits (h : Hd) (ok : h.Ok) (hw : h.wide = true) : rowF h.Q = true := by
  obtain ⟨wide, big, o, a, ty, ma, en, ph, sh, fl, pn, sn, st⟩ := h
  obtain ⟨k1, k2, k3, k4, k5, k6, k7, k8, k9⟩ := ok
  simp only [] at *
  subst hw
  have s1 := ifSome_le ((pn : Int) != 0) (byWide true 32 56)
  have s2 := ifSome_le ((sh : Int) != 0) (byWide true 40 64)
  have s3 : byWide true 32 56 = 56 := rfl
  have s4 : byWide true 40 64 = 64 := rfl
  have s5 : hSize true = 64 := rfl
  have s6 : byWide true 4 8 = 8 := rfl
  simp only [Hd.Q, Hd.N, hRow, List.zip_cons_cons, List.zip_nil_right, rowF, Bool.and_true, Bool.and_eq_true, decide_eq_true_eq, s5, s6]
  omega
end Go.Proofs.YtlccbekalccahaaGreatDoor

namespace Go.Proofs.YtlccbekalccahaaGreatDoor
open Go.RowKit

/-- A program header. -/
structure Pg where
  ty : Nat
  fl : Nat
  off : Nat
  va : Nat
  pa : Nat
  fs : Nat
  ms : Nat
  al : Nat
/-- Its fields have the sizes of their types. -/
structure Pg.Ok (p : Pg) : Prop where
  ty : p.ty < 4294967296
  fl : p.fl < 4294967296
  off : p.off < 18446744073709551616
  va : p.va < 18446744073709551616
  pa : p.pa < 18446744073709551616
  fs : p.fs < 18446744073709551616
  ms : p.ms < 18446744073709551616
  al : p.al < 18446744073709551616

def Pg.C (p : Pg) : Array Value := #[.int .u32 (p.ty : Int), .int .u32 (p.fl : Int), .int .u64 (p.off : Int), .int .u64 (p.va : Int), .int .u64 (p.pa : Int), .int .u64 (p.fs : Int), .int .u64 (p.ms : Int), .int .u64 (p.al : Int)]
def Pg.V (p : Pg) : Value := .agg p.C
def pg0 : Pg := ⟨0, 0, 0, 0, 0, 0, 0, 0⟩
/-- Its numbers, as they are named. -/
def Pg.N (p : Pg) : List Nat := [p.ty, p.fl, p.off, p.va, p.pa, p.fs, p.ms, p.al]
/-- How many bytes it has. -/
def pSize (wide : Bool) : Nat := byWide wide 32 56
/-- Which numbers stand behind one another. -/
def pOrd (wide : Bool) : List Nat := if wide then [0, 1, 2, 3, 4, 5, 6, 7] else [0, 2, 3, 4, 5, 6, 1, 7]
/-- How many bytes a number has. -/
def pWid (wide : Bool) (i : Nat) : Nat := if wide && ((i : Int) != 0) && ((i : Int) != 1) then 8 else 4
def pRow (wide : Bool) : List Nat := (pOrd wide).map (pWid wide)
theorem Pg.one (p : Pg) : p.C.all (·.oneCell') = true := by simp [Pg.C, Value.oneCell']
theorem len_pOrd (wide : Bool) : (pOrd wide).length = 8 := by cases wide <;> rfl
theorem len_pRow (wide : Bool) : (pRow wide).length = 8 := by cases wide <;> rfl
theorem sum_pRow (wide : Bool) : sumN (pRow wide) = pSize wide := by cases wide <;> rfl
theorem pOrd_lt (wide : Bool) (k : Nat) (h : k < 8) : (pOrd wide).getD k 0 < 8 := by
  cases wide <;> (match k, h with
    | 0, _ => decide
    | 1, _ => decide
    | 2, _ => decide
    | 3, _ => decide
    | 4, _ => decide
    | 5, _ => decide
    | 6, _ => decide
    | 7, _ => decide)
theorem pWid_wid (wide : Bool) (i : Nat) : wid (pWid wide i : Nat) = true := by
  unfold pWid
  split <;> rfl

theorem pSize_any (wide big : Bool) (w : World) : Calls Tryz.prog 48 #[.agg #[.bool wide, .bool big]] w fun e w' => e = .returned (.int .i64 (pSize wide : Nat)) ∧ Grow w w' := by
  cases wide
  · go_enter Tryz.func48, Tryz.ntmps48
    go_wp2
    go_ret
    exact ⟨rfl, Grow.of_alloc _ _⟩
  · go_enter Tryz.func48, Tryz.ntmps48
    go_wp2
    go_ret
    exact ⟨rfl, Grow.of_alloc _ _⟩

theorem pWid_any (wide big : Bool) (i : Nat) (w : World) : Calls Tryz.prog 98 #[.int .i64 i, .agg #[.bool wide, .bool big]] w fun e w' => e = .returned (.int .i64 (pWid wide i : Nat)) ∧ Grow w w' := by
  unfold pWid
  cases wide
  · go_enter Tryz.func98, Tryz.ntmps98
    go_wp2
    go_ret
    exact ⟨rfl, Grow.of_alloc _ _⟩
  · cases h0 : ((i : Int) != 0)
    · go_enter Tryz.func98, Tryz.ntmps98
      go_wp2
      go_ret
      exact ⟨rfl, Grow.of_alloc _ _⟩
    · cases h1 : ((i : Int) != 1)
      · go_enter Tryz.func98, Tryz.ntmps98
        go_wp2
        go_ret
        exact ⟨rfl, Grow.of_alloc _ _⟩
      · go_enter Tryz.func98, Tryz.ntmps98
        go_wp2
        go_ret
        exact ⟨rfl, Grow.of_alloc _ _⟩

theorem pOrd_any (wide big : Bool) (w : World) : Calls Tryz.prog 97 #[.agg #[.bool wide, .bool big]] w fun e w' => e = .returned (.agg (i64s (pOrd wide))) ∧ Grow w w' := by
  cases wide
  · go_enter Tryz.func97, Tryz.ntmps97
    go_wp2_with (refine wpList_store_row rfl 182 (.tmp 2) (.tmp 6) rfl (w.heap.size + 1) (i64s (pOrd false)) rfl rfl _ _ (blk2 rfl).2.1 (by kernel_rfl) rfl (one_i64s _) ?_)
    refine bodyPost_ret (results_cell_row (cs := i64s (pOrd false)) rfl _ _ (w.heap.size + 1) _ (0, 0) _ rfl ((blk2 rfl).2.1.set _) Tryz.underlying182 rfl (by kernel_rfl)) rfl ?_
    exact ⟨rfl, Grow.set (blk2 rfl).2.2 (Nat.le_succ _) _⟩
  · go_enter Tryz.func97, Tryz.ntmps97
    go_wp2_with (refine wpList_store_row rfl 182 (.tmp 2) (.tmp 5) rfl (w.heap.size + 1) (i64s (pOrd true)) rfl rfl _ _ (blk2 rfl).2.1 (by kernel_rfl) rfl (one_i64s _) ?_)
    refine bodyPost_ret (results_cell_row (cs := i64s (pOrd true)) rfl _ _ (w.heap.size + 1) _ (0, 0) _ rfl ((blk2 rfl).2.1.set _) Tryz.underlying182 rfl (by kernel_rfl)) rfl ?_
    exact ⟨rfl, Grow.set (blk2 rfl).2.2 (Nat.le_succ _) _⟩

theorem pNum_any (p : Pg) (ok : p.Ok) (w : World) : Calls Tryz.prog 96 #[p.V] w fun e w' => e = .returned (.agg (u64s p.N)) ∧ Grow w w' := by
  obtain ⟨ty, fl, off, va, pa, fs, ms, al⟩ := p
  obtain ⟨k1, k2, k3, k4, k5, k6, k7, k8⟩ := ok
  unfold Pg.V Pg.C
  simp only [] at *
  have z1 : IntKind.u64.wrap (ty : Int) = (ty : Int) := by rw [IntKind.wrap_u64]; omega
  have z2 : IntKind.u64.wrap (fl : Int) = (fl : Int) := by rw [IntKind.wrap_u64]; omega
  clear k1 k2 k3 k4 k5 k6 k7 k8
  go_enter Tryz.func96, Tryz.ntmps96
  go_wp2_with (refine wpList_store_row rfl 180 (.tmp 2) (.tmp 21) rfl (w.heap.size + 1) (u64s (Pg.N ⟨ty, fl, off, va, pa, fs, ms, al⟩)) rfl rfl _ _ (blk2 rfl).2.1 (by kernel_rfl) rfl (one_u64s _) ?_)
  refine bodyPost_ret (results_cell_row (cs := u64s (Pg.N ⟨ty, fl, off, va, pa, fs, ms, al⟩)) rfl _ _ (w.heap.size + 1) _ (0, 0) _ rfl ((blk2 rfl).2.1.set _) Tryz.underlying180 rfl (by kernel_rfl)) rfl ?_
  exact ⟨rfl, Grow.set (blk2 rfl).2.2 (Nat.le_succ _) _⟩

theorem pHdr_any (x0 x1 x2 x3 x4 x5 x6 x7 : Nat) (w : World) (k0 : x0 < 4294967296) (k1 : x1 < 4294967296) :
    Calls Tryz.prog 115 #[.agg (u64s [x0, x1, x2, x3, x4, x5, x6, x7])] w fun e w' => e = .returned (Pg.V ⟨x0, x1, x2, x3, x4, x5, x6, x7⟩) ∧ Grow w w' := by
  have z0 : IntKind.u32.wrap (x0 : Int) = (x0 : Int) := by rw [IntKind.wrap_u32]; omega
  have z1 : IntKind.u32.wrap (x1 : Int) = (x1 : Int) := by rw [IntKind.wrap_u32]; omega
  clear k0 k1
  unfold u64s
  simp only [List.map_cons, List.map_nil]
  go_enter Tryz.func115, Tryz.ntmps115
  go_wp2_with (refine wpList_store_row rfl 76 (.tmp 2) (.tmp 21) rfl (w.heap.size + 1) (Pg.C ⟨x0, x1, x2, x3, x4, x5, x6, x7⟩) rfl rfl _ _ (blk2 rfl).2.1 (by kernel_rfl) rfl (Pg.one _) ?_)
  refine bodyPost_ret (results_cell_row (cs := Pg.C ⟨x0, x1, x2, x3, x4, x5, x6, x7⟩) rfl _ _ (w.heap.size + 1) _ (0, 0) _ rfl ((blk2 rfl).2.1.set _) Tryz.underlying76 rfl (by kernel_rfl)) rfl ?_
  exact ⟨rfl, Grow.set (blk2 rfl).2.2 (Nat.le_succ _) _⟩
end Go.Proofs.YtlccbekalccahaaGreatDoor

namespace Go.Proofs.YtlccbekalccahaaGreatDoor
open Go.RowKit

/-- The numbers, each with how many bytes it has. -/
def Pg.Q (p : Pg) (wide : Bool) : List (Nat × Nat) := (pOrd wide).map fun i => (p.N.getD i 0, pWid wide i)
/-- The bytes. -/
def Pg.L (p : Pg) (wide big : Bool) : List UInt8 := rowB big (p.Q wide)
theorem Pg.lenQ (p : Pg) (wide : Bool) : (p.Q wide).length = 8 := by simp [Pg.Q, len_pOrd]
theorem Pg.lenL (p : Pg) (wide big : Bool) : (p.L wide big).length = pSize wide := by
  rw [Pg.L, length_rowB, ← sum_pRow, pRow, Pg.Q, List.map_map]
  rfl
theorem Pg.atN (p : Pg) (ok : p.Ok) (i : Nat) : p.N.getD i 0 < 18446744073709551616 := by
  obtain ⟨k1, k2, k3, k4, k5, k6, k7, k8⟩ := ok
  match i with
  | 0 => show p.ty < _; omega
  | 1 => show p.fl < _; omega
  | 2 => show p.off < _; omega
  | 3 => show p.va < _; omega
  | 4 => show p.pa < _; omega
  | 5 => show p.fs < _; omega
  | 6 => show p.ms < _; omega
  | 7 => show p.al < _; omega
  | _ + 8 => show 0 < _; omega
theorem Pg.rowed (p : Pg) (ok : p.Ok) (wide : Bool) : Rowed (p.Q wide) :=
  ⟨by rw [p.lenQ]; omega, fun k hk => by simp only [Pg.Q, List.getElem_map]; exact pWid_wid _ _, fun k hk => by simp only [Pg.Q, List.getElem_map]; exact p.atN ok _⟩

theorem makeP (wide : Bool) (w : World) : (Instr.makeSlice 35 (.int .i64 0) (.int .i64 (pSize wide : Nat))).run Tryz.prog w = .ok (.slice (some ⟨w.heap.size, 0, none⟩) 0 (pSize wide))
    (w.alloc (.cells (Array.replicate (pSize wide) (.int .u8 0)) 5)) := by cases wide <;> kernel_rfl

/-- What Put answers. -/
def PPut (p : Pg) (wide big : Bool) (w : World) (e : Ending) (w' : World) : Prop :=
  (rowF (p.Q wide) = true ∧ ∃ A c, e = .returned (.tuple #[.slice A (p.L wide big).length c, .nilIface]) ∧ OB w' w.heap.size 5 A (p.L wide big).length c (p.L wide big) ∧ Grow w w') ∨
  (rowF (p.Q wide) = false ∧ e = .returned (.tuple #[.slice none 0 0, .iface 81 (.int .i64 1)]) ∧ Grow w w')

set_option maxHeartbeats 400000 in
theorem pPut_any (p : Pg) (ok : p.Ok) (wide big : Bool) (w : World) : Calls Tryz.prog 45 #[p.V, .agg #[.bool wide, .bool big]] w (PPut p wide big w) := by
  have HR := Lib.hid (p.rowed ok wide)
  have HN := Lib.hid (fun w => pNum_any p ok w)
  have HSz := Lib.hid (fun w => pSize_any wide big w)
  have HOr := Lib.hid (fun w => pOrd_any wide big w)
  have HWi := Lib.hid (fun i w => pWid_any wide big i w)
  have HSN : Hid ((u64s p.N).size = 8) := Lib.hid rfl
  have HON := Lib.hid (one_u64s p.N)
  have HLQ := Lib.hid (p.lenQ wide)
  have HMk := Lib.hid (makeP wide)
  have HSp : Hid (pSize wide ≤ 56) := by cases wide <;> exact Lib.hid (by decide)
  have HAO : Hid (∀ k, k < 8 → (i64s (pOrd wide))[k]? = some (.int .i64 ((pOrd wide).getD k 0 : Nat))) := Lib.hid (fun k hk => idx_i64s _ _ (by rw [len_pOrd]; exact hk))
  have HOl := Lib.hid (pOrd_lt wide)
  have HAN : Hid (∀ i, i < 8 → (u64s p.N)[i]? = some (.int .u64 (p.N.getD i 0 : Nat))) := Lib.hid (fun i hi => idx_u64s _ _ hi)
  have HAQ : Hid (∀ k (h : k < (p.Q wide).length), (p.Q wide)[k].1 = p.N.getD ((pOrd wide).getD k 0) 0 ∧ (p.Q wide)[k].2 = pWid wide ((pOrd wide).getD k 0)) := Lib.hid (fun k h => by
    have hk : k < (pOrd wide).length := by rw [p.lenQ] at h; rw [len_pOrd]; exact h
    simp only [Pg.Q, List.getElem_map]
    rw [List.getD_eq_getElem?_getD (l := pOrd wide), List.getElem?_eq_getElem hk]
    exact ⟨rfl, rfl⟩)
  have HC1 : Hid (p.C.size = 8) := Lib.hid rfl
  unfold PPut Pg.L
  unfold Pg.V
  generalize p.Q wide = q at HR HLQ HAQ ⊢
  generalize u64s p.N = RN at HN HSN HON HAN
  generalize i64s (pOrd wide) = RO at HOr HAO
  generalize pOrd wide = os at HAO HOl HAQ
  generalize p.N = pn at HAN HAQ
  unfold Pg.V at HN
  generalize p.C = C at HN HC1 ⊢
  generalize pSize wide = sz at HSz HMk HSp
  go_enter Tryz.func45, Tryz.ntmps45
  go_wp2_with (refine wpList_load_row rfl 76 (.tmp 2) rfl w.heap.size rfl _ C (0, 0) _ (blk2 rfl).1 Tryz.underlying76 rfl (by rw [HC1.out]; kernel_rfl) ?_)
  generalize hW : World.alloc _ _ = W0
  obtain ⟨b1, bf, hg0⟩ := blk2 hW
  clear hW b1
  refine (HN.out W0).mono ?_
  rintro e w1 ⟨rfl, hg1⟩
  have HBF1 := Lib.hid (bf.grow hg1)
  have HG1 : Hid (Grow w w1) := hg0.trans hg1
  clear bf hg0 hg1
  obtain ⟨y0, y1⟩ := (HBF1.out.alloc (.cells RN 180)).c2
  go_wp2_with (refine wpList_store_row rfl 180 (.tmp 6) (.tmp 12) rfl w1.heap.size RN rfl rfl _ _ (Blk.new _ _ _) (by rw [HSN.out]; kernel_rfl) (by rw [HSN.out]; rfl) HON.out ?_; rw [World.setRow_alloc_new])
  clear y0 y1
  refine (HSz.out _).mono ?_
  rintro e w2 ⟨rfl, hg2⟩
  have HBN := Lib.hid ((Blk.new w1 180 RN).grow hg2)
  have HBF2 := Lib.hid ((HBF1.out.alloc _).grow hg2)
  have HG2 : Hid (Grow w w2) := (HG1.out.trans (Grow.of_alloc _ _)).trans hg2
  have HG6 : Hid (w.heap.size + 1 < w1.heap.size) := HBF1.out.lt
  generalize w1.heap.size = g6 at HBN HG6 ⊢
  clear hg2 HG1 HBF1
  have hmk := HMk.out w2
  obtain ⟨y0, y1⟩ := (HBF2.out.alloc (.cells (Array.replicate sz (.int .u8 0)) 5)).c2
  go_wp2_with fail
  clear y0 y1 hmk HMk
  refine (HOr.out _).mono ?_
  rintro e w3 ⟨rfl, hg3⟩
  have HO3 := Lib.hid ((OB.room w2 w.heap.size 5 sz (.int .u8 0) (by have := HSp.out; unfold maxLen; omega) HG2.out.size).keep hg3)
  have HBN3 := Lib.hid ((HBN.out.alloc _).grow hg3)
  have HBF3 := Lib.hid ((HBF2.out.alloc _).grow hg3)
  have HG3 : Hid (Grow w w3) := (HG2.out.trans (Grow.of_alloc _ _)).trans hg3
  have HD : Hid (w2.heap.size ≠ w.heap.size + 1) := by have := HBF2.out.lt; exact Lib.hid (by omega)
  have HD6 : Hid (w2.heap.size ≠ g6) := by have := HBN.out.lt; exact Lib.hid (by omega)
  generalize w2.heap.size = g7 at HO3 HD HD6 ⊢
  clear hg3 HG2 HBN HBF2
  go_wp2_with fail
  go_loopw [7, 18] (fun x i wr => ∃ (k : Nat) (A : Option Addr) (c : Nat), k ≤ 8 ∧ i = .int .i64 k ∧ x = .slice A (rowB big (q.take k)).length c ∧ OB wr w.heap.size 5 A (rowB big (q.take k)).length c (rowB big (q.take k)) ∧
    own A ≠ some (w.heap.size + 1) ∧ own A ≠ some g6 ∧ Blk wr (w.heap.size + 1) 23 #[.bool wide, .bool big] ∧ Blk wr g6 180 RN ∧ rowF (q.take k) = true ∧ Grow w wr) (fun _ i _ => 8 - (intOf i).toNat)
  case atStart => exact ⟨0, some ⟨g7, 0, none⟩, sz, by omega, rfl, rfl, HO3.out, fun h => HD.out (by injection h), fun h => HD6.out (by injection h), HBF3.out, HBN3.out, rfl, HG3.out⟩
  case round =>
    obtain ⟨k, A, c, hk, rfl, rfl, ho, hd1, hd2, hbf, hbn, hrf, hg⟩ := hrel
    have HO := Lib.hid ho
    have HD1 := Lib.hid hd1
    have HD2 := Lib.hid hd2
    have HBF := Lib.hid hbf
    have HBN2 := Lib.hid hbn
    have HRF := Lib.hid hrf
    have HG := Lib.hid hg
    clear ho hd1 hd2 hbf hbn hrf hg HO3 HBN3 HBF3 HG3
    by_cases hlt : k < 8
    · have hkq : k < q.length := by rw [HLQ.out]; exact hlt
      have HB := Lib.hid (rowB_succ big q k hkq)
      have HF := Lib.hid (rowF_succ q k hkq)
      have HW := Lib.hid (HR.out.wide k hkq)
      have HZ := Lib.hid (fun h => rowF_false hkq h)
      have HLE := Lib.hid (rowB_le HR.out big k (by omega))
      have hv := HR.out.lt k hkq
      have hw8 := HR.out.wide8 k hkq
      have HK1 := Lib.hid (HAN.out (os.getD k 0) (HOl.out k hlt))
      have HK2 := Lib.hid (HAO.out k hlt)
      have ho8 := HOl.out k hlt
      obtain ⟨e1, e2⟩ := HAQ.out k hkq
      rw [HRF.out, Bool.true_and] at HF
      rw [← e1] at HK1
      have HW2 := Lib.hid (fun w => HWi.out (os.getD k 0) w)
      rw [← e2] at HW2
      clear e1 e2
      generalize q[k].1 = v at HB HF HZ hv HK1
      generalize q[k].2 = m at HB HF HZ HW hw8 HW2
      generalize os.getD k 0 = i at HK1 HK2 HW2 ho8
      have z1 : (0 : Int) ≤ (i : Int) := by omega
      have z2 : (i : Int) < 8 := by omega
      obtain ⟨y0, y1⟩ := HBF.out.c2
      clear hkq
      go_wp2_with (refine wpList_index rfl 182 3 (.tmp 17) (.tmp 18) rfl 8 _ Tryz.underlying182 Tryz.underlying3 rfl (by kernel_rfl) RO k (.int .i64 (i : Int)) rfl rfl hlt HK2.out ?_)
      clear y0 y1
      refine (HW2.out _).mono ?_
      rintro e w4 ⟨rfl, hg4⟩
      have HO4 := Lib.hid (HO.out.keep hg4)
      have HBF4 := Lib.hid (HBF.out.grow hg4)
      have HBN4 := Lib.hid (HBN2.out.grow hg4)
      have HG4 : Hid (Grow w w4) := HG.out.trans hg4
      clear hg4 HO HBF HBN2 HG
      have y1 : w4.cell? ⟨g6, i, none⟩ = some (.int .u64 (v : Int)) := (HBN4.out.at i).trans HK1.out
      go_wp2_with fail
      refine (fits_any v m _ (by omega) (by omega)).mono ?_
      rintro e w5 ⟨rfl, rfl⟩
      rw [fits_row v m HW.out]
      cases hfit : decide (v < 256 ^ m)
      · have HZ2 := Lib.hid (HZ.out hfit)
        clear hfit
        go_wp2
        go_ret2
        exact .inr ⟨HZ2.out, rfl, HG4.out⟩
      · rw [hfit] at HF
        clear hfit HZ
        go_wp2_with fail
        clear y1
        refine wp_region_leap (leap_kept (fun j => j = w.heap.size + 1 ∨ j = g6)) [(0, true), (1, true), (2, true), (3, true), (4, true), (5, true), (6, true), (7, false), (8, false), (9, true)] (by kernel_rfl) (by kernel_rfl) (by kernel_rfl) ?_
        have HX : Hid (∀ W, Kept (fun j => j = w.heap.size + 1 ∨ j = g6) w4.drew W → (_ ∧ _) ∧ W.cell? ⟨g6, i, none⟩ = some (.int .u64 (v : Int))) := fun W hW =>
          ⟨(HBF4.out.drew.kept hW (.inl rfl)).c2, ((HBN4.out.drew.kept hW (.inr rfl)).at i).trans HK1.out⟩
        have HO1 : Hid (OB w4.drew _ _ _ _ _ _) := HO4.out
        have HBF1 := Lib.hid HBF4.out.drew
        have HBN1 := Lib.hid HBN4.out.drew
        have HG1 : Hid (Grow w w4.drew) := HG4.out.trans (Grow.of_drew _)
        generalize w4.drew = w6 at HX HO1 HBF1 HBN1 HG1 ⊢
        clear HO4 HBF4 HBN4 HG4
        repeat (refine chain_take rfl (by rfl) ?_ (fun W hG => ?_) ?_; rotate_left; (obtain ⟨⟨q1, q2⟩, q3⟩ := HX.out W hG; go_simp; rfl); simp only [Act.put, List.setIfInBounds_toArray, List.set_cons_zero, List.set_cons_succ])
        clear HX
        refine chain_only rfl (by rfl) (fun K hK => ?_)
        go_simp
        refine (put_wide v m big _ HW.out (by omega)).mono ?_
        rintro e w7 ⟨A3, c3, rfl, ho3, hb3⟩
        refine hK _ _ (Kept.of_grow hb3) ?_
        clear hK K
        have HO3 := Lib.hid ho3
        have HO4 := Lib.hid (HO1.out.keep hb3)
        have HBF7 := Lib.hid (HBF1.out.grow hb3)
        have HBN7 := Lib.hid (HBN1.out.grow hb3)
        have HG7 : Hid (Grow w w7) := HG1.out.trans hb3
        clear ho3 hb3 HO1 HBF1 HBN1 HG1
        rw [Int.toNat_natCast] at HO3
        refine chain_only rfl (by rfl) (fun K hK => ?_)
        refine wp_appendS w7 (.tmp 31) (.tmp 38) 35 rfl w.heap.size 5 Tryz.underlying35 (by kernel_rfl) A _ c _ rfl HO4.out w7.heap.size A3 m c3 _ rfl HO3.out.rb (by have := HLE.out; omega) HG7.out.size ?_
        intro A5 c5 w8 ho5 hb5 hk5 hn5
        have HBF8 : Hid (Blk w8 (w.heap.size + 1) 23 #[.bool wide, .bool big]) := (hk5 _ HBF7.out.lt HD1.out).trans HBF7.out
        have HBN8 : Hid (Blk w8 g6 180 RN) := (hk5 _ HBN7.out.lt HD2.out).trans HBN7.out
        refine hK _ _ ⟨hb5.size, fun j hj hj2 => by
          rcases hj2 with rfl | rfl
          · exact hk5 _ hj HD1.out
          · exact hk5 _ hj HD2.out⟩ ?_
        clear hK K
        have HD1' : Hid (own A5 ≠ some (w.heap.size + 1)) := by
          rcases hn5 with e | e
          · rw [e]; exact HD1
          · rw [e]; have := HBF7.out.lt; exact fun h => by injection h; omega
        have HD2' : Hid (own A5 ≠ some g6) := by
          rcases hn5 with e | e
          · rw [e]; exact HD2
          · rw [e]; have := HBN7.out.lt; exact fun h => by injection h; omega
        have HG8 : Hid (Grow w w8) := HG7.out.trans' hb5
        rw [← HB.out] at ho5
        have hm : (rowB big (q.take k)).length + m = (rowB big (q.take (k + 1))).length := by rw [HB.out, List.length_append, length_putB]
        rw [hm] at ho5 ⊢
        have HO5 := Lib.hid ho5
        clear ho5 hb5 hk5 hn5 hm HO3 HO4 HG7 HBF7 HBN7
        repeat (refine chain_take rfl (by rfl) ?_ (fun W hG => ?_) ?_; rotate_left; (go_simp; rfl); simp only [Act.put, List.setIfInBounds_toArray, List.set_cons_zero, List.set_cons_succ])
        refine chain_done ?_
        go_wp2
        go_roundw
        case rel => exact ⟨k + 1, A5, c5, by omega, by go_num, rfl, HO5.out, HD1'.out, HD2'.out, HBF8.out, HBN8.out, HF.out, HG8.out⟩
        case measure => simp [intOf]; omega
    · have HK : Hid (q.take k = q) := by
        have e : k = q.length := by rw [HLQ.out]; omega
        rw [e]
        exact List.take_length
      rw [HK.out] at HO HRF ⊢
      go_wp2
      go_ret2
      exact .inl ⟨HRF.out, A, c, rfl, HO.out, HG.out⟩
end Go.Proofs.YtlccbekalccahaaGreatDoor
