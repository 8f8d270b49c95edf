/-
  Several texts in one: Contracts of wire; The contracts of model; The contract of wire; The contracts of slices; append of several numbers that were laid side by side; The contract of model.
-/
import Derived.Test.YtfbimboemahhhaaGreatDoorRows
import Derived.Test.YtfbimboemahhhaaGreatDoorTfG2
import Derived.Test.YtfbimboemahhhaaGreatDoorTfG3
import Derived.WalkKit
import Derived.BigQuiet
import Derived.Deep.QuietTactic
import Derived.Lib.Hide
import Derived.Test.YtfbimboemahhhaaGreatDoorTfG5
import Derived.Test.YtfbimboemahhhaaGreatDoorTfG4
namespace Go.Proofs.YtfbimboemahhhaaGreatDoor
open Go.Lib (hid)
open Go.RowKit
def wid (n : Int) : Bool := decide (n = 1 ∨ n = 2 ∨ n = 4 ∨ n = 8)
theorem wid_cases {n : Int} (h : wid n = true) : n = 1 ∨ n = 2 ∨ n = 4 ∨ n = 8 := of_decide_eq_true h
theorem isWidth_any (n : Int) (w : World) : Calls Tryz.prog 70 #[.int .i64 n] w fun e w' => e = .returned (.bool (wid n)) ∧ w = w' := by
 by_cases h1 : n = 1
 ·subst h1
  go_enter Tryz.func70, Tryz.ntmps70
  go_wp2
  go_ret
  exact ⟨rfl, rfl⟩
 by_cases h2 : n = 2
 ·subst h2
  go_enter Tryz.func70, Tryz.ntmps70
  go_wp2
  go_ret
  exact ⟨rfl, rfl⟩
 by_cases h4 : n = 4
 ·subst h4
  go_enter Tryz.func70, Tryz.ntmps70
  go_wp2
  go_ret
  exact ⟨rfl, rfl⟩
 by_cases h8 : n = 8
 ·subst h8
  go_enter Tryz.func70, Tryz.ntmps70
  go_wp2
  go_ret
  exact ⟨rfl, rfl⟩
 have e : wid n = false := by unfold wid; simp [h1, h2, h4, h8]
 have b1 : (n == 1) = false := by simp [h1]
 have b2 : (n == 2) = false := by simp [h2]
 have b4 : (n == 4) = false := by simp [h4]
 have b8 : (n == 8) = false := by simp [h8]
 have E := hid e
 clear e h1 h2 h4 h8
 go_enter Tryz.func70, Tryz.ntmps70
 go_wp2
 go_ret
 exact ⟨ret_bool E.out.symm, rfl⟩
def wthn (a n s : Int) : Bool := decide (a + n ≤ s)
theorem within_any (a n s : Int) (w : World) (ha : 0 ≤ a) (hn : 0 ≤ n) (hs : s ≤ 18446744073709551615) :
  Calls Tryz.prog 106 #[.int .u64 a, .int .u64 n, .int .u64 s] w fun e w' => e = .returned (.bool (wthn a n s)) ∧ w = w' := by
 by_cases h1 : n ≤ s
 ·have hd : 0 ≤ s - n := by omega
  by_cases h2 : a ≤ s - n
  ·have E := hid (show wthn a n s = true from decide_eq_true (by omega))
   go_enter Tryz.func106, Tryz.ntmps106
   go_wp2
   go_ret
   exact ⟨ret_bool E.out.symm, rfl⟩
  ·have E := hid (show wthn a n s = false from decide_eq_false (by omega))
   have h2' : decide (a ≤ s - n) = false := decide_eq_false h2
   go_enter Tryz.func106, Tryz.ntmps106
   go_wp2
   go_ret
   exact ⟨ret_bool E.out.symm, rfl⟩
 ·have E := hid (show wthn a n s = false from decide_eq_false (by omega))
  have h1' : decide (n ≤ s) = false := decide_eq_false h1
  go_enter Tryz.func106, Tryz.ntmps106
  go_wp2
  go_ret
  exact ⟨ret_bool E.out.symm, rfl⟩
def fits (v n : Int) : Bool := wid n && decide (v < 256 ^ n.toNat)
theorem mWidth_any (wide big : Bool) (w : World) : Calls Tryz.prog 143 #[.agg #[.bool wide, .bool big]] w fun e w' => e = .returned (.int .i64 (byWide wide 4 8 : Nat)) ∧ Grow w w' := by
 cases wide
 all_goals
  go_enter Tryz.func143, Tryz.ntmps143
  go_wp2
  go_ret
  exact ⟨rfl, Grow.of_alloc _ _⟩
theorem mLast_any (wide big : Bool) (w : World) : Calls Tryz.prog 161 #[.agg #[.bool wide, .bool big]] w fun e w' => e = .returned (.int .u64 (lastA wide : Nat)) ∧ Grow w w' := by
 cases wide
 all_goals
  go_enter Tryz.func161, Tryz.ntmps161
  go_wp2
  go_ret
  exact ⟨rfl, Grow.of_alloc _ _⟩
theorem mIsSeg_any (m : Md) (A1 A2 : Option Addr) (n1 c1 n2 c2 : Nat) (i : Int) (w : World) : Calls Tryz.prog 48 #[.agg (mdC m (.slice A1 n1 c1) (.slice A2 n2 c2)), .int .i64 i] w fun e w' => e = .returned (.bool (isSegN n1 i)) ∧ Grow w w' := by
 unfold mdC
 by_cases h0 : 0 ≤ i
 ·have E := hid (show isSegN n1 i = decide (i < (n1 : Int)) by unfold isSegN; simp [h0])
  go_enter Tryz.func48, Tryz.ntmps48
  go_wp2
  go_ret
  exact ⟨ret_bool E.out.symm, Grow.of_alloc _ _⟩
 ·have E := hid (show isSegN n1 i = false by unfold isSegN; simp [h0])
  have h1 : decide (0 ≤ i) = false := decide_eq_false h0
  clear h0
  go_enter Tryz.func48, Tryz.ntmps48
  go_wp2
  go_ret
  exact ⟨ret_bool E.out.symm, Grow.of_alloc _ _⟩
theorem mIsWithin_any (p : Pl) (S : Value) (A : Option Addr) (n c : Nat) (w : World) (hn : n ≤ maxLen) : Calls Tryz.prog 49 #[.agg (plC p S), .slice A n c] w fun e w' => e = .returned (.bool (p.within n)) ∧ Grow w w' := by
 unfold plC
 unfold maxLen at hn
 have z : IntKind.u64.wrap (n : Int) = (n : Int) := by rw [IntKind.wrap_u64]; omega
 have E := hid (show wthn (p.off : Nat) (p.size : Nat) (n : Nat) = p.within n by unfold wthn Pl.within; rw [Bool.eq_iff_iff, decide_eq_true_iff, decide_eq_true_iff]; omega)
 generalize p.within n = R at E ⊢
 generalize p.off = a at E ⊢
 generalize p.size = b at E ⊢
 generalize p.inn = i
 go_enter Tryz.func49, Tryz.ntmps49
 go_wp2_with (go_at_call 106; refine (within_any _ _ _ _ (by omega) (by omega) (by omega)).mono ?_; rintro e w' ⟨rfl, rfl⟩; rw [E.out])
 go_ret
 exact ⟨rfl, Grow.of_alloc _ _⟩
theorem mHeld_any (s : Se) (S : Value) (w : World) : Calls Tryz.prog 149 #[.agg (seC s S)] w fun e w' => e = .returned (.int .u64 (s.held : Nat)) ∧ Grow w w' := by
 unfold seC
 by_cases h0 : s.typ = 0
 ·have E := hid (show s.held = 0 by unfold Se.held; simp [h0])
  have e0 : ((s.typ : Int) == 0) = true := by simp [h0]
  clear h0
  generalize s.held = R at E ⊢
  generalize s.typ = t at e0 ⊢
  go_enter Tryz.func149, Tryz.ntmps149
  go_wp2
  go_ret
  exact ⟨by rw [E.out]; rfl, Grow.of_alloc _ _⟩
 ·have e0 : ((s.typ : Int) == 0) = false := by simp [h0]
  by_cases h8 : s.typ = 8
  ·have E := hid (show s.held = 0 by unfold Se.held; simp [h8])
   have e8 : ((s.typ : Int) == 8) = true := by simp [h8]
   clear h0 h8
   generalize s.held = R at E ⊢
   generalize s.typ = t at e0 e8 ⊢
   go_enter Tryz.func149, Tryz.ntmps149
   go_wp2
   go_ret
   exact ⟨by rw [E.out]; rfl, Grow.of_alloc _ _⟩
  ·have E := hid (show s.held = s.size by unfold Se.held; simp [h0, h8])
   have e8 : ((s.typ : Int) == 8) = false := by simp; omega
   clear h0 h8
   generalize s.held = R at E ⊢
   generalize s.typ = t at e0 e8 ⊢
   generalize s.size = z at E ⊢
   go_enter Tryz.func149, Tryz.ntmps149
   go_wp2
   go_ret
   exact ⟨ret_int (by rw [E.out]), Grow.of_alloc _ _⟩
theorem fits_any (v n : Int) (w : World) (h0 : 0 ≤ v) (h1 : v ≤ 18446744073709551615) :
  Calls Tryz.prog 36 #[.int .u64 v, .int .i64 n] w fun e w' => e = .returned (.bool (fits v n)) ∧ w = w' := by
 cases hw : wid n
 ·have E := hid (show fits v n = false by simp [fits, hw])
  have H := hid hw
  clear hw
  go_enter Tryz.func36, Tryz.ntmps36
  go_wp2_with (go_at_call 70; refine (isWidth_any _ _).mono ?_; rintro e w' ⟨rfl, rfl⟩; rw [H.out])
  go_ret
  exact ⟨ret_bool E.out.symm, rfl⟩
 ·rcases wid_cases hw with rfl | rfl | rfl | rfl
  all_goals
   have H := hid hw
   clear hw
   go_enter Tryz.func36, Tryz.ntmps36
   go_wp2_with (go_at_call 70; refine (isWidth_any _ _).mono ?_; rintro e w' ⟨rfl, rfl⟩; rw [H.out])
  all_goals
   go_ret
   exact ⟨ret_bool (by simp only [fits, H.out, Bool.true_and]; rw [Bool.eq_iff_iff]; simp; omega), rfl⟩
def fitF (g : Nat) : Value := .func (.func 145) #[] #[.pointer (some ⟨g, 0, none⟩)]
theorem fits_wide (wide : Bool) (v : Nat) : fits (v : Int) ((byWide wide 4 8 : Nat) : Int) = fitW wide v := by
 cases wide
 ·have h1 : wid ((byWide false 4 8 : Nat) : Int) = true := by decide
  unfold fits fitW
  rw [h1, Bool.true_and, Bool.eq_iff_iff, decide_eq_true_iff, decide_eq_true_iff]
  show (v : Int) < 256 ^ 4 ↔ v < 256 ^ 4
  omega
 ·have h1 : wid ((byWide true 4 8 : Nat) : Int) = true := by decide
  unfold fits fitW
  rw [h1, Bool.true_and, Bool.eq_iff_iff, decide_eq_true_iff, decide_eq_true_iff]
  show (v : Int) < 256 ^ 8 ↔ v < 256 ^ 8
  omega
theorem fits1_any (wide : Bool) (v g : Nat) (w : World) (hv : v < 18446744073709551616) (hc : w.cell? ⟨g, 0, none⟩ = some (.int .i64 (byWide wide 4 8 : Nat))) :
  Calls Tryz.prog 145 #[.int .u64 (v : Nat), .pointer (some ⟨g, 0, none⟩)] w fun e w' => e = .returned (.bool (!fitW wide v)) ∧ w = w' := by
 have HF := hid (fun w => fits_any (v : Int) ((byWide wide 4 8 : Nat) : Int) w (by omega) (by omega))
 rw [fits_wide] at HF
 generalize fitW wide v = R at HF ⊢
 generalize byWide wide 4 8 = n at HF hc
 go_enter Tryz.func145, Tryz.ntmps145
 go_wp2_with (go_at_call 36; refine (HF.out _).mono ?_; rintro e w' ⟨rfl, rfl⟩)
 go_ret
 exact ⟨rfl, rfl⟩
theorem named1_any (s : Se) (S : Value) (w : World) : Calls Tryz.prog 160 #[.agg (seC s S)] w fun e w' => e = .returned (.bool (!decide (s.name = 0))) ∧ Grow w w' := by
 unfold seC
 generalize s.name = n
 go_enter Tryz.func160, Tryz.ntmps160
 go_wp2
 go_ret
 exact ⟨ret_bool (by rw [Bool.eq_iff_iff]; simp), Grow.of_alloc _ _⟩
def Idx {α : Type} (l : List α) (p : α → Bool) (i : Int) : Prop := decide (0 ≤ i) = !l.all p
theorem Idx.no {α : Type} {l : List α} {p : α → Bool} (h : ∀ a ∈ l, p a = true) : Idx l p (-1) := by
 unfold Idx
 rw [List.all_eq_true.2 h]
 rfl
theorem Idx.at {α : Type} {l : List α} {p : α → Bool} {k : Nat} {a : α} (hk : a ∈ l) (h : p a = false) : Idx l p (k : Int) := by
 have e : l.all p = false := by
  rw [List.all_eq_false]
  exact ⟨a, hk, by simp [h]⟩
 unfold Idx
 rw [e]
 simp
set_option maxHeartbeats 400000 in
theorem idxN_any (wide : Bool) (A : Option Addr) (n c : Nat) (l : List Nat) (g B : Nat) (w : World) (h : NS w B .u64 A n c l) (hl : ∀ v ∈ l, v < 18446744073709551616) (hc : w.cell? ⟨g, 0, none⟩ = some (.int .i64 (byWide wide 4 8 : Nat))) :
  Calls Tryz.prog 155 #[.slice A n c, fitF g] w fun e w' => ∃ i : Int, e = .returned (.int .i64 i) ∧ Idx l (fitW wide) i ∧ w = w' := by
 have HF := hid (fun v hv => fits1_any wide v g w hv hc)
 have HS := hid h
 have HL := hid h.len
 have HLt := hid hl
 have hcc := h.cap
 have hcm := h.max
 unfold maxLen at hcm
 clear h hl hc
 unfold fitF
 go_enter Tryz.func155, Tryz.ntmps155
 go_wp2_with fail
 go_loop [8] (fun i => ∃ k : Nat, k ≤ n ∧ i = .int .i64 k ∧ Hid (∀ v ∈ l.take k, fitW wide v = true)) (fun i => n - (intOf i).toNat)
 case atStart => exact ⟨0, Nat.zero_le _, rfl, hid fun v h => absurd h (by simp)⟩
 case round =>
  obtain ⟨k, hk, rfl, HK⟩ := hrel
  by_cases hlt : k < n
  ·obtain ⟨b, off, rfl, hb, hcell⟩ := HS.out.pos (by omega)
   have hkl : k < l.length := by rw [← HL.out]; exact hlt
   have q := hcell k hkl
   have HM := hid (List.getElem_mem hkl)
   have HT := hid (show l.take (k + 1) = l.take k ++ [l[k]] by rw [List.take_add_one, List.getElem?_eq_getElem hkl]; rfl)
   generalize l[k] = v at q HM HT
   have HV := hid (HF.out v (HLt.out v HM.out))
   clear hcell hb
   cases hf : fitW wide v with
   | true =>
    rw [hf] at HV
    have H1 : Hid (∀ v ∈ l.take (k + 1), fitW wide v = true) := hid fun a ha => by
     rw [HT.out] at ha
     rcases List.mem_append.1 ha with h | h
     ·exact HK.out a h
     ·obtain rfl : a = v := by simpa using h
      exact hf
    clear hf
    go_wp2_with (go_at_call 145; refine HV.out.mono ?_; rintro e w' ⟨rfl, rfl⟩)
    go_round
    case rel => exact ⟨k + 1, by omega, by go_num, H1⟩
    case measure => simp [intOf]; omega
   | false =>
    rw [hf] at HV
    have HI : Hid (Idx l (fitW wide) (k : Int)) := hid (Idx.at HM.out hf)
    clear hf
    go_wp2_with (go_at_call 145; refine HV.out.mono ?_; rintro e w' ⟨rfl, rfl⟩)
    go_ret
    exact ⟨k, rfl, HI.out, rfl⟩
  ·have HI : Hid (Idx l (fitW wide) (-1)) := hid (Idx.no (by
    have : l.take k = l := by rw [List.take_of_length_le (by have := HL.out; omega)]
    have h := HK.out
    rwa [this] at h))
   go_wp2
   go_ret
   exact ⟨-1, rfl, HI.out, rfl⟩
theorem hasN_any (wide : Bool) (A : Option Addr) (n c : Nat) (l : List Nat) (g B : Nat) (w : World) (h : NS w B .u64 A n c l) (hl : ∀ v ∈ l, v < 18446744073709551616) (hc : w.cell? ⟨g, 0, none⟩ = some (.int .i64 (byWide wide 4 8 : Nat))) :
  Calls Tryz.prog 144 #[.slice A n c, fitF g] w fun e w' => e = .returned (.bool (!l.all (fitW wide))) ∧ w = w' := by
 have HI := hid (idxN_any wide A n c l g B w h hl hc)
 clear h hl hc
 unfold Idx at HI
 generalize l.all (fitW wide) = R at HI ⊢
 unfold fitF at HI ⊢
 go_enter Tryz.func144, Tryz.ntmps144
 go_wp2_with fail
 refine HI.out.mono ?_
 rintro e w' ⟨i, rfl, hi, rfl⟩
 have H := hid hi
 clear hi
 go_wp2
 go_ret
 exact ⟨ret_bool H.out, rfl⟩
set_option maxHeartbeats 800000 in
theorem idxS_any (A : Option Addr) (n c : Nat) (l : List Se) (w : World) (h : ZR seK w w.heap.size A n c l) :
  Calls Tryz.prog 163 #[.slice A n c, .func (.func 160) #[] #[]] w fun e w' => ∃ i : Int, e = .returned (.int .i64 i) ∧ Idx l (fun s => decide (s.name = 0)) i ∧ Grow w w' := by
 have HS := hid h
 have HL := hid h.len
 have hcc := h.cap
 have hcm := h.max
 unfold maxLen at hcm
 clear h
 go_enter Tryz.func163, Tryz.ntmps163
 go_wp2_with fail
 go_loopw [8] (fun i wr => ∃ k : Nat, k ≤ n ∧ i = .int .i64 k ∧ Hid (∀ s ∈ l.take k, decide (s.name = 0) = true) ∧ Grow w wr) (fun i _ => n - (intOf i).toNat)
 case atStart => exact ⟨0, Nat.zero_le _, rfl, hid fun v h => absurd h (by simp), Grow.refl _⟩
 case round =>
  obtain ⟨k, hk, rfl, HK, hg⟩ := hrel
  have HG := hid hg
  clear hg
  by_cases hlt : k < n
  ·obtain ⟨b, off, rfl, hb⟩ := HS.out.pos (by omega)
   have hkl : k < l.length := by rw [← HL.out]; exact hlt
   obtain ⟨Ak, nk, ck, -, hcell, gk⟩ := HS.out.at hkl
   have hcell' : ∀ i v, (seC l[k] (.slice Ak nk ck))[i]? = some v → wr.cell? ⟨b, off + k * 13 + i, none⟩ = some v := fun i v hv => (Below.cell HG.out hb).trans (hcell i v hv)
   have HV := hid (fun w => named1_any l[k] (.slice Ak nk ck) w)
   have HM := hid (List.getElem_mem hkl)
   have HT := hid (takeS l k hkl)
   unfold seC at hcell' HV
   generalize l[k] = s at hcell' HM HT HV
   have t0 : wr.cell? ⟨b, off + k * 13, none⟩ = _ := hcell' 0 _ rfl
   have t1 := hcell' 1 _ rfl
   have t2 := hcell' 2 _ rfl
   have t3 := hcell' 3 _ rfl
   have t4 := hcell' 4 _ rfl
   have t5 := hcell' 5 _ rfl
   have t6 := hcell' 6 _ rfl
   have t7 := hcell' 7 _ rfl
   have t8 := hcell' 8 _ rfl
   have t9 := hcell' 9 _ rfl
   have t10 := hcell' 10 _ rfl
   have t11 := hcell' 11 _ rfl
   have t12 := hcell' 12 _ rfl
   clear hcell hcell' gk hb
   cases hf : decide (s.name = 0) with
   | true =>
    rw [hf] at HV
    have H1 : Hid (∀ s ∈ l.take (k + 1), decide (s.name = 0) = true) := hid fun a ha => by
     rw [HT.out] at ha
     rcases List.mem_append.1 ha with h | h
     ·exact HK.out a h
     ·obtain rfl : a = s := by simpa using h
      exact hf
    clear hf
    go_wp2_with fail
    clear t0 t1 t2 t3 t4 t5 t6 t7 t8 t9 t10 t11 t12
    refine (HV.out _).mono ?_
    rintro e w2 ⟨rfl, hg2⟩
    have HG2 : Hid (Grow w w2) := HG.out.trans hg2
    clear hg2
    go_wp2
    go_roundw
    case rel => exact ⟨k + 1, by omega, by go_num, H1, HG2.out⟩
    case measure => simp [intOf]; omega
   | false =>
    rw [hf] at HV
    have HI : Hid (Idx l (fun s => decide (s.name = 0)) (k : Int)) := hid (Idx.at HM.out hf)
    clear hf
    go_wp2_with fail
    clear t0 t1 t2 t3 t4 t5 t6 t7 t8 t9 t10 t11 t12
    refine (HV.out _).mono ?_
    rintro e w2 ⟨rfl, hg2⟩
    have HG2 : Hid (Grow w w2) := HG.out.trans hg2
    clear hg2
    go_wp2
    go_ret
    exact ⟨k, rfl, HI.out, HG2.out⟩
  ·have HI : Hid (Idx l (fun s => decide (s.name = 0)) (-1)) := hid (Idx.no (by
    have : l.take k = l := by rw [List.take_of_length_le (by have := HL.out; omega)]
    have h := HK.out
    rwa [this] at h))
   go_wp2
   go_ret
   exact ⟨-1, rfl, HI.out, HG.out⟩
theorem hasS_any (A : Option Addr) (n c : Nat) (l : List Se) (w : World) (h : ZR seK w w.heap.size A n c l) :
  Calls Tryz.prog 159 #[.slice A n c, .func (.func 160) #[] #[]] w fun e w' => e = .returned (.bool (!l.all fun s => decide (s.name = 0))) ∧ Grow w w' := by
 have HI := hid (idxS_any A n c l w h)
 clear h
 unfold Idx at HI
 generalize (l.all fun s => decide (s.name = 0)) = R at HI ⊢
 go_enter Tryz.func159, Tryz.ntmps159
 go_wp2_with fail
 refine HI.out.mono ?_
 rintro e w' ⟨i, rfl, hi, hg⟩
 have H := hid hi
 have HG := hid hg
 clear hi hg
 go_wp2
 go_ret
 exact ⟨ret_bool H.out, HG.out⟩
theorem run_appendM {P : Program} (w : World) (base : Nat) (t ty e : TypeId) (k : IntKind) (bytes : Nat) (ht : P.underlying t = some (.slice e))
  (hinfo : (P.info? e).map (fun i => (i.zero, i.size, i.bytes)) = some (some (.int k 0), 1, bytes))
  (A : Option Addr) (n c : Nat) (l : List Nat) (hown : ON w base e k A n c l) (g : Nat) (t' : TypeId) (m : Nat) (y : List Nat) (hm : y.length = m) (hr : Blk w g t' (y.map (ival k)).toArray) (hm0 : 0 < m)
  (h63 : n + m ≤ maxLen) (hsz : (n + m) * bytes ≤ 140737488355328) (hbase : base ≤ w.heap.size) :
  ∃ A2 c2 w', (Builtin.append_ #[t, t] ty #[.slice A n c, .slice (some ⟨g, 0, none⟩) m m]).run P w = .ok (.slice A2 (n + m) c2) w' ∧ ON w' base e k A2 (n + m) c2 (l ++ y) ∧ Below base w w' := by
 obtain ⟨i, hi, hz, hs, hby⟩ := info_parts hinfo
 obtain ⟨v', w', hrun, h2, h3, _, _⟩ := run_append_own_at (P := P) w base t ty e i (.int k 0) 1 bytes ht hi hz hs hby rfl (by omega) _ n _ hown ⟨g, 0, none⟩ m m (y.map (ival k))
  (by simp [hm]) (fun j u hj => by
   have e2 : (⟨g, 0, none⟩ : Addr).add j = ⟨g, j, none⟩ := by unfold Addr.add; split <;> simp_all
   rw [e2, hr.at]
   simpa using hj) (by intro u hu; obtain ⟨x, _, rfl⟩ := List.mem_map.1 hu; rfl) h63 hsz hbase
 have hv : ∃ A2 c2, v' = .slice A2 (n + m) c2 := by
  rcases h2.2 with ⟨h0, h1⟩ | ⟨g, cap, cur, h0, _⟩
  ·omega
  ·exact ⟨_, _, h0⟩
 obtain ⟨A2, c2, rfl⟩ := hv
 exact ⟨A2, c2, w', hrun, by rw [ON, List.map_append]; exact h2, (Below.refl base w).grown h3 hbase fun k hk => (World.ownsRow.lt hown k hk).1⟩
theorem wpList_appendM {P : Program} (w : World) {ops : Array Oper} {rest : List Oper} {o : Oper} {a : Act} {Q : Exit → Act → World → Prop} (hgd : o.guard = none) (s x : Operand) (t : TypeId)
  (ho : o.op = .call { callee := .builtin .append, args := #[s, x], argTypes := #[t, t] })
  (base : Nat) (e : TypeId) (k : IntKind) (bytes : Nat) (ht : P.underlying t = some (.slice e)) (hinfo : (P.info? e).map (fun i => (i.zero, i.size, i.bytes)) = some (some (.int k 0), 1, bytes))
  (A : Option Addr) (n c : Nat) (l : List Nat) (hs : a.eval s = .slice A n c) (hown : ON w base e k A n c l)
  (g : Nat) (t' : TypeId) (m : Nat) (y : List Nat) (hm : y.length = m) (hx : a.eval x = .slice (some ⟨g, 0, none⟩) m m) (hr : Blk w g t' (y.map (ival k)).toArray) (hm0 : 0 < m)
  (h63 : n + m ≤ maxLen) (hsz : (n + m) * bytes ≤ 140737488355328) (hbase : base ≤ w.heap.size)
  (h : ∀ A2 c2 w', ON w' base e k A2 (n + m) c2 (l ++ y) → Below base w w' → wpList P ops Q rest (a.put o.dst (.slice A2 (n + m) c2)) w') : wpList P ops Q (o :: rest) a w := by
 refine wpList_plain hgd fun K hK => ?_
 obtain ⟨A2, c2, w', hrun, h2, h3⟩ := run_appendM (P := P) w base t o.type e k bytes ht hinfo A n c l hown g t' m y hm hr hm0 h63 hsz hbase
 unfold Oper.wp execOp
 simp only [ho, resolve, invoke, builtin, Sem.run_bind, Sem.run_pure, Result.andThen_ok, List.map_toArray, List.map_cons, List.map_nil, hs, hx, hrun]
 exact hK _ _ (h A2 c2 w' h2 h3)
theorem ON.of_blk {w : World} {base g : Nat} {e : TypeId} {k : IntKind} {l : List Nat} (h : Blk w g e (l.map (ival k)).toArray) (hb : base ≤ g) (hm : l.length ≤ maxLen) : ON w base e k (some ⟨g, 0, none⟩) l.length l.length l :=
 ⟨by simp, .inr ⟨g, l.length, (l.map (ival k)).toArray, rfl, hb, h, Nat.le_refl _, hm, by simp, by simp [List.take_of_length_le]⟩⟩
set_option maxRecDepth 100000 in
set_option maxHeartbeats 8000000 in
theorem mFits_any (m : Md) (ok : m.Ok) (A1 A2 : Option Addr) (n1 c1 n2 c2 : Nat) (w : World) (g1 : ZR sgK w w.heap.size A1 n1 c1 m.segs) (g2 : ZR seK w w.heap.size A2 n2 c2 m.secs) (h1 : n1 ≤ 16) (h2 : n2 ≤ 64) :
  Calls Tryz.prog 115 #[.agg (mdC m (.slice A1 n1 c1) (.slice A2 n2 c2))] w fun e w' => e = .returned (.bool m.fits) ∧ Grow w w' := by
 obtain ⟨x2, x3, x4, x5, x6, x10, hC⟩ : ∃ x2 x3 x4 x5 x6 x10 : Value, mdC m (.slice A1 n1 c1) (.slice A2 n2 c2) = #[.bool m.wide, .bool m.big, x2, x3, x4, x5, x6, .int .u64 (m.entry : Nat), .slice A1 n1 c1, .slice A2 n2 c2, x10] := ⟨_, _, _, _, _, _, rfl⟩
 rw [hC]
 have hm1 := g1.max
 have hc1 := g1.cap
 have hm2 := g2.max
 have hc2 := g2.cap
 have HZ1 := hid g1
 have HZ2 := hid g2
 have HZ1L := hid g1.len
 have HZ2L := hid g2.len
 have HLt : Hid (∀ v ∈ m.nums, v < 18446744073709551616) := hid fun v hv => by
  unfold Md.nums at hv
  rcases List.mem_cons.1 hv with e | e
  ·rw [e]; exact ok.entry
  rcases List.mem_append.1 e with e | e
  ·obtain ⟨s, hs, hx⟩ := List.mem_flatMap.1 e
   have o := ok.segs s hs
   simp only [Sg.nums, List.mem_cons, List.not_mem_nil, or_false] at hx
   rcases hx with rfl | rfl | rfl | rfl
   ·exact o.vaddr
   ·exact o.paddr
   ·exact o.memsz
   ·exact o.align
  ·obtain ⟨s, hs, hx⟩ := List.mem_flatMap.1 e
   have o := ok.secs s hs
   simp only [Se.nums, List.mem_cons, List.not_mem_nil, or_false] at hx
   rcases hx with rfl | rfl | rfl | rfl | rfl
   ·exact o.flags
   ·exact o.addr
   ·exact o.size
   ·exact o.align
   ·exact o.entsize
 have HWd := hid (fun w => mWidth_any m.wide m.big w)
 have E : Hid (m.fits = m.nums.all (fitW m.wide)) := hid rfl
 have EN : Hid (m.nums = m.entry :: (m.segs.flatMap Sg.nums ++ m.secs.flatMap Se.nums)) := hid rfl
 generalize m.fits = R at E ⊢
 generalize m.nums = LN at HLt E EN
 generalize m.wide = wide at HWd E ⊢
 generalize m.big = big at HWd ⊢
 generalize m.entry = en at EN ⊢
 generalize m.segs = L1 at HZ1 HZ1L EN
 generalize m.secs = L2 at HZ2 HZ2L EN
 clear hC g1 g2 ok
 unfold maxLen at hm1 hm2
 go_enter Tryz.func115, Tryz.ntmps115
 go_wp2_with fail
 generalize hW : World.alloc _ _ = W1
 obtain ⟨b1, b2, hg0⟩ := blk2 hW
 clear hW
 have HB1 := hid b1
 have HG0 := hid hg0
 have HO1 : Hid (ON W1 (w.heap.size + 1) 37 .u64 (some ⟨w.heap.size + 1, 0, none⟩) 1 1 [en]) := hid (ON.of_blk (l := [en]) b2 (Nat.le_refl _) (by show 1 ≤ maxLen; unfold maxLen; omega))
 have HS1 := hid (show w.heap.size + 1 ≤ W1.heap.size from Nat.le_of_lt b2.lt)
 clear b1 b2 hg0
 go_loopw [3, 15] (fun x i wr => ∃ (k : Nat) (A : Option Addr) (c : Nat), k ≤ n1 ∧ i = .int .i64 k ∧ x = .slice A (1 + 4 * k) c ∧ ON wr (w.heap.size + 1) 37 .u64 A (1 + 4 * k) c (en :: (L1.take k).flatMap Sg.nums) ∧ Below (w.heap.size + 1) W1 wr ∧ w.heap.size + 1 ≤ wr.heap.size) (fun _ i _ => n1 - (intOf i).toNat)
 case atStart => exact ⟨0, _, 1, by omega, rfl, rfl, HO1.out, Below.refl _ _, HS1.out⟩
 case round =>
  obtain ⟨k, A, c, hk, rfl, rfl, ho, hg, hsz⟩ := hrel
  have HO := hid ho
  have HG := hid hg
  have HSz := hid hsz
  clear ho hg hsz HO1 HS1
  by_cases hlt : k < n1
  ·have hkl : k < L1.length := by rw [← HZ1L.out]; exact hlt
   obtain ⟨b, off, rfl, hb⟩ := HZ1.out.pos (by omega)
   obtain ⟨Ak, nk, ck, -, hcell, -⟩ := HZ1.out.at hkl
   have hcell' : ∀ i v, (sgC L1[k] (.slice Ak nk ck))[i]? = some v → wr.cell? ⟨b, off + k * 10 + i, none⟩ = some v := fun i v hv => (Below.cell (HG0.out.trans' (HG.out.mono (Nat.le_succ _))) hb).trans (hcell i v hv)
   have HT := hid (takeS L1 k hkl)
   unfold sgC at hcell'
   generalize L1[k] = s at hcell' HT
   have t0 : wr.cell? ⟨b, off + k * 10, none⟩ = _ := hcell' 0 _ rfl
   have t1 := hcell' 1 _ rfl
   have t2 := hcell' 2 _ rfl
   have t3 := hcell' 3 _ rfl
   have t4 := hcell' 4 _ rfl
   have t5 := hcell' 5 _ rfl
   have t6 := hcell' 6 _ rfl
   have t7 := hcell' 7 _ rfl
   have t8 := hcell' 8 _ rfl
   have t9 := hcell' 9 _ rfl
   clear hcell hcell' hb
   have HBR : Hid (Blk ((wr.alloc (.cells #[.int .u32 (s.typ : Nat), .int .u32 (s.flags : Nat), .int .u64 (s.vaddr : Nat), .int .u64 (s.paddr : Nat), .int .u64 (s.memsz : Nat), .int .u64 (s.align : Nat), .int .i64 s.pl.inn, .int .u64 (s.pl.off : Nat), .int .u64 (s.pl.size : Nat), .slice Ak nk ck] 70)).alloc (.cells #[.int .u64 (s.vaddr : Nat), .int .u64 (s.paddr : Nat), .int .u64 (s.memsz : Nat), .int .u64 (s.align : Nat)] 37)) (wr.heap.size + 1) 37 ([s.vaddr, s.paddr, s.memsz, s.align].map (ival .u64)).toArray) := hid ((blk2 rfl).2.1)
   have hga : Grow wr ((wr.alloc (.cells #[.int .u32 (s.typ : Nat), .int .u32 (s.flags : Nat), .int .u64 (s.vaddr : Nat), .int .u64 (s.paddr : Nat), .int .u64 (s.memsz : Nat), .int .u64 (s.align : Nat), .int .i64 s.pl.inn, .int .u64 (s.pl.off : Nat), .int .u64 (s.pl.size : Nat), .slice Ak nk ck] 70)).alloc (.cells #[.int .u64 (s.vaddr : Nat), .int .u64 (s.paddr : Nat), .int .u64 (s.memsz : Nat), .int .u64 (s.align : Nat)] 37)) := (blk2 rfl).2.2
   have HO3 := hid (HO.out.keep hga)
   have HG3 : Hid (Below (w.heap.size + 1) W1 ((wr.alloc (.cells #[.int .u32 (s.typ : Nat), .int .u32 (s.flags : Nat), .int .u64 (s.vaddr : Nat), .int .u64 (s.paddr : Nat), .int .u64 (s.memsz : Nat), .int .u64 (s.align : Nat), .int .i64 s.pl.inn, .int .u64 (s.pl.off : Nat), .int .u64 (s.pl.size : Nat), .slice Ak nk ck] 70)).alloc (.cells #[.int .u64 (s.vaddr : Nat), .int .u64 (s.paddr : Nat), .int .u64 (s.memsz : Nat), .int .u64 (s.align : Nat)] 37))) := HG.out.trans (hga.mono HSz.out)
   have HS3 : Hid (w.heap.size + 1 ≤ ((wr.alloc (.cells #[.int .u32 (s.typ : Nat), .int .u32 (s.flags : Nat), .int .u64 (s.vaddr : Nat), .int .u64 (s.paddr : Nat), .int .u64 (s.memsz : Nat), .int .u64 (s.align : Nat), .int .i64 s.pl.inn, .int .u64 (s.pl.off : Nat), .int .u64 (s.pl.size : Nat), .slice Ak nk ck] 70)).alloc (.cells #[.int .u64 (s.vaddr : Nat), .int .u64 (s.paddr : Nat), .int .u64 (s.memsz : Nat), .int .u64 (s.align : Nat)] 37)).heap.size) := Nat.le_trans HSz.out hga.size
   have HE : Hid ((en :: (L1.take (k + 1)).flatMap Sg.nums) = (en :: (L1.take k).flatMap Sg.nums) ++ [s.vaddr, s.paddr, s.memsz, s.align]) := hid (by rw [HT.out]; simp [Sg.nums])
   clear hga HT HO HG
   go_wp2_with (at_builtin; refine wpList_appendM ((wr.alloc (.cells #[.int .u32 (s.typ : Nat), .int .u32 (s.flags : Nat), .int .u64 (s.vaddr : Nat), .int .u64 (s.paddr : Nat), .int .u64 (s.memsz : Nat), .int .u64 (s.align : Nat), .int .i64 s.pl.inn, .int .u64 (s.pl.off : Nat), .int .u64 (s.pl.size : Nat), .slice Ak nk ck] 70)).alloc (.cells #[.int .u64 (s.vaddr : Nat), .int .u64 (s.paddr : Nat), .int .u64 (s.memsz : Nat), .int .u64 (s.align : Nat)] 37)) rfl (.tmp 19) (.tmp 28) 30 rfl (w.heap.size + 1) 37 .u64 8 Tryz.underlying30 (by kernel_rfl) A _ c _ rfl HO3.out (wr.heap.size + 1) _ 4 [s.vaddr, s.paddr, s.memsz, s.align] rfl rfl HBR.out (by omega) (by unfold maxLen; omega) (by omega) HS3.out ?_; intro A5 c5 w6 ho5 hb5; refine Hid.out ?_)
   have HG6 : Hid (Below (w.heap.size + 1) W1 w6) := HG3.out.trans hb5
   have HS6 : Hid (w.heap.size + 1 ≤ w6.heap.size) := Nat.le_trans HS3.out hb5.size
   have HO6 : Hid (ON w6 (w.heap.size + 1) 37 .u64 A5 ((1 + 4 * k) + 4) c5 ((en :: (L1.take (k + 1)).flatMap Sg.nums))) := by
    rw [HE.out]
    exact ho5
   have e9 : (1 + 4 * (k + 1)) = (1 + 4 * k) + 4 := by omega
   clear ho5 hb5 HBR HO3 HG3 HS3 t0 t1 t2 t3 t4 t5 t6 t7 t8 t9
   refine hid ?_
   go_wp2
   go_roundw
   case rel => exact ⟨k + 1, A5, c5, by omega, by go_num, by rw [e9], by rw [e9]; exact HO6.out, HG6.out, HS6.out⟩
   case measure => simp [intOf]; omega
  ·obtain rfl : n1 = k := by omega
   have HO4 : Hid (ON wr (w.heap.size + 1) 37 .u64 A (1 + 4 * n1) c (en :: L1.flatMap Sg.nums)) := by
    have : L1.take n1 = L1 := by rw [List.take_of_length_le (by have := HZ1L.out; omega)]
    have h := HO.out
    rwa [this] at h
   have y9 := (HB1.out.below HG.out (Nat.lt_succ_self _)).at 9
   have HG2 := HG
   have HSz2 := HSz
   clear HO HG HSz hlt hk
   go_wp2_with fail
   clear y9
   obtain ⟨wo, hwo⟩ : ∃ x, x = wr := ⟨_, rfl⟩
   subst hwo
   go_loopw [3, 34] (fun x i wr => ∃ (k : Nat) (A : Option Addr) (c : Nat), k ≤ n2 ∧ i = .int .i64 k ∧ x = .slice A (1 + 4 * n1 + 5 * k) c ∧ ON wr (w.heap.size + 1) 37 .u64 A (1 + 4 * n1 + 5 * k) c (en :: (L1.flatMap Sg.nums ++ (L2.take k).flatMap Se.nums)) ∧ Below (w.heap.size + 1) wo wr ∧ w.heap.size + 1 ≤ wr.heap.size) (fun _ i _ => n2 - (intOf i).toNat)
   case atStart => exact ⟨0, _, c, by omega, rfl, rfl, by simpa using HO4.out, Below.refl _ _, HSz2.out⟩
   case round =>
    obtain ⟨k, A, c, hk, rfl, rfl, ho, hg, hsz⟩ := hrel
    have HO := hid ho
    have HG := hid hg
    have HSz := hid hsz
    clear ho hg hsz HO4 HSz2
    by_cases hlt : k < n2
    ·have hkl : k < L2.length := by rw [← HZ2L.out]; exact hlt
     obtain ⟨b, off, rfl, hb⟩ := HZ2.out.pos (by omega)
     obtain ⟨Ak, nk, ck, -, hcell, -⟩ := HZ2.out.at hkl
     have hcell' : ∀ i v, (seC L2[k] (.slice Ak nk ck))[i]? = some v → wr.cell? ⟨b, off + k * 13 + i, none⟩ = some v := fun i v hv => (Below.cell (HG0.out.trans' ((HG2.out.trans HG.out).mono (Nat.le_succ _))) hb).trans (hcell i v hv)
     have HT := hid (takeS L2 k hkl)
     unfold seC at hcell'
     generalize L2[k] = s at hcell' HT
     have t0 : wr.cell? ⟨b, off + k * 13, none⟩ = _ := hcell' 0 _ rfl
     have t1 := hcell' 1 _ rfl
     have t2 := hcell' 2 _ rfl
     have t3 := hcell' 3 _ rfl
     have t4 := hcell' 4 _ rfl
     have t5 := hcell' 5 _ rfl
     have t6 := hcell' 6 _ rfl
     have t7 := hcell' 7 _ rfl
     have t8 := hcell' 8 _ rfl
     have t9 := hcell' 9 _ rfl
     have t10 := hcell' 10 _ rfl
     have t11 := hcell' 11 _ rfl
     have t12 := hcell' 12 _ rfl
     clear hcell hcell' hb
     have HBR : Hid (Blk ((wr.alloc (.cells #[.int .u32 (s.name : Nat), .int .u32 (s.typ : Nat), .int .u64 (s.flags : Nat), .int .u64 (s.addr : Nat), .int .u64 (s.size : Nat), .int .u32 (s.link : Nat), .int .u32 (s.info : Nat), .int .u64 (s.align : Nat), .int .u64 (s.entsize : Nat), .int .i64 s.pl.inn, .int .u64 (s.pl.off : Nat), .int .u64 (s.pl.size : Nat), .slice Ak nk ck] 57)).alloc (.cells #[.int .u64 (s.flags : Nat), .int .u64 (s.addr : Nat), .int .u64 (s.size : Nat), .int .u64 (s.align : Nat), .int .u64 (s.entsize : Nat)] 37)) (wr.heap.size + 1) 37 ([s.flags, s.addr, s.size, s.align, s.entsize].map (ival .u64)).toArray) := hid ((blk2 rfl).2.1)
     have hga : Grow wr ((wr.alloc (.cells #[.int .u32 (s.name : Nat), .int .u32 (s.typ : Nat), .int .u64 (s.flags : Nat), .int .u64 (s.addr : Nat), .int .u64 (s.size : Nat), .int .u32 (s.link : Nat), .int .u32 (s.info : Nat), .int .u64 (s.align : Nat), .int .u64 (s.entsize : Nat), .int .i64 s.pl.inn, .int .u64 (s.pl.off : Nat), .int .u64 (s.pl.size : Nat), .slice Ak nk ck] 57)).alloc (.cells #[.int .u64 (s.flags : Nat), .int .u64 (s.addr : Nat), .int .u64 (s.size : Nat), .int .u64 (s.align : Nat), .int .u64 (s.entsize : Nat)] 37)) := (blk2 rfl).2.2
     have HO3 := hid (HO.out.keep hga)
     have HG3 : Hid (Below (w.heap.size + 1) wo ((wr.alloc (.cells #[.int .u32 (s.name : Nat), .int .u32 (s.typ : Nat), .int .u64 (s.flags : Nat), .int .u64 (s.addr : Nat), .int .u64 (s.size : Nat), .int .u32 (s.link : Nat), .int .u32 (s.info : Nat), .int .u64 (s.align : Nat), .int .u64 (s.entsize : Nat), .int .i64 s.pl.inn, .int .u64 (s.pl.off : Nat), .int .u64 (s.pl.size : Nat), .slice Ak nk ck] 57)).alloc (.cells #[.int .u64 (s.flags : Nat), .int .u64 (s.addr : Nat), .int .u64 (s.size : Nat), .int .u64 (s.align : Nat), .int .u64 (s.entsize : Nat)] 37))) := HG.out.trans (hga.mono HSz.out)
     have HS3 : Hid (w.heap.size + 1 ≤ ((wr.alloc (.cells #[.int .u32 (s.name : Nat), .int .u32 (s.typ : Nat), .int .u64 (s.flags : Nat), .int .u64 (s.addr : Nat), .int .u64 (s.size : Nat), .int .u32 (s.link : Nat), .int .u32 (s.info : Nat), .int .u64 (s.align : Nat), .int .u64 (s.entsize : Nat), .int .i64 s.pl.inn, .int .u64 (s.pl.off : Nat), .int .u64 (s.pl.size : Nat), .slice Ak nk ck] 57)).alloc (.cells #[.int .u64 (s.flags : Nat), .int .u64 (s.addr : Nat), .int .u64 (s.size : Nat), .int .u64 (s.align : Nat), .int .u64 (s.entsize : Nat)] 37)).heap.size) := Nat.le_trans HSz.out hga.size
     have HE : Hid ((en :: (L1.flatMap Sg.nums ++ (L2.take (k + 1)).flatMap Se.nums)) = (en :: (L1.flatMap Sg.nums ++ (L2.take k).flatMap Se.nums)) ++ [s.flags, s.addr, s.size, s.align, s.entsize]) := hid (by rw [HT.out]; simp [Se.nums])
     clear hga HT HO HG
     go_wp2_with (at_builtin; refine wpList_appendM ((wr.alloc (.cells #[.int .u32 (s.name : Nat), .int .u32 (s.typ : Nat), .int .u64 (s.flags : Nat), .int .u64 (s.addr : Nat), .int .u64 (s.size : Nat), .int .u32 (s.link : Nat), .int .u32 (s.info : Nat), .int .u64 (s.align : Nat), .int .u64 (s.entsize : Nat), .int .i64 s.pl.inn, .int .u64 (s.pl.off : Nat), .int .u64 (s.pl.size : Nat), .slice Ak nk ck] 57)).alloc (.cells #[.int .u64 (s.flags : Nat), .int .u64 (s.addr : Nat), .int .u64 (s.size : Nat), .int .u64 (s.align : Nat), .int .u64 (s.entsize : Nat)] 37)) rfl (.tmp 38) (.tmp 49) 30 rfl (w.heap.size + 1) 37 .u64 8 Tryz.underlying30 (by kernel_rfl) A _ c _ rfl HO3.out (wr.heap.size + 1) _ 5 [s.flags, s.addr, s.size, s.align, s.entsize] rfl rfl HBR.out (by omega) (by unfold maxLen; omega) (by omega) HS3.out ?_; intro A5 c5 w6 ho5 hb5; refine Hid.out ?_)
     have HG6 : Hid (Below (w.heap.size + 1) wo w6) := HG3.out.trans hb5
     have HS6 : Hid (w.heap.size + 1 ≤ w6.heap.size) := Nat.le_trans HS3.out hb5.size
     have HO6 : Hid (ON w6 (w.heap.size + 1) 37 .u64 A5 ((1 + 4 * n1 + 5 * k) + 5) c5 ((en :: (L1.flatMap Sg.nums ++ (L2.take (k + 1)).flatMap Se.nums)))) := by
      rw [HE.out]
      exact ho5
     have e9 : (1 + 4 * n1 + 5 * (k + 1)) = (1 + 4 * n1 + 5 * k) + 5 := by omega
     clear ho5 hb5 HBR HO3 HG3 HS3 t0 t1 t2 t3 t4 t5 t6 t7 t8 t9 t10 t11 t12
     refine hid ?_
     go_wp2
     go_roundw
     case rel => exact ⟨k + 1, A5, c5, by omega, by go_num, by rw [e9], by rw [e9]; exact HO6.out, HG6.out, HS6.out⟩
     case measure => simp [intOf]; omega
    ·obtain rfl : n2 = k := by omega
     have HO4 : Hid (ON wr (w.heap.size + 1) 37 .u64 A (1 + 4 * n1 + 5 * n2) c LN) := by
      have : L2.take n2 = L2 := by rw [List.take_of_length_le (by have := HZ2L.out; omega)]
      have h := HO.out
      rw [this, ← EN.out] at h
      exact h
     have hB := HB1.out.below (HG2.out.trans HG.out) (Nat.lt_succ_self _)
     have y0 := hB.at 0
     have y1 := hB.at 1
     have HGq : Hid (Grow w wr) := HG0.out.trans' ((HG2.out.trans HG.out).mono (Nat.le_succ _))
     clear hB HO HG HSz HG2
     go_wp2_with fail
     clear y0 y1
     refine (HWd.out _).mono ?_
     rintro e w2 ⟨rfl, hg2⟩
     have HBn := hid (Blk.new w2 3 #[.int .i64 (byWide wide 4 8 : Nat)])
     have hga := Grow.of_alloc w2 (.cells #[.int .i64 (byWide wide 4 8 : Nat)] 3)
     have HO5 := hid ((HO4.out.keep (hg2.trans hga)).ns)
     have HG5 : Hid (Grow w (w2.alloc (.cells #[.int .i64 (byWide wide 4 8 : Nat)] 3))) := HGq.out.trans (hg2.trans hga)
     have HH := hid (hasN_any wide A _ c LN w2.heap.size _ _ HO5.out HLt.out (HBn.out.at 0))
     clear hg2 hga HO4 HGq HBn HO5
     unfold fitF at HH
     rw [← E.out] at HH
     go_wp2_with fail
     refine HH.out.mono ?_
     rintro e w3 ⟨rfl, rfl⟩
     go_wp2
     go_ret
     exact ⟨ret_bool (by simp), HG5.out⟩
end Go.Proofs.YtfbimboemahhhaaGreatDoor
