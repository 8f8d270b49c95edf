/-
  The contracts of slices.IndexFunc and ContainsFunc with the two functions that model hands on: whether a number fits the class, whether a section has a name.
-/
import Derived.Test.YthebemikhjglbaaMdA
import Derived.Test.YthebemikhjglbaaWireFits
namespace Go.Proofs.Ythebemikhjglbaa
open Go.RowKit

/-- The function that fits hands on. -/
def fitF (g : Nat) : Value := .func (.func 37) #[] #[.pointer (some ⟨g, 0, none⟩)]

theorem fits_wide (wide : Bool) (v : Nat) : fits (v : Int) ((byWide wide 4 8 : Nat) : Int) = fitW wide v := by
  cases wide
  · have h1 : wid ((byWide false 4 8 : Nat) : Int) = true := by decide
    unfold fits fitW
    rw [h1, Bool.true_and, Bool.eq_iff_iff, decide_eq_true_iff, decide_eq_true_iff]
    show (v : Int) < 256 ^ 4 ↔ v < 256 ^ 4
    omega
  · have h1 : wid ((byWide true 4 8 : Nat) : Int) = true := by decide
    unfold fits fitW
    rw [h1, Bool.true_and, Bool.eq_iff_iff, decide_eq_true_iff, decide_eq_true_iff]
    show (v : Int) < 256 ^ 8 ↔ v < 256 ^ 8
    omega

theorem fits1_any (wide : Bool) (v g : Nat) (w : World) (hv : v < 18446744073709551616) (hc : w.cell? ⟨g, 0, none⟩ = some (.int .i64 (byWide wide 4 8 : Nat))) :
    Calls Try.prog 37 #[.int .u64 (v : Nat), .pointer (some ⟨g, 0, none⟩)] w fun e w' => e = .returned (.bool (!fitW wide v)) ∧ w = w' := by
  have HF := Lib.hid (fun w => fits_any (v : Int) ((byWide wide 4 8 : Nat) : Int) w (by omega) (by omega))
  rw [fits_wide] at HF
  generalize fitW wide v = R at HF ⊢
  generalize byWide wide 4 8 = n at HF hc
  go_enter Try.func37, Try.ntmps37
  go_wp2_with (go_at_call 38; refine (HF.out _).mono ?_; rintro e w' ⟨rfl, rfl⟩)
  go_ret
  exact ⟨rfl, rfl⟩

theorem named1_any (s : Se) (S : Value) (w : World) : Calls Try.prog 59 #[.agg (seC s S)] w fun e w' => e = .returned (.bool (!decide (s.name = 0))) ∧ Grow w w' := by
  unfold seC
  generalize s.name = n
  go_enter Try.func59, Try.ntmps59
  go_wp2
  go_ret
  exact ⟨ret_bool (by rw [Bool.eq_iff_iff]; simp), Grow.of_alloc _ _⟩

/-- What IndexFunc answers, where p holds of all that aren't looked for. -/
def Idx {α : Type} (l : List α) (p : α → Bool) (i : Int) : Prop := decide (0 ≤ i) = !l.all p
theorem Idx.no {α : Type} {l : List α} {p : α → Bool} (h : ∀ a ∈ l, p a = true) : Idx l p (-1) := by
  unfold Idx
  rw [List.all_eq_true.2 h]
  rfl
theorem Idx.at {α : Type} {l : List α} {p : α → Bool} {k : Nat} {a : α} (hk : a ∈ l) (h : p a = false) : Idx l p (k : Int) := by
  have e : l.all p = false := by
    rw [List.all_eq_false]
    exact ⟨a, hk, by simp [h]⟩
  unfold Idx
  rw [e]
  simp

set_option maxHeartbeats 400000 in
theorem idxN_any (wide : Bool) (A : Option Addr) (n c : Nat) (l : List Nat) (g B : Nat) (w : World) (h : NS w B .u64 A n c l) (hl : ∀ v ∈ l, v < 18446744073709551616) (hc : w.cell? ⟨g, 0, none⟩ = some (.int .i64 (byWide wide 4 8 : Nat))) :
    Calls Try.prog 51 #[.slice A n c, fitF g] w fun e w' => ∃ i : Int, e = .returned (.int .i64 i) ∧ Idx l (fitW wide) i ∧ w = w' := by
  have HF := Lib.hid (fun v hv => fits1_any wide v g w hv hc)
  have HS := Lib.hid h
  have HL := Lib.hid h.len
  have HLt := Lib.hid hl
  have hcc := h.cap
  have hcm := h.max
  unfold maxLen at hcm
  clear h hl hc
  unfold fitF
  go_enter Try.func51, Try.ntmps51
  go_wp2_with fail
  go_loop [8] (fun i => ∃ k : Nat, k ≤ n ∧ i = .int .i64 k ∧ Hid (∀ v ∈ l.take k, fitW wide v = true)) (fun i => n - (intOf i).toNat)
  case atStart => exact ⟨0, Nat.zero_le _, rfl, Lib.hid fun v h => absurd h (by simp)⟩
  case round =>
    obtain ⟨k, hk, rfl, HK⟩ := hrel
    by_cases hlt : k < n
    · obtain ⟨b, off, rfl, hb, hcell⟩ := HS.out.pos (by omega)
      have hkl : k < l.length := by rw [← HL.out]; exact hlt
      have q := hcell k hkl
      have HM := Lib.hid (List.getElem_mem hkl)
      have HT := Lib.hid (show l.take (k + 1) = l.take k ++ [l[k]] by rw [List.take_add_one, List.getElem?_eq_getElem hkl]; rfl)
      generalize l[k] = v at q HM HT
      have HV := Lib.hid (HF.out v (HLt.out v HM.out))
      clear hcell hb
      cases hf : fitW wide v with
      | true =>
        rw [hf] at HV
        have H1 : Hid (∀ v ∈ l.take (k + 1), fitW wide v = true) := Lib.hid fun a ha => by
          rw [HT.out] at ha
          rcases List.mem_append.1 ha with h | h
          · exact HK.out a h
          · obtain rfl : a = v := by simpa using h
            exact hf
        clear hf
        go_wp2_with (go_at_call 37; refine HV.out.mono ?_; rintro e w' ⟨rfl, rfl⟩)
        go_round
        case rel => exact ⟨k + 1, by omega, by go_num, H1⟩
        case measure => simp [intOf]; omega
      | false =>
        rw [hf] at HV
        have HI : Hid (Idx l (fitW wide) (k : Int)) := Lib.hid (Idx.at HM.out hf)
        clear hf
        go_wp2_with (go_at_call 37; refine HV.out.mono ?_; rintro e w' ⟨rfl, rfl⟩)
        go_ret
        exact ⟨k, rfl, HI.out, rfl⟩
    · have HI : Hid (Idx l (fitW wide) (-1)) := Lib.hid (Idx.no (by
        have : l.take k = l := by rw [List.take_of_length_le (by have := HL.out; omega)]
        have h := HK.out
        rwa [this] at h))
      go_wp2
      go_ret
      exact ⟨-1, rfl, HI.out, rfl⟩

theorem hasN_any (wide : Bool) (A : Option Addr) (n c : Nat) (l : List Nat) (g B : Nat) (w : World) (h : NS w B .u64 A n c l) (hl : ∀ v ∈ l, v < 18446744073709551616) (hc : w.cell? ⟨g, 0, none⟩ = some (.int .i64 (byWide wide 4 8 : Nat))) :
    Calls Try.prog 36 #[.slice A n c, fitF g] w fun e w' => e = .returned (.bool (!l.all (fitW wide))) ∧ w = w' := by
  have HI := Lib.hid (idxN_any wide A n c l g B w h hl hc)
  clear h hl hc
  unfold Idx at HI
  generalize l.all (fitW wide) = R at HI ⊢
  unfold fitF at HI ⊢
  go_enter Try.func36, Try.ntmps36
  go_wp2_with fail
  refine HI.out.mono ?_
  rintro e w' ⟨i, rfl, hi, rfl⟩
  have H := Lib.hid hi
  clear hi
  go_wp2
  go_ret
  exact ⟨ret_bool H.out, rfl⟩

set_option maxHeartbeats 800000 in
theorem idxS_any (A : Option Addr) (n c : Nat) (l : List Se) (w : World) (h : ZR seK w w.heap.size A n c l) :
    Calls Try.prog 65 #[.slice A n c, .func (.func 59) #[] #[]] w fun e w' => ∃ i : Int, e = .returned (.int .i64 i) ∧ Idx l (fun s => decide (s.name = 0)) i ∧ Grow w w' := by
  have HS := Lib.hid h
  have HL := Lib.hid h.len
  have hcc := h.cap
  have hcm := h.max
  unfold maxLen at hcm
  clear h
  go_enter Try.func65, Try.ntmps65
  go_wp2_with fail
  go_loopw [8] (fun i wr => ∃ k : Nat, k ≤ n ∧ i = .int .i64 k ∧ Hid (∀ s ∈ l.take k, decide (s.name = 0) = true) ∧ Grow w wr) (fun i _ => n - (intOf i).toNat)
  case atStart => exact ⟨0, Nat.zero_le _, rfl, Lib.hid fun v h => absurd h (by simp), Grow.refl _⟩
  case round =>
    obtain ⟨k, hk, rfl, HK, hg⟩ := hrel
    have HG := Lib.hid hg
    clear hg
    by_cases hlt : k < n
    · obtain ⟨b, off, rfl, hb⟩ := HS.out.pos (by omega)
      have hkl : k < l.length := by rw [← HL.out]; exact hlt
      obtain ⟨Ak, nk, ck, -, hcell, gk⟩ := HS.out.at hkl
      have hcell' : ∀ i v, (seC l[k] (.slice Ak nk ck))[i]? = some v → wr.cell? ⟨b, off + k * 13 + i, none⟩ = some v := fun i v hv => (Below.cell HG.out hb).trans (hcell i v hv)
      have HV := Lib.hid (fun w => named1_any l[k] (.slice Ak nk ck) w)
      have HM := Lib.hid (List.getElem_mem hkl)
      have HT := Lib.hid (takeS l k hkl)
      unfold seC at hcell' HV
      generalize l[k] = s at hcell' HM HT HV
      have t0 : wr.cell? ⟨b, off + k * 13, none⟩ = _ := hcell' 0 _ rfl
      have t1 := hcell' 1 _ rfl
      have t2 := hcell' 2 _ rfl
      have t3 := hcell' 3 _ rfl
      have t4 := hcell' 4 _ rfl
      have t5 := hcell' 5 _ rfl
      have t6 := hcell' 6 _ rfl
      have t7 := hcell' 7 _ rfl
      have t8 := hcell' 8 _ rfl
      have t9 := hcell' 9 _ rfl
      have t10 := hcell' 10 _ rfl
      have t11 := hcell' 11 _ rfl
      have t12 := hcell' 12 _ rfl
      clear hcell hcell' gk hb
      cases hf : decide (s.name = 0) with
      | true =>
        rw [hf] at HV
        have H1 : Hid (∀ s ∈ l.take (k + 1), decide (s.name = 0) = true) := Lib.hid fun a ha => by
          rw [HT.out] at ha
          rcases List.mem_append.1 ha with h | h
          · exact HK.out a h
          · obtain rfl : a = s := by simpa using h
            exact hf
        clear hf
        go_wp2_with fail
        clear t0 t1 t2 t3 t4 t5 t6 t7 t8 t9 t10 t11 t12
        refine (HV.out _).mono ?_
        rintro e w2 ⟨rfl, hg2⟩
        have HG2 : Hid (Grow w w2) := HG.out.trans hg2
        clear hg2
        go_wp2
        go_roundw
        case rel => exact ⟨k + 1, by omega, by go_num, H1, HG2.out⟩
        case measure => simp [intOf]; omega
      | false =>
        rw [hf] at HV
        have HI : Hid (Idx l (fun s => decide (s.name = 0)) (k : Int)) := Lib.hid (Idx.at HM.out hf)
        clear hf
        go_wp2_with fail
        clear t0 t1 t2 t3 t4 t5 t6 t7 t8 t9 t10 t11 t12
        refine (HV.out _).mono ?_
        rintro e w2 ⟨rfl, hg2⟩
        have HG2 : Hid (Grow w w2) := HG.out.trans hg2
        clear hg2
        go_wp2
        go_ret
        exact ⟨k, rfl, HI.out, HG2.out⟩
    · have HI : Hid (Idx l (fun s => decide (s.name = 0)) (-1)) := Lib.hid (Idx.no (by
        have : l.take k = l := by rw [List.take_of_length_le (by have := HL.out; omega)]
        have h := HK.out
        rwa [this] at h))
      go_wp2
      go_ret
      exact ⟨-1, rfl, HI.out, HG.out⟩

theorem hasS_any (A : Option Addr) (n c : Nat) (l : List Se) (w : World) (h : ZR seK w w.heap.size A n c l) :
    Calls Try.prog 58 #[.slice A n c, .func (.func 59) #[] #[]] w fun e w' => e = .returned (.bool (!l.all fun s => decide (s.name = 0))) ∧ Grow w w' := by
  have HI := Lib.hid (idxS_any A n c l w h)
  clear h
  unfold Idx at HI
  generalize (l.all fun s => decide (s.name = 0)) = R at HI ⊢
  go_enter Try.func58, Try.ntmps58
  go_wp2_with fail
  refine HI.out.mono ?_
  rintro e w' ⟨i, rfl, hi, hg⟩
  have H := Lib.hid hi
  have HG := Lib.hid hg
  clear hi hg
  go_wp2
  go_ret
  exact ⟨ret_bool H.out, HG.out⟩
end Go.Proofs.Ythebemikhjglbaa
