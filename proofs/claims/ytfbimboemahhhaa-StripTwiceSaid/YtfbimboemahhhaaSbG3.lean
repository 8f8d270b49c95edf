/-
  Several texts in one: Sections that go, as plain data; The contract of bytes; string(b) of bytes that are known, in this program, in every world that has only grown since; The contract of strs; append of one struct in a list of operations; a store beside structs of the call's own; Models in memory; Contracts of wire; The contracts of model.
-/
import Derived.Test.YtfbimboemahhhaaSbG2
import Derived.Test.YtfbimboemahhhaaRows
import Derived.Test.YtfbimboemahhhaaSbG1
import Derived.Lib.BytesEntry
import Derived.Laws.Entries
import Derived.WalkKit
import Derived.BigQuiet
import Derived.Deep.QuietTactic
import Derived.Lib.Hide
namespace Go.Proofs.Ytfbimboemahhhaa
open Go.Lib (hid)
def begins (s t : Bs) : Bool := decide (t.length ≤ s.length) && decide (s.take t.length = t)
def dotD : Bs := [46, 100, 101, 98, 117, 103]
def dotZ : Bs := [46, 122, 100, 101, 98, 117, 103]
def isDbg (s : Bs) : Bool := begins s dotD || begins s dotZ
def Md.sec (m : Md) (i : Nat) : Se := m.secs.getD i se0
def Md.noStr (m : Md) : Bool := decide (m.str < 1) || decide ((m.secs.length : Int) < m.str)
def Md.strs (m : Md) : Bs := if m.noStr then [] else m.bytes m.tab.pl
def Md.nmOf (m : Md) (s : Se) : Bs := (nameAt m.strs s.name).getD []
def Se.isSym (s : Se) : Bool := decide (s.typ = 2) || decide (s.typ = 18) || decide (s.typ = 4) || decide (s.typ = 9)
def Md.mayGo (m : Md) (i : Nat) : Bool := decide ((m.sec i).flags / 2 % 2 = 0) && !decide ((i : Int) + 1 = m.str)
def Md.alone (m : Md) (i : Nat) : Bool := m.mayGo i && ((m.sec i).isSym || isDbg (m.nmOf (m.sec i)))
def Md.bySym (m : Md) (j i : Nat) : Bool := (List.range j).any fun k => decide ((m.sec k).link = i + 1) && (m.alone k && decide ((m.sec k).typ = 2))
def Md.bySta (m : Md) (j i : Nat) : Bool := (List.range j).any fun k => decide ((m.sec k).link = i + 1) && !m.alone k
def Md.byLnk (m : Md) (i : Nat) : Bool := decide ((m.sec i).typ = 3) && m.mayGo i && m.bySym m.secs.length i && !m.bySta m.secs.length i
def Md.goes (m : Md) (i : Nat) : Bool := m.alone i || m.byLnk i
def seX : Se := ⟨0, 0, 0, 0, 0, 0, 0, 0, 0, ⟨-1, 0, 0, []⟩⟩
def Md.left (m : Md) (i : Nat) : Se := if m.goes i then seX else m.sec i
def Md.cutTo (m : Md) (k : Nat) : List Se := (List.range m.secs.length).map fun i => if i < k then m.left i else m.sec i
def Md.strip (m : Md) : Md := { m with secs := (List.range m.secs.length).map m.left }
theorem Md.sec_at (m : Md) {i : Nat} (h : i < m.secs.length) : m.sec i = m.secs[i] := by unfold Md.sec; rw [List.getD_eq_getElem?_getD, List.getElem?_eq_getElem h]; rfl
theorem Md.bySym_zero (m : Md) (i : Nat) : m.bySym 0 i = false := rfl
theorem Md.bySta_zero (m : Md) (i : Nat) : m.bySta 0 i = false := rfl
theorem Md.bySym_succ (m : Md) (j i : Nat) : m.bySym (j + 1) i = (m.bySym j i || (decide ((m.sec j).link = i + 1) && (m.alone j && decide ((m.sec j).typ = 2)))) := by
 unfold Md.bySym; rw [List.range_succ, List.any_append]; simp
theorem Md.bySta_succ (m : Md) (j i : Nat) : m.bySta (j + 1) i = (m.bySta j i || (decide ((m.sec j).link = i + 1) && !m.alone j)) := by
 unfold Md.bySta; rw [List.range_succ, List.any_append]; simp
theorem Md.cutTo_zero (m : Md) : m.cutTo 0 = m.secs := by
 unfold Md.cutTo
 refine List.ext_getElem (by simp) fun i h1 h2 => ?_
 simp [m.sec_at h2]
theorem Md.cutTo_all (m : Md) {n : Nat} (hn : n = m.secs.length) : m.cutTo n = m.strip.secs := by
 unfold Md.cutTo Md.strip
 refine List.ext_getElem (by simp) fun i h1 h2 => ?_
 have : i < n := by rw [hn]; simpa using h2
 simp [this]
theorem Md.cutTo_len (m : Md) (k : Nat) : (m.cutTo k).length = m.secs.length := by simp [Md.cutTo]
theorem Md.cutTo_at (m : Md) {k : Nat} (h : k < m.secs.length) (h' : k < (m.cutTo k).length) : (m.cutTo k)[k] = m.secs[k] := by
 simp [Md.cutTo, m.sec_at h]
theorem Md.cutTo_succ (m : Md) (k : Nat) : m.cutTo (k + 1) = (m.cutTo k).set k (m.left k) := by
 refine List.ext_getElem (by simp [Md.cutTo]) fun i h1 h2 => ?_
 rw [List.getElem_set]
 simp only [Md.cutTo, List.getElem_map, List.getElem_range]
 by_cases e : k = i
 ·subst e
  simp
 ·rw [if_neg e]
  by_cases e2 : i < k
  ·rw [if_pos (by omega), if_pos e2]
  ·rw [if_neg (by omega), if_neg e2]
theorem Md.cut_same (m : Md) {k : Nat} (h : k < m.secs.length) (hg : m.goes k = false) : m.cutTo (k + 1) = m.cutTo k := by
 rw [m.cutTo_succ k]
 have h' : k < (m.cutTo k).length := by rw [m.cutTo_len]; exact h
 have : m.left k = (m.cutTo k)[k] := by rw [m.cutTo_at h h', Md.left, hg, if_neg (by decide), m.sec_at h]
 rw [this, List.set_getElem_self]
theorem Md.strip_len (m : Md) : m.strip.secs.length = m.secs.length := by simp [Md.strip]
theorem Md.strip_sec (m : Md) {i : Nat} (h : i < m.secs.length) : m.strip.sec i = m.left i := by
 rw [Md.sec_at _ (by rw [m.strip_len]; exact h)]
 simp [Md.strip]
theorem Md.strip_at (m : Md) {i : Nat} (h : i < m.strip.secs.length) : m.strip.secs[i] = m.left i := by simp [Md.strip]
theorem Md.goes_str (m : Md) {i : Nat} (h : (i : Int) + 1 = m.str) : m.goes i = false := by
 have : m.mayGo i = false := by simp [Md.mayGo, h]
 simp [Md.goes, Md.alone, Md.byLnk, this]
theorem Md.left_stay (m : Md) {i : Nat} (h : m.mayGo i = false) : m.left i = m.sec i := by
 have : m.goes i = false := by simp [Md.goes, Md.alone, Md.byLnk, h]
 simp [Md.left, this]
theorem Md.strip_tab (m : Md) (h : m.noStr = false) : m.strip.tab = m.tab := by
 unfold Md.noStr at h
 simp only [Bool.or_eq_false_iff, decide_eq_false_iff_not] at h
 have hi : (m.str - 1).toNat < m.secs.length := by omega
 have := m.strip_sec hi
 unfold Md.left at this
 rw [m.goes_str (by omega)] at this
 exact this
theorem Md.strip_no (m : Md) : m.strip.noStr = m.noStr := by unfold Md.noStr; rw [m.strip_len]; rfl
theorem Md.strip_strs (m : Md) : m.strip.strs = m.strs := by
 unfold Md.strs
 rw [m.strip_no]
 cases h : m.noStr with
 | true => rfl
 | false => rw [m.strip_tab h]; rfl
theorem Md.alone_goes {m : Md} {i : Nat} (h : m.alone i = true) : m.goes i = true := by simp [Md.goes, h]
theorem Md.strip_mayGo (m : Md) {i : Nat} (h : i < m.secs.length) (hg : m.goes i = false) : m.strip.mayGo i = m.mayGo i := by
 unfold Md.mayGo
 rw [m.strip_sec h, Md.left, hg]
 rfl
theorem Md.strip_alone (m : Md) {i : Nat} (h : i < m.secs.length) (ha : m.strip.alone i = true) : m.goes i = true := by
 cases hg : m.goes i with
 | true => rfl
 | false =>
  have h1 : m.alone i = false := by
   cases ha : m.alone i with
   | false => rfl
   | true => rw [Md.alone_goes ha] at hg; cases hg
  unfold Md.alone at ha h1
  rw [m.strip_mayGo h hg, m.strip_sec h, Md.left, hg, Md.nmOf, m.strip_strs] at ha
  rw [Md.nmOf] at h1
  rw [if_neg (by decide), h1] at ha
  cases ha
theorem Md.strip_bySym (m : Md) (i : Nat) : m.strip.bySym m.strip.secs.length i = false := by
 unfold Md.bySym
 rw [List.any_eq_false]
 intro k hk h
 have hk' : k < m.secs.length := by rw [← m.strip_len]; exact List.mem_range.1 hk
 simp only [Bool.and_eq_true, decide_eq_true_eq] at h
 have hg := m.strip_alone hk' h.2.1
 have h2 := h.2.2
 rw [m.strip_sec hk', Md.left, if_pos hg] at h2
 exact absurd h2 (by decide)
theorem Md.strip_left (m : Md) {i : Nat} (h : i < m.secs.length) : m.strip.left i = m.left i := by
 have hs := m.strip_sec h
 have hg : m.strip.goes i = m.strip.alone i := by
  unfold Md.goes Md.byLnk
  rw [m.strip_bySym]
  simp
 unfold Md.left at hs ⊢
 rw [hg, hs]
 cases ha : m.strip.alone i with
 | false => rfl
 | true => rw [m.strip_alone h ha]; rfl
theorem Md.strip_strip (m : Md) : m.strip.strip = m.strip := by
 have : m.strip.strip.secs = m.strip.secs := by
  refine List.ext_getElem (by rw [Md.strip_len]) fun i h1 h2 => ?_
  rw [Md.strip_at, Md.strip_at]
  exact m.strip_left (by rw [← m.strip_len]; exact h2)
 show { m.strip with secs := m.strip.strip.secs } = m.strip
 rw [this]
theorem Md.strip_mem {m : Md} {s : Se} (h : s ∈ m.strip.secs) : s = seX ∨ s ∈ m.secs := by
 obtain ⟨i, hi, rfl⟩ := List.mem_map.1 (show s ∈ (List.range m.secs.length).map m.left from h)
 have hi := List.mem_range.1 hi
 unfold Md.left
 split
 ·exact .inl rfl
 ·rw [m.sec_at hi]
  exact .inr (List.getElem_mem hi)
theorem seX_ok : seX.Ok := ⟨by decide, by decide, by decide, by decide, by decide, by decide, by decide, by decide, by decide, ⟨by unfold I64; decide, by decide, by decide⟩⟩
theorem Md.strip_ok {m : Md} (ok : m.Ok) : m.strip.Ok := ⟨ok.osabi, ok.abi, ok.typ, ok.mach, ok.flags, ok.entry, ok.segs, fun s hs => by
 rcases m.strip_mem hs with rfl | h
 ·exact seX_ok
 ·exact ok.secs s h, ok.str⟩
theorem fit_zero (w : Bool) : fitW w 0 = true := by cases w <;> decide
theorem Md.chk_iff {m : Md} : m.chk = 0 ↔ m.large = false ∧ m.fits = true ∧ m.segsC = 0 ∧ m.secsC = 0 ∧ m.namesC = 0 := by
 unfold Md.chk
 constructor
 ·intro h
  split at h
  ·omega
  split at h
  ·omega
  split at h
  ·omega
  split at h
  ·omega
  ·rename_i h1 h2 h3 h4
   exact ⟨by simpa using h1, by simpa using h2, by omega, by omega, h⟩
 ·rintro ⟨h1, h2, h3, h4, h5⟩
  rw [h1, h2]
  simp [h3, h4, h5]
theorem name_zero {l : Bs} {k : Nat} (h : (nameAt l k).isSome = true) : (nameAt l 0).isSome = true := by
 unfold nameAt at h ⊢
 rw [List.drop_zero]
 obtain ⟨s, hs⟩ := Option.isSome_iff_exists.1 h
 cases h0 : cut0 l with
 | some s => rfl
 | none =>
  have h1 := cut0_none.1 h0
  have h2 : cut0 (l.drop k) = none := cut0_none.2 fun b hb => h1 b (List.mem_of_mem_drop hb)
  rw [h2] at hs
  cases hs
theorem Md.strip_chk {m : Md} (h : m.chk = 0) : m.strip.chk = 0 := by
 obtain ⟨h1, h2, h3, h4, h5⟩ := Md.chk_iff.1 h
 refine Md.chk_iff.2 ⟨?_, ?_, h3, ?_, ?_⟩
 ·unfold Md.large at h1 ⊢
  rw [m.strip_len]
  exact h1
 ·unfold Md.fits at h2 ⊢
  rw [List.all_eq_true] at h2 ⊢
  intro v hv
  unfold Md.nums at hv
  rcases List.mem_cons.1 hv with rfl | hv
  ·exact h2 _ (List.mem_cons_self ..)
  rcases List.mem_append.1 hv with hv | hv
  ·exact h2 v (List.mem_cons_of_mem _ (List.mem_append_left _ hv))
  ·obtain ⟨s, hs, hv⟩ := List.mem_flatMap.1 hv
   rcases m.strip_mem hs with rfl | hs
   ·have : v = 0 := by simpa [Se.nums, seX] using hv
    subst this
    exact fit_zero _
   ·exact h2 v (List.mem_cons_of_mem _ (List.mem_append_right _ (List.mem_flatMap.2 ⟨s, hs, hv⟩)))
 ·unfold Md.secsC at h4 ⊢
  rw [fstC_zero] at h4 ⊢
  intro s hs
  unfold Md.secC
  rw [m.strip_len]
  rcases m.strip_mem hs with rfl | hs
  ·have : m.strip.may seX.pl = true := rfl
   rw [this]
   simp [seX, Se.held]
  ·exact h4 s hs
 ·unfold Md.namesC at h5 ⊢
  rw [m.strip_len]
  split at h5
  ·omega
  split at h5
  ·omega
  rename_i g1 g2
  split at h5
  ·rename_i hn
   have es : m.strip.str = m.str := rfl
   rw [es, if_neg g1, if_neg g2, if_pos]
   unfold Md.named at hn ⊢
   rw [es]
   by_cases hz : m.str = 0
   ·rw [if_pos hz] at hn
    rw [if_pos hz]
    rw [List.all_eq_true] at hn ⊢
    intro s hs
    rcases m.strip_mem hs with rfl | hs
    ·rfl
    ·exact hn s hs
   ·rw [if_neg hz] at hn
    rw [if_neg hz]
    have hno : m.noStr = false := by
     unfold Md.noStr
     simp only [Bool.or_eq_false_iff, decide_eq_false_iff_not]
     omega
    rw [m.strip_tab hno]
    simp only [Bool.and_eq_true] at hn ⊢
    refine ⟨hn.1, ?_⟩
    have hn2 := hn.2
    rw [List.all_eq_true] at hn2 ⊢
    intro s hs
    rcases m.strip_mem hs with rfl | hs
    ·unfold Md.noStr at hno
     simp only [Bool.or_eq_false_iff, decide_eq_false_iff_not] at hno
     have hi : (m.str - 1).toNat < m.secs.length := by omega
     have ht : m.tab ∈ m.secs := by
      have := m.sec_at hi
      unfold Md.sec at this
      unfold Md.tab
      rw [this]
      exact List.getElem_mem hi
     exact name_zero (hn2 _ ht)
    ·exact hn2 s hs
  ·omega
theorem Md.left_typ (m : Md) {i : Nat} (h : m.mayGo i = true) : (m.left i).isSym = false := by
 unfold Md.left
 cases hg : m.goes i with
 | true => rfl
 | false =>
  rw [if_neg (by decide)]
  cases hs : (m.sec i).isSym with
  | false => rfl
  | true =>
   have : m.alone i = true := by simp [Md.alone, h, hs]
   rw [Md.alone_goes this] at hg
   cases hg
end Go.Proofs.Ytfbimboemahhhaa
namespace Go.Proofs.Ytfbimboemahhhaa
open Go.Lib (hid)
open Go.RowKit
set_option maxRecDepth 100000
theorem bytes_of (l : Bs) : Lib.bytesOf (l.map fun b => (b.toNat : Int)) = l := by
 simp [Lib.bytesOf, List.map_map, Function.comp_def]
theorem bidx_zero (a : Addr) (c : Nat) (w : World) : (Extern.BytealgIndexByte.indexByte #[.slice (some a) 0 c, .int .u8 0]).run Try.prog w = .ok (.int .i64 (Lib.indexByte [] 0)) w := by rfl
set_option maxHeartbeats 400000 in
theorem bidx_any (A : Option Addr) (n c : Nat) (l : Bs) (B : Nat) (w : World) (h : RB w B A n c l) :
  Calls Try.prog 75 #[.slice A n c, .int .u8 0] w fun e w' => e = .returned (.int .i64 (Lib.indexByte l 0)) ∧ w = w' := by
 rcases A with _ | ⟨b, off, sp⟩
 ·have hl : l = [] := by
   rcases Nat.eq_zero_or_pos n with h0 | h0
   ·exact List.eq_nil_of_length_eq_zero (by rw [← h.len]; exact h0)
   ·obtain ⟨_, _, e, _⟩ := h.pos h0
    cases e
  subst hl
  clear h
  go_enter Try.func75, Try.ntmps75
  go_wp2
  rw [run_callFunc_extern Try.func81 (by kernel_rfl) (by kernel_rfl) (by kernel_rfl) (e := Extern.BytealgIndexByte.indexByte) (by kernel_rfl), Lib.run_indexByteNil w n c 0]
  simp only [Result.andThen]
  rw [Oper.upon_value]
  go_wp2
  go_ret
  exact ⟨rfl, rfl⟩
 ·have run : (Extern.BytealgIndexByte.indexByte #[.slice (some ⟨b, off, sp⟩) n c, .int .u8 0]).run Try.prog w = .ok (.int .i64 (Lib.indexByte l 0)) w := by
   rcases Nat.eq_zero_or_pos n with h0 | h0
   ·have hl : l = [] := List.eq_nil_of_length_eq_zero (by rw [← h.len]; exact h0)
    subst hl
    subst h0
    exact bidx_zero _ _ _
   ·obtain ⟨b', off', e, _, hc⟩ := h.pos h0
    injection e with e
    obtain ⟨rfl, rfl, rfl⟩ := Addr.mk.inj e
    have := Lib.run_indexByteSlice (P := Try.prog) w b off n c (l.map fun b => (b.toNat : Int)) (by simp [h.len]) (fun i hi => by
     rw [hc i (by rw [← h.len]; exact hi)]
     simp [List.getElem?_eq_getElem (show i < l.length by rw [← h.len]; exact hi)]) 0
    rw [bytes_of] at this
    exact this
  clear h
  have R := hid run
  clear run
  go_enter Try.func75, Try.ntmps75
  go_wp2
  rw [run_callFunc_extern Try.func81 (by kernel_rfl) (by kernel_rfl) (by kernel_rfl) (e := Extern.BytealgIndexByte.indexByte) (by kernel_rfl), R.out]
  simp only [Result.andThen]
  rw [Oper.upon_value]
  go_wp2
  go_ret
  exact ⟨rfl, rfl⟩
theorem RB.conv {w : World} {B : Nat} {A : Option Addr} {n c : Nat} {l : List UInt8} (h : RB w B A n c l) (hB : B ≤ w.heap.size) :
  ∀ W, Grow w W → (convert 49 9 (.slice A n c)).run Try.prog W = .ok (.string ⟨l.toArray⟩) W := fun _ hk =>
 (h.belowAt hk hB).str _ _ _ Try.underlying49 Try.underlying5 Try.underlying9
def GotN (l : Bs) (off : Nat) (w : World) (e : Ending) (w' : World) : Prop :=
 e = .returned (.tuple #[.string (bstr ((nameAt l off).getD [])), .bool (nameAt l off).isSome]) ∧ w = w'
theorem gotN_none {l : Bs} {off : Nat} {w : World} (h : nameAt l off = none) : GotN l off w (.returned (.tuple #[.string { data := #[] }, .bool false])) w := by
 unfold GotN; rw [h]; exact ⟨rfl, rfl⟩
theorem gotN_some {l s : Bs} {off : Nat} {w : World} (h : nameAt l off = some s) : GotN l off w (.returned (.tuple #[.string ⟨s.toArray⟩, .bool true])) w := by
 unfold GotN; rw [h]; exact ⟨rfl, rfl⟩
theorem nameAt_far {l : Bs} {off : Nat} (h : l.length ≤ off) : nameAt l off = none := by unfold nameAt; rw [List.drop_of_length_le h]; rfl
set_option maxHeartbeats 400000 in
theorem strGet_any (A : Option Addr) (n c : Nat) (l : Bs) (off : Nat) (w : World) (h : RB w w.heap.size A n c l) (hof : off < 18446744073709551616) :
  Calls Try.prog 63 #[.slice A n c, .int .u64 off] w (GotN l off w) := by
 have HS := hid h
 have HL := hid h.len
 have hc := h.cap
 have hm := h.max
 unfold maxLen at hm
 clear h
 by_cases hfar : n ≤ off
 ·have E := hid (nameAt_far (l := l) (off := off) (by rw [← HL.out]; exact hfar))
  go_enter Try.func63, Try.ntmps63
  go_wp2
  go_ret2
  exact gotN_none E.out
 ·obtain ⟨b, o, rfl, hb, hcell⟩ := HS.out.pos (by omega)
  have hsub := HS.out.sub (p := off) (m := n - off) (by omega) (by omega)
  have e0 : (l.drop off).take (n - off) = l.drop off := by rw [List.take_of_length_le (by rw [List.length_drop, ← HL.out]; exact Nat.le_refl _)]
  rw [e0] at hsub
  have HB := hid hsub
  clear hcell hb hsub e0
  have i1 : (off : Int) ≤ n := by omega
  have i2 : ¬ c = off := by omega
  go_enter Try.func63, Try.ntmps63
  go_wp2_with fail
  refine (bidx_any _ _ _ _ _ _ HB.out).mono ?_
  rintro e w' ⟨rfl, rfl⟩
  rw [indexByte_cut]
  cases hcut : cut0 (l.drop off) with
  | none =>
   have E := hid hcut
   clear hcut
   go_wp2
   go_ret2
   exact gotN_none E.out
  | some s =>
   have E := hid hcut
   obtain ⟨h1, h2, h3⟩ := cut0_some hcut
   rw [List.length_drop, ← HL.out] at h1
   have hf := HB.out.first (m := s.length) (by omega)
   rw [h2] at hf
   have hcv := hf.conv (Nat.le_refl _) w (Grow.refl _)
   clear hcut h2 h3 hf
   dsimp only
   generalize s.length = k at h1 hcv ⊢
   have h4 : k ≤ c - off := by omega
   have h5 : ¬ ((k : Int) < 0) := by omega
   go_wp2
   go_ret2
   exact gotN_some E.out
theorem wpList_appendZ {P : Program} (w : World) {ops : Array Oper} {rest : List Oper} {o : Oper} {a : Act} {Q : Exit → Act → World → Prop} (hgd : o.guard = none) (s x : Operand) (t : TypeId)
  (ho : o.op = .call { callee := .builtin .append, args := #[s, x], argTypes := #[t, t] })
  (base : Nat) (e : TypeId) (zv : Value) (z bytes : Nat) (ht : P.underlying t = some (.slice e)) (hinfo : (P.info? e).map (fun i => (i.zero, i.size, i.bytes)) = some (some zv, z, bytes)) (hzs : zv.cells.size = z) (hz0 : 0 < z)
  (A : Option Addr) (n c : Nat) (l : List (Array Value)) (hs : a.eval s = .slice A n c) (hown : ZO w base e z A n c l)
  (g : Nat) (t' : TypeId) (r : Array Value) (hx : a.eval x = .slice (some ⟨g, 0, none⟩) 1 1) (hr : Blk w g t' r) (hrz : r.size = z) (h1 : r.all (·.oneCell') = true)
  (h63 : n + 1 ≤ maxLen) (hsz : (n + 1) * bytes ≤ 140737488355328) (hbase : base ≤ w.heap.size)
  (h : ∀ A2 c2 w', ZO w' base e z A2 (n + 1) c2 (l ++ [r]) → w.grownBy w' (own A) → (own A2 = own A ∨ own A2 = some w.heap.size) → wpList P ops Q rest (a.put o.dst (.slice A2 (n + 1) c2)) w') : wpList P ops Q (o :: rest) a w := by
 refine wpList_plain hgd fun K hK => ?_
 refine wp_appendZ w s x t ho base e zv z bytes ht hinfo hzs hz0 A n c l hs hown g t' r hx hr hrz h1 h63 hsz hbase fun A2 c2 w' h2 h3 h4 => ?_
 exact hK _ _ (h A2 c2 w' h2 h3 h4)
theorem ZO.other {w : World} {base : Nat} {e : TypeId} {z : Nat} {A : Option Addr} {n c : Nat} {l : List (Array Value)} (h : ZO w base e z A n c l) {g : Nat} (hg : own A ≠ some g) (cs : Array Value) : ZO (w.setRow g cs) base e z A n c l := by
 refine ⟨⟨h.1.1, ?_⟩, h.2⟩
 rcases h.1.2 with h0 | ⟨g', cap, cur, hv, hb, hh, r⟩
 ·exact .inl h0
 ·refine .inr ⟨g', cap, cur, hv, hb, ?_, r⟩
  injection hv with e1 _ _
  subst e1
  have hne : g' ≠ g := fun e => hg (by rw [e]; rfl)
  rw [setRow_other w g g' cs (by omega)]
  exact hh
structure RK (α : Type) where
 z : Nat
 cs : α → Value → Array Value
 by_ : α → List UInt8
def sgC (g : Sg) (s : Value) : Array Value := #[.int .u32 (g.typ : Nat), .int .u32 (g.flags : Nat), .int .u64 (g.vaddr : Nat), .int .u64 (g.paddr : Nat), .int .u64 (g.memsz : Nat), .int .u64 (g.align : Nat), .int .i64 g.pl.inn, .int .u64 (g.pl.off : Nat), .int .u64 (g.pl.size : Nat), s]
def seC (g : Se) (s : Value) : Array Value := #[.int .u32 (g.name : Nat), .int .u32 (g.typ : Nat), .int .u64 (g.flags : Nat), .int .u64 (g.addr : Nat), .int .u64 (g.size : Nat), .int .u32 (g.link : Nat), .int .u32 (g.info : Nat), .int .u64 (g.align : Nat), .int .u64 (g.entsize : Nat), .int .i64 g.pl.inn, .int .u64 (g.pl.off : Nat), .int .u64 (g.pl.size : Nat), s]
def plC (p : Pl) (s : Value) : Array Value := #[.int .i64 p.inn, .int .u64 (p.off : Nat), .int .u64 (p.size : Nat), s]
def mdC (m : Md) (s t : Value) : Array Value := #[.bool m.wide, .bool m.big, .int .u8 (m.osabi : Nat), .int .u8 (m.abi : Nat), .int .u16 (m.typ : Nat), .int .u16 (m.mach : Nat), .int .u32 (m.flags : Nat), .int .u64 (m.entry : Nat), s, t, .int .i64 m.str]
def sgK : RK Sg := ⟨10, sgC, fun g => g.pl.own⟩
def seK : RK Se := ⟨13, seC, fun g => g.pl.own⟩
def RR {α : Type} (K : RK α) (w : World) (B : Nat) (r : Array Value) (a : α) : Prop := ∃ A n c, r = K.cs a (.slice A n c) ∧ RB w B A n c (K.by_ a)
def ZR {α : Type} (K : RK α) (w : World) (B : Nat) (A : Option Addr) (n c : Nat) (L : List α) : Prop := ∃ R, ZS w B K.z A n c R ∧ R.length = L.length ∧ ∀ j (h : j < R.length) (h' : j < L.length), RR K w B R[j] L[j]
section
variable {α : Type} {K : RK α} {w w' : World} {B B0 B' : Nat} {A : Option Addr} {n c : Nat} {L : List α} {r : Array Value} {s : α}
theorem RR.belowAt (h : RR K w B r s) (hb : Below B0 w w') (hB : B ≤ B0) : RR K w' B r s := by
 obtain ⟨A, n, c, e, h1⟩ := h
 exact ⟨A, n, c, e, h1.belowAt hb hB⟩
theorem RR.more (h : RR K w B r s) (hB : B ≤ B') : RR K w B' r s := by
 obtain ⟨A, n, c, e, h1⟩ := h
 exact ⟨A, n, c, e, h1.more hB⟩
theorem ZR.belowAt (h : ZR K w B A n c L) (hb : Below B0 w w') (hB : B ≤ B0) : ZR K w' B A n c L := by
 obtain ⟨R, h1, h2, h3⟩ := h
 exact ⟨R, h1.belowAt hb hB, h2, fun j h h' => (h3 j h h').belowAt hb hB⟩
theorem ZR.more (h : ZR K w B A n c L) (hB : B ≤ B') : ZR K w B' A n c L := by
 obtain ⟨R, h1, h2, h3⟩ := h
 exact ⟨R, h1.more hB, h2, fun j h h' => (h3 j h h').more hB⟩
theorem ZR.grow (h : ZR K w w.heap.size A n c L) (hg : Grow w w') : ZR K w' w'.heap.size A n c L := (h.belowAt hg (Nat.le_refl _)).more hg.size
theorem ZR.len (h : ZR K w B A n c L) : n = L.length := by
 obtain ⟨R, h1, h2, _⟩ := h
 exact h1.len.trans h2
theorem ZR.cap (h : ZR K w B A n c L) : n ≤ c := by
 obtain ⟨R, h1, h2, _⟩ := h
 exact h1.cap
theorem ZR.max (h : ZR K w B A n c L) : c ≤ maxLen := by
 obtain ⟨R, h1, h2, _⟩ := h
 exact h1.max
theorem ZR.nil : ZR K w B none 0 0 [] := ⟨[], ZS.nil, rfl, fun j h => absurd h (by simp)⟩
theorem ZR.pos (h : ZR K w B A n c L) (hn : 0 < n) : ∃ b off, A = some ⟨b, off, none⟩ ∧ b < B := by
 obtain ⟨R, h1, h2, _⟩ := h
 obtain ⟨b, off, e, hb, _⟩ := h1.pos hn
 exact ⟨b, off, e, hb⟩
theorem ZR.at {b off k : Nat} (h : ZR K w B (some ⟨b, off, none⟩) n c L) (hk : k < L.length) : ∃ A1 n1 c1, b < B ∧
  (∀ i v, (K.cs L[k] (.slice A1 n1 c1))[i]? = some v → w.cell? ⟨b, off + k * K.z + i, none⟩ = some v) ∧ RB w B A1 n1 c1 (K.by_ L[k]) := by
 obtain ⟨R, h1, h2, h3⟩ := h
 have hkR : k < R.length := by rw [h2]; exact hk
 obtain ⟨A1, n1, c1, e, r1⟩ := h3 k hkR hk
 obtain ⟨b', off', e', hb, hc⟩ := h1.pos (by have := h1.len; omega)
 injection e' with e'
 injection e' with e1 e2
 subst e1; subst e2
 exact ⟨A1, n1, c1, hb, fun i v hv => hc k hkR i v (by rw [e]; exact hv), r1⟩
end
def eC (c : Nat) : Value := if c = 0 then .nilIface else .iface 68 (.int .i64 (c : Int))
theorem eC_zero : eC 0 = .nilIface := rfl
theorem eC_some {c : Nat} (h : c ≠ 0) : eC c = .iface 68 (.int .i64 (c : Int)) := if_neg h
theorem Blk.c11 {w : World} {g : Nat} {t : TypeId} {a0 a1 a2 a3 a4 a5 a6 a7 a8 a9 a10 : Value} (h : Blk w g t #[a0, a1, a2, a3, a4, a5, a6, a7, a8, a9, a10]) :
  w.cell? ⟨g, 0, none⟩ = some a0 ∧ w.cell? ⟨g, 1, none⟩ = some a1 ∧ w.cell? ⟨g, 2, none⟩ = some a2 ∧ w.cell? ⟨g, 3, none⟩ = some a3 ∧ w.cell? ⟨g, 4, none⟩ = some a4 ∧ w.cell? ⟨g, 5, none⟩ = some a5 ∧ w.cell? ⟨g, 6, none⟩ = some a6 ∧ w.cell? ⟨g, 7, none⟩ = some a7 ∧ w.cell? ⟨g, 8, none⟩ = some a8 ∧ w.cell? ⟨g, 9, none⟩ = some a9 ∧ w.cell? ⟨g, 10, none⟩ = some a10 :=
 ⟨h.at 0, h.at 1, h.at 2, h.at 3, h.at 4, h.at 5, h.at 6, h.at 7, h.at 8, h.at 9, h.at 10⟩
def wid (n : Int) : Bool := decide (n = 1 ∨ n = 2 ∨ n = 4 ∨ n = 8)
theorem wid_cases {n : Int} (h : wid n = true) : n = 1 ∨ n = 2 ∨ n = 4 ∨ n = 8 := of_decide_eq_true h
theorem isWidth_any (n : Int) (w : World) : Calls Try.prog 66 #[.int .i64 n] w fun e w' => e = .returned (.bool (wid n)) ∧ w = w' := by
 by_cases h1 : n = 1
 ·subst h1
  go_enter Try.func66, Try.ntmps66
  go_wp2
  go_ret
  exact ⟨rfl, rfl⟩
 by_cases h2 : n = 2
 ·subst h2
  go_enter Try.func66, Try.ntmps66
  go_wp2
  go_ret
  exact ⟨rfl, rfl⟩
 by_cases h4 : n = 4
 ·subst h4
  go_enter Try.func66, Try.ntmps66
  go_wp2
  go_ret
  exact ⟨rfl, rfl⟩
 by_cases h8 : n = 8
 ·subst h8
  go_enter Try.func66, Try.ntmps66
  go_wp2
  go_ret
  exact ⟨rfl, rfl⟩
 have e : wid n = false := by unfold wid; simp [h1, h2, h4, h8]
 have b1 : (n == 1) = false := by simp [h1]
 have b2 : (n == 2) = false := by simp [h2]
 have b4 : (n == 4) = false := by simp [h4]
 have b8 : (n == 8) = false := by simp [h8]
 have E := hid e
 clear e h1 h2 h4 h8
 go_enter Try.func66, Try.ntmps66
 go_wp2
 go_ret
 exact ⟨ret_bool E.out.symm, rfl⟩
def wthn (a n s : Int) : Bool := decide (a + n ≤ s)
theorem within_any (a n s : Int) (w : World) (ha : 0 ≤ a) (hn : 0 ≤ n) (hs : s ≤ 18446744073709551615) :
  Calls Try.prog 77 #[.int .u64 a, .int .u64 n, .int .u64 s] w fun e w' => e = .returned (.bool (wthn a n s)) ∧ w = w' := by
 by_cases h1 : n ≤ s
 ·have hd : 0 ≤ s - n := by omega
  by_cases h2 : a ≤ s - n
  ·have E := hid (show wthn a n s = true from decide_eq_true (by omega))
   go_enter Try.func77, Try.ntmps77
   go_wp2
   go_ret
   exact ⟨ret_bool E.out.symm, rfl⟩
  ·have E := hid (show wthn a n s = false from decide_eq_false (by omega))
   have h2' : decide (a ≤ s - n) = false := decide_eq_false h2
   go_enter Try.func77, Try.ntmps77
   go_wp2
   go_ret
   exact ⟨ret_bool E.out.symm, rfl⟩
 ·have E := hid (show wthn a n s = false from decide_eq_false (by omega))
  have h1' : decide (n ≤ s) = false := decide_eq_false h1
  go_enter Try.func77, Try.ntmps77
  go_wp2
  go_ret
  exact ⟨ret_bool E.out.symm, rfl⟩
def fits (v n : Int) : Bool := wid n && decide (v < 256 ^ n.toNat)
theorem mWidth_any (wide big : Bool) (w : World) : Calls Try.prog 51 #[.agg #[.bool wide, .bool big]] w fun e w' => e = .returned (.int .i64 (byWide wide 4 8 : Nat)) ∧ Grow w w' := by
 cases wide
 all_goals
  go_enter Try.func51, Try.ntmps51
  go_wp2
  go_ret
  exact ⟨rfl, Grow.of_alloc _ _⟩
theorem mLast_any (wide big : Bool) (w : World) : Calls Try.prog 78 #[.agg #[.bool wide, .bool big]] w fun e w' => e = .returned (.int .u64 (lastA wide : Nat)) ∧ Grow w w' := by
 cases wide
 all_goals
  go_enter Try.func78, Try.ntmps78
  go_wp2
  go_ret
  exact ⟨rfl, Grow.of_alloc _ _⟩
theorem mIsSeg_any (m : Md) (A1 A2 : Option Addr) (n1 c1 n2 c2 : Nat) (i : Int) (w : World) : Calls Try.prog 70 #[.agg (mdC m (.slice A1 n1 c1) (.slice A2 n2 c2)), .int .i64 i] w fun e w' => e = .returned (.bool (isSegN n1 i)) ∧ Grow w w' := by
 unfold mdC
 by_cases h0 : 0 ≤ i
 ·have E := hid (show isSegN n1 i = decide (i < (n1 : Int)) by unfold isSegN; simp [h0])
  go_enter Try.func70, Try.ntmps70
  go_wp2
  go_ret
  exact ⟨ret_bool E.out.symm, Grow.of_alloc _ _⟩
 ·have E := hid (show isSegN n1 i = false by unfold isSegN; simp [h0])
  have h1 : decide (0 ≤ i) = false := decide_eq_false h0
  clear h0
  go_enter Try.func70, Try.ntmps70
  go_wp2
  go_ret
  exact ⟨ret_bool E.out.symm, Grow.of_alloc _ _⟩
theorem mIsWithin_any (p : Pl) (S : Value) (A : Option Addr) (n c : Nat) (w : World) (hn : n ≤ maxLen) : Calls Try.prog 71 #[.agg (plC p S), .slice A n c] w fun e w' => e = .returned (.bool (p.within n)) ∧ Grow w w' := by
 unfold plC
 unfold maxLen at hn
 have z : IntKind.u64.wrap (n : Int) = (n : Int) := by rw [IntKind.wrap_u64]; omega
 have E := hid (show wthn (p.off : Nat) (p.size : Nat) (n : Nat) = p.within n by unfold wthn Pl.within; rw [Bool.eq_iff_iff, decide_eq_true_iff, decide_eq_true_iff]; omega)
 generalize p.within n = R at E ⊢
 generalize p.off = a at E ⊢
 generalize p.size = b at E ⊢
 generalize p.inn = i
 go_enter Try.func71, Try.ntmps71
 go_wp2_with (go_at_call 77; refine (within_any _ _ _ _ (by omega) (by omega) (by omega)).mono ?_; rintro e w' ⟨rfl, rfl⟩; rw [E.out])
 go_ret
 exact ⟨rfl, Grow.of_alloc _ _⟩
theorem mHeld_any (s : Se) (S : Value) (w : World) : Calls Try.prog 58 #[.agg (seC s S)] w fun e w' => e = .returned (.int .u64 (s.held : Nat)) ∧ Grow w w' := by
 unfold seC
 by_cases h0 : s.typ = 0
 ·have E := hid (show s.held = 0 by unfold Se.held; simp [h0])
  have e0 : ((s.typ : Int) == 0) = true := by simp [h0]
  clear h0
  generalize s.held = R at E ⊢
  generalize s.typ = t at e0 ⊢
  go_enter Try.func58, Try.ntmps58
  go_wp2
  go_ret
  exact ⟨by rw [E.out]; rfl, Grow.of_alloc _ _⟩
 ·have e0 : ((s.typ : Int) == 0) = false := by simp [h0]
  by_cases h8 : s.typ = 8
  ·have E := hid (show s.held = 0 by unfold Se.held; simp [h8])
   have e8 : ((s.typ : Int) == 8) = true := by simp [h8]
   clear h0 h8
   generalize s.held = R at E ⊢
   generalize s.typ = t at e0 e8 ⊢
   go_enter Try.func58, Try.ntmps58
   go_wp2
   go_ret
   exact ⟨by rw [E.out]; rfl, Grow.of_alloc _ _⟩
  ·have E := hid (show s.held = s.size by unfold Se.held; simp [h0, h8])
   have e8 : ((s.typ : Int) == 8) = false := by simp; omega
   clear h0 h8
   generalize s.held = R at E ⊢
   generalize s.typ = t at e0 e8 ⊢
   generalize s.size = z at E ⊢
   go_enter Try.func58, Try.ntmps58
   go_wp2
   go_ret
   exact ⟨ret_int (by rw [E.out]), Grow.of_alloc _ _⟩
end Go.Proofs.Ytfbimboemahhhaa
