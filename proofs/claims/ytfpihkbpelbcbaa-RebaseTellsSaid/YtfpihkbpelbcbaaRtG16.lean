/-
  Several texts in one: The contract of the helper Code, at no error and at one of api's, itself; Small facts of a model's number; The document's example (up) of layer 19; The contract of the document's own Moved.
-/
import Derived.Test.YtfpihkbpelbcbaaRows
import Derived.WalkKit
import Derived.Lib.Hide
import Derived.Test.YtfpihkbpelbcbaaRtG15
import Derived.Test.YtfpihkbpelbcbaaRtG2
import Derived.Test.YtfpihkbpelbcbaaRtG1
import Derived.Laws.Bits64b
import Derived.Deep.OwnRows
import Derived.BigQuiet
import Derived.Deep.QuietTactic
import Derived.Laws.MakeOwn
import Derived.Test.YtfpihkbpelbcbaaRtG4
import Derived.Test.YtfpihkbpelbcbaaRtG3
import Derived.Test.YtfpihkbpelbcbaaRtG5
namespace Go.Proofs.Ytfpihkbpelbcbaa
open Go.Lib (hid)
open Go.RowKit
theorem code_nil (w : World) : Calls Try.prog 10 #[.nilIface] w fun e w' => e = .returned (.int .i64 0) ∧ w = w' := by
 go_enter Try.func10, Try.ntmps10
 go_wp2
 go_ret
 exact ⟨rfl, rfl⟩
theorem eq_codes (a b : Int) (w : World) : (binOp .eql 36 (.iface 79 (.int .i64 a)) (.iface 79 (.int .i64 b))).run Try.prog w = .ok (.bool (a == b)) w := by kernel_rfl
set_option maxRecDepth 100000 in
theorem code_some (c : Nat) (h0 : 0 < c) (h1 : c ≤ 12) (w : World) : Calls Try.prog 10 #[.iface 79 (.int .i64 c)] w fun e w' => e = .returned (.int .i64 c) ∧ w = w' := by
 go_enter Try.func10, Try.ntmps10
 go_wp2_with fail
 go_loop [3] (fun i => ∃ k : Nat, 1 ≤ k ∧ k ≤ c ∧ i = .int .i64 k) (fun i => 20 - (intOf i).toNat)
 case atStart => exact ⟨1, by omega, by omega, rfl⟩
 case round =>
  obtain ⟨k, hk1, hk, rfl⟩ := hrel
  have hq := eq_codes c k w
  by_cases e : k = c
  ·subst e
   have hne : ((k : Int) == (k : Int)) = true := by simp
   rw [hne] at hq
   go_wp2
   go_ret
   exact ⟨rfl, rfl⟩
  ·have hne : ((c : Int) == (k : Int)) = false := by simp; omega
   go_wp2
   go_round
   case rel => exact ⟨k + 1, by omega, by omega, by go_num⟩
   case measure => simp [intOf]; omega
theorem code_of (c : Nat) (h : c ≤ 12) (w : World) : Calls Try.prog 10 #[eC c] w fun e w' => e = .returned (.int .i64 c) ∧ w = w' := by
 by_cases h0 : c = 0
 ·subst h0
  exact code_nil w
 ·rw [eC_some h0]
  exact code_some c (by omega) h w
theorem sum_small {m : Md} {n1 n2 : Nat} (l1 : n1 = m.segs.length) (l2 : n2 = m.secs.length) (hs1 : ∀ s ∈ m.segs, s.pl.own.length ≤ reachBytes) (hs2 : ∀ s ∈ m.secs, s.pl.own.length ≤ reachBytes) :
  n1 ≤ 20 → n2 ≤ 70 → m.sum ≤ 4000000000000000000 := fun h1 h2 => by
 have q1 := sum_le (fun s : Sg => s.pl.own.length) reachBytes m.segs hs1
 have q2 := sum_le (fun s : Se => s.pl.own.length) reachBytes m.secs hs2
 have e1 : m.segs.length * reachBytes ≤ 20 * reachBytes := Nat.mul_le_mul_right _ (by omega)
 have e2 : m.secs.length * reachBytes ≤ 70 * reachBytes := Nat.mul_le_mul_right _ (by omega)
 unfold Md.sum
 unfold reachBytes at q1 q2 e1 e2
 omega
set_option maxRecDepth 100000
set_option linter.unusedVariables false
def md19 (t e : Nat) : Md := ⟨false, false, 0, 0, t, 0, 0, e, [], [], 0⟩
theorem md19_ok (t e : Nat) (h : t < 65536) (h2 : e < 18446744073709551616) : (md19 t e).Ok := ⟨by show 0 < _; decide, by show 0 < _; decide, h, by show 0 < _; decide, by show 0 < _; decide, h2, fun s h => absurd h (by simp [md19]), fun s h => absurd h (by simp [md19]), by show I64 0; unfold I64; decide⟩
theorem md19_small (t e : Nat) : (md19 t e).Small := fun s h => absurd h (by simp [md19])
theorem rebase19a (w : World) :
  Calls Try.prog 7 #[.agg #[.bool false, .bool false, .int .u8 0, .int .u8 0, .int .u16 2, .int .u16 0, .int .u32 0, .int .u64 0, .slice none 0 0, .slice none 0 0, .int .i64 0], .int .u64 0] w fun e w' =>
   ∃ s1 n1 c1 s2 n2 c2, e = .returned (.tuple #[.agg #[.bool false, .bool false, .int .u8 0, .int .u8 0, .int .u16 0, .int .u16 0, .int .u32 0, .int .u64 0, .slice s1 n1 c1, .slice s2 n2 c2, .int .i64 0], .iface 79 (.int .i64 11)]) ∧ Grow w w' := by
 refine Calls.mono (rebase_any (md19 2 0) (md19_ok 2 0 (by decide) (by decide)) (by kernel_rfl) (md19_small 2 0) (fun s h => absurd h (by simp [md19])) none 0 0 none 0 0 0 w ZR.nil ZR.nil (by decide)) ?_
 rintro e w' ⟨A3, n3, c3, A4, n4, c4, rfl, -, -, hg⟩
 have h1 : (md19 2 0).rbC 0 = 11 := by kernel_rfl
 have h2 : (md19 2 0).rbM 0 = md0 := rbM_bad (by rw [h1]; decide)
 rw [h1, h2]
 exact ⟨A3, n3, c3, A4, n4, c4, rfl, hg⟩
theorem rebase19b (w : World) :
  Calls Try.prog 7 #[.agg #[.bool false, .bool false, .int .u8 0, .int .u8 0, .int .u16 3, .int .u16 0, .int .u32 0, .int .u64 5, .slice none 0 0, .slice none 0 0, .int .i64 0], .int .u64 3] w fun e w' =>
   ∃ s1 n1 c1 s2 n2 c2, e = .returned (.tuple #[.agg #[.bool false, .bool false, .int .u8 0, .int .u8 0, .int .u16 3, .int .u16 0, .int .u32 0, .int .u64 8, .slice s1 n1 c1, .slice s2 n2 c2, .int .i64 0], .nilIface]) ∧ Grow w w' := by
 refine Calls.mono (rebase_any (md19 3 5) (md19_ok 3 5 (by decide) (by decide)) (by kernel_rfl) (md19_small 3 5) (fun s h => absurd h (by simp [md19])) none 0 0 none 0 0 3 w ZR.nil ZR.nil (by decide)) ?_
 rintro e w' ⟨A3, n3, c3, A4, n4, c4, rfl, -, -, hg⟩
 have h1 : (md19 3 5).rbC 3 = 0 := by kernel_rfl
 rw [h1, rbM_zero h1]
 exact ⟨A3, n3, c3, A4, n4, c4, rfl, hg⟩
set_option maxHeartbeats 4000000 in
theorem up19 (w : World) : Calls Try.prog 4 #[] w fun e w' => e = .returned (.bool true) ∧ Grow w w' := by
 go_enter Try.func4, Try.ntmps4
 go_wp2_with fail
 refine (rebase19a w).mono ?_
 rintro e w1 ⟨s1, n1, c1, s2, n2, c2, rfl, hg⟩
 have HG1 := hid hg
 clear hg
 go_wp2_with fail
 generalize hW : World.alloc _ _ = W2
 obtain ⟨b1, hg⟩ := blk1 hW
 clear hW b1
 have HG2 : Hid (Grow w W2) := hid (HG1.out.trans hg)
 clear hg HG1
 refine (rebase19b W2).mono ?_
 rintro e w3 ⟨s3, n3, c3, s4, n4, c4, rfl, hg⟩
 have HG3 : Hid (Grow w w3) := hid (HG2.out.trans hg)
 clear hg HG2
 go_wp2_with fail
 generalize hW : World.alloc _ _ = W4
 obtain ⟨b1, hg⟩ := blk1 hW
 clear hW
 have HG4 : Hid (Grow w W4) := hid (HG3.out.trans hg)
 have c7 : W4.cell? ⟨w3.heap.size, 7, none⟩ = some (.int .u64 8) := b1.at 7
 clear hg HG3 b1
 refine (code_some 11 (by decide) (by decide) W4).mono ?_
 rintro e w5 ⟨rfl, rfl⟩
 go_wp2
 go_ret
 exact ⟨rfl, HG4.out⟩
set_option maxRecDepth 100000
set_option linter.unusedVariables false
theorem ZO.awayM {w : World} {base : Nat} {e t : TypeId} {z : Nat} {A : Option Addr} {n c g : Nat} {l : List (Array Value)} {cs : Array Value} (h : ZO w base e z A n c l) (hb : Blk w g t cs) (ht : e ≠ t) : own A ≠ some g := fun hA => by
 rcases h.1.2 with ⟨hv, _⟩ | ⟨g', cap, cur, hv, _, hh, _⟩
 ·injection hv with e1 _ _
  subst e1
  cases hA
 ·injection hv with e1 _ _
  subst e1
  have e3 : g' = g := Option.some.inj hA
  subst e3
  rw [hb] at hh
  injection hh with hh
  injection hh with _ hh
  exact ht hh.symm
theorem Blk.byRowM {w w' : World} {g : Nat} {t : TypeId} {cs : Array Value} {row : Option Nat} (h : Blk w g t cs) (hg : w.grownBy w' row) (hne : row ≠ some g) : Blk w' g t cs := by
 rw [Blk, hg.block g h.lt (fun e => hne e.symm)]
 exact h
theorem ZR.slices {α : Type} {K : RK α} {w : World} {B : Nat} {A : Option Addr} {n c : Nat} {L : List α} (h : ZR K w B A n c L) : ∃ S : Nat → Sl, ZS w B K.z A n c (rowsOf K L S) ∧ ∀ j (hj : j < L.length), RB w B (S j).1 (S j).2.1 (S j).2.2 (K.by_ L[j]) := by
 obtain ⟨R, h1, h2, h3⟩ := h
 have key : ∀ j, ∃ s : Sl, ∀ (h : j < R.length) (h' : j < L.length), R[j] = K.cs L[j] (sv s) ∧ RB w B s.1 s.2.1 s.2.2 (K.by_ L[j]) := fun j => by
  by_cases hj : j < L.length
  ·obtain ⟨A1, n1, c1, e1, h1⟩ := h3 j (by rw [h2]; exact hj) hj
   exact ⟨(A1, n1, c1), fun _ _ => ⟨e1, h1⟩⟩
  ·exact ⟨(none, 0, 0), fun _ h' => absurd h' hj⟩
 refine ⟨fun j => (key j).choose, ?_, fun j hj => ((key j).choose_spec (by rw [h2]; exact hj) hj).2⟩
 have e1 : rowsOf K L (fun j => (key j).choose) = R := List.ext_getElem (by rw [rowsOf_len, h2]) fun j h1 h4 => by
  have hj : j < L.length := by rw [← h2]; exact h4
  rw [rowsOf_at h1 hj]
  exact ((key j).choose_spec h4 hj).1.symm
 rw [e1]
 exact h1
theorem rowsOf_take {α : Type} (K : RK α) (L : List α) (S : Nat → Sl) (k : Nat) (h : k < L.length) : (rowsOf K L S).take (k + 1) = (rowsOf K L S).take k ++ [K.cs L[k] (sv (S k))] := by
 have h' : k < (rowsOf K L S).length := by rw [rowsOf_len]; exact h
 rw [List.take_succ_eq_append_getElem h', rowsOf_at h' h]
structure MJ (w W : World) (gm gr go : Nat) (mc zc oc : Array Value) (A : Option Addr) (k c : Nat) (R : List (Array Value)) (A' : Option Addr) (k' c' : Nat) (R' : List (Array Value)) : Prop where
 b : Blk W gm 32 mc
 r : Blk W gr 32 zc
 o : Blk W go 32 oc
 s1 : ZO W w.heap.size 48 10 A k c R
 s2 : ZO W w.heap.size 50 13 A' k' c' R'
 gw : Grow w W
section
variable {w W W' : World} {gm gr go : Nat} {mc zc oc : Array Value} {A A' : Option Addr} {k c k' c' : Nat} {R R' : List (Array Value)}
theorem MJ.grow (h : MJ w W gm gr go mc zc oc A k c R A' k' c' R') (hg : Grow W W') : MJ w W' gm gr go mc zc oc A k c R A' k' c' R' :=
 ⟨h.b.grow hg, h.r.grow hg, h.o.grow hg, h.s1.keep hg, h.s2.keep hg, h.gw.trans hg⟩
theorem MJ.app1 (h : MJ w W gm gr go mc zc oc A k c R A' k' c' R') {A2 : Option Addr} {c2 : Nat} {r : Array Value} (ho : ZO W' w.heap.size 48 10 A2 (k + 1) c2 (R ++ [r])) (hg : W.grownBy W' (own A)) : MJ w W' gm gr go mc zc oc A2 (k + 1) c2 (R ++ [r]) A' k' c' R' :=
 ⟨h.b.byRowM hg (h.s1.awayM h.b (by decide)), h.r.byRowM hg (h.s1.awayM h.r (by decide)), h.o.byRowM hg (h.s1.awayM h.o (by decide)), ho, h.s2.past hg (h.s2.kinds h.s1 (by decide)),
  Below.trans h.gw ((Below.refl _ _).grown hg h.gw.size fun q hq => h.s1.ge hq)⟩
theorem MJ.app2 (h : MJ w W gm gr go mc zc oc A k c R A' k' c' R') {A2 : Option Addr} {c2 : Nat} {r : Array Value} (ho : ZO W' w.heap.size 50 13 A2 (k' + 1) c2 (R' ++ [r])) (hg : W.grownBy W' (own A')) : MJ w W' gm gr go mc zc oc A k c R A2 (k' + 1) c2 (R' ++ [r]) :=
 ⟨h.b.byRowM hg (h.s2.awayM h.b (by decide)), h.r.byRowM hg (h.s2.awayM h.r (by decide)), h.o.byRowM hg (h.s2.awayM h.o (by decide)), h.s1.past hg (h.s1.kinds h.s2 (by decide)), ho,
  Below.trans h.gw ((Below.refl _ _).grown hg h.gw.size fun q hq => h.s2.ge hq)⟩
theorem MJ.sto (h : MJ w W gm gr go mc zc oc A k c R A' k' c' R') (hm : go ≠ gm) (hr : go ≠ gr) (hB : w.heap.size ≤ go) (p : Nat) (v : Value) : MJ w (W.setCell ⟨go, p, none⟩ v) gm gr go mc zc (oc.setIfInBounds p v) A k c R A' k' c' R' := by
 have e9 := setCell_eq_setRow W go p _ 32 (0, 0) v h.o
 exact ⟨h.b.cellset (Ne.symm hm) _, h.r.cellset (Ne.symm hr) _, by rw [e9]; exact h.o.set _, h.s1.past (grown_set' _ _ _) (.inr (h.s1.awayM h.o (by decide))), h.s2.past (grown_set' _ _ _) (.inr (h.s2.awayM h.o (by decide))),
  h.gw.cellset hB _ _⟩
end
set_option maxHeartbeats 8000000 in
theorem rMoved_any (m : Md) (ok : m.Ok) (A1 A2 : Option Addr) (n1 c1 n2 c2 d B : Nat) (w : World) (g1 : ZR sgK w B A1 n1 c1 m.segs) (g2 : ZR seK w B A2 n2 c2 m.secs) (hBw : B ≤ w.heap.size) (hn1 : n1 ≤ 65536) (hn2 : n2 ≤ 65536) (hd : d < 18446744073709551616) :
  Calls Try.prog 21 #[.agg (mdC m (.slice A1 n1 c1) (.slice A2 n2 c2)), .int .u64 (d : Int)] w fun e w' => ∃ A4 c4 A5 c5, e = .returned (.agg (mdC (m.moved d) (.slice A4 n1 c4) (.slice A5 n2 c5))) ∧ GM sgK w' B 48 A4 n1 c4 (m.moved d).segs ∧ GM seK w' B 50 A5 n2 c5 (m.moved d).secs ∧ Grow w w' := by
 have HL := hid g1.len
 have HM := hid g2.len
 obtain ⟨S1, hz1, hb1⟩ := g1.slices
 obtain ⟨S2, hz2, hb2⟩ := g2.slices
 have HS := hid hz1
 have HT := hid hz2
 have hcc := g1.cap
 have hcm := g1.max
 have hcc2 := g2.cap
 have hcm2 := g2.max
 unfold maxLen at hcm hcm2
 have HE1 : Hid (∀ k (h : k < (rowsOf sgK m.segs S1).length) (h' : k < m.segs.length), (rowsOf sgK m.segs S1)[k] = sgC m.segs[k] (sv (S1 k))) := hid fun k h h' => rowsOf_at h h'
 have HE2 : Hid (∀ k (h : k < (rowsOf seK m.secs S2).length) (h' : k < m.secs.length), (rowsOf seK m.secs S2)[k] = seC m.secs[k] (sv (S2 k))) := hid fun k h h' => rowsOf_at h h'
 have HR1 : Hid ((rowsOf sgK m.segs S1).length = n1) := hid (by rw [rowsOf_len, HL.out])
 have HR2 : Hid ((rowsOf seK m.secs S2).length = n2) := hid (by rw [rowsOf_len, HM.out])
 have HX1 : Hid (∀ k (h : k < m.segs.length), (rowsOf sgK (m.moved d).segs S1).take (k + 1) = (rowsOf sgK (m.moved d).segs S1).take k ++ [sgC (mvS d m.segs[k]) (sv (S1 k))]) := hid fun k h => by
  have h' : k < (m.moved d).segs.length := by simpa [Md.moved] using h
  rw [rowsOf_take _ _ _ k h']
  simp [Md.moved]
  rfl
 have HX2 : Hid (∀ k (h : k < m.secs.length), (rowsOf seK (m.moved d).secs S2).take (k + 1) = (rowsOf seK (m.moved d).secs S2).take k ++ [seC (mvE d m.secs[k]) (sv (S2 k))]) := hid fun k h => by
  have h' : k < (m.moved d).secs.length := by simpa [Md.moved] using h
  rw [rowsOf_take _ _ _ k h']
  simp [Md.moved]
  rfl
 have HF1 : Hid (∀ W A c, Grow w W → ZO W w.heap.size 48 10 A n1 c ((rowsOf sgK (m.moved d).segs S1).take n1) → GM sgK W B 48 A n1 c (m.moved d).segs) := hid fun W A c hg h => by
  have hl : (m.moved d).segs.length = m.segs.length := by simp [Md.moved]
  rw [List.take_of_length_le (by rw [rowsOf_len, hl, HL.out]; exact Nat.le_refl _)] at h
  refine ⟨_, h.mono hBw, rowsOf_len, fun j h1 h2 => ⟨_, _, _, rowsOf_at h1 h2, .inl ?_⟩⟩
  have := (hb1 j (by rw [← hl]; exact h2)).belowAt hg hBw
  have e : (m.moved d).segs[j].pl.own = m.segs[j].pl.own := by
   simp [Md.moved, mvS]
  show RB _ _ _ _ _ (m.moved d).segs[j].pl.own
  rw [e]
  exact this
 have HF2 : Hid (∀ W A c, Grow w W → ZO W w.heap.size 50 13 A n2 c ((rowsOf seK (m.moved d).secs S2).take n2) → GM seK W B 50 A n2 c (m.moved d).secs) := hid fun W A c hg h => by
  have hl : (m.moved d).secs.length = m.secs.length := by simp [Md.moved]
  rw [List.take_of_length_le (by rw [rowsOf_len, hl, HM.out]; exact Nat.le_refl _)] at h
  refine ⟨_, h.mono hBw, rowsOf_len, fun j h1 h2 => ⟨_, _, _, rowsOf_at h1 h2, .inl ?_⟩⟩
  have := (hb2 j (by rw [← hl]; exact h2)).belowAt hg hBw
  have e : (m.moved d).secs[j].pl.own = m.secs[j].pl.own := by
   simp [Md.moved, mvE]
   split <;> rfl
  show RB _ _ _ _ _ (m.moved d).secs[j].pl.own
  rw [e]
  exact this
 have hOk1 := fun k (hk : k < m.segs.length) => ok.segs _ (List.getElem_mem hk)
 have hOk2 := fun k (hk : k < m.secs.length) => ok.secs _ (List.getElem_mem hk)
 have HOk1 := hid hOk1
 have HOk2 := hid hOk2
 have he := ok.entry
 have HB1 := hid (fun (h : 0 < n1) => g1.pos h)
 have HB2 := hid (fun (h : 0 < n2) => g2.pos h)
 have HC2 : Hid (∀ s1 s2, mdC (m.moved d) s1 s2 = #[.bool m.wide, .bool m.big, .int .u8 (m.osabi : Nat), .int .u8 (m.abi : Nat), .int .u16 (m.typ : Nat), .int .u16 (m.mach : Nat), .int .u32 (m.flags : Nat), .int .u64 (mvN d m.entry : Nat), s1, s2, .int .i64 m.str]) := hid fun _ _ => rfl
 unfold mdC at HC2 ⊢
 clear g1 g2 ok hz1 hz2 hb1 hb2 hOk1 hOk2
 have h01 : (rowsOf sgK (m.moved d).segs S1).take 0 = [] := rfl
 have h02 : (rowsOf seK (m.moved d).secs S2).take 0 = [] := rfl
 obtain ⟨T1, hT1⟩ : ∃ f : Nat → List (Array Value), f = fun k => (rowsOf sgK (m.moved d).segs S1).take k := ⟨_, rfl⟩
 obtain ⟨T2, hT2⟩ : ∃ f : Nat → List (Array Value), f = fun k => (rowsOf seK (m.moved d).secs S2).take k := ⟨_, rfl⟩
 have eT1 : ∀ k, (rowsOf sgK (m.moved d).segs S1).take k = T1 k := fun k => by rw [hT1]
 have eT2 : ∀ k, (rowsOf seK (m.moved d).secs S2).take k = T2 k := fun k => by rw [hT2]
 simp only [eT1] at HX1 HF1 h01
 simp only [eT2] at HX2 HF2 h02
 have H01 := hid h01
 have H02 := hid h02
 clear hT1 hT2 eT1 eT2 h01 h02
 generalize rowsOf sgK m.segs S1 = RR1 at *
 generalize rowsOf seK m.secs S2 = RR2 at *
 generalize (m.moved d) = MD at *
 generalize m.segs = l at *
 generalize m.secs = l2 at *
 generalize m.entry = en at *
 generalize m.wide = f0 at *
 generalize m.big = f1 at *
 generalize m.osabi = f2 at *
 generalize m.abi = f3 at *
 generalize m.typ = f4 at *
 generalize m.mach = f5 at *
 generalize m.flags = f6 at *
 generalize m.str = f10 at *
 go_enter Try.func21, Try.ntmps21
 go_wp2_with fail
 generalize hW : World.alloc _ _ = W0
 obtain ⟨b1, b2, b3, hg0⟩ := blk3 hW
 clear hW
 obtain ⟨gm, hgm⟩ : ∃ g, g = w.heap.size := ⟨_, rfl⟩
 rw [← hgm] at b1 b2 b3 ⊢
 have HJ1 : Hid (MJ w W0 gm (gm + 1) (gm + 1 + 1) #[.bool f0, .bool f1, .int .u8 (f2 : Nat), .int .u8 (f3 : Nat), .int .u16 (f4 : Nat), .int .u16 (f5 : Nat), .int .u32 (f6 : Nat), .int .u64 (en : Int), .slice A1 n1 c1, .slice A2 n2 c2, .int .i64 f10] #[.bool false, .bool false, .int .u8 0, .int .u8 0, .int .u16 0, .int .u16 0, .int .u32 0, .int .u64 0, .slice none 0 0, .slice none 0 0, .int .i64 0] #[.bool f0, .bool f1, .int .u8 (f2 : Nat), .int .u8 (f3 : Nat), .int .u16 (f4 : Nat), .int .u16 (f5 : Nat), .int .u32 (f6 : Nat), .int .u64 (en : Int), .slice none 0 0, .slice none 0 0, .int .i64 f10] none 0 0 (T1 0) none 0 0 (T2 0)) := hid ⟨b1, b2, b3, by rw [H01.out]; exact ZO.nil, by rw [H02.out]; exact ZO.nil, hg0⟩
 have HNe : Hid (gm + 1 + 1 ≠ gm ∧ gm + 1 + 1 ≠ gm + 1 ∧ w.heap.size ≤ gm + 1 + 1 ∧ w.heap.size ≤ gm + 1) := hid (by omega)
 clear b1 b2 b3 hg0 hgm
 generalize gm + 1 + 1 = go at *
 generalize gm + 1 = gr at *
 go_loopw [6] (fun i wr => ∃ (k : Nat) (A : Option Addr) (c : Nat), k ≤ n1 ∧ i = .int .i64 k ∧ MJ w wr gm gr go #[.bool f0, .bool f1, .int .u8 (f2 : Nat), .int .u8 (f3 : Nat), .int .u16 (f4 : Nat), .int .u16 (f5 : Nat), .int .u32 (f6 : Nat), .int .u64 (en : Int), .slice A1 n1 c1, .slice A2 n2 c2, .int .i64 f10] #[.bool false, .bool false, .int .u8 0, .int .u8 0, .int .u16 0, .int .u16 0, .int .u32 0, .int .u64 0, .slice none 0 0, .slice none 0 0, .int .i64 0] #[.bool f0, .bool f1, .int .u8 (f2 : Nat), .int .u8 (f3 : Nat), .int .u16 (f4 : Nat), .int .u16 (f5 : Nat), .int .u32 (f6 : Nat), .int .u64 (en : Int), .slice A k c, .slice none 0 0, .int .i64 f10] A k c (T1 k) none 0 0 (T2 0)) (fun i _ => n1 - (intOf i).toNat)
 case atStart => exact ⟨0, none, 0, Nat.zero_le _, rfl, HJ1.out⟩
 case round =>
  obtain ⟨k, A, c, hk, rfl, hj⟩ := hrel
  have HJ2 := hid hj
  clear hj HJ1
  have y8 : wr.cell? ⟨gm, 8, none⟩ = some (.slice A1 n1 c1) := HJ2.out.b.at 8
  by_cases hlt : k < n1
  ·have hkl : k < l.length := by rw [← HL.out]; exact hlt
   obtain ⟨b, off, hAA, -⟩ := HB1.out (by omega)
   subst hAA
   have HkR : Hid (k < RR1.length) := hid (by rw [HR1.out]; exact hlt)
   obtain ⟨BB, hBB⟩ : ∃ BB, ZS wr BB 10 (some ⟨b, off, none⟩) n1 c1 RR1 := ⟨_, HS.out.belowAt HJ2.out.gw hBw⟩
   have HRr := hid hBB
   have HEk := hid (fun h => HE1.out k h hkl)
   have HXk := hid (HX1.out k hkl)
   have hv := (HOk1.out k hkl).vaddr
   clear hBB
   unfold sgC mvS sv at HXk
   unfold sgC sv at HEk
   generalize l[k] = s at *
   generalize (S1 k).1 = A3 at *
   generalize (S1 k).2.1 = nk at *
   generalize (S1 k).2.2 = ck at *
   simp only [] at HXk
   generalize s.typ = y0 at *
   generalize s.flags = y1 at *
   generalize s.vaddr = y2 at *
   generalize s.paddr = y3 at *
   generalize s.memsz = y4 at *
   generalize s.align = y5 at *
   generalize s.pl.inn = y6 at *
   generalize s.pl.off = y7 at *
   generalize s.pl.size = y8' at *
   have w0 : (0 : Int) ≤ (k : Int) := by omega
   have w1 : (k : Int) < (n1 : Int) := by omega
   have zk : IntKind.i64.wrap ((k : Int) + 1) = (k : Int) + 1 := by rw [IntKind.wrap_i64]; omega
   have z1 : IntKind.u64.wrap ((y2 : Int) + (d : Int)) = ((mvA y2 d : Nat) : Int) := by rw [IntKind.wrap_u64]; unfold mvA; omega
   generalize mvA y2 d = y2' at *
   have o8 : ∀ o, (wr.alloc o).cell? ⟨go, 8, none⟩ = some (.slice A k c) := fun o => (HJ2.out.o.alloc o).at 8
   have o8' : ∀ o o', ((wr.alloc o).alloc o').cell? ⟨go, 8, none⟩ = some (.slice A k c) := fun o o' => ((HJ2.out.o.alloc o).alloc o').at 8
   go_wp2_with (first | (refine wpList_load_zs HRr.out HkR.out rfl 48 (.tmp 23) rfl rfl _ Try.underlying48 rfl (by kernel_rfl) _ (HEk.out _) ?_) | (at_builtin; refine wpList_appendZ _ rfl (.tmp 31) (.tmp 33) 29 rfl w.heap.size 48 (.agg #[.int .u32 0, .int .u32 0, .int .u64 0, .int .u64 0, .int .u64 0, .int .u64 0, .int .i64 0, .int .u64 0, .int .u64 0, .slice none 0 0]) 10 88 Try.underlying29 (by kernel_rfl) rfl (by omega) A k c (T1 k) rfl ((HJ2.out.s1.keep (Grow.of_alloc _ _)).keep (Grow.of_alloc _ _)) _ _ #[.int .u32 (y0 : Nat), .int .u32 (y1 : Nat), .int .u64 (y2' : Nat), .int .u64 (y3 : Nat), .int .u64 (y4 : Nat), .int .u64 (y5 : Nat), .int .i64 y6, .int .u64 (y7 : Nat), .int .u64 (y8' : Nat), .slice A3 nk ck] rfl (blk2 rfl).2.1 rfl (by simp [Value.oneCell']) (by unfold maxLen; omega) (by omega) ((HJ2.out.gw.trans (Grow.of_alloc _ _)).trans (Grow.of_alloc _ _)).size ?_; intro A5 c5 w9 ho9 hg9 _; refine Hid.out ?_) | fail)
   have HJ9 : Hid (MJ w w9 gm gr go #[.bool f0, .bool f1, .int .u8 (f2 : Nat), .int .u8 (f3 : Nat), .int .u16 (f4 : Nat), .int .u16 (f5 : Nat), .int .u32 (f6 : Nat), .int .u64 (en : Int), .slice (some ⟨b, off, none⟩) n1 c1, .slice A2 n2 c2, .int .i64 f10] #[.bool false, .bool false, .int .u8 0, .int .u8 0, .int .u16 0, .int .u16 0, .int .u32 0, .int .u64 0, .slice none 0 0, .slice none 0 0, .int .i64 0] #[.bool f0, .bool f1, .int .u8 (f2 : Nat), .int .u8 (f3 : Nat), .int .u16 (f4 : Nat), .int .u16 (f5 : Nat), .int .u32 (f6 : Nat), .int .u64 (en : Int), .slice A k c, .slice none 0 0, .int .i64 f10] A5 (k + 1) c5 (T1 (k + 1)) none 0 0 (T2 0)) := hid (by
    rw [HXk.out]
    exact ((HJ2.out.grow (Grow.of_alloc _ _)).grow (Grow.of_alloc _ _)).app1 ho9 hg9)
   clear ho9 hg9 HJ2 y8 o8 o8' HRr HkR HEk HXk hv hkl
   have o8 : w9.cell? ⟨go, 8, none⟩ = some (.slice A k c) := HJ9.out.o.at 8
   have f8 := HJ9.out.o.soft 8
   have HJ10 := hid (HJ9.out.sto HNe.out.1 HNe.out.2.1 HNe.out.2.2.1 8 (.slice A5 (k + 1) c5))
   clear HJ9
   refine hid ?_
   go_wp2
   go_roundw
   case rel => exact ⟨k + 1, A5, c5, by omega, by go_num, HJ10.out⟩
   case measure => simp [intOf]; omega
  ·have e : k = n1 := by omega
   subst e
   clear HS HE1 HR1 HX1 HOk1 HB1
   go_wp2_with fail
   clear y8
   have HF := hid (fun W hg h => HF1.out W A c hg h)
   clear HF1
   generalize T1 k = Tk at *
   go_loopw [8] (fun i wr => ∃ (j : Nat) (A' : Option Addr) (c' : Nat), j ≤ n2 ∧ i = .int .i64 j ∧ MJ w wr gm gr go #[.bool f0, .bool f1, .int .u8 (f2 : Nat), .int .u8 (f3 : Nat), .int .u16 (f4 : Nat), .int .u16 (f5 : Nat), .int .u32 (f6 : Nat), .int .u64 (en : Int), .slice A1 k c1, .slice A2 n2 c2, .int .i64 f10] #[.bool false, .bool false, .int .u8 0, .int .u8 0, .int .u16 0, .int .u16 0, .int .u32 0, .int .u64 0, .slice none 0 0, .slice none 0 0, .int .i64 0] #[.bool f0, .bool f1, .int .u8 (f2 : Nat), .int .u8 (f3 : Nat), .int .u16 (f4 : Nat), .int .u16 (f5 : Nat), .int .u32 (f6 : Nat), .int .u64 (en : Int), .slice A k c, .slice A' j c', .int .i64 f10] A k c Tk A' j c' (T2 j)) (fun i _ => n2 - (intOf i).toNat)
   case atStart => exact ⟨0, none, 0, Nat.zero_le _, rfl, HJ2.out⟩
   case round =>
    obtain ⟨j, A', c', hk', rfl, hj⟩ := hrel
    have HJ3 := hid hj
    clear hj HJ2
    have y9 : wr.cell? ⟨gm, 9, none⟩ = some (.slice A2 n2 c2) := HJ3.out.b.at 9
    by_cases hlt : j < n2
    ·have hkl : j < l2.length := by rw [← HM.out]; exact hlt
     obtain ⟨b, off, hAA, -⟩ := HB2.out (by omega)
     subst hAA
     have HkR : Hid (j < RR2.length) := hid (by rw [HR2.out]; exact hlt)
     obtain ⟨BB, hBB⟩ : ∃ BB, ZS wr BB 13 (some ⟨b, off, none⟩) n2 c2 RR2 := ⟨_, HT.out.belowAt HJ3.out.gw hBw⟩
     have HRr := hid hBB
     have HEk := hid (fun h => HE2.out j h hkl)
     have HXk := hid (HX2.out j hkl)
     have hv := (HOk2.out j hkl).addr
     have hfl := (HOk2.out j hkl).flags
     clear hBB
     have HIn : Hid (mvE d l2[j] = if l2[j].flags / 2 % 2 = 1 then { l2[j] with addr := mvA l2[j].addr d } else l2[j]) := hid (by
      unfold mvE Se.isIn
      by_cases h : l2[j].flags / 2 % 2 = 1
      ·rw [if_pos (decide_eq_true h), if_pos h]
      ·rw [if_neg (by simpa using h), if_neg h])
     rw [HIn.out] at HXk
     clear HIn
     unfold seC sv at HXk HEk
     generalize l2[j] = s at *
     generalize (S2 j).1 = A3 at *
     generalize (S2 j).2.1 = nk at *
     generalize (S2 j).2.2 = ck at *
     have w0 : (0 : Int) ≤ (j : Int) := by omega
     have w1 : (j : Int) < (n2 : Int) := by omega
     have zk : IntKind.i64.wrap ((j : Int) + 1) = (j : Int) + 1 := by rw [IntKind.wrap_i64]; omega
     have z1 : IntKind.u64.wrap ((s.addr : Int) + (d : Int)) = ((mvA s.addr d : Nat) : Int) := by rw [IntKind.wrap_u64]; unfold mvA; omega
     have t1 : ((s.flags : Int)).tdiv 2 = ((s.flags / 2 : Nat) : Int) := (Int.ofNat_tdiv _ _).symm
     have t3 : IntKind.u64.wrap ((s.flags / 2 : Nat) : Int) = ((s.flags / 2 : Nat) : Int) := by rw [IntKind.wrap_u64]; omega
     have o9 : ∀ o, (wr.alloc o).cell? ⟨go, 9, none⟩ = some (.slice A' j c') := fun o => (HJ3.out.o.alloc o).at 9
     have o9' : ∀ o o', ((wr.alloc o).alloc o').cell? ⟨go, 9, none⟩ = some (.slice A' j c') := fun o o' => ((HJ3.out.o.alloc o).alloc o').at 9
     by_cases hz : s.flags / 2 % 2 = 1
     ·have t2 : (((s.flags / 2 : Nat) : Int)).tmod 2 = 1 := by rw [show (((s.flags / 2 : Nat) : Int)).tmod 2 = ((s.flags / 2 % 2 : Nat) : Int) from (Int.ofNat_tmod _ _).symm, hz]; rfl
      rw [if_pos hz] at HXk
      simp only [] at HXk
      clear hz
      generalize s.name = y0 at *
      generalize s.typ = y1 at *
      generalize s.flags = y2 at *
      generalize s.addr = y3 at *
      generalize s.size = y4 at *
      generalize s.link = y5 at *
      generalize s.info = y6 at *
      generalize s.align = y7 at *
      generalize s.entsize = y8 at *
      generalize s.pl.inn = y9 at *
      generalize s.pl.off = y10 at *
      generalize s.pl.size = y11 at *
      generalize y2 / 2 = q2 at *
      generalize mvA y3 d = y3' at *
      go_wp2_with (first | (refine wpList_load_zs HRr.out HkR.out rfl 50 (.tmp 46) rfl rfl _ Try.underlying50 rfl (by kernel_rfl) _ (HEk.out _) ?_) | (at_builtin; refine wpList_appendZ _ rfl (.tmp 59) (.tmp 61) 30 rfl w.heap.size 50 (.agg #[.int .u32 0, .int .u32 0, .int .u64 0, .int .u64 0, .int .u64 0, .int .u32 0, .int .u32 0, .int .u64 0, .int .u64 0, .int .i64 0, .int .u64 0, .int .u64 0, .slice none 0 0]) 13 104 Try.underlying30 (by kernel_rfl) rfl (by omega) A' j c' (T2 j) rfl ((HJ3.out.s2.keep (Grow.of_alloc _ _)).keep (Grow.of_alloc _ _)) _ _ #[.int .u32 (y0 : Nat), .int .u32 (y1 : Nat), .int .u64 (y2 : Nat), .int .u64 (y3' : Nat), .int .u64 (y4 : Nat), .int .u32 (y5 : Nat), .int .u32 (y6 : Nat), .int .u64 (y7 : Nat), .int .u64 (y8 : Nat), .int .i64 y9, .int .u64 (y10 : Nat), .int .u64 (y11 : Nat), .slice A3 nk ck] rfl (blk2 rfl).2.1 rfl (by simp [Value.oneCell']) (by unfold maxLen; omega) (by omega) ((HJ3.out.gw.trans (Grow.of_alloc _ _)).trans (Grow.of_alloc _ _)).size ?_; intro A5 c5 w9 ho9 hg9 _; refine Hid.out ?_) | fail)
      have HJ9 : Hid (MJ w w9 gm gr go #[.bool f0, .bool f1, .int .u8 (f2 : Nat), .int .u8 (f3 : Nat), .int .u16 (f4 : Nat), .int .u16 (f5 : Nat), .int .u32 (f6 : Nat), .int .u64 (en : Int), .slice A1 k c1, .slice (some ⟨b, off, none⟩) n2 c2, .int .i64 f10] #[.bool false, .bool false, .int .u8 0, .int .u8 0, .int .u16 0, .int .u16 0, .int .u32 0, .int .u64 0, .slice none 0 0, .slice none 0 0, .int .i64 0] #[.bool f0, .bool f1, .int .u8 (f2 : Nat), .int .u8 (f3 : Nat), .int .u16 (f4 : Nat), .int .u16 (f5 : Nat), .int .u32 (f6 : Nat), .int .u64 (en : Int), .slice A k c, .slice A' j c', .int .i64 f10] A k c Tk A5 (j + 1) c5 (T2 (j + 1))) := hid (by
       rw [HXk.out]
       exact ((HJ3.out.grow (Grow.of_alloc _ _)).grow (Grow.of_alloc _ _)).app2 ho9 hg9)
      clear ho9 hg9 HJ3 HRr HkR HEk HXk hv hkl
      try clear y9
      try clear o9 o9'
      try clear t1 t2 t3
      have o9 : w9.cell? ⟨go, 9, none⟩ = some (.slice A' j c') := HJ9.out.o.at 9
      have f9 := HJ9.out.o.soft 9
      have HJ10 := hid (HJ9.out.sto HNe.out.1 HNe.out.2.1 HNe.out.2.2.1 9 (.slice A5 (j + 1) c5))
      clear HJ9
      refine hid ?_
      go_wp2
      go_roundw
      case rel => exact ⟨j + 1, A5, c5, by omega, by go_num, HJ10.out⟩
      case measure => simp [intOf]; omega
     ·have t2 : (((s.flags / 2 : Nat) : Int)).tmod 2 = 0 := by rw [show (((s.flags / 2 : Nat) : Int)).tmod 2 = ((s.flags / 2 % 2 : Nat) : Int) from (Int.ofNat_tmod _ _).symm, show s.flags / 2 % 2 = 0 by omega]; rfl
      rw [if_neg hz] at HXk
      clear hz z1
      generalize s.name = y0 at *
      generalize s.typ = y1 at *
      generalize s.flags = y2 at *
      generalize s.addr = y3 at *
      generalize s.size = y4 at *
      generalize s.link = y5 at *
      generalize s.info = y6 at *
      generalize s.align = y7 at *
      generalize s.entsize = y8 at *
      generalize s.pl.inn = y9 at *
      generalize s.pl.off = y10 at *
      generalize s.pl.size = y11 at *
      generalize y2 / 2 = q2 at *
      go_wp2_with (first | (refine wpList_load_zs HRr.out HkR.out rfl 50 (.tmp 46) rfl rfl _ Try.underlying50 rfl (by kernel_rfl) _ (HEk.out _) ?_) | (at_builtin; refine wpList_appendZ _ rfl (.tmp 59) (.tmp 61) 30 rfl w.heap.size 50 (.agg #[.int .u32 0, .int .u32 0, .int .u64 0, .int .u64 0, .int .u64 0, .int .u32 0, .int .u32 0, .int .u64 0, .int .u64 0, .int .i64 0, .int .u64 0, .int .u64 0, .slice none 0 0]) 13 104 Try.underlying30 (by kernel_rfl) rfl (by omega) A' j c' (T2 j) rfl ((HJ3.out.s2.keep (Grow.of_alloc _ _)).keep (Grow.of_alloc _ _)) _ _ #[.int .u32 (y0 : Nat), .int .u32 (y1 : Nat), .int .u64 (y2 : Nat), .int .u64 (y3 : Nat), .int .u64 (y4 : Nat), .int .u32 (y5 : Nat), .int .u32 (y6 : Nat), .int .u64 (y7 : Nat), .int .u64 (y8 : Nat), .int .i64 y9, .int .u64 (y10 : Nat), .int .u64 (y11 : Nat), .slice A3 nk ck] rfl (blk2 rfl).2.1 rfl (by simp [Value.oneCell']) (by unfold maxLen; omega) (by omega) ((HJ3.out.gw.trans (Grow.of_alloc _ _)).trans (Grow.of_alloc _ _)).size ?_; intro A5 c5 w9 ho9 hg9 _; refine Hid.out ?_) | fail)
      have HJ9 : Hid (MJ w w9 gm gr go #[.bool f0, .bool f1, .int .u8 (f2 : Nat), .int .u8 (f3 : Nat), .int .u16 (f4 : Nat), .int .u16 (f5 : Nat), .int .u32 (f6 : Nat), .int .u64 (en : Int), .slice A1 k c1, .slice (some ⟨b, off, none⟩) n2 c2, .int .i64 f10] #[.bool false, .bool false, .int .u8 0, .int .u8 0, .int .u16 0, .int .u16 0, .int .u32 0, .int .u64 0, .slice none 0 0, .slice none 0 0, .int .i64 0] #[.bool f0, .bool f1, .int .u8 (f2 : Nat), .int .u8 (f3 : Nat), .int .u16 (f4 : Nat), .int .u16 (f5 : Nat), .int .u32 (f6 : Nat), .int .u64 (en : Int), .slice A k c, .slice A' j c', .int .i64 f10] A k c Tk A5 (j + 1) c5 (T2 (j + 1))) := hid (by
       rw [HXk.out]
       exact ((HJ3.out.grow (Grow.of_alloc _ _)).grow (Grow.of_alloc _ _)).app2 ho9 hg9)
      clear ho9 hg9 HJ3 HRr HkR HEk HXk hv hkl
      try clear y9
      try clear o9 o9'
      try clear t1 t2 t3
      have o9 : w9.cell? ⟨go, 9, none⟩ = some (.slice A' j c') := HJ9.out.o.at 9
      have f9 := HJ9.out.o.soft 9
      have HJ10 := hid (HJ9.out.sto HNe.out.1 HNe.out.2.1 HNe.out.2.2.1 9 (.slice A5 (j + 1) c5))
      clear HJ9
      refine hid ?_
      go_wp2
      go_roundw
      case rel => exact ⟨j + 1, A5, c5, by omega, by go_num, HJ10.out⟩
      case measure => simp [intOf]; omega
    ·have e : j = n2 := by omega
     subst e
     clear HT HE2 HR2 HX2 HOk2 HB2
     have d1 : decide ((j : Int) < (j : Int)) = false := decide_eq_false (by omega)
     have HG := hid (fun W hg h => HF2.out W A' c' hg h)
     clear HF2
     generalize T2 j = Tj at *
     have z1 : IntKind.u64.wrap ((en : Int) + (d : Int)) = ((mvA en d : Nat) : Int) := by rw [IntKind.wrap_u64]; unfold mvA; omega
     have y7 : wr.cell? ⟨gm, 7, none⟩ = some (.int .u64 (en : Int)) := HJ3.out.b.at 7
     by_cases h0 : en = 0
     ·subst h0
      have e0 : mvN d 0 = 0 := rfl
      rw [e0] at HC2
      obtain ⟨m0, m1, m2, m3, m4, m5, m6, m7, m8, m9, m10⟩ := HJ3.out.o.c11
      go_wp2_with (first | (refine wpList_store_row rfl 32 (.tmp 4) (.tmp 72) rfl gr _ rfl rfl _ _ HJ3.out.r (by kernel_rfl) rfl (by simp [Value.oneCell']) ?_) | fail)
      clear m0 m1 m2 m3 m4 m5 m6 m7 m8 m9 m10 y7 y9
      refine bodyPost_ret (results_cell_row rfl _ _ gr _ _ (0, 0) _ rfl (HJ3.out.r.set _) Try.underlying32 rfl (by kernel_rfl)) rfl ?_
      have hgr : ∀ cs, wr.grownBy (wr.setRow gr cs) (some gr) := fun cs => ⟨rfl, rfl, rfl, by simp, fun j _ hj => setRow_other wr gr j cs (fun e => hj (by rw [e]))⟩
      have hgw : ∀ cs, Grow w (wr.setRow gr cs) := fun cs => HJ3.out.gw.set HNe.out.2.2.2 _
      refine ⟨A, c, A', c', (congrArg (fun x => Ending.returned (Value.agg x)) (HC2.out _ _)).symm, HF.out _ (hgw _) (HJ3.out.s1.past (hgr _) (.inr (HJ3.out.s1.awayM HJ3.out.r (by decide)))), HG.out _ (hgw _) (HJ3.out.s2.past (hgr _) (.inr (HJ3.out.s2.awayM HJ3.out.r (by decide)))), hgw _⟩
     ·have e0 : ((en : Int) != 0) = true := by simp; omega
      have e0' : mvN d en = mvA en d := if_neg h0
      rw [e0'] at HC2
      generalize mvA en d = en' at *
      have HJ4 := hid (HJ3.out.sto HNe.out.1 HNe.out.2.1 HNe.out.2.2.1 7 (.int .u64 (en' : Int)))
      have f7 := HJ3.out.o.soft 7
      have m7 : wr.cell? ⟨go, 7, none⟩ = some (.int .u64 (en : Int)) := HJ3.out.o.at 7
      obtain ⟨q0, q1, q2, q3, q4, q5, q6, q7, q8, q9, q10⟩ := HJ4.out.o.c11
      clear h0
      go_wp2_with (first | (refine wpList_store_row rfl 32 (.tmp 4) (.tmp 72) rfl gr _ rfl rfl _ _ HJ4.out.r (by kernel_rfl) rfl (by simp [Value.oneCell']) ?_) | fail)
      clear q0 q1 q2 q3 q4 q5 q6 q7 q8 q9 q10 y7 y9 m7 f7
      generalize World.setCell _ _ _ = wz at *
      refine bodyPost_ret (results_cell_row rfl _ _ gr _ _ (0, 0) _ rfl (HJ4.out.r.set _) Try.underlying32 rfl (by kernel_rfl)) rfl ?_
      have hgr : ∀ cs, wz.grownBy (wz.setRow gr cs) (some gr) := fun cs => ⟨rfl, rfl, rfl, by simp, fun j _ hj => setRow_other wz gr j cs (fun e => hj (by rw [e]))⟩
      have hgw : ∀ cs, Grow w (wz.setRow gr cs) := fun cs => HJ4.out.gw.set HNe.out.2.2.2 _
      refine ⟨A, c, A', c', (congrArg (fun x => Ending.returned (Value.agg x)) (HC2.out _ _)).symm, HF.out _ (hgw _) (HJ4.out.s1.past (hgr _) (.inr (HJ4.out.s1.awayM HJ4.out.r (by decide)))), HG.out _ (hgw _) (HJ4.out.s2.past (hgr _) (.inr (HJ4.out.s2.awayM HJ4.out.r (by decide)))), hgw _⟩
end Go.Proofs.Ytfpihkbpelbcbaa
