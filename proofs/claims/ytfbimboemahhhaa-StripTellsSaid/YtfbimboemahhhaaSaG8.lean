/-
  Several texts in one: The contract of the document's own Strip; The contract of the statements' Few; Small facts of a model's number; The contract of the statements' Bools at two readings of one list of truths; how long the names' bytes are; The contract of the document's own Within (layer 1).
-/
import Derived.Test.YtfbimboemahhhaaSaG7
import Derived.Test.YtfbimboemahhhaaSaG5
import Derived.Test.YtfbimboemahhhaaSaG6
import Derived.Test.YtfbimboemahhhaaSaG2
import Derived.Test.YtfbimboemahhhaaSaG1
import Derived.Laws.Bits64b
import Derived.Deep.OwnRows
import Derived.WalkKit
import Derived.BigQuiet
import Derived.Deep.QuietTactic
import Derived.Lib.Hide
import Derived.Laws.MakeOwn
import Derived.Test.YtfbimboemahhhaaSaG4
import Derived.Test.YtfbimboemahhhaaRows
import Derived.Test.YtfbimboemahhhaaSaG3
namespace Go.Proofs.Ytfbimboemahhhaa
open Go.Lib (hid)
open Go.RowKit
set_option maxRecDepth 100000
set_option linter.unusedVariables false
def Md.lefts (m : Md) (k : Nat) : List Se := (List.range k).map m.left
theorem lefts_succ (m : Md) (k : Nat) : m.lefts (k + 1) = m.lefts k ++ [m.left k] := range_map _ k
theorem lefts_all (m : Md) {n : Nat} (h : n = m.secs.length) : m.lefts n = m.strip.secs := by rw [h]; rfl
theorem ZO.away {w : World} {base : Nat} {e t : TypeId} {z : Nat} {A : Option Addr} {n c g : Nat} {l : List (Array Value)} {cs : Array Value} (h : ZO w base e z A n c l) (hb : Blk w g t cs) (ht : e ≠ t) : own A ≠ some g := fun hA => by
 rcases h.1.2 with ⟨hv, _⟩ | ⟨g', cap, cur, hv, _, hh, _⟩
 ·injection hv with e1 _ _
  subst e1
  cases hA
 ·injection hv with e1 _ _
  subst e1
  have e3 : g' = g := Option.some.inj hA
  subst e3
  rw [hb] at hh
  injection hh with hh
  injection hh with _ hh
  exact ht hh.symm
theorem Blk.byRow {w w' : World} {g : Nat} {t : TypeId} {cs : Array Value} {row : Option Nat} (h : Blk w g t cs) (hg : w.grownBy w' row) (hne : row ≠ some g) : Blk w' g t cs := by
 rw [Blk, hg.block g h.lt (fun e => hne e.symm)]
 exact h
theorem GM.snoc {α : Type} {K : RK α} {w w' : World} {B : Nat} {e : TypeId} {A : Option Addr} {k c : Nat} {L : List α} {a : α} {r : Array Value} {A2 : Option Addr} {c2 : Nat} {R : List (Array Value)} (h1 : ZO w B e K.z A k c R) (h2 : R.length = L.length) (h3 : ∀ j (h : j < R.length) (h' : j < L.length), RM K w B R[j] L[j]) (hr : RM K w B r a) (hu : 5 ≠ e) (hs : B ≤ w.heap.size)
  (ho : ZO w' B e K.z A2 (k + 1) c2 (R ++ [r])) (hg : w.grownBy w' (own A)) : GM K w' B e A2 (k + 1) c2 (L ++ [a]) := by
 have key : ∀ {r : Array Value} {a : α}, RM K w B r a → RM K w' B r a := fun h => by
  obtain ⟨A, n, c, e1, h4⟩ := h
  refine ⟨A, n, c, e1, ?_⟩
  rcases h4 with h4 | h4
  ·exact .inl (h4.belowAt ((Below.refl B w).grown hg hs fun q hq => h1.ge hq) (Nat.le_refl _))
  ·exact .inr (h4.passed hg (h4.kindNe h1 hu))
 refine ⟨R ++ [r], ho, by simp [h2], fun j h h' => ?_⟩
 by_cases hj : j < R.length
 ·have hj' : j < L.length := by rw [← h2]; exact hj
  rw [List.getElem_append_left hj, List.getElem_append_left hj']
  exact key (h3 j hj hj')
 ·have e1 : j = R.length := by simp at h; omega
  subst e1
  have hl : L.length ≤ R.length := by rw [h2]; exact Nat.le_refl _
  rw [List.getElem_append_right (Nat.le_refl _), List.getElem_append_right hl]
  simpa using key hr
structure SJ (w W : World) (gm gr go : Nat) (mc zc oc : Array Value) (n2 : Nat) (Ab : Option Addr) (cb : Nat) (G : List (Array Value)) (A : Option Addr) (k c : Nat) (L : List Se) : Prop where
 b : Blk W gm 32 mc
 r : Blk W gr 32 zc
 o : Blk W go 32 oc
 g : ZO W w.heap.size 4 1 Ab n2 cb G
 s : GM seK W w.heap.size 53 A k c L
 gw : Grow w W
section
variable {w W W' : World} {gm gr go : Nat} {mc zc oc : Array Value} {n2 : Nat} {Ab : Option Addr} {cb : Nat} {G : List (Array Value)} {A : Option Addr} {k c : Nat} {L : List Se}
theorem SJ.grow (h : SJ w W gm gr go mc zc oc n2 Ab cb G A k c L) (hg : Grow W W') : SJ w W' gm gr go mc zc oc n2 Ab cb G A k c L :=
 ⟨h.b.grow hg, h.r.grow hg, h.o.grow hg, h.g.keep hg, h.s.keep hg h.gw.size, h.gw.trans hg⟩
theorem SJ.app (h : SJ w W gm gr go mc zc oc n2 Ab cb G A k c L) {R : List (Array Value)} (h1 : ZO W w.heap.size 53 13 A k c R) (h2 : R.length = L.length) (h3 : ∀ j (h : j < R.length) (h' : j < L.length), RM seK W w.heap.size R[j] L[j]) {r : Array Value} {a : Se} {A2 : Option Addr} {c2 : Nat} (hr : RM seK W w.heap.size r a)
  (ho : ZO W' w.heap.size 53 13 A2 (k + 1) c2 (R ++ [r])) (hg : W.grownBy W' (own A)) : SJ w W' gm gr go mc zc oc n2 Ab cb G A2 (k + 1) c2 (L ++ [a]) :=
 ⟨h.b.byRow hg (h1.away h.b (by decide)), h.r.byRow hg (h1.away h.r (by decide)), h.o.byRow hg (h1.away h.o (by decide)), h.g.past hg (h.g.kinds h1 (by decide)), GM.snoc h1 h2 h3 hr (by decide) h.gw.size ho hg,
  Below.trans h.gw ((Below.refl _ _).grown hg h.gw.size fun q hq => h1.ge hq)⟩
theorem SJ.sto (h : SJ w W gm gr go mc zc oc n2 Ab cb G A k c L) (hm : go ≠ gm) (hr : go ≠ gr) (hB : w.heap.size ≤ go) (v : Value) : SJ w (W.setCell ⟨go, 9, none⟩ v) gm gr go mc zc (oc.setIfInBounds 9 v) n2 Ab cb G A k c L := by
 have e9 := setCell_eq_setRow W go 9 _ 32 (0, 0) v h.o
 exact ⟨h.b.cellset (Ne.symm hm) _, h.r.cellset (Ne.symm hr) _, by rw [e9]; exact h.o.set _, h.g.past (grown_set' _ _ _) (.inr (h.g.away h.o (by decide))),
  h.s.past h.o (by decide) (by decide) (grown_set' _ _ _) hB h.gw.size, h.gw.cellset hB _ _⟩
end
set_option maxHeartbeats 8000000 in
theorem rStrip_any (m : Md) (ok : m.Ok) (hck : m.chk = 0) (A1 A2 : Option Addr) (n1 c1 n2 c2 : Nat) (w : World) (g2 : ZR seK w w.heap.size A2 n2 c2 m.secs) (hb2 : ∀ s ∈ m.secs, s.pl.own.length ≤ 140737488355328) (hn : n2 ≤ 65536) :
  Calls Try.prog 10 #[.agg (mdC m (.slice A1 n1 c1) (.slice A2 n2 c2))] w fun e w' => ∃ A4 c4, e = .returned (.agg (mdC m (.slice A1 n1 c1) (.slice A4 n2 c4))) ∧ ZR seK w' w'.heap.size A4 n2 c4 m.strip.secs ∧ Grow w w' := by
 have HGo := hid (fun W (hW : Grow w W) => rGoes_any m ok hck (.slice A1 n1 c1) A2 n2 c2 W (g2.grow hW) hb2 hn)
 have HZ := hid g2
 have HL := hid g2.len
 have hc := g2.cap
 have hm := g2.max
 unfold maxLen at hm
 have HX : Hid (∀ k (h : k < m.secs.length), m.left k = if m.goes k then seX else m.secs[k]) := hid fun k h => by rw [Md.left, m.sec_at h]
 have HS := hid (lefts_succ m)
 have HSn := hid (lefts_all m g2.len)
 have HS0 : Hid (m.lefts 0 = []) := hid rfl
 have HRw : Hid (∀ k (h : k < n2) (h' : k < (bRow m.goes n2).length), (bRow m.goes n2)[k] = #[Value.bool (m.goes k)]) := hid fun k h h' => by simp [bRow]
 have HRl : Hid ((bRow m.goes n2).length = n2) := hid (by simp [bRow])
 unfold mdC at HGo ⊢
 clear g2 ok hck hb2
 generalize bRow m.goes n2 = Rw at *
 generalize m.goes = Gg at *
 generalize m.lefts = Lf at *
 generalize m.left = le at *
 generalize m.strip.secs = Lx at *
 generalize m.secs = L at *
 generalize m.wide = f0 at *
 generalize m.big = f1 at *
 generalize m.osabi = f2 at *
 generalize m.abi = f3 at *
 generalize m.typ = f4 at *
 generalize m.mach = f5 at *
 generalize m.flags = f6 at *
 generalize m.entry = f7 at *
 generalize m.str = f10 at *
 go_enter Try.func10, Try.ntmps10
 go_wp2_with fail
 generalize hW : World.alloc _ _ = W0
 obtain ⟨b1, b2, b3, hg0⟩ := blk3 hW
 clear hW
 obtain ⟨gm, hgm⟩ : ∃ g, g = w.heap.size := ⟨_, rfl⟩
 rw [← hgm] at b1 b2 b3 ⊢
 have HB0 := hid b1
 have HX0 := hid b2
 have HO0 := hid b3
 have HG0 := hid hg0
 have HNe : Hid (gm + 1 + 1 ≠ gm ∧ gm + 1 + 1 ≠ gm + 1 ∧ w.heap.size ≤ gm + 1 + 1 ∧ w.heap.size ≤ gm + 1) := hid (by omega)
 clear b1 b2 b3 hg0 hgm
 generalize gm + 1 + 1 = go at HO0 HNe ⊢
 generalize gm + 1 = gr at HX0 HNe ⊢
 refine (HGo.out _ HG0.out).mono ?_
 rintro e w1 ⟨Ab, cb, rfl, hzb, hg⟩
 have HJ1 : Hid (SJ w w1 gm gr go #[.bool f0, .bool f1, .int .u8 (f2 : Nat), .int .u8 (f3 : Nat), .int .u16 (f4 : Nat), .int .u16 (f5 : Nat), .int .u32 (f6 : Nat), .int .u64 (f7 : Nat), .slice A1 n1 c1, .slice A2 n2 c2, .int .i64 f10] #[.bool false, .bool false, .int .u8 0, .int .u8 0, .int .u16 0, .int .u16 0, .int .u32 0, .int .u64 0, .slice none 0 0, .slice none 0 0, .int .i64 0] #[.bool f0, .bool f1, .int .u8 (f2 : Nat), .int .u8 (f3 : Nat), .int .u16 (f4 : Nat), .int .u16 (f5 : Nat), .int .u32 (f6 : Nat), .int .u64 (f7 : Nat), .slice A1 n1 c1, .slice none 0 0, .int .i64 f10] n2 Ab cb Rw none 0 0 (Lf 0)) := hid
  ⟨HB0.out.grow hg, HX0.out.grow hg, HO0.out.grow hg, hzb.mono HG0.out.size, by rw [HS0.out]; exact ⟨[], ZO.nil, rfl, fun j h => absurd h (by simp)⟩, HG0.out.trans hg⟩
 clear hzb hg HB0 HX0 HO0 HG0 HGo
 go_wp2_with fail
 go_loopw [5] (fun i wr => ∃ (k : Nat) (A : Option Addr) (c : Nat), k ≤ n2 ∧ i = .int .i64 k ∧ SJ w wr gm gr go #[.bool f0, .bool f1, .int .u8 (f2 : Nat), .int .u8 (f3 : Nat), .int .u16 (f4 : Nat), .int .u16 (f5 : Nat), .int .u32 (f6 : Nat), .int .u64 (f7 : Nat), .slice A1 n1 c1, .slice A2 n2 c2, .int .i64 f10] #[.bool false, .bool false, .int .u8 0, .int .u8 0, .int .u16 0, .int .u16 0, .int .u32 0, .int .u64 0, .slice none 0 0, .slice none 0 0, .int .i64 0] #[.bool f0, .bool f1, .int .u8 (f2 : Nat), .int .u8 (f3 : Nat), .int .u16 (f4 : Nat), .int .u16 (f5 : Nat), .int .u32 (f6 : Nat), .int .u64 (f7 : Nat), .slice A1 n1 c1, .slice A k c, .int .i64 f10] n2 Ab cb Rw A k c (Lf k)) (fun i _ => n2 - (intOf i).toNat)
 case atStart => exact ⟨0, none, 0, Nat.zero_le _, rfl, HJ1.out⟩
 case round =>
  obtain ⟨k, A, c, hk, rfl, hj⟩ := hrel
  have HJ2 := hid hj
  clear hj HJ1
  have y9 : wr.cell? ⟨gm, 9, none⟩ = some (.slice A2 n2 c2) := HJ2.out.b.at 9
  by_cases hlt : k < n2
  ·have hkl : k < L.length := by rw [← HL.out]; exact hlt
   obtain ⟨b, off, hAA, hb⟩ := HZ.out.pos (by omega)
   subst hAA
   have HBb := hid hb
   obtain ⟨Ak, nk, ck, -, p, gk⟩ := HZ.out.at hkl
   have HP : Hid (∀ i v, (seC L[k] (.slice Ak nk ck))[i]? = some v → w.cell? ⟨b, off + k * 13 + i, none⟩ = some v) := hid p
   have HRB : Hid (RB w w.heap.size Ak nk ck L[k].pl.own) := hid gk
   have HXk := hid (HX.out k hkl)
   have HSk := hid (HS.out k)
   have HRk := hid (fun h' => HRw.out k hlt h')
   clear p gk hb
   generalize L[k] = s at HP HRB HXk
   generalize le k = lk at HXk HSk
   clear hkl
   have w0 : (0 : Int) ≤ (k : Int) := by omega
   have w1' : (k : Int) < (n2 : Int) := by omega
   have d1 : decide ((k : Int) < (n2 : Int)) = true := decide_eq_true (by omega)
   have hzs := HJ2.out.g.zs
   obtain ⟨bb, boff, hAb, hbb, hbc⟩ := hzs.pos (by omega)
   subst hAb
   have qg : wr.cell? ⟨bb, boff + k, none⟩ = some (.bool (Gg k)) := by
    have h' : k < Rw.length := by rw [HRl.out]; exact hlt
    have := hbc k h' 0 (.bool (Gg k)) (by rw [HRk.out h']; rfl)
    simpa using this
   clear hbb hbc hzs
   obtain ⟨R, h1, h2, h3⟩ := HJ2.out.s
   have H1 := hid h1
   have H2 := hid h2
   have H3 := hid h3
   clear h1 h2 h3
   cases hG : Gg k with
   | true =>
    rw [hG] at qg
    have HE : Hid (lk = seX) := hid (by rw [HXk.out, hG]; rfl)
    have o9 : wr.cell? ⟨go, 9, none⟩ = some (.slice A k c) := HJ2.out.o.at 9
    clear hG
    go_wp2_with (at_builtin; refine wpList_appendZ _ rfl (.tmp 22) (.tmp 25) 30 rfl w.heap.size 53 (.agg #[.int .u32 0, .int .u32 0, .int .u64 0, .int .u64 0, .int .u64 0, .int .u32 0, .int .u32 0, .int .u64 0, .int .u64 0, .int .i64 0, .int .u64 0, .int .u64 0, .slice none 0 0]) 13 104 Try.underlying30 (by kernel_rfl) rfl (by omega) A k c R rfl (H1.out.keep (Grow.of_alloc _ _)) _ _ (seC seX (.slice none 0 0)) rfl (Blk.new _ _ _) rfl (by simp [seC, seX, Value.oneCell']) (by unfold maxLen; omega) (by omega) (HJ2.out.gw.trans (Grow.of_alloc _ _)).size ?_; intro A5 c5 w9 ho9 hg9 _; refine Hid.out ?_)
    have HJ9 : Hid (SJ w w9 gm gr go #[.bool f0, .bool f1, .int .u8 (f2 : Nat), .int .u8 (f3 : Nat), .int .u16 (f4 : Nat), .int .u16 (f5 : Nat), .int .u32 (f6 : Nat), .int .u64 (f7 : Nat), .slice A1 n1 c1, .slice (some ⟨b, off, none⟩) n2 c2, .int .i64 f10] #[.bool false, .bool false, .int .u8 0, .int .u8 0, .int .u16 0, .int .u16 0, .int .u32 0, .int .u64 0, .slice none 0 0, .slice none 0 0, .int .i64 0] #[.bool f0, .bool f1, .int .u8 (f2 : Nat), .int .u8 (f3 : Nat), .int .u16 (f4 : Nat), .int .u16 (f5 : Nat), .int .u32 (f6 : Nat), .int .u64 (f7 : Nat), .slice A1 n1 c1, .slice A k c, .int .i64 f10] n2 (some ⟨bb, boff, none⟩) cb Rw A5 (k + 1) c5 (Lf (k + 1))) := hid (by
     rw [HSk.out, HE.out]
     exact (HJ2.out.grow (Grow.of_alloc _ _)).app (H1.out.keep (Grow.of_alloc _ _)) H2.out (fun j h h' => (H3.out j h h').keep (Grow.of_alloc _ _) HJ2.out.gw.size) (a := seX) ⟨none, 0, 0, rfl, .inl RB.nil⟩ ho9 hg9)
    clear ho9 hg9 HJ2 H1 H2 H3 HE qg y9 o9
    have o9 : w9.cell? ⟨go, 9, none⟩ = some (.slice A k c) := HJ9.out.o.at 9
    have f9 := HJ9.out.o.soft 9
    have HJ10 := hid (HJ9.out.sto HNe.out.1 HNe.out.2.1 HNe.out.2.2.1 (.slice A5 (k + 1) c5))
    clear HJ9
    refine hid ?_
    go_wp2
    go_roundw
    case rel => exact ⟨k + 1, A5, c5, by omega, by go_num, HJ10.out⟩
    case measure => simp [intOf]; omega
   | false =>
    rw [hG] at qg
    have HE : Hid (lk = s) := hid (by rw [HXk.out, hG]; rfl)
    clear hG
    go_wp2_with fail
    clear y9 qg
    refine wp_region_last (leap_kept (fun j => j = gm ∨ j = go ∨ j < w.heap.size)) [(0, true), (1, true), (2, true), (3, true), (4, true), (5, true), (6, true), (7, false), (8, false), (9, true)] 10 (by kernel_rfl) (by kernel_rfl) (by kernel_rfl) ?_
    have HJ3 := hid (HJ2.out.grow (Grow.of_drew wr))
    have HH1 : Hid (ZO wr.drew w.heap.size 53 13 A k c R) := hid H1.out.drew
    have HH3 := hid (fun j h h' => (H3.out j h h').keep (Grow.of_drew wr) HJ2.out.gw.size)
    clear HJ2 H1 H3
    generalize wr.drew = v0 at HJ3 HH1 HH3 ⊢
    unfold seC at HP
    have q9 : ∀ W, Kept (fun j => j = gm ∨ j = go ∨ j < w.heap.size) v0 W → W.cell? ⟨gm, 9, none⟩ = some (.slice (some ⟨b, off, none⟩) n2 c2) := fun W hW => (HJ3.out.b.kept hW (.inl rfl)).at 9
    have o9 : ∀ W, Kept (fun j => j = gm ∨ j = go ∨ j < w.heap.size) v0 W → W.cell? ⟨go, 9, none⟩ = some (.slice A k c) := fun W hW => (HJ3.out.o.kept hW (.inr (.inl rfl))).at 9
    have HKc : Hid (∀ W i, Kept (fun j => j = gm ∨ j = go ∨ j < w.heap.size) v0 W → W.cell? ⟨b, i, none⟩ = w.cell? ⟨b, i, none⟩) := hid fun W i hW => by
     have e1 : v0.cell? ⟨b, i, none⟩ = w.cell? ⟨b, i, none⟩ := Below.cell HJ3.out.gw HBb.out
     rw [← e1]
     unfold World.cell?
     rw [hW.2 b (Nat.lt_of_lt_of_le HBb.out HJ3.out.gw.size) (.inr (.inr HBb.out))]
    have p0 : ∀ W, Kept (fun j => j = gm ∨ j = go ∨ j < w.heap.size) v0 W → W.cell? ⟨b, off + k * 13, none⟩ = some (.int .u32 (s.name : Nat)) := fun W hW => (HKc.out W _ hW).trans (HP.out 0 _ rfl)
    have p1 : ∀ W, Kept (fun j => j = gm ∨ j = go ∨ j < w.heap.size) v0 W → W.cell? ⟨b, off + k * 13 + 1, none⟩ = some (.int .u32 (s.typ : Nat)) := fun W hW => (HKc.out W _ hW).trans (HP.out 1 _ rfl)
    have p2 : ∀ W, Kept (fun j => j = gm ∨ j = go ∨ j < w.heap.size) v0 W → W.cell? ⟨b, off + k * 13 + 2, none⟩ = some (.int .u64 (s.flags : Nat)) := fun W hW => (HKc.out W _ hW).trans (HP.out 2 _ rfl)
    have p3 : ∀ W, Kept (fun j => j = gm ∨ j = go ∨ j < w.heap.size) v0 W → W.cell? ⟨b, off + k * 13 + 3, none⟩ = some (.int .u64 (s.addr : Nat)) := fun W hW => (HKc.out W _ hW).trans (HP.out 3 _ rfl)
    have p4 : ∀ W, Kept (fun j => j = gm ∨ j = go ∨ j < w.heap.size) v0 W → W.cell? ⟨b, off + k * 13 + 4, none⟩ = some (.int .u64 (s.size : Nat)) := fun W hW => (HKc.out W _ hW).trans (HP.out 4 _ rfl)
    have p5 : ∀ W, Kept (fun j => j = gm ∨ j = go ∨ j < w.heap.size) v0 W → W.cell? ⟨b, off + k * 13 + 5, none⟩ = some (.int .u32 (s.link : Nat)) := fun W hW => (HKc.out W _ hW).trans (HP.out 5 _ rfl)
    have p6 : ∀ W, Kept (fun j => j = gm ∨ j = go ∨ j < w.heap.size) v0 W → W.cell? ⟨b, off + k * 13 + 6, none⟩ = some (.int .u32 (s.info : Nat)) := fun W hW => (HKc.out W _ hW).trans (HP.out 6 _ rfl)
    have p7 : ∀ W, Kept (fun j => j = gm ∨ j = go ∨ j < w.heap.size) v0 W → W.cell? ⟨b, off + k * 13 + 7, none⟩ = some (.int .u64 (s.align : Nat)) := fun W hW => (HKc.out W _ hW).trans (HP.out 7 _ rfl)
    have p8 : ∀ W, Kept (fun j => j = gm ∨ j = go ∨ j < w.heap.size) v0 W → W.cell? ⟨b, off + k * 13 + 8, none⟩ = some (.int .u64 (s.entsize : Nat)) := fun W hW => (HKc.out W _ hW).trans (HP.out 8 _ rfl)
    have p9 : ∀ W, Kept (fun j => j = gm ∨ j = go ∨ j < w.heap.size) v0 W → W.cell? ⟨b, off + k * 13 + 9, none⟩ = some (.int .i64 s.pl.inn) := fun W hW => (HKc.out W _ hW).trans (HP.out 9 _ rfl)
    have p10 : ∀ W, Kept (fun j => j = gm ∨ j = go ∨ j < w.heap.size) v0 W → W.cell? ⟨b, off + k * 13 + 10, none⟩ = some (.int .u64 (s.pl.off : Nat)) := fun W hW => (HKc.out W _ hW).trans (HP.out 10 _ rfl)
    have p11 : ∀ W, Kept (fun j => j = gm ∨ j = go ∨ j < w.heap.size) v0 W → W.cell? ⟨b, off + k * 13 + 11, none⟩ = some (.int .u64 (s.pl.size : Nat)) := fun W hW => (HKc.out W _ hW).trans (HP.out 11 _ rfl)
    have p12 : ∀ W, Kept (fun j => j = gm ∨ j = go ∨ j < w.heap.size) v0 W → W.cell? ⟨b, off + k * 13 + 12, none⟩ = some (.slice Ak nk ck) := fun W hW => (HKc.out W _ hW).trans (HP.out 12 _ rfl)
    repeat ((first | (refine chain_take rfl (by rfl) ?_ (fun W hG => ?_) ?_; rotate_left; (go_simp; rfl)) | refine chain_skip rfl (by rfl) ?_); simp only [Act.put, List.setIfInBounds_toArray, List.set_cons_zero, List.set_cons_succ])
    clear q9 o9 p0 p1 p2 p3 p4 p5 p6 p7 p8 p9 p10 p11 p12
    refine chain_only rfl (by rfl) (fun K hK => ?_)
    go_simp
    refine hK _ _ (Kept.of_grow (Grow.of_alloc _ _)) ?_
    clear hK K
    generalize hW : World.alloc _ _ = v1
    obtain ⟨bn, hg⟩ := blk1 hW
    clear hW
    have HN1 := hid bn
    have HJ4 := hid (HJ3.out.grow hg)
    have HH4 := hid (HH1.out.keep hg)
    have HH5 := hid (fun j h h' => (HH3.out j h h').keep hg HJ3.out.gw.size)
    have HRB4 := hid (HRB.out.belowAt HJ4.out.gw (Nat.le_refl _))
    clear bn hg HJ3 HH1 HH3 HRB
    refine chain_only rfl (by rfl) (fun K hK => ?_)
    refine wp_appendZ _ (.tmp 29) (.tmp 35) 30 rfl w.heap.size 53 (.agg #[.int .u32 0, .int .u32 0, .int .u64 0, .int .u64 0, .int .u64 0, .int .u32 0, .int .u32 0, .int .u64 0, .int .u64 0, .int .i64 0, .int .u64 0, .int .u64 0, .slice none 0 0]) 13 104 Try.underlying30 (by kernel_rfl) rfl (by omega) A k c R rfl HH4.out _ _ (seC s (.slice Ak nk ck)) rfl HN1.out rfl (by simp [seC, Value.oneCell']) (by unfold maxLen; omega) (by omega) HJ4.out.gw.size ?_
    intro A5 c5 w9 ho9 hg9 _
    refine hK _ _ ⟨hg9.size, fun i hi hs => hg9.block i hi (fun e => by
     have h1 := HH4.out.away HJ4.out.b (by decide)
     have h2 := HH4.out.away HJ4.out.o (by decide)
     rcases hs with h | h | h
     ·rw [← h] at h1; exact h1 e.symm
     ·rw [← h] at h2; exact h2 e.symm
     ·have := HH4.out.ge e.symm; omega)⟩ ?_
    clear hK K
    have HJ9 : Hid (SJ w w9 gm gr go #[.bool f0, .bool f1, .int .u8 (f2 : Nat), .int .u8 (f3 : Nat), .int .u16 (f4 : Nat), .int .u16 (f5 : Nat), .int .u32 (f6 : Nat), .int .u64 (f7 : Nat), .slice A1 n1 c1, .slice (some ⟨b, off, none⟩) n2 c2, .int .i64 f10] #[.bool false, .bool false, .int .u8 0, .int .u8 0, .int .u16 0, .int .u16 0, .int .u32 0, .int .u64 0, .slice none 0 0, .slice none 0 0, .int .i64 0] #[.bool f0, .bool f1, .int .u8 (f2 : Nat), .int .u8 (f3 : Nat), .int .u16 (f4 : Nat), .int .u16 (f5 : Nat), .int .u32 (f6 : Nat), .int .u64 (f7 : Nat), .slice A1 n1 c1, .slice A k c, .int .i64 f10] n2 (some ⟨bb, boff, none⟩) cb Rw A5 (k + 1) c5 (Lf (k + 1))) := hid (by
     rw [HSk.out, HE.out]
     exact HJ4.out.app HH4.out H2.out HH5.out (a := s) ⟨Ak, nk, ck, rfl, .inl HRB4.out⟩ ho9 hg9)
    clear ho9 hg9 HJ4 HH4 HH5 HN1 HRB4 H2 HE
    repeat ((first | (refine chain_take rfl (by rfl) ?_ (fun W hG => ?_) ?_; rotate_left; (go_simp; rfl)) | refine chain_skip rfl (by rfl) ?_); simp only [Act.put, List.setIfInBounds_toArray, List.set_cons_zero, List.set_cons_succ])
    refine chain_done (last_op rfl (by rfl) (fun K hK => ?_))
    have o9 : w9.cell? ⟨go, 9, none⟩ = some (.slice A k c) := HJ9.out.o.at 9
    have f9 := HJ9.out.o.soft 9
    go_simp
    refine hK _ _ ?_
    clear hK K o9 f9
    have HJ10 := hid (HJ9.out.sto HNe.out.1 HNe.out.2.1 HNe.out.2.2.1 (.slice A5 (k + 1) c5))
    clear HJ9
    go_wp2
    go_roundw
    case rel => exact ⟨k + 1, A5, c5, by omega, by go_num, HJ10.out⟩
    case measure => simp [intOf]; omega
  ·have e : k = n2 := by omega
   subst e
   have d1 : decide ((k : Int) < (k : Int)) = false := decide_eq_false (by omega)
   obtain ⟨m0, m1, m2, m3, m4, m5, m6, m7, m8, m9, m10⟩ := HJ2.out.o.c11
   go_wp2_with (refine wpList_store_row rfl 32 (.tmp 2) (.tmp 38) rfl gr _ rfl rfl _ _ HJ2.out.r (by kernel_rfl) rfl (by simp [Value.oneCell']) ?_)
   clear m0 m1 m2 m3 m4 m5 m6 m7 m8 m9 m10 y9
   refine bodyPost_ret (results_cell_row rfl _ _ gr _ _ (0, 0) _ rfl (HJ2.out.r.set _) Try.underlying32 rfl (by kernel_rfl)) rfl ?_
   have hgr : ∀ cs, wr.grownBy (wr.setRow gr cs) (some gr) := fun cs => ⟨rfl, rfl, rfl, by simp, fun j _ hj => setRow_other wr gr j cs (fun e => hj (by rw [e]))⟩
   have hs : ∀ cs, w.heap.size ≤ (wr.setRow gr cs).heap.size := fun cs => by simpa using HJ2.out.gw.size
   refine ⟨A, c, rfl, ?_, HJ2.out.gw.set HNe.out.2.2.2 _⟩
   rw [← HSn.out]
   exact (HJ2.out.s.past HJ2.out.r (by decide) (by decide) (hgr _) HNe.out.2.2.2 HJ2.out.gw.size).zr (hs _)
def Md.sum (m : Md) : Nat := (m.segs.map fun s => s.pl.own.length).sum + (m.secs.map fun s => s.pl.own.length).sum
def Md.few (m : Md) : Nat := if 20 < m.segs.length then 0 else if 70 < m.secs.length then 0 else if 100000 < m.sum then 0 else 1
theorem sum_snoc {α : Type} (f : α → Nat) (l : List α) (k : Nat) (h : k < l.length) : ((l.take (k + 1)).map f).sum = ((l.take k).map f).sum + f l[k] := by
 rw [takeS l k h, List.map_append, List.sum_append]
 simp
theorem sum_le {α : Type} (f : α → Nat) (b : Nat) : ∀ (l : List α), (∀ a ∈ l, f a ≤ b) → (l.map f).sum ≤ l.length * b
 | [], _ => by simp
 | a :: r, h => by
  have := sum_le f b r fun x hx => h x (List.mem_cons_of_mem _ hx)
  have := h a (by simp)
  simp only [List.map_cons, List.sum_cons, List.length_cons, Nat.succ_mul]
  omega
theorem sum_take_le {α : Type} (f : α → Nat) (l : List α) (k : Nat) : ((l.take k).map f).sum ≤ (l.map f).sum := by
 have : (l.map f).sum = ((l.take k).map f).sum + ((l.drop k).map f).sum := by
  rw [← List.sum_append, ← List.map_append, List.take_append_drop]
 omega
set_option maxHeartbeats 1000000 in
theorem few_any (m : Md) (A1 A2 : Option Addr) (n1 c1 n2 c2 : Nat) (w : World) (g1 : ZR sgK w w.heap.size A1 n1 c1 m.segs) (g2 : ZR seK w w.heap.size A2 n2 c2 m.secs) (hsm0 : n1 ≤ 20 → n2 ≤ 70 → m.sum ≤ 4000000000000000000) :
  Calls Try.prog 6 #[.agg (mdC m (.slice A1 n1 c1) (.slice A2 n2 c2))] w fun e w' => e = .returned (.int .i64 (m.few : Nat)) ∧ Grow w w' := by
 obtain ⟨x0, x1, x2, x3, x4, x5, x6, x7, x10, hC⟩ : ∃ x0 x1 x2 x3 x4 x5 x6 x7 x10 : Value, mdC m (.slice A1 n1 c1) (.slice A2 n2 c2) = #[x0, x1, x2, x3, x4, x5, x6, x7, .slice A1 n1 c1, .slice A2 n2 c2, x10] := ⟨_, _, _, _, _, _, _, _, _, rfl⟩
 rw [hC]
 have hm1 := g1.max
 have hc1 := g1.cap
 have hm2 := g2.max
 have hc2 := g2.cap
 have HZ1 := hid g1
 have HZ2 := hid g2
 have HL1 := hid g1.len
 have HL2 := hid g2.len
 have E := hid (show m.few = if 20 < n1 then 0 else if 70 < n2 then 0 else if 100000 < m.sum then 0 else 1 by rw [g1.len, g2.len]; rfl)
 have ES : Hid (m.sum = (m.segs.map fun s => s.pl.own.length).sum + (m.secs.map fun s => s.pl.own.length).sum) := hid rfl
 generalize m.few = R at E ⊢
 generalize m.sum = S at E ES hsm0
 generalize m.segs = L1 at HZ1 HL1 ES
 generalize m.secs = L2 at HZ2 HL2 ES
 have HA : Hid (∀ k, ((L1.take k).map fun s => s.pl.own.length).sum ≤ S) := hid fun k => by
  have := sum_take_le (fun s : Sg => s.pl.own.length) L1 k
  have := ES.out
  omega
 have HB : Hid (∀ k, (L1.map fun s => s.pl.own.length).sum + ((L2.take k).map fun s => s.pl.own.length).sum ≤ S) := hid fun k => by
  have := sum_take_le (fun s : Se => s.pl.own.length) L2 k
  have := ES.out
  omega
 clear hC g1 g2
 unfold maxLen at hm1 hm2
 by_cases h1 : 20 < n1
 ·have E2 := hid (show R = 0 by rw [E.out, if_pos h1])
  go_enter Try.func6, Try.ntmps6
  go_wp2
  go_ret
  exact ⟨by rw [E2.out]; rfl, Grow.of_alloc _ _⟩
 rw [if_neg h1] at E
 have d1 : decide (20 < n1) = false := decide_eq_false h1
 have d1' : decide ((20 : Int) < (n1 : Int)) = false := decide_eq_false (by omega)
 by_cases h2 : 70 < n2
 ·have E2 := hid (show R = 0 by rw [E.out, if_pos h2])
  clear h1
  go_enter Try.func6, Try.ntmps6
  go_wp2
  go_ret
  exact ⟨by rw [E2.out]; rfl, Grow.of_alloc _ _⟩
 rw [if_neg h2] at E
 have d2 : decide (70 < n2) = false := decide_eq_false h2
 have d2' : decide ((70 : Int) < (n2 : Int)) = false := decide_eq_false (by omega)
 have HH : Hid (n1 ≤ 20 ∧ n2 ≤ 70) := hid ⟨by omega, by omega⟩
 have hsm := hsm0 (by omega) (by omega)
 clear h1 h2 hsm0
 go_enter Try.func6, Try.ntmps6
 go_wp2_with fail
 clear d1 d1' d2 d2'
 generalize hW : World.alloc _ _ = W0
 obtain ⟨b1, hg0⟩ := blk1 hW
 clear hW
 have HB1 := hid b1
 have HG0 := hid hg0
 have y8 := b1.at 8
 clear b1 hg0
 go_loop [3, 4] (fun x i => ∃ (k : Nat) (t : Nat), k ≤ n1 ∧ i = .int .i64 k ∧ x = .int .i64 (t : Nat) ∧ Hid (t = ((L1.take k).map fun s => s.pl.own.length).sum)) (fun _ i => n1 - (intOf i).toNat)
 case atStart => exact ⟨0, 0, by omega, rfl, rfl, hid (by simp)⟩
 case round =>
  obtain ⟨k, t, hk, rfl, rfl, HT⟩ := hrel
  by_cases hlt : k < n1
  ·have hkl : k < L1.length := by rw [← HL1.out]; exact hlt
   obtain ⟨b, off, rfl, hb⟩ := HZ1.out.pos (by omega)
   obtain ⟨Ak, nk, ck, -, hcell, gk⟩ := HZ1.out.at hkl
   have t9 : W0.cell? ⟨b, off + k * 10 + 9, none⟩ = some (.slice Ak nk ck) := (Below.cell HG0.out hb).trans (hcell 9 _ rfl)
   have HS := hid (sum_snoc (fun s : Sg => s.pl.own.length) L1 k hkl)
   have hnk : L1[k].pl.own.length = nk := gk.len.symm
   have hle := HA.out (k + 1)
   rw [HS.out, ← HT.out] at hle
   simp only [hnk] at HS hle
   rw [← HT.out] at HS
   clear hcell gk hb hnk
   have z : IntKind.i64.wrap ((t : Int) + (nk : Int)) = ((t + nk : Nat) : Int) := by rw [IntKind.wrap_i64]; omega
   go_wp2
   go_round
   case rel => exact ⟨k + 1, t + nk, by omega, by go_num, by first | rfl | simp, hid HS.out.symm⟩
   case measure => simp [intOf]; omega
  ·obtain rfl : n1 = k := by omega
   have HT1 : Hid (t = (L1.map fun s => s.pl.own.length).sum) := by
    have : L1.take n1 = L1 := by rw [List.take_of_length_le (by have := HL1.out; omega)]
    have h := HT.out
    rw [this] at h
    exact h
   have y9 := HB1.out.at 9
   clear HT
   go_wp2_with fail
   clear y8
   go_loop [3, 5] (fun x i => ∃ (k : Nat) (t' : Nat), k ≤ n2 ∧ i = .int .i64 k ∧ x = .int .i64 (t' : Nat) ∧ Hid (t' = t + ((L2.take k).map fun s => s.pl.own.length).sum)) (fun _ i => n2 - (intOf i).toNat)
   case atStart => exact ⟨0, t, by omega, rfl, rfl, hid (by simp)⟩
   case round =>
    obtain ⟨k, t', hk, rfl, rfl, HT⟩ := hrel
    by_cases hlt : k < n2
    ·have hkl : k < L2.length := by rw [← HL2.out]; exact hlt
     obtain ⟨b, off, rfl, hb⟩ := HZ2.out.pos (by omega)
     obtain ⟨Ak, nk, ck, -, hcell, gk⟩ := HZ2.out.at hkl
     have t9 : W0.cell? ⟨b, off + k * 13 + 12, none⟩ = some (.slice Ak nk ck) := (Below.cell HG0.out hb).trans (hcell 12 _ rfl)
     have HS := hid (sum_snoc (fun s : Se => s.pl.own.length) L2 k hkl)
     have hnk : L2[k].pl.own.length = nk := gk.len.symm
     have hle := HB.out (k + 1)
     rw [HS.out, ← HT1.out, ← Nat.add_assoc, ← HT.out] at hle
     simp only [hnk] at HS hle
     have HS2 : Hid (t' + nk = t + ((L2.take (k + 1)).map fun s => s.pl.own.length).sum) := hid (by rw [HS.out, ← Nat.add_assoc, ← HT.out])
     clear hcell gk hb hnk HS
     have z : IntKind.i64.wrap ((t' : Int) + (nk : Int)) = ((t' + nk : Nat) : Int) := by rw [IntKind.wrap_i64]; omega
     go_wp2
     go_round
     case rel => exact ⟨k + 1, t' + nk, by omega, by go_num, by first | rfl | simp, HS2⟩
     case measure => simp [intOf]; omega
    ·obtain rfl : n2 = k := by omega
     have HS : Hid (t' = S) := by
      have : L2.take n2 = L2 := by rw [List.take_of_length_le (by have := HL2.out; omega)]
      have h := HT.out
      rw [this, HT1.out, ← ES.out] at h
      exact h
     by_cases hb : 100000 < t'
     ·have E2 := hid (show R = 0 by rw [E.out, ← HS.out, if_pos hb])
      have d : decide (100000 < t') = true := decide_eq_true hb
      have d' : decide ((100000 : Int) < (t' : Int)) = true := decide_eq_true (by omega)
      clear hb
      go_wp2
      go_ret
      exact ⟨by rw [E2.out]; rfl, HG0.out⟩
     ·have E2 := hid (show R = 1 by rw [E.out, ← HS.out, if_neg hb])
      have d : decide (100000 < t') = false := decide_eq_false hb
      have d' : decide ((100000 : Int) < (t' : Int)) = false := decide_eq_false (by omega)
      clear hb
      go_wp2
      go_ret
      exact ⟨by rw [E2.out]; rfl, HG0.out⟩
theorem sum_small {m : Md} {n1 n2 : Nat} (l1 : n1 = m.segs.length) (l2 : n2 = m.secs.length) (hs1 : ∀ s ∈ m.segs, s.pl.own.length ≤ reachBytes) (hs2 : ∀ s ∈ m.secs, s.pl.own.length ≤ reachBytes) :
  n1 ≤ 20 → n2 ≤ 70 → m.sum ≤ 4000000000000000000 := fun h1 h2 => by
 have q1 := sum_le (fun s : Sg => s.pl.own.length) reachBytes m.segs hs1
 have q2 := sum_le (fun s : Se => s.pl.own.length) reachBytes m.secs hs2
 have e1 : m.segs.length * reachBytes ≤ 20 * reachBytes := Nat.mul_le_mul_right _ (by omega)
 have e2 : m.secs.length * reachBytes ≤ 70 * reachBytes := Nat.mul_le_mul_right _ (by omega)
 unfold Md.sum
 unfold reachBytes at q1 q2 e1 e2
 omega
set_option maxRecDepth 100000
set_option linter.unusedVariables false
structure BR (w : World) (A : Option Addr) (n c : Nat) (f : Nat → Bool) : Prop where
 cap : n ≤ c
 max : c ≤ maxLen
 pos : 0 < n → ∃ b off, A = some ⟨b, off, none⟩ ∧ b < w.heap.size ∧ ∀ i, i < n → w.cell? ⟨b, off + i, none⟩ = some (.bool (f i))
theorem BR.grow {w w' : World} {A : Option Addr} {n c : Nat} {f : Nat → Bool} (h : BR w A n c f) (hg : Grow w w') : BR w' A n c f := ⟨h.cap, h.max, fun hn => by
 obtain ⟨b, off, e, hb, hc⟩ := h.pos hn
 exact ⟨b, off, e, Nat.lt_of_lt_of_le hb hg.size, fun i hi => (Below.cell hg hb).trans (hc i hi)⟩⟩
theorem BR.of_row {w : World} {g n : Nat} {f : Nat → Bool} (h : w.rowIs g 4 n (bvl f)) (hn : n ≤ maxLen) : BR w (some ⟨g, 0, none⟩) n n f :=
 ⟨Nat.le_refl _, hn, fun _ => ⟨g, 0, rfl, h.lt, fun i hi => by rw [Nat.zero_add]; exact h.cell hi⟩⟩
theorem BR.of_rows {w : World} {base n c : Nat} {A : Option Addr} {f : Nat → Bool} (h : ZO w base 4 1 A n c (bRow f n)) : BR w A n c f := by
 have hz := h.zs
 refine ⟨hz.cap, hz.max, fun hn => ?_⟩
 obtain ⟨b, off, e, hb, hc⟩ := hz.pos hn
 refine ⟨b, off, e, hb, fun i hi => ?_⟩
 have h' : i < (bRow f n).length := by simpa [bRow] using hi
 have := hc i h' 0 (.bool (f i)) (by simp [bRow])
 simpa using this
set_option maxHeartbeats 1000000 in
theorem bools_any (A A' : Option Addr) (n c c' : Nat) (f : Nat → Bool) (w : World) (h : BR w A n c f) (h' : BR w A' n c' f) :
  Calls Try.prog 11 #[.slice A n c, .slice A' n c'] w fun e w' => e = .returned (.int .i64 1) ∧ Grow w w' := by
 have hc := h.cap
 have hm := h.max
 have hc' := h'.cap
 have hm' := h'.max
 unfold maxLen at hm hm'
 have H := hid h
 have H' := hid h'
 clear h h'
 have dn : ((n : Int) != (n : Int)) = false := by simp
 go_enter Try.func11, Try.ntmps11
 go_wp2_with fail
 go_loopw [5] (fun i wr => ∃ k : Nat, k ≤ n ∧ i = .int .i64 k ∧ Grow w wr) (fun i _ => n - (intOf i).toNat)
 case atStart => exact ⟨0, Nat.zero_le _, rfl, Grow.refl _⟩
 case round =>
  obtain ⟨k, hk, rfl, hg⟩ := hrel
  have HG := hid hg
  clear hg
  by_cases hlt : k < n
  ·obtain ⟨b, off, hA, hb, hcell⟩ := H.out.pos (by omega)
   obtain ⟨b', off', hA', hb', hcell'⟩ := H'.out.pos (by omega)
   subst hA
   subst hA'
   have HC := hid (hcell k hlt)
   have HC' := hid (hcell' k hlt)
   have HB := hid hb
   have HB' := hid hb'
   clear hcell hcell' hb hb'
   generalize f k = v at HC HC'
   have w0 : (0 : Int) ≤ (k : Int) := by omega
   have w1 : (k : Int) < (n : Int) := by omega
   have d1 : decide ((k : Int) < (n : Int)) = true := decide_eq_true (by omega)
   go_wp2_with fail
   refine wp_region_chain [(0, true), (1, true), (2, true), (3, true), (4, true), (5, true), (6, true), (7, true), (8, true)] (by kernel_rfl) (by kernel_rfl) (by kernel_rfl) ?_
   have HD : Hid (Grow w wr.drew) := hid (HG.out.trans (Grow.of_drew _))
   generalize wr.drew = v0 at HD ⊢
   have q1 : ∀ W, Grow v0 W → W.cell? ⟨b, off + k, none⟩ = some (.bool v) := fun W hW => (Below.cell (HD.out.trans hW) HB.out).trans HC.out
   have q2 : ∀ W, Grow v0 W → W.cell? ⟨b', off' + k, none⟩ = some (.bool v) := fun W hW => (Below.cell (HD.out.trans hW) HB'.out).trans HC'.out
   repeat ((first | (refine chain_take rfl (by rfl) ?_ (fun W hG => ?_) ?_; rotate_left; (go_simp; rfl)) | refine chain_skip rfl (by rfl) ?_); simp only [Act.put, List.setIfInBounds_toArray, List.set_cons_zero, List.set_cons_succ])
   refine chain_done ?_
   clear q1 q2
   go_wp2
   go_roundw
   case rel => exact ⟨k + 1, by omega, by go_num, HD.out⟩
   case measure => simp [intOf]; omega
  ·have d1 : decide ((k : Int) < (n : Int)) = false := decide_eq_false (by omega)
   go_wp2
   go_ret
   exact ⟨rfl, HG.out⟩
theorem strs_le {m : Md} {b : Nat} (h1 : ∀ s ∈ m.segs, s.pl.own.length ≤ b) (h2 : ∀ s ∈ m.secs, s.pl.own.length ≤ b) : m.strs.length ≤ b := by
 unfold Md.strs
 split
 ·exact Nat.zero_le _
 ·rename_i h0
  have h0 : m.noStr = false := by simpa using h0
  unfold Md.noStr at h0
  simp only [Bool.or_eq_false_iff, decide_eq_false_iff_not] at h0
  have hi : (m.str - 1).toNat < m.secs.length := by omega
  have h3 : m.tab = m.secs[(m.str - 1).toNat] := m.sec_at hi
  rw [h3]
  unfold Md.bytes
  split
  ·exact h2 _ (List.getElem_mem hi)
  ·split
   ·rename_i h4
    simp only [Bool.and_eq_true] at h4
    obtain ⟨k, hk, hkl⟩ := isSegN_true h4.1
    rw [hk, m.seg_nat k hkl]
    have := h1 _ (List.getElem_mem hkl)
    rw [List.length_take, List.length_drop]
    omega
   ·exact Nat.zero_le _
theorem chk_few {m : Md} (h : m.chk = 0) : m.segs.length ≤ 16 ∧ m.secs.length ≤ 64 := by
 have := (Md.chk_iff.1 h).1
 unfold Md.large at this
 simp only [Bool.or_eq_false_iff, decide_eq_false_iff_not] at this
 omega
theorem refWithin_any (a n s : Int) (w : World) (ha : 0 ≤ a) (hn : 0 ≤ n) (hs : s ≤ 18446744073709551615) :
  Calls Try.prog 44 #[.int .u64 a, .int .u64 n, .int .u64 s] w fun e w' => e = .returned (.bool (wthn a n s)) ∧ w = w' := by
 by_cases h1 : a ≤ s
 ·have hd : 0 ≤ s - a := by omega
  by_cases h2 : n ≤ s - a
  ·have E := hid (show wthn a n s = true from decide_eq_true (by omega))
   go_enter Try.func44, Try.ntmps44
   go_wp2
   go_ret
   exact ⟨ret_bool E.out.symm, rfl⟩
  ·have E := hid (show wthn a n s = false from decide_eq_false (by omega))
   have h2' : decide (n ≤ s - a) = false := decide_eq_false h2
   go_enter Try.func44, Try.ntmps44
   go_wp2
   go_ret
   exact ⟨ret_bool E.out.symm, rfl⟩
 ·have E := hid (show wthn a n s = false from decide_eq_false (by omega))
  have h1' : decide (a ≤ s) = false := decide_eq_false h1
  go_enter Try.func44, Try.ntmps44
  go_wp2
  go_ret
  exact ⟨ret_bool E.out.symm, rfl⟩
end Go.Proofs.Ytfbimboemahhhaa
