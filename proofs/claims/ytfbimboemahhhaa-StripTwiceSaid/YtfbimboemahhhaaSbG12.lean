/-
  Several texts in one: What of an image's making stays; The contract of image; The contract of the document's own SameImage at two readings of one image; The contract of model.
-/
import Derived.Test.YtfbimboemahhhaaSbG11
import Derived.Test.YtfbimboemahhhaaSbG10
import Derived.Test.YtfbimboemahhhaaSbG6
import Derived.WalkKit
import Derived.BigQuiet
import Derived.Deep.QuietTactic
import Derived.Lib.Hide
import Derived.Laws.MakeOwn
import Derived.Test.YtfbimboemahhhaaSbG4
import Derived.Test.YtfbimboemahhhaaSbG3
import Derived.Test.YtfbimboemahhhaaSbG1
import Derived.Test.YtfbimboemahhhaaSbG8
namespace Go.Proofs.Ytfbimboemahhhaa
open Go.Lib (hid)
open Go.RowKit
set_option linter.unusedVariables false
structure IB (w W : World) (g2 g3 : Nat) (en : Nat) (S : Value) : Prop where
 z : Blk W g2 47 #[.int .u64 0, .slice none 0 0]
 x : Blk W g3 47 #[.int .u64 (en : Nat), S]
 g : Grow w W
structure IBA (w : World) (g2 g3 base : Nat) : Prop where
 b : base = g3 + 1
 a2 : g2 < g3
 w2 : w.heap.size ≤ g2
section
variable {w W W' : World} {g2 g3 base en : Nat} {S : Value}
theorem IB.grow (h : IB w W g2 g3 en S) (hg : Grow W W') : IB w W' g2 g3 en S := ⟨h.z.grow hg, h.x.grow hg, h.g.trans hg⟩
theorem IB.by_ (h : IB w W g2 g3 en S) (a : IBA w g2 g3 base) {row : Option Nat} (hg : W.grownBy W' row) (hr : ∀ k, row = some k → base ≤ k) : IB w W' g2 g3 en S :=
 have key : ∀ g, g < base → some g ≠ row := fun g hl e => by have := hr g e.symm; omega
 ⟨h.z.grownBy hg (key _ (by have := a.b; have := a.a2; omega)), h.x.grownBy hg (key _ (by have := a.b; omega)), h.g.trans' ((Below.refl _ W).grown hg h.g.size fun k hk => by have := hr k hk; have := a.b; have := a.a2; have := a.w2; omega)⟩
theorem IB.set (h : IB w W g2 g3 en S) (a : IBA w g2 g3 base) (S' : Value) : IB w (W.setRow g3 #[.int .u64 (en : Nat), S']) g2 g3 en S' :=
 ⟨h.z.other (by have := a.a2; omega) _, h.x.set _, h.g.set (by have := a.a2; have := a.w2; omega) _⟩
theorem IB.base_le (h : IB w W g2 g3 en S) (a : IBA w g2 g3 base) : base ≤ W.heap.size := by have := h.x.lt; have := a.b; omega
theorem ZO.under {e : TypeId} {z : Nat} {A : Option Addr} {n c : Nat} {l : List (Array Value)} (h : ZO W base e z A n c l) {g : Nat} (hg : own A = some g) : g < W.heap.size := by
 rcases h.1.2 with ⟨hv, _⟩ | ⟨g', cap, cur, hv, _, hh, _⟩
 ·injection hv with e1 _ _; subst e1; cases hg
 ·injection hv with e1 _ _; subst e1
  have e3 : g' = g := Option.some.inj hg
  subst e3
  rcases Nat.lt_or_ge g' W.heap.size with h | h
  ·exact h
  ·rw [Array.getElem?_eq_none h] at hh; cases hh
theorem IB.apart {e : TypeId} {z : Nat} {A : Option Addr} {n c g5 : Nat} {l : List (Array Value)} (a : IBA w g2 g3 base) (h : ZO W base e z A n c l) (h5 : W.heap.size ≤ g5) : ∀ k, own A = some k → ¬ (k = g3 ∨ k = g5) := fun k hk => by
 have := h.ge hk
 have := h.under hk
 have := a.b
 omega
end
def ImgR (en : Nat) (L : List Rg) (w : World) (e : Ending) (w' : World) : Prop :=
 ∃ A c, e = .returned (.agg (imC en (.slice A L.length c))) ∧ GR rgK w' w.heap.size 70 A L.length c L ∧ Grow w w'
set_option maxRecDepth 100000
set_option linter.unusedVariables false
set_option maxHeartbeats 8000000 in
theorem imModel_any (m : Md) (A1 : Option Addr) (n1 c1 : Nat) (S2 : Value) (w : World) (h : ZR sgK w w.heap.size A1 n1 c1 m.segs) (hsm : ∀ s ∈ m.segs, s.pl.own.length ≤ 140737488355328) (hn : n1 ≤ 65536) :
  Calls Try.prog 16 #[.agg (mdC m (.slice A1 n1 c1) S2)] w (ImgR m.entry m.img w) := by
 have H1 := hid h
 have HLn := hid h.len
 have hc := h.cap
 have hm := h.max
 unfold maxLen at hm
 have HSm := hid hsm
 have HSu := hid (fun k (hk : k < m.segs.length) => sgImg_succ hk)
 have HLe := hid (fun k => sgImg_le (l := m.segs) (k := k))
 have HE : Hid (sgImg (m.segs.take n1) = m.img) := hid (by rw [h.len, List.take_length]; rfl)
 have H0 : Hid (sgImg (m.segs.take 0) = []) := hid rfl
 have HN := hid hn
 unfold ImgR
 unfold mdC
 clear h hsm hn
 generalize m.img = IM at HE ⊢
 generalize m.segs = L1 at *
 generalize m.wide = f0
 generalize m.big = f1
 generalize m.osabi = f2
 generalize m.abi = f3
 generalize m.typ = f4
 generalize m.mach = f5
 generalize m.flags = f6
 generalize m.entry = f7
 generalize m.str = f10
 unfold imC
 go_enter Try.func16, Try.ntmps16
 go_wp2_with fail
 generalize hW : World.alloc _ _ = W0
 obtain ⟨b1, b2, b3, hg0⟩ := blk3 hW
 clear hW b1
 have HA : Hid (IBA w (w.heap.size + 1) (w.heap.size + 1 + 1) (w.heap.size + 1 + 1 + 1)) := hid ⟨rfl, by omega, by omega⟩
 have HM : Hid (IB w W0 (w.heap.size + 1) (w.heap.size + 1 + 1) f7 (.slice none 0 0)) := hid ⟨b2, b3, hg0⟩
 clear b2 b3 hg0
 generalize w.heap.size + 1 + 1 + 1 = base at HA
 generalize w.heap.size + 1 + 1 = g3 at HA HM ⊢
 generalize w.heap.size + 1 = g2 at HA HM ⊢
 go_loopw [12] (fun i wr => ∃ (k : Nat) (As : Option Addr) (cs : Nat), k ≤ n1 ∧ i = .int .i64 k ∧ IB w wr g2 g3 f7 (.slice As (sgImg (L1.take k)).length cs) ∧ GR rgK wr base 70 As (sgImg (L1.take k)).length cs (sgImg (L1.take k))) (fun i _ => n1 - (intOf i).toNat)
 case atStart =>
  refine ⟨0, none, 0, Nat.zero_le _, rfl, ?_, ?_⟩
  ·rw [H0.out]; exact HM.out
  ·rw [H0.out]; exact GR.nil trivial
 case round =>
  obtain ⟨k, As, cs, hk, rfl, hm1, hgr⟩ := hrel
  have HMa := hid hm1
  have HGa := hid hgr
  clear hm1 hgr HM
  have HLk := hid (HLe.out k)
  by_cases hlt : k < n1
  ·have hkl : k < L1.length := by rw [← HLn.out]; exact hlt
   obtain ⟨b, off, hAA, hb⟩ := H1.out.pos (by omega)
   subst hAA
   obtain ⟨B1, k1, e1, -, p, g1⟩ := H1.out.at hkl
   have p' : ∀ i v, (sgC L1[k] (.slice B1 k1 e1))[i]? = some v → wr.cell? ⟨b, off + k * 10 + i, none⟩ = some v := fun i v hv => (Below.cell HMa.out.g hb).trans (p i v hv)
   have HSk := hid (HSu.out k hkl)
   have HCl := hid (fun W (hW : Grow w W) => clone_any B1 k1 e1 L1[k].pl.own w.heap.size W (g1.belowAt hW (Nat.le_refl _)) hW.size (by have h1 := HSm.out L1[k] (List.getElem_mem hkl); have h2 := g1.len; change k1 = L1[k].pl.own.length at h2; omega))
   have HRk : Hid (∀ (Ax : Option Addr) (nx cx : Nat), (#[.int .u64 (L1[k].vaddr : Nat), .int .u64 (L1[k].memsz : Nat), .int .u32 (L1[k].flags : Nat), .slice Ax nx cx] : Array Value) = rgK.cs (sgRg L1[k]) (.slice Ax nx cx)) := hid fun _ _ _ => rfl
   have HBy : Hid (L1[k].pl.own = rgK.by_ (sgRg L1[k])) := hid rfl
   clear p g1
   generalize hRg : sgRg L1[k] = rg at HSk HRk HBy
   clear hRg
   generalize L1[k] = s at p' HSk HCl HRk HBy
   clear hkl
   unfold NewB at HCl
   unfold sgC at p'
   have s0 : wr.cell? ⟨b, off + k * 10, none⟩ = _ := p' 0 _ rfl
   have s1 : wr.cell? ⟨b, off + k * 10 + 1, none⟩ = _ := p' 1 _ rfl
   have s2 : wr.cell? ⟨b, off + k * 10 + 2, none⟩ = _ := p' 2 _ rfl
   have s3 : wr.cell? ⟨b, off + k * 10 + 3, none⟩ = _ := p' 3 _ rfl
   have s4 : wr.cell? ⟨b, off + k * 10 + 4, none⟩ = _ := p' 4 _ rfl
   have s5 : wr.cell? ⟨b, off + k * 10 + 5, none⟩ = _ := p' 5 _ rfl
   have s6 : wr.cell? ⟨b, off + k * 10 + 6, none⟩ = _ := p' 6 _ rfl
   have s7 : wr.cell? ⟨b, off + k * 10 + 7, none⟩ = _ := p' 7 _ rfl
   have s8 : wr.cell? ⟨b, off + k * 10 + 8, none⟩ = _ := p' 8 _ rfl
   have s9 : wr.cell? ⟨b, off + k * 10 + 9, none⟩ = _ := p' 9 _ rfl
   clear p'
   have w0 : (0 : Int) ≤ (k : Int) := by omega
   have w1 : (k : Int) < (n1 : Int) := by omega
   have d1 : decide ((k : Int) < (n1 : Int)) = true := decide_eq_true (by omega)
   by_cases ht : s.typ = 1
   ·have d2 : ((s.typ : Int) == 1) = true := by simp [ht]
    rw [if_pos ht] at HSk
    clear ht
    go_wp2_with fail
    generalize hW : World.alloc _ _ = W5
    obtain ⟨b5, hg⟩ := blk1 hW
    obtain ⟨g5, hg5⟩ : ∃ g, g = wr.heap.size := ⟨_, rfl⟩
    rw [← hg5] at b5 ⊢
    clear hW s0 s1 s2 s3 s4 s5 s6 s7 s8 s9
    have HKe : Hid (∀ i, own As = some i → ¬ (i = g3 ∨ i = g5)) := hid (by
     obtain ⟨Rw0, hzo0, _, _⟩ := HGa.out
     exact IB.apart HA.out hzo0 (show wr.heap.size ≤ g5 by omega))
    have hgd := hg.trans (Grow.of_drew W5)
    have HM0 := hid (HMa.out.grow hgd)
    have HG0 := hid (HGa.out.keep hgd)
    have HP0 := hid b5.drew
    clear b5 hg hgd hg5 HMa HGa
    refine wp_region_last (leap_kept (fun j => j = g3 ∨ j = g5)) [(0, true), (1, true), (2, true), (3, true), (4, true), (5, true), (6, true), (7, true), (8, true), (9, true), (10, true), (11, false), (12, true), (13, false), (14, false), (15, true)] 16 (by kernel_rfl) (by kernel_rfl) (by kernel_rfl) ?_
    generalize W5.drew = v0 at HM0 HG0 HP0 ⊢
    have q0 : ∀ W, Kept (fun j => j = g3 ∨ j = g5) v0 W → W.cell? ⟨g5, 0, none⟩ = some (.int .u32 (s.typ : Nat)) := fun W hW => (HP0.out.kept hW (.inr rfl)).at 0
    have q1 : ∀ W, Kept (fun j => j = g3 ∨ j = g5) v0 W → W.cell? ⟨g5, 1, none⟩ = some (.int .u32 (s.flags : Nat)) := fun W hW => (HP0.out.kept hW (.inr rfl)).at 1
    have q2 : ∀ W, Kept (fun j => j = g3 ∨ j = g5) v0 W → W.cell? ⟨g5, 2, none⟩ = some (.int .u64 (s.vaddr : Nat)) := fun W hW => (HP0.out.kept hW (.inr rfl)).at 2
    have q4 : ∀ W, Kept (fun j => j = g3 ∨ j = g5) v0 W → W.cell? ⟨g5, 4, none⟩ = some (.int .u64 (s.memsz : Nat)) := fun W hW => (HP0.out.kept hW (.inr rfl)).at 4
    have q9 : ∀ W, Kept (fun j => j = g3 ∨ j = g5) v0 W → W.cell? ⟨g5, 9, none⟩ = some (.slice B1 k1 e1) := fun W hW => (HP0.out.kept hW (.inr rfl)).at 9
    have r1 : ∀ W, Kept (fun j => j = g3 ∨ j = g5) v0 W → W.cell? ⟨g3, 1, none⟩ = some (.slice As (sgImg (L1.take k)).length cs) := fun W hW => (HM0.out.x.kept hW (.inl rfl)).at 1
    repeat ((first | (refine chain_take rfl (by rfl) ?_ (fun W hG => ?_) ?_; rotate_left; (go_simp; rfl)) | refine chain_skip rfl (by rfl) ?_); simp only [Act.put, List.setIfInBounds_toArray, List.set_cons_zero, List.set_cons_succ])
    clear q0 q1 q2 q4 q9 r1 HP0
    refine chain_only rfl (by rfl) (fun K hK => ?_)
    go_simp
    refine (HCl.out _ HM0.out.g).mono ?_
    rintro e v1 ⟨Ax, cx, rfl, ho, hg⟩
    refine hK _ _ (Kept.of_grow hg) ?_
    clear hK K
    have HO1 := hid (ho.mono (HM0.out.base_le HA.out))
    have HM1 := hid (HM0.out.grow hg)
    have HG1 := hid (HG0.out.keep hg)
    clear ho HM0 HG0 hg
    repeat ((first | (refine chain_take rfl (by rfl) ?_ (fun W hG => ?_) ?_; rotate_left; (go_simp; rfl)) | refine chain_skip rfl (by rfl) ?_); simp only [Act.put, List.setIfInBounds_toArray, List.set_cons_zero, List.set_cons_succ])
    refine chain_only rfl (by rfl) (fun K hK => ?_)
    go_simp
    refine hK _ _ (Kept.of_grow (Grow.of_alloc _ _)) ?_
    clear hK K
    generalize hW : World.alloc _ _ = v3
    obtain ⟨bn, hg⟩ := blk1 hW
    clear hW
    have HN3 := hid bn
    have HM3 := hid (HM1.out.grow hg)
    have HG3 := hid (HG1.out.keep hg)
    have HO3 := hid (HO1.out.keep hg)
    clear bn HM1 HG1 HO1 hg
    refine chain_only rfl (by rfl) (fun K hK => ?_)
    obtain ⟨Rw, hzo, hlr, hro⟩ := HG3.out
    have HBs := hid (HM3.out.base_le HA.out)
    refine wp_appendZ _ (.tmp 20) (.tmp 32) 45 rfl base 70 (.agg #[.int .u64 0, .int .u64 0, .int .u32 0, .slice none 0 0]) 4 48 Try.underlying45 (by kernel_rfl) rfl (by omega) As _ cs Rw rfl hzo _ _ _ rfl HN3.out rfl (by simp [Value.oneCell']) (by have := HLk.out; have := HN.out; unfold maxLen; omega) (by have := HLk.out; have := HN.out; omega) HBs.out ?_
    intro A5 c5 v4 ho9 hg9 _
    refine hK _ _ (kept_row hg9 HKe.out) ?_
    clear hK K
    have HM4 := hid (HM3.out.by_ HA.out hg9 (fun i e => hzo.ge e))
    have HG4 : Hid (GR rgK v4 base 70 A5 ((sgImg (L1.take k)).length + 1) c5 (sgImg (L1.take (k + 1)))) := hid (by
     rw [HSk.out]
     exact GR.snoc hzo hlr hro ⟨Ax, _, cx, HRk.out Ax _ cx, HBy.out ▸ HO3.out⟩ (by decide) ho9 hg9)
    clear ho9 hg9 hzo hlr hro HBs HM3 HG3 HO3 HN3
    have hle : (sgImg (L1.take k)).length + 1 = (sgImg (L1.take (k + 1))).length := by rw [HSk.out, List.length_append]; rfl
    rw [hle] at HG4 ⊢
    clear hle
    repeat ((first | (refine chain_take rfl (by rfl) ?_ (fun W hG => ?_) ?_; rotate_left; (go_simp; rfl)) | refine chain_skip rfl (by rfl) ?_); simp only [Act.put, List.setIfInBounds_toArray, List.set_cons_zero, List.set_cons_succ])
    refine chain_done (last_op rfl (by rfl) (fun K hK => ?_))
    have c9 := HM4.out.x.at 1
    have s9 := HM4.out.x.soft 1
    go_simp
    refine hK _ _ ?_
    clear hK K c9 s9
    have e9 := setCell_eq_setRow v4 g3 1 _ 47 (0, 0) (.slice A5 (sgImg (L1.take (k + 1))).length c5) HM4.out.x
    have HM5 := hid (HM4.out.set HA.out (.slice A5 (sgImg (L1.take (k + 1))).length c5))
    have HG5 := hid (HG4.out.set (show g3 < base by have := HA.out.b; omega) #[.int .u64 (f7 : Nat), .slice A5 (sgImg (L1.take (k + 1))).length c5])
    rw [e9]
    clear e9 HM4 HG4
    go_wp2
    go_roundw
    case rel => exact ⟨k + 1, A5, c5, by omega, by go_num, HM5.out, HG5.out⟩
    case measure => simp [intOf]; omega
   ·have d2 : ((s.typ : Int) == 1) = false := by simp; omega
    rw [if_neg ht, List.append_nil] at HSk
    have hgr := Grow.of_alloc wr (.cells #[.int .u32 (s.typ : Nat), .int .u32 (s.flags : Nat), .int .u64 (s.vaddr : Nat), .int .u64 (s.paddr : Nat), .int .u64 (s.memsz : Nat), .int .u64 (s.align : Nat), .int .i64 s.pl.inn, .int .u64 (s.pl.off : Nat), .int .u64 (s.pl.size : Nat), .slice B1 k1 e1] 55)
    have HM5 := hid (HMa.out.grow hgr)
    have HG5 := hid (HGa.out.keep hgr)
    rw [← HSk.out] at HM5 HG5
    clear hgr ht
    go_wp2
    go_roundw
    case rel => exact ⟨k + 1, As, cs, by omega, by go_num, HM5.out, HG5.out⟩
    case measure => simp [intOf]; omega
  ·have e : k = n1 := by omega
   rw [e, HE.out] at HMa HGa
   have d1 : decide ((k : Int) < (n1 : Int)) = false := decide_eq_false (by omega)
   clear e HLk
   obtain ⟨x0, x1⟩ := HMa.out.x.c2
   go_wp2_with (refine wpList_store_row rfl 47 (.tmp 2) (.tmp 36) rfl g2 _ rfl rfl _ _ HMa.out.z (by kernel_rfl) rfl (by simp [Value.oneCell']) ?_)
   clear x0 x1
   refine bodyPost_ret (results_cell_row rfl _ _ g2 _ _ (0, 0) _ rfl (HMa.out.z.set _) Try.underlying47 rfl (by kernel_rfl)) rfl ?_
   exact ⟨As, cs, rfl, (HGa.out.set (show g2 < base by have := HA.out.b; have := HA.out.a2; omega) _).mono (by have := HA.out.b; have := HA.out.a2; have := HA.out.w2; omega), Grow.set HMa.out.g HA.out.w2 _⟩
set_option maxRecDepth 100000
set_option linter.unusedVariables false
set_option maxHeartbeats 8000000 in
theorem rSameImg_any (en : Nat) (L : List Rg) (A1 A3 : Option Addr) (n1 c1 n3 c3 : Nat) (w : World) (g1 : ZR rgK w w.heap.size A1 n1 c1 L) (g3 : ZR rgK w w.heap.size A3 n3 c3 L) :
  Calls Try.prog 15 #[.agg (imC en (.slice A1 n1 c1)), .agg (imC en (.slice A3 n3 c3))] w fun e w' => e = .returned (.bool true) ∧ Grow w w' := by
 obtain rfl : n1 = n3 := g1.len.trans g3.len.symm
 have H1 := hid g1
 have H3 := hid g3
 have HL1 := hid g1.len
 have a1 := g1.cap
 have a2 := g1.max
 have a5 := g3.cap
 have a6 := g3.max
 unfold maxLen at a2 a6
 unfold imC
 clear g1 g3
 go_enter Try.func15, Try.ntmps15
 go_wp2_with fail
 generalize hW : World.alloc _ _ = W0
 obtain ⟨b1, b2, hg0⟩ := blk2 hW
 clear hW
 have HX := hid b1
 have HY := hid b2
 have HW := hid hg0
 clear b1 b2 hg0
 generalize w.heap.size + 1 = gy at HY ⊢
 obtain ⟨gx, hgx⟩ : ∃ g, g = w.heap.size := ⟨_, rfl⟩
 rw [← hgx] at HX ⊢
 clear hgx
 go_loopw [5] (fun i wr => ∃ k : Nat, k ≤ n1 ∧ i = .int .i64 k ∧ Blk wr gx 47 #[.int .u64 (en : Nat), .slice A1 n1 c1] ∧ Blk wr gy 47 #[.int .u64 (en : Nat), .slice A3 n1 c3] ∧ Grow w wr) (fun i _ => n1 - (intOf i).toNat)
 case atStart => exact ⟨0, Nat.zero_le _, rfl, HX.out, HY.out, HW.out⟩
 case round =>
  obtain ⟨k, hk, rfl, hx, hy, hg⟩ := hrel
  have HX1 := hid hx
  have HY1 := hid hy
  have HW1 := hid hg
  clear hx hy hg HX HY HW
  by_cases hlt : k < n1
  ·have hkl : k < L.length := by rw [← HL1.out]; exact hlt
   obtain ⟨b, off, hAA, hb⟩ := H1.out.pos (by omega)
   obtain ⟨bb, off2, hAB, hbb⟩ := H3.out.pos (by omega)
   subst hAA
   subst hAB
   obtain ⟨B1, k1, e1, -, p, g1⟩ := H1.out.at hkl
   obtain ⟨B3, k3, e3, -, r, g3⟩ := H3.out.at hkl
   have p' : ∀ i v, (rgC L[k] (.slice B1 k1 e1))[i]? = some v → wr.cell? ⟨b, off + k * 4 + i, none⟩ = some v := fun i v hv => (Below.cell HW1.out hb).trans (p i v hv)
   have r' : ∀ i v, (rgC L[k] (.slice B3 k3 e3))[i]? = some v → wr.cell? ⟨bb, off2 + k * 4 + i, none⟩ = some v := fun i v hv => (Below.cell HW1.out hbb).trans (r i v hv)
   have HS1 := hid (fun W (hW : Grow w W) => (g1.grow hW).conv (Nat.le_refl _) W (Grow.refl _))
   have HS3 := hid (fun W (hW : Grow w W) => (g3.grow hW).conv (Nat.le_refl _) W (Grow.refl _))
   have HBB := hid (Nat.lt_of_lt_of_le hbb HW1.out.size)
   unfold rgC at p' r'
   clear p r g1 g3
   have hby : rgK.by_ L[k] = L[k].bytes := rfl
   rw [hby] at HS1 HS3
   clear hby
   generalize L[k] = r at p' r' HS1 HS3
   clear hkl
   have s0 : wr.cell? ⟨b, off + k * 4, none⟩ = _ := p' 0 _ rfl
   have s1 : wr.cell? ⟨b, off + k * 4 + 1, none⟩ = _ := p' 1 _ rfl
   have s2 : wr.cell? ⟨b, off + k * 4 + 2, none⟩ = _ := p' 2 _ rfl
   have s3 : wr.cell? ⟨b, off + k * 4 + 3, none⟩ = _ := p' 3 _ rfl
   have r2 : ∀ i v, (#[.int .u64 (r.addr : Nat), .int .u64 (r.size : Nat), .int .u32 (r.flags : Nat), .slice B3 k3 e3] : Array Value)[i]? = some v → (wr.alloc (.cells #[.int .u64 (r.addr : Nat), .int .u64 (r.size : Nat), .int .u32 (r.flags : Nat), .slice B1 k1 e1] 70)).cell? ⟨bb, off2 + k * 4 + i, none⟩ = some v := fun i v hv => (Below.cell (Grow.of_alloc wr _) HBB.out).trans (r' i v hv)
   have u0 : (wr.alloc (.cells #[.int .u64 (r.addr : Nat), .int .u64 (r.size : Nat), .int .u32 (r.flags : Nat), .slice B1 k1 e1] 70)).cell? ⟨bb, off2 + k * 4, none⟩ = _ := r2 0 _ rfl
   have u1 : (wr.alloc (.cells #[.int .u64 (r.addr : Nat), .int .u64 (r.size : Nat), .int .u32 (r.flags : Nat), .slice B1 k1 e1] 70)).cell? ⟨bb, off2 + k * 4 + 1, none⟩ = _ := r2 1 _ rfl
   have u2 : (wr.alloc (.cells #[.int .u64 (r.addr : Nat), .int .u64 (r.size : Nat), .int .u32 (r.flags : Nat), .slice B1 k1 e1] 70)).cell? ⟨bb, off2 + k * 4 + 2, none⟩ = _ := r2 2 _ rfl
   have u3 : (wr.alloc (.cells #[.int .u64 (r.addr : Nat), .int .u64 (r.size : Nat), .int .u32 (r.flags : Nat), .slice B1 k1 e1] 70)).cell? ⟨bb, off2 + k * 4 + 3, none⟩ = _ := r2 3 _ rfl
   have m1 := HX1.out.at 1
   have y1 := HY1.out.at 1
   have y1a := (HY1.out.grow (Grow.of_alloc wr (.cells #[.int .u64 (r.addr : Nat), .int .u64 (r.size : Nat), .int .u32 (r.flags : Nat), .slice B1 k1 e1] 70))).at 1
   have hga : Grow wr ((wr.alloc (.cells #[.int .u64 (r.addr : Nat), .int .u64 (r.size : Nat), .int .u32 (r.flags : Nat), .slice B1 k1 e1] 70)).alloc (.cells #[.int .u64 (r.addr : Nat), .int .u64 (r.size : Nat), .int .u32 (r.flags : Nat), .slice B3 k3 e3] 70)) := (Grow.of_alloc _ _).trans (Grow.of_alloc _ _)
   have t1 := HS1.out _ (HW1.out.trans hga)
   have t3 := HS3.out _ (HW1.out.trans hga)
   have HX2 := hid (HX1.out.grow hga)
   have HY2 := hid (HY1.out.grow hga)
   have HW2 := hid (HW1.out.trans hga)
   clear p' r' r2 hga HS1 HS3
   have w0 : (0 : Int) ≤ (k : Int) := by omega
   have w1 : (k : Int) < (n1 : Int) := by omega
   have d1 : decide ((k : Int) < (n1 : Int)) = true := decide_eq_true (by omega)
   go_wp2
   go_roundw
   case rel => exact ⟨k + 1, by omega, by go_num, HX2.out, HY2.out, HW2.out⟩
   case measure => simp [intOf]; omega
  ·have d1 : decide ((k : Int) < (n1 : Int)) = false := decide_eq_false (by omega)
   have m1 := HX1.out.at 1
   go_wp2
   go_ret
   exact ⟨rfl, HW1.out⟩
set_option maxRecDepth 100000
theorem bEqual_any (A A' : Option Addr) (n c n' c' : Nat) (l : List UInt8) (w : World) (h : RB w w.heap.size A n c l) (h' : RB w w.heap.size A' n' c' l) :
  Calls Try.prog 74 #[.slice A n c, .slice A' n' c'] w fun e w' => e = .returned (.bool true) ∧ w = w' := by
 have hs1 := (h.conv (Nat.le_refl _)) w (Grow.refl _)
 have hs2 := (h'.conv (Nat.le_refl _)) w (Grow.refl _)
 clear h h'
 go_enter Try.func74, Try.ntmps74
 go_wp2
 go_ret
 exact ⟨rfl, rfl⟩
set_option maxHeartbeats 4000000 in
theorem samePlace_any (p : Pl) (A A' : Option Addr) (n c n' c' : Nat) (w : World) (h : RB w w.heap.size A n c p.own) (h' : RB w w.heap.size A' n' c' p.own) :
  Calls Try.prog 60 #[.agg (plC p (.slice A n c)), .agg (plC p (.slice A' n' c'))] w fun e w' => e = .returned (.bool true) ∧ Grow w w' := by
 have HE := hid (fun W (hg : Grow w W) => bEqual_any A A' n c n' c' p.own W (h.grow hg) (h'.grow hg))
 unfold plC
 clear h h'
 generalize p.inn = i
 generalize p.off = o
 generalize p.size = z
 go_enter Try.func60, Try.ntmps60
 go_wp2_with fail
 refine (HE.out _ ((Grow.of_alloc _ _).trans (Grow.of_alloc _ _))).mono ?_
 rintro e w' ⟨rfl, rfl⟩
 clear HE
 go_wp2
 go_ret
 exact ⟨rfl, (Grow.of_alloc _ _).trans (Grow.of_alloc _ _)⟩
set_option maxHeartbeats 8000000 in
theorem sameSeg_any (s : Sg) (A A' : Option Addr) (n c n' c' : Nat) (w : World) (h : RB w w.heap.size A n c s.pl.own) (h' : RB w w.heap.size A' n' c' s.pl.own) :
  Calls Try.prog 37 #[.agg (sgC s (.slice A n c)), .agg (sgC s (.slice A' n' c'))] w fun e w' => e = .returned (.bool true) ∧ Grow w w' := by
 have HE := hid (fun W (hg : Grow w W) => samePlace_any s.pl A A' n c n' c' W (h.grow hg) (h'.grow hg))
 unfold sgC
 unfold plC at HE
 clear h h'
 generalize s.pl.inn = i at HE ⊢
 generalize s.pl.off = o at HE ⊢
 generalize s.pl.size = z at HE ⊢
 generalize s.typ = f0
 generalize s.flags = f1
 generalize s.vaddr = f2
 generalize s.paddr = f3
 generalize s.memsz = f4
 generalize s.align = f5
 go_enter Try.func37, Try.ntmps37
 go_wp2_with fail
 generalize hW : World.alloc _ _ = W0
 obtain ⟨b1, b2, hg0⟩ := blk2 hW
 clear hW
 obtain ⟨x0, x1, x2, x3, x4, x5, x6, x7, x8, x9⟩ := b1.c10
 obtain ⟨y0, y1, y2, y3, y4, y5, y6, y7, y8, y9⟩ := b2.c10
 clear b1 b2
 go_wp2_with fail
 clear x0 x1 x2 x3 x4 x5 x6 x7 x8 x9 y0 y1 y2 y3 y4 y5 y6 y7 y8 y9
 refine (HE.out _ hg0).mono ?_
 rintro e w' ⟨rfl, hg⟩
 have HG : Hid (Grow w w') := hid (hg0.trans hg)
 clear HE hg0 hg
 go_wp2
 go_ret
 exact ⟨rfl, HG.out⟩
set_option maxHeartbeats 8000000 in
theorem eqSegs_any (A A' : Option Addr) (n c n' c' : Nat) (L : List Sg) (w : World) (h : ZR sgK w w.heap.size A n c L) (h' : ZR sgK w w.heap.size A' n' c' L) :
  Calls Try.prog 36 #[.slice A n c, .slice A' n' c', .func (.func 37) #[] #[]] w fun e w' => e = .returned (.bool true) ∧ Grow w w' := by
 obtain rfl : n' = n := h'.len.trans h.len.symm
 have HS := hid h
 have HS' := hid h'
 have HL := hid h.len
 have hc := h.cap
 have hm := h.max
 have hc' := h'.cap
 have hm' := h'.max
 unfold maxLen at hm hm'
 clear h h'
 go_enter Try.func36, Try.ntmps36
 go_wp2_with fail
 go_loopw [17] (fun i wr => ∃ k : Nat, k ≤ n' ∧ i = .int .i64 k ∧ Grow w wr) (fun i _ => n' - (intOf i).toNat)
 case atStart => exact ⟨0, Nat.zero_le _, rfl, Grow.refl _⟩
 case round =>
  obtain ⟨k, hk, rfl, hg⟩ := hrel
  by_cases hlt : k < n'
  ·have HG := hid hg
   have hkl : k < L.length := by rw [← HL.out]; exact hlt
   obtain ⟨b, off, rfl, hb⟩ := HS.out.pos (by omega)
   obtain ⟨bb, off2, rfl, hbb⟩ := HS'.out.pos (by omega)
   obtain ⟨A1, n1, c1, -, p, g1⟩ := HS.out.at hkl
   obtain ⟨A3, n3, c3, -, q, g3⟩ := HS'.out.at hkl
   have p' : ∀ i v, (sgC L[k] (.slice A1 n1 c1))[i]? = some v → wr.cell? ⟨b, off + k * 10 + i, none⟩ = some v := fun i v hv => (Below.cell hg hb).trans (p i v hv)
   have q' : ∀ i v, (sgC L[k] (.slice A3 n3 c3))[i]? = some v → wr.cell? ⟨bb, off2 + k * 10 + i, none⟩ = some v := fun i v hv => (Below.cell hg hbb).trans (q i v hv)
   have hlt1 := Nat.lt_of_lt_of_le hb hg.size
   have hlt2 := Nat.lt_of_lt_of_le hbb hg.size
   have HE := hid (fun W (hW : Grow w W) => sameSeg_any L[k] A1 A3 n1 c1 n3 c3 W ((g1.belowAt hW (Nat.le_refl _)).more hW.size) ((g3.belowAt hW (Nat.le_refl _)).more hW.size))
   unfold sgC at p' q' HE
   clear p q g1 g3
   generalize L[k] = s at p' q' HE
   clear hkl hg
   have s0 : wr.cell? ⟨b, off + k * 10, none⟩ = _ := p' 0 _ rfl
   have s1 : wr.cell? ⟨b, off + k * 10 + 1, none⟩ = _ := p' 1 _ rfl
   have s2 : wr.cell? ⟨b, off + k * 10 + 2, none⟩ = _ := p' 2 _ rfl
   have s3 : wr.cell? ⟨b, off + k * 10 + 3, none⟩ = _ := p' 3 _ rfl
   have s4 : wr.cell? ⟨b, off + k * 10 + 4, none⟩ = _ := p' 4 _ rfl
   have s5 : wr.cell? ⟨b, off + k * 10 + 5, none⟩ = _ := p' 5 _ rfl
   have s6 : wr.cell? ⟨b, off + k * 10 + 6, none⟩ = _ := p' 6 _ rfl
   have s7 : wr.cell? ⟨b, off + k * 10 + 7, none⟩ = _ := p' 7 _ rfl
   have s8 : wr.cell? ⟨b, off + k * 10 + 8, none⟩ = _ := p' 8 _ rfl
   have s9 : wr.cell? ⟨b, off + k * 10 + 9, none⟩ = _ := p' 9 _ rfl
   have t0 : wr.cell? ⟨bb, off2 + k * 10, none⟩ = _ := q' 0 _ rfl
   have t1 : wr.cell? ⟨bb, off2 + k * 10 + 1, none⟩ = _ := q' 1 _ rfl
   have t2 : wr.cell? ⟨bb, off2 + k * 10 + 2, none⟩ = _ := q' 2 _ rfl
   have t3 : wr.cell? ⟨bb, off2 + k * 10 + 3, none⟩ = _ := q' 3 _ rfl
   have t4 : wr.cell? ⟨bb, off2 + k * 10 + 4, none⟩ = _ := q' 4 _ rfl
   have t5 : wr.cell? ⟨bb, off2 + k * 10 + 5, none⟩ = _ := q' 5 _ rfl
   have t6 : wr.cell? ⟨bb, off2 + k * 10 + 6, none⟩ = _ := q' 6 _ rfl
   have t7 : wr.cell? ⟨bb, off2 + k * 10 + 7, none⟩ = _ := q' 7 _ rfl
   have t8 : wr.cell? ⟨bb, off2 + k * 10 + 8, none⟩ = _ := q' 8 _ rfl
   have t9 : wr.cell? ⟨bb, off2 + k * 10 + 9, none⟩ = _ := q' 9 _ rfl
   clear p' q'
   have w0 : (0 : Int) ≤ (k : Int) := by omega
   have w1 : (k : Int) < (n' : Int) := by omega
   go_wp2_with fail
   refine (HE.out _ (HG.out.trans ((Grow.of_alloc _ _).trans (Grow.of_alloc _ _)))).mono ?_
   rintro e w' ⟨rfl, hg⟩
   have HG' : Hid (Grow w w') := hid (HG.out.trans (((Grow.of_alloc _ _).trans (Grow.of_alloc _ _)).trans hg))
   clear HE hg HG hlt1 hlt2 hb hbb s0 s1 s2 s3 s4 s5 s6 s7 s8 s9 t0 t1 t2 t3 t4 t5 t6 t7 t8 t9
   go_wp2
   go_roundw
   case rel => exact ⟨k + 1, by omega, by go_num, HG'.out⟩
   case measure => simp [intOf]; omega
  ·have d : decide ((k : Int) < (n' : Int)) = false := decide_eq_false (by omega)
   go_wp2
   go_ret
   exact ⟨rfl, hg⟩
set_option maxHeartbeats 8000000 in
theorem sameSec_any (s : Se) (A A' : Option Addr) (n c n' c' : Nat) (w : World) (h : RB w w.heap.size A n c s.pl.own) (h' : RB w w.heap.size A' n' c' s.pl.own) :
  Calls Try.prog 39 #[.agg (seC s (.slice A n c)), .agg (seC s (.slice A' n' c'))] w fun e w' => e = .returned (.bool true) ∧ Grow w w' := by
 have HE := hid (fun W (hg : Grow w W) => samePlace_any s.pl A A' n c n' c' W (h.grow hg) (h'.grow hg))
 unfold seC
 unfold plC at HE
 clear h h'
 generalize s.pl.inn = i at HE ⊢
 generalize s.pl.off = o at HE ⊢
 generalize s.pl.size = z at HE ⊢
 generalize s.name = f0
 generalize s.typ = f1
 generalize s.flags = f2
 generalize s.addr = f3
 generalize s.size = f4
 generalize s.link = f5
 generalize s.info = f6
 generalize s.align = f7
 generalize s.entsize = f8
 go_enter Try.func39, Try.ntmps39
 go_wp2_with fail
 generalize hW : World.alloc _ _ = W0
 obtain ⟨b1, b2, hg0⟩ := blk2 hW
 clear hW
 obtain ⟨x0, x1, x2, x3, x4, x5, x6, x7, x8, x9, x10, x11, x12⟩ := b1.c13
 obtain ⟨y0, y1, y2, y3, y4, y5, y6, y7, y8, y9, y10, y11, y12⟩ := b2.c13
 clear b1 b2
 go_wp2_with fail
 clear x0 x1 x2 x3 x4 x5 x6 x7 x8 x9 x10 x11 x12 y0 y1 y2 y3 y4 y5 y6 y7 y8 y9 y10 y11 y12
 refine (HE.out _ hg0).mono ?_
 rintro e w' ⟨rfl, hg⟩
 have HG : Hid (Grow w w') := hid (hg0.trans hg)
 clear HE hg0 hg
 go_wp2
 go_ret
 exact ⟨rfl, HG.out⟩
set_option maxHeartbeats 8000000 in
theorem eqSecs_any (A A' : Option Addr) (n c n' c' : Nat) (L : List Se) (w : World) (h : ZR seK w w.heap.size A n c L) (h' : ZR seK w w.heap.size A' n' c' L) :
  Calls Try.prog 38 #[.slice A n c, .slice A' n' c', .func (.func 39) #[] #[]] w fun e w' => e = .returned (.bool true) ∧ Grow w w' := by
 obtain rfl : n' = n := h'.len.trans h.len.symm
 have HS := hid h
 have HS' := hid h'
 have HL := hid h.len
 have hc := h.cap
 have hm := h.max
 have hc' := h'.cap
 have hm' := h'.max
 unfold maxLen at hm hm'
 clear h h'
 go_enter Try.func38, Try.ntmps38
 go_wp2_with fail
 go_loopw [17] (fun i wr => ∃ k : Nat, k ≤ n' ∧ i = .int .i64 k ∧ Grow w wr) (fun i _ => n' - (intOf i).toNat)
 case atStart => exact ⟨0, Nat.zero_le _, rfl, Grow.refl _⟩
 case round =>
  obtain ⟨k, hk, rfl, hg⟩ := hrel
  by_cases hlt : k < n'
  ·have HG := hid hg
   have hkl : k < L.length := by rw [← HL.out]; exact hlt
   obtain ⟨b, off, rfl, hb⟩ := HS.out.pos (by omega)
   obtain ⟨bb, off2, rfl, hbb⟩ := HS'.out.pos (by omega)
   obtain ⟨A1, n1, c1, -, p, g1⟩ := HS.out.at hkl
   obtain ⟨A3, n3, c3, -, q, g3⟩ := HS'.out.at hkl
   have p' : ∀ i v, (seC L[k] (.slice A1 n1 c1))[i]? = some v → wr.cell? ⟨b, off + k * 13 + i, none⟩ = some v := fun i v hv => (Below.cell hg hb).trans (p i v hv)
   have q' : ∀ i v, (seC L[k] (.slice A3 n3 c3))[i]? = some v → wr.cell? ⟨bb, off2 + k * 13 + i, none⟩ = some v := fun i v hv => (Below.cell hg hbb).trans (q i v hv)
   have hlt1 := Nat.lt_of_lt_of_le hb hg.size
   have hlt2 := Nat.lt_of_lt_of_le hbb hg.size
   have HE := hid (fun W (hW : Grow w W) => sameSec_any L[k] A1 A3 n1 c1 n3 c3 W ((g1.belowAt hW (Nat.le_refl _)).more hW.size) ((g3.belowAt hW (Nat.le_refl _)).more hW.size))
   unfold seC at p' q' HE
   clear p q g1 g3
   generalize L[k] = s at p' q' HE
   clear hkl hg
   have s0 : wr.cell? ⟨b, off + k * 13, none⟩ = _ := p' 0 _ rfl
   have s1 : wr.cell? ⟨b, off + k * 13 + 1, none⟩ = _ := p' 1 _ rfl
   have s2 : wr.cell? ⟨b, off + k * 13 + 2, none⟩ = _ := p' 2 _ rfl
   have s3 : wr.cell? ⟨b, off + k * 13 + 3, none⟩ = _ := p' 3 _ rfl
   have s4 : wr.cell? ⟨b, off + k * 13 + 4, none⟩ = _ := p' 4 _ rfl
   have s5 : wr.cell? ⟨b, off + k * 13 + 5, none⟩ = _ := p' 5 _ rfl
   have s6 : wr.cell? ⟨b, off + k * 13 + 6, none⟩ = _ := p' 6 _ rfl
   have s7 : wr.cell? ⟨b, off + k * 13 + 7, none⟩ = _ := p' 7 _ rfl
   have s8 : wr.cell? ⟨b, off + k * 13 + 8, none⟩ = _ := p' 8 _ rfl
   have s9 : wr.cell? ⟨b, off + k * 13 + 9, none⟩ = _ := p' 9 _ rfl
   have s10 : wr.cell? ⟨b, off + k * 13 + 10, none⟩ = _ := p' 10 _ rfl
   have s11 : wr.cell? ⟨b, off + k * 13 + 11, none⟩ = _ := p' 11 _ rfl
   have s12 : wr.cell? ⟨b, off + k * 13 + 12, none⟩ = _ := p' 12 _ rfl
   have t0 : wr.cell? ⟨bb, off2 + k * 13, none⟩ = _ := q' 0 _ rfl
   have t1 : wr.cell? ⟨bb, off2 + k * 13 + 1, none⟩ = _ := q' 1 _ rfl
   have t2 : wr.cell? ⟨bb, off2 + k * 13 + 2, none⟩ = _ := q' 2 _ rfl
   have t3 : wr.cell? ⟨bb, off2 + k * 13 + 3, none⟩ = _ := q' 3 _ rfl
   have t4 : wr.cell? ⟨bb, off2 + k * 13 + 4, none⟩ = _ := q' 4 _ rfl
   have t5 : wr.cell? ⟨bb, off2 + k * 13 + 5, none⟩ = _ := q' 5 _ rfl
   have t6 : wr.cell? ⟨bb, off2 + k * 13 + 6, none⟩ = _ := q' 6 _ rfl
   have t7 : wr.cell? ⟨bb, off2 + k * 13 + 7, none⟩ = _ := q' 7 _ rfl
   have t8 : wr.cell? ⟨bb, off2 + k * 13 + 8, none⟩ = _ := q' 8 _ rfl
   have t9 : wr.cell? ⟨bb, off2 + k * 13 + 9, none⟩ = _ := q' 9 _ rfl
   have t10 : wr.cell? ⟨bb, off2 + k * 13 + 10, none⟩ = _ := q' 10 _ rfl
   have t11 : wr.cell? ⟨bb, off2 + k * 13 + 11, none⟩ = _ := q' 11 _ rfl
   have t12 : wr.cell? ⟨bb, off2 + k * 13 + 12, none⟩ = _ := q' 12 _ rfl
   clear p' q'
   have w0 : (0 : Int) ≤ (k : Int) := by omega
   have w1 : (k : Int) < (n' : Int) := by omega
   go_wp2_with fail
   refine (HE.out _ (HG.out.trans ((Grow.of_alloc _ _).trans (Grow.of_alloc _ _)))).mono ?_
   rintro e w' ⟨rfl, hg⟩
   have HG' : Hid (Grow w w') := hid (HG.out.trans (((Grow.of_alloc _ _).trans (Grow.of_alloc _ _)).trans hg))
   clear HE hg HG hlt1 hlt2 hb hbb s0 s1 s2 s3 s4 s5 s6 s7 s8 s9 s10 s11 s12 t0 t1 t2 t3 t4 t5 t6 t7 t8 t9 t10 t11 t12
   go_wp2
   go_roundw
   case rel => exact ⟨k + 1, by omega, by go_num, HG'.out⟩
   case measure => simp [intOf]; omega
  ·have d : decide ((k : Int) < (n' : Int)) = false := decide_eq_false (by omega)
   go_wp2
   go_ret
   exact ⟨rfl, hg⟩
set_option maxHeartbeats 8000000 in
theorem same_any (m : Md) (A1 A2 A3 A4 : Option Addr) (n1 c1 n2 c2 n3 c3 n4 c4 : Nat) (w : World) (g1 : ZR sgK w w.heap.size A1 n1 c1 m.segs) (g2 : ZR seK w w.heap.size A2 n2 c2 m.secs) (g3 : ZR sgK w w.heap.size A3 n3 c3 m.segs) (g4 : ZR seK w w.heap.size A4 n4 c4 m.secs) :
  Calls Try.prog 17 #[.agg (mdC m (.slice A1 n1 c1) (.slice A2 n2 c2)), .agg (mdC m (.slice A3 n3 c3) (.slice A4 n4 c4))] w fun e w' => e = .returned (.bool true) ∧ Grow w w' := by
 have HP := hid (fun W (hg : Grow w W) => eqSegs_any A1 A3 n1 c1 n3 c3 m.segs W (g1.grow hg) (g3.grow hg))
 have HS := hid (fun W (hg : Grow w W) => eqSecs_any A2 A4 n2 c2 n4 c4 m.secs W (g2.grow hg) (g4.grow hg))
 unfold mdC
 clear g1 g2 g3 g4
 generalize m.wide = f0
 generalize m.big = f1
 generalize m.osabi = f2
 generalize m.abi = f3
 generalize m.typ = f4
 generalize m.mach = f5
 generalize m.flags = f6
 generalize m.entry = f7
 generalize m.str = f10
 go_enter Try.func17, Try.ntmps17
 go_wp2_with fail
 generalize hW : World.alloc _ _ = W0
 obtain ⟨b1, b2, hg0⟩ := blk2 hW
 clear hW
 have HB1 := hid b1
 have HB2 := hid b2
 have HG0 := hid hg0
 obtain ⟨x0, x1, x2, x3, x4, x5, x6, x7, x8, x9, x10⟩ := b1.c11
 obtain ⟨y0, y1, y2, y3, y4, y5, y6, y7, y8, y9, y10⟩ := b2.c11
 clear b1 b2 hg0
 go_wp2_with fail
 clear x0 x1 x2 x3 x4 x5 x6 x7 x8 x9 x10 y0 y1 y2 y3 y4 y5 y6 y7 y8 y9 y10
 refine (HP.out _ HG0.out).mono ?_
 rintro e w1 ⟨rfl, hg⟩
 obtain ⟨x0, x1, x2, x3, x4, x5, x6, x7, x8, x9, x10⟩ := (HB1.out.grow hg).c11
 obtain ⟨y0, y1, y2, y3, y4, y5, y6, y7, y8, y9, y10⟩ := (HB2.out.grow hg).c11
 have HG1 : Hid (Grow w w1) := hid (HG0.out.trans hg)
 clear HB1 HB2 HG0 hg HP
 go_wp2_with fail
 clear x0 x1 x2 x3 x4 x5 x6 x7 x8 x9 x10 y0 y1 y2 y3 y4 y5 y6 y7 y8 y9 y10
 refine (HS.out _ HG1.out).mono ?_
 rintro e w2 ⟨rfl, hg⟩
 have HG2 : Hid (Grow w w2) := hid (HG1.out.trans hg)
 clear HG1 hg HS
 go_wp2
 go_ret
 exact ⟨rfl, HG2.out⟩
end Go.Proofs.Ytfbimboemahhhaa
