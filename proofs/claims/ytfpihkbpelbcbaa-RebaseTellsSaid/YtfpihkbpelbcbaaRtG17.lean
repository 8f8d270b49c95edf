/-
  Several texts in one: The contract of the document's own put; One step of the document's own Rebase; The contract of the document's own Within (layer 1); The contract of the document's own Place.
-/
import Derived.Test.YtfpihkbpelbcbaaRtG16
import Derived.Test.YtfpihkbpelbcbaaRtG5
import Derived.Test.YtfpihkbpelbcbaaRtG13
import Derived.Test.YtfpihkbpelbcbaaRtG10
import Derived.Test.YtfpihkbpelbcbaaRtG14
import Derived.Test.YtfpihkbpelbcbaaRtG3
namespace Go.Proofs.Ytfpihkbpelbcbaa
open Go.Lib (hid)
open Go.RowKit
set_option maxRecDepth 100000
set_option linter.unusedVariables false
theorem putIn_step {l : List UInt8} {p : Nat} {x : List UInt8} {k : Nat} (hp : p + x.length ≤ l.length) (hk : k < x.length) : (putIn l p (x.take k)).set (p + k) x[k] = putIn l p (x.take (k + 1)) := by
 have t1 : (x.take k).length = k := by rw [List.length_take]; omega
 have t2 : (x.take (k + 1)).length = k + 1 := by rw [List.length_take]; omega
 apply List.ext_getElem?
 intro j
 rw [List.getElem?_set, putIn_at (by omega), putIn_at (by omega), putIn_len (by omega), t1, t2]
 by_cases e : p + k = j
 ·subst e
  rw [if_pos rfl, if_pos (by omega), if_pos (by omega), show p + k - p = k by omega, List.getElem?_take_of_lt (by omega), List.getElem?_eq_getElem hk]
 ·rw [if_neg e]
  by_cases e2 : p ≤ j ∧ j < p + k
  ·rw [if_pos e2, if_pos (by omega), List.getElem?_take_of_lt (by omega), List.getElem?_take_of_lt (by omega)]
  ·rw [if_neg e2, if_neg (by omega)]
theorem putIn_nil (l : List UInt8) (p : Nat) : putIn l p [] = l := by simp [putIn]
theorem OB.someP {w : World} {base : Nat} {t : TypeId} {A : Option Addr} {n c : Nat} {l : List UInt8} (h : OB w base t A n c l) (hn : 0 < n) : ∃ g, A = some ⟨g, 0, none⟩ ∧ base ≤ g := by
 rcases h.2 with ⟨_, h0⟩ | ⟨g, cap, cur, e, hb, _⟩
 ·omega
 ·injection e with e1
  exact ⟨g, e1, hb⟩
theorem OB.storeP {w : World} {base : Nat} {t : TypeId} {g n c : Nat} {l : List UInt8} (h : OB w base t (some ⟨g, 0, none⟩) n c l) (j : Nat) (y : UInt8) : OB (w.setCell ⟨g, j, none⟩ (byt y)) base t (some ⟨g, 0, none⟩) n c (l.set j y) := by
 have := (World.ownsRow.stored h j (byt y)).1
 rwa [← List.map_set] at this
theorem OB.blkP {w : World} {base : Nat} {e t : TypeId} {A : Option Addr} {n c g : Nat} {l : List UInt8} {cs : Array Value} (h : OB w base e A n c l) (hb : Blk w g t cs) (ht : e ≠ t) : own A = none ∨ own A ≠ some g := by
 rcases h.2 with ⟨hv, _⟩ | ⟨g', cap, cur, hv, _, hh, _⟩
 ·injection hv with e1 _ _
  subst e1
  exact .inl rfl
 ·injection hv with e1 _ _
  subst e1
  refine .inr fun hA => ?_
  have e3 : g' = g := Option.some.inj hA
  subst e3
  rw [hb] at hh
  injection hh with hh
  injection hh with _ hh
  exact ht hh.symm
theorem GM.slices {α : Type} {K : RK α} {w : World} {B : Nat} {e : TypeId} {A : Option Addr} {n c : Nat} {L : List α} (h : GM K w B e A n c L) : ∃ S : Nat → Sl, ZO w B e K.z A n c (rowsOf K L S) ∧ ∀ j (hj : j < L.length), RB w B (S j).1 (S j).2.1 (S j).2.2 (K.by_ L[j]) ∨ OB w B 5 (S j).1 (S j).2.1 (S j).2.2 (K.by_ L[j]) := by
 obtain ⟨R, h1, h2, h3⟩ := h
 have key : ∀ j, ∃ s : Sl, ∀ (h : j < R.length) (h' : j < L.length), R[j] = K.cs L[j] (sv s) ∧ (RB w B s.1 s.2.1 s.2.2 (K.by_ L[j]) ∨ OB w B 5 s.1 s.2.1 s.2.2 (K.by_ L[j])) := fun j => by
  by_cases hj : j < L.length
  ·obtain ⟨A1, n1, c1, e1, h1⟩ := h3 j (by rw [h2]; exact hj) hj
   exact ⟨(A1, n1, c1), fun _ _ => ⟨e1, h1⟩⟩
  ·exact ⟨(none, 0, 0), fun _ h' => absurd h' hj⟩
 refine ⟨fun j => (key j).choose, ?_, fun j hj => ((key j).choose_spec (by rw [h2]; exact hj) hj).2⟩
 have e1 : rowsOf K L (fun j => (key j).choose) = R := List.ext_getElem (by rw [rowsOf_len, h2]) fun j h1 h4 => by
  have hj : j < L.length := by rw [← h2]; exact h4
  rw [rowsOf_at h1 hj]
  exact ((key j).choose_spec h4 hj).1.symm
 rw [e1]
 exact h1
structure PJ (w W : World) (gm gr : Nat) (mc zc : Array Value) (Ax : Option Addr) (wd cx : Nat) (x : List UInt8) (g n c : Nat) (l : List UInt8) : Prop where
 b : Blk W gm 32 mc
 r : Blk W gr 32 zc
 x : OB W w.heap.size 5 Ax wd cx x
 o : OB W w.heap.size 5 (some ⟨g, 0, none⟩) n c l
 ne : own Ax ≠ some g
 gw : Grow w W
 hg : w.heap.size ≤ g
structure PK (w W : World) (gm gr : Nat) (mc zc : Array Value) (A : Option Addr) (k c : Nat) (R : List (Array Value)) (B : Option Addr) (n c5 : Nat) (l : List UInt8) : Prop where
 b : Blk W gm 32 mc
 r : Blk W gr 32 zc
 s : ZO W w.heap.size 48 10 A k c R
 o : OB W w.heap.size 5 B n c5 l
 gw : Grow w W
section
variable {w W W' : World} {gm gr g : Nat} {mc zc : Array Value} {A Ax B : Option Addr} {k c wd cx n c5 : Nat} {x l : List UInt8} {R : List (Array Value)}
theorem PJ.sto (h : PJ w W gm gr mc zc Ax wd cx x g n c l) (j : Nat) (y : UInt8) : PJ w (W.setCell ⟨g, j, none⟩ (byt y)) gm gr mc zc Ax wd cx x g n c (l.set j y) := by
 obtain ⟨cs, hcs⟩ := h.o.blk
 have hcs : Blk W g 5 cs := hcs
 exact ⟨h.b.cellset (h.b.apart hcs (by decide)) _, h.r.cellset (h.r.apart hcs (by decide)) _, h.x.passed (grown_set' _ _ _) (.inr h.ne), h.o.storeP j y, h.ne, h.gw.cellset h.hg _ _, h.hg⟩
theorem PK.stoB (h : PK w W gm gr mc zc A k c R B n c5 l) (hr : gm ≠ gr) (hB : w.heap.size ≤ gm) (p : Nat) (v : Value) : PK w (W.setCell ⟨gm, p, none⟩ v) gm gr (mc.setIfInBounds p v) zc A k c R B n c5 l := by
 have e9 := setCell_eq_setRow W gm p _ 32 (0, 0) v h.b
 exact ⟨by rw [e9]; exact h.b.set _, h.r.cellset (Ne.symm hr) _, h.s.past (grown_set' _ _ _) (.inr (h.s.awayM h.b (by decide))), h.o.passed (grown_set' _ _ _) (h.o.blkP h.b (by decide)), h.gw.cellset hB _ _⟩
theorem PK.stoR {cur : Array Value} {i p : Nat} (h : PK w W gm gr mc zc (some ⟨g, 0, none⟩) k c R B n c5 l) (hb : Blk W g 48 cur) (hi : i < R.length) (hp : p < 10) (hB : w.heap.size ≤ g) (v : Value) : PK w (W.setCell ⟨g, i * 10 + p, none⟩ v) gm gr mc zc (some ⟨g, 0, none⟩) k c (R.set i (R[i].setIfInBounds p v)) B n c5 l :=
 ⟨h.b.cellset (h.b.apart hb (by decide)) _, h.r.cellset (h.r.apart hb (by decide)) _, h.s.putCell hb hi hp v, h.o.passed (grown_set' _ _ _) (h.o.blkP hb (by decide)), h.gw.cellset hB _ _⟩
end
set_option maxHeartbeats 8000000 in
theorem rPut_any (m : Md) (A1 A2 : Option Addr) (n1 c1 n2 c2 i p v : Nat) (B : Nat) (w : World) (gm : GM sgK w B 48 A1 n1 c1 m.segs) (hB : B ≤ w.heap.size) (hi : i < m.segs.length) (hp : p + wdN m.wide ≤ m.segs[i].pl.own.length) (hv : v < 18446744073709551616) (hn1 : n1 ≤ 65536) (hb : m.segs[i].pl.own.length ≤ 140737488355328) :
  Calls Try.prog 27 #[.agg (mdC m (.slice A1 n1 c1) (.slice A2 n2 c2)), .int .i64 (i : Int), .int .i64 (p : Int), .int .u64 (v : Int)] w fun e w' => ∃ A4 c4, e = .returned (.agg (mdC (m.setB i (putIn m.segs[i].pl.own p (putB v (wdN m.wide) m.big))) (.slice A4 n1 c4) (.slice A2 n2 c2))) ∧ GM sgK w' B 48 A4 n1 c4 (m.setB i (putIn m.segs[i].pl.own p (putB v (wdN m.wide) m.big))).segs ∧ Grow w w' := by
 have g1 := gm.zr hB
 have hL := g1.len
 have hi1 : i < n1 := by rw [hL]; exact hi
 have HWd : Hid (∀ W, Calls Try.prog 22 #[.agg #[.bool m.wide, .bool m.big]] W fun e w' => e = .returned (.int .i64 ((wdN m.wide : Nat) : Int)) ∧ Grow W w') := hid (fun W => dWord_any m.wide m.big W)
 have hpl : putL (v : Int) ((wdN m.wide : Nat) : Int) m.big = putB v (wdN m.wide) m.big := by
  unfold putL
  rw [wdN_wid, if_pos rfl]
  simp
 have HPt := hid (fun W => refPut_any (v : Int) ((wdN m.wide : Nat) : Int) m.big W (by omega) (by omega))
 rw [hpl] at HPt
 have hbl : (putB v (wdN m.wide) m.big).length = wdN m.wide := length_putB ..
 have h0 := wdN_pos m.wide
 have h8 := wdN_le m.wide
 have hcc := g1.cap
 have hcm := g1.max
 unfold maxLen at hcm
 obtain ⟨S1, hz0, hb1⟩ := gm.slices
 have hz1 := hz0.zs
 obtain ⟨b, off, hAA, hbb⟩ := g1.pos (by omega)
 subst hAA
 have hRl : i < (rowsOf sgK m.segs S1).length := by rw [rowsOf_len]; exact hi
 have HPos : Hid (∀ W, Grow w W → W.cell? ⟨b, off + i * 10 + 9, none⟩ = some (.slice (S1 i).1 (S1 i).2.1 (S1 i).2.2)) := hid fun W hW => by
  obtain ⟨b', off', e', hb', hc'⟩ := (hz1.belowAt hW (Nat.le_refl _)).pos (by omega)
  injection e' with e'
  injection e' with e1 e2
  subst e1; subst e2
  exact hc' i hRl 9 _ (by rw [rowsOf_at hRl hi]; rfl)
 have HZ := hid hz1
 have HOne : Hid (∀ r ∈ rowsOf sgK m.segs S1, r.all (·.oneCell') = true) := hid fun r hr => by
  obtain ⟨j, hj, rfl⟩ := List.getElem_of_mem hr
  rw [rowsOf_at hj (by simpa [rowsOf_len] using hj)]
  simp [sgK, sgC, sv, Value.oneCell']
 have HRb : Hid (RB w w.heap.size (S1 i).1 (S1 i).2.1 (S1 i).2.2 m.segs[i].pl.own) := hid ((hb1 i hi).elim (fun h => h.more hB) (fun h => h.rb))
 have hnk : (S1 i).2.1 = m.segs[i].pl.own.length := HRb.out.len
 have HFin : Hid (∀ W A c B5 n c5 (hw : Grow w W), ZO W w.heap.size 48 10 A n1 c ((rowsOf sgK m.segs S1).set i ((rowsOf sgK m.segs S1)[i].setIfInBounds 9 (.slice B5 n c5))) → OB W w.heap.size 5 B5 n c5 (putIn m.segs[i].pl.own p (putB v (wdN m.wide) m.big)) →
   GM sgK W B 48 A n1 c (m.setB i (putIn m.segs[i].pl.own p (putB v (wdN m.wide) m.big))).segs) := hid fun W A c B5 n c5 hw hz ho => by
  have e1 : m.segs.getD i sg0 = m.segs[i] := getD_at hi
  have hrow : (rowsOf sgK m.segs S1)[i].setIfInBounds 9 (.slice B5 n c5) = sgC (segB m.segs[i] (putIn m.segs[i].pl.own p (putB v (wdN m.wide) m.big))) (sv (B5, n, c5)) := by rw [rowsOf_at hRl hi]; rfl
  rw [hrow, show (rowsOf sgK m.segs S1).set i (sgC (segB m.segs[i] (putIn m.segs[i].pl.own p (putB v (wdN m.wide) m.big))) (sv (B5, n, c5))) = rowsOf sgK (m.segs.set i (segB m.segs[i] (putIn m.segs[i].pl.own p (putB v (wdN m.wide) m.big)))) (setS S1 i (B5, n, c5)) from rowsOf_set (K := sgK)] at hz
  unfold Md.setB
  rw [e1]
  refine ⟨_, hz.mono hB, rowsOf_len, fun j h1 h2 => ⟨_, _, _, rowsOf_at h1 h2, ?_⟩⟩
  by_cases hji : j = i
  ·subst hji
   simp only [setS, if_true, List.getElem_set_self]
   exact .inr (ho.mono hB)
  ·have hjL : j < m.segs.length := by simpa using h2
   simp only [setS, if_neg hji, List.getElem_set_ne (Ne.symm hji)]
   exact (hb1 j hjL).elim (fun h => .inl (h.belowAt hw hB)) (fun h => .inr (h.keep hw))
 have hRlen : (rowsOf sgK m.segs S1).length = n1 := by rw [rowsOf_len, hL]
 clear g1 gm hz0 hz1 hb1 hL hpl
 have HC2 : Hid (∀ b s1 s2, mdC (m.setB i b) s1 s2 = #[.bool m.wide, .bool m.big, .int .u8 (m.osabi : Nat), .int .u8 (m.abi : Nat), .int .u16 (m.typ : Nat), .int .u16 (m.mach : Nat), .int .u32 (m.flags : Nat), .int .u64 (m.entry : Nat), s1, s2, .int .i64 m.str]) := hid fun _ _ _ => rfl
 generalize hx : putB v (wdN m.wide) m.big = x at *
 clear hx
 generalize m.segs[i].pl.own = lo at *
 generalize rowsOf sgK m.segs S1 = RR at *
 unfold mdC at HC2 ⊢
 generalize wdN m.wide = wd at *
 generalize m.wide = f0 at *
 generalize m.big = f1 at *
 generalize m.osabi = f2 at *
 generalize m.abi = f3 at *
 generalize m.typ = f4 at *
 generalize m.mach = f5 at *
 generalize m.flags = f6 at *
 generalize m.entry = en at *
 generalize m.str = f10 at *
 generalize (S1 i).1 = Ak at *
 generalize (S1 i).2.1 = nk at *
 generalize (S1 i).2.2 = ck at *
 have HC3 := hid (HC2.out (putIn lo p x))
 rw [← hnk] at hp hb
 have HNk := hid hnk
 clear hnk
 clear HC2
 generalize m.setB i (putIn lo p x) = MD at *
 unfold Made at HPt
 rw [hbl] at HPt
 have HBl := hid hbl
 clear hbl
 go_enter Try.func27, Try.ntmps27
 go_wp2_with fail
 generalize hW : World.alloc _ _ = W0
 obtain ⟨b1, b2, hg0⟩ := blk2 hW
 clear hW
 obtain ⟨gm, hgm⟩ : ∃ g, g = w.heap.size := ⟨_, rfl⟩
 rw [← hgm] at b1 b2 ⊢
 have HNe : Hid (gm ≠ gm + 1 ∧ w.heap.size ≤ gm ∧ w.heap.size ≤ gm + 1) := hid (by omega)
 refine wp_region_chain [(0, true), (1, true), (2, true), (3, true), (5, true), (6, true), (7, true), (8, true), (4, false), (9, false), (10, true)] (by kernel_rfl) (by kernel_rfl) (by kernel_rfl) ?_
 have HB1 := hid b1.drew
 have HR1 := hid b2.drew
 have HG1 : Hid (Grow w W0.drew) := hid (hg0.trans (Grow.of_drew _))
 clear b1 b2 hg0 hgm
 generalize gm + 1 = gr at *
 generalize W0.drew = V0 at *
 have q1 : ∀ W, Grow V0 W → _ := fun W hW => (HB1.out.grow hW).c11
 repeat (first | (refine chain_take rfl (by rfl) ?_ (fun W hG => ?_) ?_; rotate_left; (obtain ⟨v0, v1, v2, v3, v4, v5, v6, v7, v8, v9, v10⟩ := q1 W hG; go_simp; rfl); simp only [Act.put, List.setIfInBounds_toArray, List.set_cons_zero, List.set_cons_succ]) | (refine chain_skip rfl (by rfl) ?_; simp only [Act.put, List.setIfInBounds_toArray, List.set_cons_zero, List.set_cons_succ]))
 clear q1
 refine chain_only rfl (by rfl) (fun K hK => ?_)
 go_simp
 refine (HWd.out V0).mono ?_
 rintro e v1 ⟨rfl, hg⟩
 refine hK _ _ hg ?_
 clear hK K
 have HB2 := hid (HB1.out.grow hg)
 have HR2 := hid (HR1.out.grow hg)
 have HG2 : Hid (Grow w v1) := hid (HG1.out.trans hg)
 clear hg HB1 HR1 HG1 HWd
 refine chain_only rfl (by rfl) (fun K hK => ?_)
 go_simp
 refine (HPt.out v1).mono ?_
 rintro e v2 ⟨Ax, cx, rfl, hox, hg⟩
 refine hK _ _ hg ?_
 clear hK K
 have HB3 := hid (HB2.out.grow hg)
 have HR3 := hid (HR2.out.grow hg)
 have HG3 : Hid (Grow w v2) := hid (HG2.out.trans hg)
 have HOx := hid (hox.mono HG2.out.size)
 clear hg hox HB2 HR2 HG2 HPt
 repeat (refine chain_take rfl (by rfl) ?_ (fun W hG => ?_) ?_; rotate_left; (go_simp; rfl); simp only [Act.put, List.setIfInBounds_toArray, List.set_cons_zero, List.set_cons_succ])
 refine chain_done ?_
 have y8 : ∀ o, (v2.alloc o).cell? ⟨gm, 8, none⟩ = some (.slice (some ⟨b, off, none⟩) n1 c1) := fun o => (HB3.out.alloc o).at 8
 have p9 : ∀ o, (v2.alloc o).cell? ⟨b, off + i * 10 + 9, none⟩ = some (.slice Ak nk ck) := fun o => HPos.out _ (HG3.out.trans (Grow.of_alloc _ _))
 have w0 : (0 : Int) ≤ (i : Int) := by omega
 have w1 : (i : Int) < (n1 : Int) := by omega
 have HO : Hid (OB (v2.alloc (.cells #[] 5)) v2.heap.size 5 (some ⟨v2.heap.size, 0, none⟩) 0 0 []) := hid (OB.of_blk (base := v2.heap.size) (l := []) (Blk.new v2 5 #[]) (Nat.le_refl _) (by decide))
 have HRk : Hid (RB (v2.alloc (.cells #[] 5)) w.heap.size Ak nk ck lo) := hid (HRb.out.belowAt (HG3.out.trans (Grow.of_alloc _ _)) (Nat.le_refl _))
 go_wp2_with (at_builtin; refine wpList_appendB _ rfl (.tmp 22) (.tmp 29) 44 rfl v2.heap.size 5 Try.underlying44 (by kernel_rfl) _ _ _ [] rfl HO.out w.heap.size _ nk ck lo rfl HRk.out (by omega) (Grow.of_alloc _ _).size ?_; intro A5 c5 w9 ho9 hb9; refine Hid.out ?_)
 have HJ : Hid (∃ g5, A5 = some ⟨g5, 0, none⟩ ∧ PJ w w9 gm gr #[.bool f0, .bool f1, .int .u8 (f2 : Nat), .int .u8 (f3 : Nat), .int .u16 (f4 : Nat), .int .u16 (f5 : Nat), .int .u32 (f6 : Nat), .int .u64 (en : Nat), .slice (some ⟨b, off, none⟩) n1 c1, .slice A2 n2 c2, .int .i64 f10] #[.bool false, .bool false, .int .u8 0, .int .u8 0, .int .u16 0, .int .u16 0, .int .u32 0, .int .u64 0, .slice none 0 0, .slice none 0 0, .int .i64 0] Ax wd cx x g5 nk c5 (putIn lo p (x.take 0))) := hid (by
  rw [Nat.zero_add, List.nil_append] at ho9
  obtain ⟨g5, e5, hg5⟩ := ho9.someP (by omega)
  subst e5
  have hgr : Grow v2 w9 := (Grow.of_alloc _ _).trans' hb9
  refine ⟨g5, rfl, HB3.out.grow hgr, HR3.out.grow hgr, HOx.out.keep hgr, ?_, fun he => ?_, HG3.out.trans hgr, Nat.le_trans HG3.out.size hg5⟩
  ·rw [List.take_zero, putIn_nil]
   exact ho9.mono HG3.out.size
  ·have := (HOx.out.from_ he).2
   omega)
 clear ho9 hb9 HO HRk y8 p9 HB3 HR3 HG3 HOx HRb
 obtain ⟨g5, rfl, hj⟩ := HJ.out
 have HJ1 := hid hj
 clear HJ hj
 refine hid ?_
 go_wp2_with fail
 go_loopw [11] (fun i wr => ∃ k : Nat, k ≤ wd ∧ i = .int .i64 k ∧ PJ w wr gm gr #[.bool f0, .bool f1, .int .u8 (f2 : Nat), .int .u8 (f3 : Nat), .int .u16 (f4 : Nat), .int .u16 (f5 : Nat), .int .u32 (f6 : Nat), .int .u64 (en : Nat), .slice (some ⟨b, off, none⟩) n1 c1, .slice A2 n2 c2, .int .i64 f10] #[.bool false, .bool false, .int .u8 0, .int .u8 0, .int .u16 0, .int .u16 0, .int .u32 0, .int .u64 0, .slice none 0 0, .slice none 0 0, .int .i64 0] Ax wd cx x g5 nk c5 (putIn lo p (x.take k))) (fun i _ => wd - (intOf i).toNat)
 case atStart => exact ⟨0, Nat.zero_le _, rfl, HJ1.out⟩
 case round =>
  obtain ⟨k, hk, rfl, hj⟩ := hrel
  have HJ2 := hid hj
  clear hj HJ1
  by_cases hlt : k < wd
  ·have hkx : k < x.length := by rw [HBl.out]; exact hlt
   have hlo : p + x.length ≤ lo.length := by rw [HBl.out, ← HNk.out]; exact hp
   obtain ⟨bx, ox, rfl, -, hcx⟩ := HJ2.out.x.rb.pos (by omega)
   have c1x : wr.cell? ⟨bx, ox + k, none⟩ = some (byt x[k]) := hcx k hkx
   obtain ⟨cs, hcs⟩ := HJ2.out.o.blk
   have hcs : Blk wr g5 5 cs := hcs
   have f1 := hcs.soft (p + k)
   obtain ⟨b5, o5, e5, -, hc5⟩ := HJ2.out.o.rb.pos (by omega)
   injection e5 with e5
   injection e5 with e6 e7
   subst e6; subst e7
   have hq : p + k < (putIn lo p (x.take k)).length := by rw [putIn_len (by rw [List.length_take]; omega)]; omega
   have c2x : ∃ v, wr.cell? ⟨g5, p + k, none⟩ = some v := ⟨_, by have := hc5 (p + k) hq; simpa using this⟩
   obtain ⟨v5, c2x⟩ := c2x
   have HJ3 := hid (HJ2.out.sto (p + k) x[k])
   have hst := putIn_step (l := lo) (p := p) (x := x) (k := k) hlo hkx
   rw [hst] at HJ3
   clear hst hq hc5 hcs hcx hlo
   unfold byt at c1x HJ3
   generalize x[k] = xk at *
   have w2 : (0 : Int) ≤ (k : Int) := by omega
   have w3 : (k : Int) < (wd : Int) := by omega
   have zk : IntKind.i64.wrap ((k : Int) + 1) = (k : Int) + 1 := by rw [IntKind.wrap_i64]; omega
   have zp : IntKind.i64.wrap ((p : Int) + (k : Int)) = ((p + k : Nat) : Int) := by rw [IntKind.wrap_i64]; omega
   have hpk : p + k < nk := by omega
   generalize p + k = q at *
   have w4 : (0 : Int) ≤ (q : Int) := by omega
   have w5 : (q : Int) < (nk : Int) := by omega
   go_wp2
   go_roundw
   case rel => exact ⟨k + 1, by omega, by go_num, HJ3.out⟩
   case measure => simp [intOf]; omega
  ·have e : k = wd := by omega
   subst e
   have htk : x.take k = x := List.take_of_length_le (by rw [HBl.out]; exact Nat.le_refl _)
   rw [htk] at HJ2
   clear htk HPos HBl
   have HO : Hid (ZO (wr.alloc (.cells #[] 48)) wr.heap.size 48 10 (some ⟨wr.heap.size, 0, none⟩) 0 0 []) := hid (ZO.room wr wr.heap.size 48 0 10 #[] (Nat.zero_le _) (Nat.le_refl _) (by simp))
   have HZr : Hid (ZS (wr.alloc (.cells #[] 48)) w.heap.size 10 (some ⟨b, off, none⟩) n1 c1 RR) := hid (HZ.out.belowAt (HJ2.out.gw.trans (Grow.of_alloc _ _)) (Nat.le_refl _))
   have y8 : ∀ o, (wr.alloc o).cell? ⟨gm, 8, none⟩ = some (.slice (some ⟨b, off, none⟩) n1 c1) := fun o => (HJ2.out.b.alloc o).at 8
   clear HZ
   go_wp2_with (at_builtin; refine wpList_appendZs (wr.alloc (.cells #[] 48)) rfl (.tmp 46) (.tmp 48) 29 rfl wr.heap.size 48 (.agg #[.int .u32 0, .int .u32 0, .int .u64 0, .int .u64 0, .int .u64 0, .int .u64 0, .int .i64 0, .int .u64 0, .int .u64 0, .slice none 0 0]) 10 88 Try.underlying29 (by kernel_rfl) rfl (by omega) _ 0 0 [] rfl HO.out w.heap.size ⟨b, off, none⟩ n1 c1 RR rfl HZr.out HOne.out (by unfold maxLen; omega) (by omega) (Grow.of_alloc _ _).size (by simp) ?_; intro A6 c6 w9 ho9 hb9; refine Hid.out ?_)
   rw [Nat.zero_add, List.nil_append] at ho9
   have hgr : Grow wr w9 := (Grow.of_alloc _ _).trans' hb9
   have hiR : i < RR.length := hRl
   obtain ⟨g6, cur, e6, hb6, hB6, -, -⟩ := ho9.openAt hiR
   subst e6
   have hB6' : w.heap.size ≤ g6 := Nat.le_trans HJ2.out.gw.size hB6
   have HK1 : Hid (PK w w9 gm gr #[.bool f0, .bool f1, .int .u8 (f2 : Nat), .int .u8 (f3 : Nat), .int .u16 (f4 : Nat), .int .u16 (f5 : Nat), .int .u32 (f6 : Nat), .int .u64 (en : Nat), .slice (some ⟨b, off, none⟩) n1 c1, .slice A2 n2 c2, .int .i64 f10] #[.bool false, .bool false, .int .u8 0, .int .u8 0, .int .u16 0, .int .u16 0, .int .u32 0, .int .u64 0, .slice none 0 0, .slice none 0 0, .int .i64 0] (some ⟨g6, 0, none⟩) n1 c6 RR (some ⟨g5, 0, none⟩) nk c5 (putIn lo p x)) := hid ⟨HJ2.out.b.grow hgr, HJ2.out.r.grow hgr, ho9.mono HJ2.out.gw.size, HJ2.out.o.keep hgr, HJ2.out.gw.trans hgr⟩
   have HK2 := hid (HK1.out.stoB HNe.out.1 HNe.out.2.1 8 (.slice (some ⟨g6, 0, none⟩) n1 c6))
   have hb7 : Blk (w9.setCell ⟨gm, 8, none⟩ (.slice (some ⟨g6, 0, none⟩) n1 c6)) g6 48 cur := hb6.cellset (hb6.apart HK1.out.b (by decide)) _
   have HK3 := hid (HK2.out.stoR (i := i) (p := 9) hb7 hiR (by decide) hB6' (.slice (some ⟨g5, 0, none⟩) nk c5))
   have y8 : w9.cell? ⟨gm, 8, none⟩ = some (.slice (some ⟨b, off, none⟩) n1 c1) := HK1.out.b.at 8
   have f8 := HK1.out.b.soft 8
   have z8 : (w9.setCell ⟨gm, 8, none⟩ (.slice (some ⟨g6, 0, none⟩) n1 c6)).cell? ⟨gm, 8, none⟩ = some (.slice (some ⟨g6, 0, none⟩) n1 c6) := HK2.out.b.at 8
   have f9 := hb7.soft (i * 10 + 9)
   have c9 : ∃ v, (w9.setCell ⟨gm, 8, none⟩ (.slice (some ⟨g6, 0, none⟩) n1 c6)).cell? ⟨g6, i * 10 + 9, none⟩ = some v := by
    obtain ⟨g6', cur', e7, hb8, -, hsz, -⟩ := HK2.out.s.openAt hiR
    injection e7 with e7
    injection e7 with e7
    subst e7
    exact ⟨_, (hb8.at (i * 10 + 9)).trans (Array.getElem?_eq_getElem (by omega))⟩
   obtain ⟨v9, c9⟩ := c9
   obtain ⟨m0, m1, m2, m3, m4, m5, m6, m7, m8, m9, m10⟩ := HK3.out.b.c11
   clear hb7 hb6 HK2 HK1 ho9 hb9 hgr HO HZr
   refine hid ?_
   go_wp2_with (first | (refine wpList_store_row rfl 32 (.tmp 8) (.tmp 58) rfl gr _ rfl rfl _ _ HK3.out.r (by kernel_rfl) rfl (by simp [Value.oneCell']) ?_) | fail)
   clear m0 m1 m2 m3 m4 m5 m6 m7 m8 m9 m10 y8 f8 z8 f9 c9
   have HD : ∀ V mc', PK w V gm gr mc' #[.bool false, .bool false, .int .u8 0, .int .u8 0, .int .u16 0, .int .u16 0, .int .u32 0, .int .u64 0, .slice none 0 0, .slice none 0 0, .int .i64 0] (some ⟨g6, 0, none⟩) n1 c6 (RR.set i (RR[i].setIfInBounds 9 (.slice (some ⟨g5, 0, none⟩) nk c5))) (some ⟨g5, 0, none⟩) nk c5 (putIn lo p x) → ∀ cs, GM sgK (V.setRow gr cs) B 48 (some ⟨g6, 0, none⟩) n1 c6 _ ∧ Grow w (V.setRow gr cs) := fun V mc' h cs => by
    have hgr : V.grownBy (V.setRow gr cs) (some gr) := ⟨rfl, rfl, rfl, by simp, fun j _ hj => setRow_other V gr j cs (fun e => hj (by rw [e]))⟩
    have hgw : Grow w (V.setRow gr cs) := h.gw.set HNe.out.2.2 _
    exact ⟨HFin.out _ _ _ _ _ _ hgw (h.s.past hgr (.inr (h.s.awayM h.r (by decide)))) (h.o.passed hgr (h.o.blkP h.r (by decide))), hgw⟩
   refine bodyPost_ret (results_cell_row rfl _ _ gr _ _ (0, 0) _ rfl (HK3.out.r.set _) Try.underlying32 rfl (by kernel_rfl)) rfl ?_
   exact ⟨some ⟨g6, 0, none⟩, c6, (congrArg (fun x => Ending.returned (Value.agg x)) (HC3.out _ _)).symm, HD _ _ HK3.out _⟩
set_option maxRecDepth 100000
set_option linter.unusedVariables false
def Md.mid (m : Md) (d : Nat) (Bs : List (List UInt8)) : Md := (m.moved d).withB Bs
section
variable {m : Md} {d : Nat} {Bs : List (List UInt8)}
theorem mid_len (h : Fit m Bs) : (m.mid d Bs).segs.length = m.segs.length := by
 unfold Md.mid
 rw [withB_len (h.moved d)]
 simp [Md.moved]
theorem mid_own (h : Fit m Bs) {i : Nat} (hi : i < m.segs.length) (hi' : i < (m.mid d Bs).segs.length) : (m.mid d Bs).segs[i].pl.own = Bs.getD i [] := by
 have h1 := withB_own (h.moved d) (i := i) (by simpa [Md.moved] using hi)
 rw [getD_at (show i < ((m.moved d).withB Bs).segs.length from hi')] at h1
 exact h1
theorem fit_len (h : Fit m Bs) {i : Nat} (hi : i < m.segs.length) : (Bs.getD i []).length = m.segs[i].pl.own.length := by
 have h2 : i < Bs.length := by rw [h.len]; exact hi
 rw [getD_B h2]
 exact h.each i h2 hi
theorem mid_set (h : Fit m Bs) {i : Nat} (hi : i < m.segs.length) (b : List UInt8) : (m.mid d Bs).setB i b = m.mid d (Bs.set i b) := withB_setB (h.moved d) (by simpa [Md.moved] using hi) b
end
theorem rr_put (m : Md) (hsm : m.Small) (d n1 n2 : Nat) (hn1 : n1 ≤ 65536) (Bs : List (List UInt8)) (hF : Fit m Bs) (i p v : Nat) (hi : i < m.segs.length) (hp : p + wdN m.wide ≤ m.segs[i].pl.own.length) (A : Option Addr) (c : Nat) (A5 : Option Addr) (c5 B : Nat) (W : World)
  (hg : GM sgK W B 48 A n1 c (m.mid d Bs).segs) (hB : B ≤ W.heap.size) :
  Calls Try.prog 27 #[.agg (mdC (m.moved d) (.slice A n1 c) (.slice A5 n2 c5)), .int .i64 (i : Int), .int .i64 (p : Int), .int .u64 ((v % 18446744073709551616 : Nat) : Int)] W fun e w' => ∃ A4 c4, e = .returned (.agg (mdC (m.moved d) (.slice A4 n1 c4) (.slice A5 n2 c5))) ∧ GM sgK w' B 48 A4 n1 c4 (m.mid d (m.putW Bs i p v)).segs ∧ Grow W w' := by
 have hi' : i < (m.mid d Bs).segs.length := by rw [mid_len hF]; exact hi
 have ho := mid_own (d := d) hF hi hi'
 have hl := fit_len hF hi
 have hs := hsm _ (List.getElem_mem hi)
 have key := rPut_any (m.mid d Bs) A A5 n1 c n2 c5 i p (v % 18446744073709551616) B W hg hB hi' (by rw [ho, hl]; exact hp) (Nat.mod_lt _ (by decide)) hn1 (by rw [ho, hl]; omega)
 rw [ho, mid_set hF hi] at key
 exact key
theorem rr_rel (m : Md) (hsm : m.Small) (d n1 n2 : Nat) (hn1 : n1 ≤ 65536) (Bs : List (List UInt8)) (hF : Fit m Bs) (r : Re) (hr : isRel m.mach r.ty = true) (i p : Nat) (hx : m.among r.off (wdN m.wide) = some (i, p)) :
  ∃ hi : i < (m.mid d Bs).segs.length, p + wdN m.wide ≤ (m.mid d Bs).segs[i].pl.own.length ∧ (m.mid d Bs).segs[i].pl.own.length ≤ 100000 ∧ ∀ A c A5 c5 B W, GM sgK W B 48 A n1 c (m.mid d Bs).segs → B ≤ W.heap.size →
   Calls Try.prog 27 #[.agg (mdC (m.moved d) (.slice A n1 c) (.slice A5 n2 c5)), .int .i64 (i : Int), .int .i64 (p : Int), .int .u64 (((getB (((m.mid d Bs).segs[i].pl.own.drop p).take (wdN m.wide)) m.big + d) % 18446744073709551616 : Nat) : Int)] W fun e w' => ∃ A4 c4, e = .returned (.agg (mdC (m.moved d) (.slice A4 n1 c4) (.slice A5 n2 c5))) ∧ GM sgK w' B 48 A4 n1 c4 (m.mid d (m.relStep d Bs r)).segs ∧ Grow W w' := by
 obtain ⟨hi, -, -, -, hp⟩ := m.among_some hx
 have hi' : i < (m.mid d Bs).segs.length := by rw [mid_len hF]; exact hi
 have ho := mid_own (d := d) hF hi hi'
 have hl := fit_len hF hi
 have hs := hsm _ (List.getElem_mem hi)
 refine ⟨hi', by rw [ho, hl]; exact hp, by rw [ho, hl]; exact hs, fun A c A5 c5 B W hg hB => ?_⟩
 have key := rr_put m hsm d n1 n2 hn1 Bs hF i p (wordAt Bs i p m.wide m.big + d) hi hp A c A5 c5 B W hg hB
 rw [ho]
 have e : m.relStep d Bs r = m.putW Bs i p (wordAt Bs i p m.wide m.big + d) := by
  unfold Md.relStep
  rw [hr, hx]
  rfl
 rw [e]
 exact key
theorem rr_none {m : Md} {d : Nat} {Bs : List (List UInt8)} {r : Re} (hx : m.among r.off (wdN m.wide) = none) : m.relStep d Bs r = Bs := by
 unfold Md.relStep
 rw [hx]
 split <;> rfl
theorem rr_ent (m : Md) (hsm : m.Small) (hck : m.chk = 0) (hin : m.dynP.inn ≠ -1) (d n1 n2 : Nat) (hn1 : n1 ≤ 65536) (Bs : List (List UInt8)) (hF : Fit m Bs) (k : Nat) (hk : k < m.ents.length) (e : Dy) (he : m.isAd e = true) (A : Option Addr) (c : Nat) (A5 : Option Addr) (c5 B : Nat) (W : World)
  (hg : GM sgK W B 48 A n1 c (m.mid d Bs).segs) (hB : B ≤ W.heap.size) :
  Calls Try.prog 27 #[.agg (mdC (m.moved d) (.slice A n1 c) (.slice A5 n2 c5)), .int .i64 m.dynP.inn, .int .i64 ((m.dynP.off + wdN m.wide * (2 * k + 1) : Nat) : Int), .int .u64 (((e.val + d) % 18446744073709551616 : Nat) : Int)] W fun e' w' => ∃ A4 c4, e' = .returned (.agg (mdC (m.moved d) (.slice A4 n1 c4) (.slice A5 n2 c5))) ∧ GM sgK w' B 48 A4 n1 c4 (m.mid d (m.entStep d Bs k e)).segs ∧ Grow W w' := by
 obtain ⟨hi, hI, -, hp⟩ := ent_room hck hin hk
 have key := rr_put m hsm d n1 n2 hn1 Bs hF m.dynP.inn.toNat (m.dynP.off + wdN m.wide * (2 * k + 1)) (e.val + d) hi hp A c A5 c5 B W hg hB
 have e1 : m.entStep d Bs k e = m.putW Bs m.dynP.inn.toNat (m.dynP.off + wdN m.wide * (2 * k + 1)) (e.val + d) := by
  unfold Md.entStep
  rw [he, if_pos rfl]
 rw [e1]
 rw [← hI] at key
 exact key
structure RJ (w W : World) (gm gr go : Nat) (mc zc oc : Array Value) (A : Option Addr) (n1 c : Nat) (L1 : List Sg) (A5 : Option Addr) (n2 c5 : Nat) (L2 : List Se) (Bs : Nat) : Prop where
 b : Blk W gm 32 mc
 r : Blk W gr 32 zc
 o : Blk W go 32 oc
 s : GM sgK W Bs 48 A n1 c L1
 t : GM seK W Bs 50 A5 n2 c5 L2
 gw : Grow w W
 bg : Bs ≤ go
 wg : w.heap.size ≤ go
section
variable {w W W' : World} {gm gr go : Nat} {mc zc oc : Array Value} {A : Option Addr} {n1 c : Nat} {L1 : List Sg} {A5 : Option Addr} {n2 c5 : Nat} {L2 : List Se} {Bs : Nat}
theorem RJ.bs (h : RJ w W gm gr go mc zc oc A n1 c L1 A5 n2 c5 L2 Bs) : Bs ≤ W.heap.size := Nat.le_trans h.bg (Nat.le_of_lt h.o.lt)
theorem RJ.grow (h : RJ w W gm gr go mc zc oc A n1 c L1 A5 n2 c5 L2 Bs) (hg : Grow W W') : RJ w W' gm gr go mc zc oc A n1 c L1 A5 n2 c5 L2 Bs :=
 ⟨h.b.grow hg, h.r.grow hg, h.o.grow hg, h.s.keep hg h.bs, h.t.keep hg h.bs, h.gw.trans hg, h.bg, h.wg⟩
theorem RJ.gone (g : Nat) (cs : Array Value) : W.grownBy (W.setRow g cs) (some g) := ⟨rfl, rfl, rfl, by simp, fun j _ hj => setRow_other W g j cs (fun e => hj (by rw [e]))⟩
theorem RJ.sto (h : RJ w W gm gr go mc zc oc A n1 c L1 A5 n2 c5 L2 Bs) (hm : go ≠ gm) (hr : go ≠ gr) {A' : Option Addr} {c' : Nat} {L1' : List Sg} (hs : GM sgK W Bs 48 A' n1 c' L1') (oc' : Array Value) :
  RJ w (W.setRow go oc') gm gr go mc zc oc' A' n1 c' L1' A5 n2 c5 L2 Bs :=
 ⟨h.b.byRowM (RJ.gone go oc') (fun e => hm (Option.some.inj e)), h.r.byRowM (RJ.gone go oc') (fun e => hr (Option.some.inj e)), h.o.set _, hs.past h.o (by decide) (by decide) (RJ.gone go oc') h.bg h.bs,
  h.t.past h.o (by decide) (by decide) (RJ.gone go oc') h.bg h.bs, h.gw.set h.wg _, h.bg, h.wg⟩
theorem RJ.row (h : RJ w W gm gr go mc zc oc A n1 c L1 A5 n2 c5 L2 Bs) (oc' : Array Value) {base : Nat} {e : TypeId} {z : Nat} {A8 : Option Addr} {n8 c8 : Nat} {R : List (Array Value)} (hz : ZO W base e z A8 n8 c8 R) (he : e ≠ 32) : ZO (W.setRow go oc') base e z A8 n8 c8 R := hz.past (RJ.gone go oc') (.inr (hz.awayM h.o he))
end
theorem refWithin_any (a n s : Int) (w : World) (ha : 0 ≤ a) (hn : 0 ≤ n) (hs : s ≤ 18446744073709551615) :
  Calls Try.prog 35 #[.int .u64 a, .int .u64 n, .int .u64 s] w fun e w' => e = .returned (.bool (wthn a n s)) ∧ w = w' := by
 by_cases h1 : a ≤ s
 ·have hd : 0 ≤ s - a := by omega
  by_cases h2 : n ≤ s - a
  ·have E := hid (show wthn a n s = true from decide_eq_true (by omega))
   go_enter Try.func35, Try.ntmps35
   go_wp2
   go_ret
   exact ⟨ret_bool E.out.symm, rfl⟩
  ·have E := hid (show wthn a n s = false from decide_eq_false (by omega))
   have h2' : decide (n ≤ s - a) = false := decide_eq_false h2
   go_enter Try.func35, Try.ntmps35
   go_wp2
   go_ret
   exact ⟨ret_bool E.out.symm, rfl⟩
 ·have E := hid (show wthn a n s = false from decide_eq_false (by omega))
  have h1' : decide (a ≤ s) = false := decide_eq_false h1
  go_enter Try.func35, Try.ntmps35
  go_wp2
  go_ret
  exact ⟨ret_bool E.out.symm, rfl⟩
set_option maxHeartbeats 2000000 in
theorem rPlace_any (m : Md) (A1 A2 : Option Addr) (n1 c1 n2 c2 : Nat) (p : Pl) (A : Option Addr) (n c : Nat) (w : World) (g1 : ZR sgK w w.heap.size A1 n1 c1 m.segs) (g : RB w w.heap.size A n c p.own) :
  Calls Try.prog 14 #[.agg (mdC m (.slice A1 n1 c1) (.slice A2 n2 c2)), .agg (plC p (.slice A n c))] w fun e w' => e = .returned (.bool (m.may p)) ∧ Grow w w' := by
 have hn : n = p.own.length := g.len
 have hnm : n ≤ maxLen := Nat.le_trans g.cap g.max
 unfold maxLen at hnm
 have z : IntKind.u64.wrap (n : Int) = (n : Int) := by rw [IntKind.wrap_u64]; omega
 by_cases h0 : p.inn = -1
 ·rw [may_own h0]
  have E := hid (show p.ownMay = (decide (p.off = 0) && decide (p.size = n)) by rw [hn]; rfl)
  unfold plC mdC
  rw [h0]
  generalize p.ownMay = R at E ⊢
  generalize p.off = a at E ⊢
  generalize p.size = b at E ⊢
  clear hn hnm h0 g
  by_cases ha : a = 0
  ·subst ha
   go_enter Try.func14, Try.ntmps14
   go_wp2
   go_ret
   exact ⟨ret_bool (by rw [E.out, Bool.eq_iff_iff]; simp; try omega), (Grow.of_alloc _ _).trans (Grow.of_alloc _ _)⟩
  ·have e0 : ((a : Int) == 0) = false := by simp [ha]
   have E2 := hid (show (decide (a = 0) && decide (b = n)) = false by simp [ha])
   clear ha
   go_enter Try.func14, Try.ntmps14
   go_wp2
   go_ret
   exact ⟨ret_bool (by rw [E.out, E2.out]), (Grow.of_alloc _ _).trans (Grow.of_alloc _ _)⟩
 ·have hl := g1.len
  rw [may_in h0, ← hl]
  obtain ⟨x0, x1, x2, x3, x4, x5, x6, x7, x9, x10, hC⟩ := mdC_cells m (.slice A1 n1 c1) (.slice A2 n2 c2)
  rw [hC]
  clear hC
  have Hi : (p.inn == -1) = false := by simpa using h0
  cases hs : isSegN n1 p.inn with
  | false =>
   have HQ : Hid (p.inn < 0 ∨ (n1 : Int) ≤ p.inn) := by
    refine hid ?_
    unfold isSegN at hs
    simp at hs
    omega
   clear hs h0 hl hn hnm g g1
   simp only [Bool.false_and]
   unfold plC
   generalize p.inn = i at Hi HQ ⊢
   by_cases hneg : i < 0
   ·have d1 : decide (i < 0) = true := decide_eq_true hneg
    clear hneg
    go_enter Try.func14, Try.ntmps14
    go_wp2
    go_ret
    exact ⟨rfl, (Grow.of_alloc _ _).trans (Grow.of_alloc _ _)⟩
   ·have d1 : decide (i < 0) = false := decide_eq_false hneg
    have d2 : decide ((n1 : Int) ≤ i) = true := decide_eq_true (by have := HQ.out; omega)
    clear hneg
    go_enter Try.func14, Try.ntmps14
    go_wp2
    go_ret
    exact ⟨rfl, (Grow.of_alloc _ _).trans (Grow.of_alloc _ _)⟩
  | true =>
   obtain ⟨k, hk, hkl⟩ := isSegN_true hs
   rw [hl] at hkl
   rw [hk, m.seg_nat k hkl]
   obtain ⟨b, off, rfl, hb⟩ := g1.pos (by rw [g1.len]; omega)
   obtain ⟨Ak, nk, ck, -, hcell, gk⟩ := g1.at hkl
   have hcell' : ∀ i v, (sgC m.segs[k] (.slice Ak nk ck))[i]? = some v → w.cell? ⟨b, off + k * 10 + i, none⟩ = some v := hcell
   have hnk : m.segs[k].pl.own.length = nk := gk.len.symm
   have hnkm : nk ≤ maxLen := Nat.le_trans gk.cap gk.max
   unfold maxLen at hnkm
   have hkn : k < n1 := by rw [g1.len]; exact hkl
   have hn1m := g1.cap
   have hn1m' := g1.max
   unfold maxLen at hn1m'
   have HWi := hid (fun w => refWithin_any (p.off : Int) (p.size : Int) (nk : Int) w (by omega) (by omega) (by omega))
   have E := hid (show p.inMay nk = (decide (n = 0) && decide (0 < p.size) && wthn (p.off : Int) (p.size : Int) (nk : Int)) by
    rw [hn]
    unfold Pl.inMay Pl.within wthn
    congr 1
    rw [Bool.eq_iff_iff, decide_eq_true_iff, decide_eq_true_iff]
    omega)
   rw [hnk]
   have e0 : ((k : Int) == -1) = false := by simp
   have z2 : IntKind.u64.wrap (nk : Int) = (nk : Int) := by rw [IntKind.wrap_u64]; omega
   have d1 : decide ((k : Int) < 0) = false := decide_eq_false (by omega)
   have d2 : decide ((n1 : Int) ≤ (k : Int)) = false := decide_eq_false (by omega)
   rw [Bool.true_and]
   unfold plC
   unfold sgC at hcell'
   rw [hk]
   generalize m.segs[k] = s at hcell' ⊢
   have t0 : w.cell? ⟨b, off + k * 10, none⟩ = _ := hcell' 0 _ rfl
   have t1 := hcell' 1 _ rfl
   have t2 := hcell' 2 _ rfl
   have t3 := hcell' 3 _ rfl
   have t4 := hcell' 4 _ rfl
   have t5 := hcell' 5 _ rfl
   have t6 := hcell' 6 _ rfl
   have t7 := hcell' 7 _ rfl
   have t8 := hcell' 8 _ rfl
   have t9 := hcell' 9 _ rfl
   generalize wthn (p.off : Int) (p.size : Int) (nk : Int) = V at E HWi
   generalize p.inMay nk = R at E ⊢
   generalize p.off = po at HWi ⊢
   generalize p.size = ps at E HWi ⊢
   generalize s.typ = ty at t0 ⊢
   clear hcell hcell' gk hnk hs hk hkl h0 g1 g hl hn hnm Hi
   have d2' : decide (n1 ≤ k) = false := decide_eq_false (by omega)
   have hal : Grow w ((w.alloc (.cells #[x0, x1, x2, x3, x4, x5, x6, x7, .slice (some ⟨b, off, none⟩) n1 c1, x9, x10] 32)).alloc (.cells #[.int .i64 (k : Int), .int .u64 (po : Nat), .int .u64 (ps : Nat), .slice A n c] 46)) := (blk2 rfl).2.2
   have hc2 : ∀ i v, w.cell? ⟨b, i, none⟩ = some v → ((w.alloc (.cells #[x0, x1, x2, x3, x4, x5, x6, x7, .slice (some ⟨b, off, none⟩) n1 c1, x9, x10] 32)).alloc (.cells #[.int .i64 (k : Int), .int .u64 (po : Nat), .int .u64 (ps : Nat), .slice A n c] 46)).cell? ⟨b, i, none⟩ = some v := fun i v h => (Below.cell hal hb).trans h
   replace t0 := hc2 _ _ t0
   replace t1 := hc2 _ _ t1
   replace t2 := hc2 _ _ t2
   replace t3 := hc2 _ _ t3
   replace t4 := hc2 _ _ t4
   replace t5 := hc2 _ _ t5
   replace t6 := hc2 _ _ t6
   replace t7 := hc2 _ _ t7
   replace t8 := hc2 _ _ t8
   replace t9 := hc2 _ _ t9
   clear hb hal hc2
   go_enter Try.func14, Try.ntmps14
   go_wp2_with fail
   clear t0 t1 t2 t3 t4 t5 t6 t7 t8 t9
   generalize hW : World.alloc _ _ = W1
   obtain ⟨b1, b2, b3, hg1⟩ := blk3 hW
   clear hW
   have HG1 : Hid (Grow w W1) := hg1
   have y1 := b2.at 1
   have y2 := b2.at 2
   have y3 := b2.at 3
   have v0 := b3.at 0
   have v9 := b3.at 9
   clear hg1 b1 b2 b3
   refine (HWi.out _).mono ?_
   rintro e w1 ⟨rfl, rfl⟩
   by_cases ht : ty = 1
   ·have e1 : ((ty : Int) == 1) = true := by simp [ht]
    have E1 := hid (show decide (ty = 1) = true by simp [ht])
    clear ht
    by_cases hn0 : n = 0
    ·have e3 : ((n : Int) == 0) = true := by simp [hn0]
     by_cases hp0 : 0 < ps
     ·have e4 : decide ((1 : Int) ≤ (ps : Int)) = true := decide_eq_true (by omega)
      have e4' : decide (1 ≤ ps) = true := decide_eq_true (by omega)
      have E2 := hid (show R = V by rw [E.out]; simp [hp0, hn0])
      clear hn0 hp0
      go_wp2
      go_ret
      exact ⟨ret_bool (by rw [E1.out, Bool.true_and, E2.out]), HG1.out⟩
     ·have e4 : decide ((1 : Int) ≤ (ps : Int)) = false := decide_eq_false (by omega)
      have e4' : decide (1 ≤ ps) = false := decide_eq_false (by omega)
      have E2 := hid (show R = false by rw [E.out]; simp [hp0])
      clear hn0 hp0
      go_wp2
      go_ret
      exact ⟨ret_bool (by rw [E1.out, Bool.true_and, E2.out]), HG1.out⟩
    ·have e3 : ((n : Int) == 0) = false := by simp; omega
     have E2 := hid (show R = false by rw [E.out]; simp [hn0])
     clear hn0
     go_wp2
     go_ret
     exact ⟨ret_bool (by rw [E1.out, Bool.true_and, E2.out]), HG1.out⟩
   ·have e1 : ((ty : Int) == 1) = false := by simp; omega
    have E1 := hid (show decide (ty = 1) = false by simp [ht])
    clear ht
    go_wp2
    go_ret
    exact ⟨ret_bool (by rw [E1.out, Bool.false_and]), HG1.out⟩
end Go.Proofs.Ytfpihkbpelbcbaa
