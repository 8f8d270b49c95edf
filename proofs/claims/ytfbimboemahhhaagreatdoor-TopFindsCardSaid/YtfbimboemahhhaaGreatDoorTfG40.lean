/-
  Several texts in one: The walk of TopFinds, part 4; The walk of TopFinds, part 5; The walk of TopFinds, part 6.
-/
import Derived.Test.YtfbimboemahhhaaGreatDoorTfG38
import Derived.Test.YtfbimboemahhhaaGreatDoorTfG39
namespace Go.Proofs.YtfbimboemahhhaaGreatDoor
open Go.Lib (hid)
open Go.RowKit
set_option maxRecDepth 100000
set_option linter.unusedVariables false
theorem zo_away {w : World} {base : Nat} {e t : TypeId} {z : Nat} {A : Option Addr} {n c g : Nat} {l : List (Array Value)} {cs : Array Value} (h : ZO w base e z A n c l) (hb : Blk w g t cs) (ht : e ≠ t) : own A ≠ some g := fun hA => by
 rcases h.1.2 with ⟨hv, _⟩ | ⟨g', cap, cur, hv, _, hh, _⟩
 ·injection hv with e1 _ _
  subst e1
  cases hA
 ·injection hv with e1 _ _
  subst e1
  have e3 : g' = g := Option.some.inj hA
  subst e3
  rw [hb] at hh
  injection hh with hh
  injection hh with _ hh
  exact ht hh.symm
theorem gm_snoc {α : Type} {K : RK α} {w w' : World} {B : Nat} {e : TypeId} {A : Option Addr} {k c : Nat} {L : List α} {a : α} {r : Array Value} {A2 : Option Addr} {c2 : Nat} {R : List (Array Value)} (h1 : ZO w B e K.z A k c R) (h2 : R.length = L.length) (h3 : ∀ j (h : j < R.length) (h' : j < L.length), RM K w B R[j] L[j]) (hr : RM K w B r a) (hu : 5 ≠ e) (hs : B ≤ w.heap.size)
  (ho : ZO w' B e K.z A2 (k + 1) c2 (R ++ [r])) (hg : w.grownBy w' (own A)) : GM K w' B e A2 (k + 1) c2 (L ++ [a]) := by
 have key : ∀ {r : Array Value} {a : α}, RM K w B r a → RM K w' B r a := fun h => by
  obtain ⟨A, n, c, e1, h4⟩ := h
  refine ⟨A, n, c, e1, ?_⟩
  rcases h4 with h4 | h4
  ·exact .inl (h4.belowAt ((Below.refl B w).grown hg hs fun q hq => h1.ge hq) (Nat.le_refl _))
  ·exact .inr (h4.passed hg (h4.kindNe h1 hu))
 refine ⟨R ++ [r], ho, by simp [h2], fun j h h' => ?_⟩
 by_cases hj : j < R.length
 ·have hj' : j < L.length := by rw [← h2]; exact hj
  rw [List.getElem_append_left hj, List.getElem_append_left hj']
  exact key (h3 j hj hj')
 ·have e1 : j = R.length := by simp at h; omega
  subst e1
  have hl : L.length ≤ R.length := by rw [h2]; exact Nat.le_refl _
  rw [List.getElem_append_right (Nat.le_refl _), List.getElem_append_right hl]
  simpa using key hr
structure TS (w0 W : World) (gx : Nat) (wide big : Bool) (A : Option Addr) (k c : Nat) (L : List Se) : Prop where
 x : Blk W gx 51 #[.bool wide, .bool big, .int .u8 0, .int .u8 0, .int .u16 0, .int .u16 0, .int .u32 0, .int .u64 0, .slice none 0 0, .slice A k c, .int .i64 0]
 s : GM seK W w0.heap.size 57 A k c L
 g : Grow w0 W
theorem TS.app {w0 W W' : World} {gx : Nat} {wide big : Bool} {A : Option Addr} {k c : Nat} {L : List Se} (h : TS w0 W gx wide big A k c L) {R : List (Array Value)} (h1 : ZO W w0.heap.size 57 13 A k c R) (h2 : R.length = L.length) (h3 : ∀ j (h : j < R.length) (h' : j < L.length), RM seK W w0.heap.size R[j] L[j]) {r : Array Value} {a : Se} {A2 : Option Addr} {c2 : Nat} (hr : RM seK W w0.heap.size r a)
  (ho : ZO W' w0.heap.size 57 13 A2 (k + 1) c2 (R ++ [r])) (hg : W.grownBy W' (own A)) (hx : w0.heap.size ≤ gx) : Blk W' gx 51 #[.bool wide, .bool big, .int .u8 0, .int .u8 0, .int .u16 0, .int .u16 0, .int .u32 0, .int .u64 0, .slice none 0 0, .slice A k c, .int .i64 0] ∧ TS w0 (W'.setCell ⟨gx, 9, none⟩ (.slice A2 (k + 1) c2)) gx wide big A2 (k + 1) c2 (L ++ [a]) := by
 have hb : Blk W' gx 51 #[.bool wide, .bool big, .int .u8 0, .int .u8 0, .int .u16 0, .int .u16 0, .int .u32 0, .int .u64 0, .slice none 0 0, .slice A k c, .int .i64 0] := by
  rw [Blk, hg.block gx h.x.lt (fun e => zo_away h1 h.x (by decide) e.symm)]
  exact h.x
 have hs := gm_snoc h1 h2 h3 hr (by decide) h.g.size ho hg
 have hG : Grow w0 W' := Below.trans h.g ((Below.refl _ _).grown hg h.g.size fun q hq => h1.ge hq)
 have e9 := setCell_eq_setRow W' gx 9 _ 51 (0, 0) (.slice A2 (k + 1) c2) hb
 exact ⟨hb, by rw [e9]; exact hb.set _, hs.past hb (by decide) (by decide) ⟨rfl, rfl, rfl, by simp, fun k _ hk => Deep.blk_setCell_other _ _ _ _ (fun e => hk (by rw [e]))⟩ hx hG.size, hG.cellset hx _ _⟩
theorem TS.grow {w0 W W' : World} {gx : Nat} {wide big : Bool} {A : Option Addr} {k c : Nat} {L : List Se} (h : TS w0 W gx wide big A k c L) (hg : Grow W W') : TS w0 W' gx wide big A k c L := ⟨h.x.grow hg, h.s.keep hg h.g.size, h.g.trans hg⟩
set_option maxHeartbeats 8000000 in
theorem tf_4 (n : Nat) (L : List Bs) (wide big : Bool) (S : ByteArray) (w : World) (hn : n ≤ 30) (hl : n = L.length) (he : ∀ s ∈ L, s.length ≤ 100)
  (H : ∀ a W, J19 L n wide big S w a W → TfW w 19 a W) : ∀ a W, J17 L n wide big S w a W → TfW w 17 a W := by
 rintro a W ⟨gf, b, f, A3, c3, An, cn, Ab, cb, At, ct, hf, hb, hg, ho, hz, h12, hss, h14, hrn, h21, hrb, h19, hrt⟩
 obtain ⟨tv, rfl⟩ := tf_frame a hf.size hf.defers
 have hv12 : tv 12 = .slice A3 (n + 1) c3 := h12
 have hv14 : tv 14 = .slice An (nmT L n f).length cn := h14
 have hv21 : tv 21 = .slice Ab (symT L n wide big f).length cb := h21
 have hv19 : tv 19 = .slice At (tblT L wide big b f).B.length ct := h19
 have hv3 : tv 3 = .string S := hf.t3
 have hv4 : tv 4 = .pointer (some ⟨gf, 0, none⟩) := hf.t4
 have hv9 : tv 9 = .bool true := hf.t9
 unfold TfW
 rw [hv12, hv14, hv21, hv19, hv3, hv4, hv9]
 clear hv12 hv14 hv21 hv19 hv3 hv4 hv9 hf
 clear h12 h14 h21 h19
 have HJ : Hid (∀ gx A2 c2 a W, TfF gf S a → Blk W gf 23 #[.bool wide, .bool big] → Grow w W → a.tmps.getD 12 undef = .slice A3 (n + 1) c3 → SS W W.heap.size A3 (n + 1) c3 (allT L f n) →
  a.tmps.getD 23 undef = .pointer (some ⟨gx, 0, none⟩) → Blk W gx 51 #[.bool wide, .bool big, .int .u8 0, .int .u8 0, .int .u16 0, .int .u16 0, .int .u32 0, .int .u64 0, .slice none 0 0, .slice A2 3 c2, .int .i64 0] → ZR seK W W.heap.size A2 3 c2 [seT 3 (nmT L n f), seT 11 (symT L n wide big f), seT 1879048182 (tblT L wide big b f).B] → TfW w 19 a W) :=
  hid fun gx A2 c2 a W k1 k2 k3 k4 k5 k6 k7 k8 => H a W ⟨gf, b, f, A3, c3, gx, A2, c2, k1, k2, k3, ho, hz, k4, k5, k6, k7, k8⟩
 have HF1 := hid hb
 have HG1 := hid hg
 have HS1 := hid hss
 have HR0 := hid hrn
 have HR1 := hid hrb
 have HR2 := hid hrt
 have mx0 := hrn.max
 have mc0 := hrn.cap
 have mx1 := hrb.max
 have mc1 := hrb.cap
 have mx2 := hrt.max
 have mc2 := hrt.cap
 unfold maxLen at mx0 mx1 mx2
 clear hb hg hss hrn hrb hrt H ho hz he hl
 generalize allT L f n = all at *
 generalize nmT L n f = l0 at *
 generalize symT L n wide big f = l1 at *
 generalize (tblT L wide big b f).B = l2 at *
 have E0 : Hid (∀ A c, (#[.int .u32 0, .int .u32 3, .int .u64 2, .int .u64 0, .int .u64 (l0.length : Nat), .int .u32 1, .int .u32 0, .int .u64 0, .int .u64 0, .int .i64 (-1), .int .u64 0, .int .u64 (l0.length : Nat), .slice A l0.length c] : Array Value) = seC (seT 3 l0) (.slice A l0.length c)) := hid fun _ _ => rfl
 have E1 : Hid (∀ A c, (#[.int .u32 0, .int .u32 11, .int .u64 2, .int .u64 0, .int .u64 (l1.length : Nat), .int .u32 1, .int .u32 0, .int .u64 0, .int .u64 0, .int .i64 (-1), .int .u64 0, .int .u64 (l1.length : Nat), .slice A l1.length c] : Array Value) = seC (seT 11 l1) (.slice A l1.length c)) := hid fun _ _ => rfl
 have E2 : Hid (∀ A c, (#[.int .u32 0, .int .u32 1879048182, .int .u64 2, .int .u64 0, .int .u64 (l2.length : Nat), .int .u32 1, .int .u32 0, .int .u64 0, .int .u64 0, .int .i64 (-1), .int .u64 0, .int .u64 (l2.length : Nat), .slice A l2.length c] : Array Value) = seC (seT 1879048182 l2) (.slice A l2.length c)) := hid fun _ _ => rfl
 have O0 : Hid ((seT 3 l0).pl.own = l0) := hid rfl
 have O1 : Hid ((seT 11 l1).pl.own = l1) := hid rfl
 have O2 : Hid ((seT 1879048182 l2).pl.own = l2) := hid rfl
 generalize seT 3 l0 = s0 at *
 generalize seT 11 l1 = s1 at *
 generalize seT 1879048182 l2 = s2 at *
 generalize l0.length = q0 at *
 generalize l1.length = q1 at *
 generalize l2.length = q2 at *
 have zq0 : IntKind.u64.wrap (q0 : Int) = (q0 : Int) := by rw [IntKind.wrap_u64]; omega
 have zq1 : IntKind.u64.wrap (q1 : Int) = (q1 : Int) := by rw [IntKind.wrap_u64]; omega
 have zq2 : IntKind.u64.wrap (q2 : Int) = (q2 : Int) := by rw [IntKind.wrap_u64]; omega
 conv => arg 2; whnf
 apply wp_seq_k
 intro K hK
 have HK := hid hK
 clear hK
 obtain ⟨f0, f1⟩ := HF1.out.c2
 go_wp2
 clear f0 f1
 generalize hW : World.alloc _ _ = W0
 obtain ⟨bx, hg⟩ := blk1 hW
 clear hW
 have HT0 : Hid (TS W W0 W.heap.size wide big none 0 0 []) := hid ⟨bx, ⟨[], ZO.nil, rfl, fun j h => absurd h (by simp)⟩, hg⟩
 have HXl : Hid (W.heap.size ≤ W.heap.size) := hid (Nat.le_refl _)
 obtain ⟨gx, hgx⟩ : ∃ g, g = W.heap.size := ⟨_, rfl⟩
 have HX : Hid (W.heap.size ≤ gx) := hid (by omega)
 rw [← hgx] at HT0 ⊢
 clear hgx HXl bx hg
 apply HK.out
 clear HK
 clear K
 apply wp_seq_k
 intro K hK
 have HK := hid hK
 clear hK
 go_wp2_with fail
 go_loopw [24] (fun i wr => ∃ (k : Nat) (A : Option Addr) (c : Nat), k ≤ 3 ∧ i = .int .i64 k ∧ TS W wr gx wide big A k c ([s0, s1, s2].take k)) (fun i _ => 3 - (intOf i).toNat)
 case atStart => exact ⟨0, none, 0, Nat.zero_le _, rfl, HT0.out⟩
 case round =>
  obtain ⟨k, A, c, hk, rfl, ht⟩ := hrel
  have HT := hid ht
  clear ht HT0
  by_cases hlt : k < 3
  ·obtain ⟨R, h1, h2, h3⟩ := HT.out.s
   have H1 := hid h1
   have H2 := hid h2
   have H3 := hid h3
   have o9 : ∀ o1 o2, ((wr.alloc o1).alloc o2).cell? ⟨gx, 9, none⟩ = some (.slice A k c) := fun o1 o2 => ((HT.out.x.alloc o1).alloc o2).at 9
   clear h1 h2 h3
   have hcs : k = 0 ∨ k = 1 ∨ k = 2 := by omega
   rcases hcs with rfl | rfl | rfl
   ·have ek : ((0 : Nat) : Int) = 0 := rfl
    rw [ek]
    clear ek hk hlt
    go_wp2_with (at_builtin; refine wpList_appendZ _ rfl (.tmp 176) (.tmp 187) 49 rfl W.heap.size 57 (.agg #[.int .u32 0, .int .u32 0, .int .u64 0, .int .u64 0, .int .u64 0, .int .u32 0, .int .u32 0, .int .u64 0, .int .u64 0, .int .i64 0, .int .u64 0, .int .u64 0, .slice none 0 0]) 13 104 Tryz.underlying49 (by kernel_rfl) rfl (by omega) A 0 c R rfl (H1.out.keep (((Grow.of_alloc _ _).trans (Grow.of_alloc _ _)).trans (Grow.of_alloc _ _))) _ _ #[.int .u32 0, .int .u32 3, .int .u64 2, .int .u64 0, .int .u64 (q0 : Nat), .int .u32 1, .int .u32 0, .int .u64 0, .int .u64 0, .int .i64 (-1), .int .u64 0, .int .u64 (q0 : Nat), .slice An q0 cn] rfl (blk3 rfl).2.2.1 rfl (by simp [Value.oneCell']) (by unfold maxLen; omega) (by omega) (HT.out.g.trans (((Grow.of_alloc _ _).trans (Grow.of_alloc _ _)).trans (Grow.of_alloc _ _))).size ?_; intro A5 c5 w9 ho9 hg9 _; refine Hid.out ?_)
    have hap := (HT.out.grow (((Grow.of_alloc _ _).trans (Grow.of_alloc _ _)).trans (Grow.of_alloc _ _))).app (H1.out.keep (((Grow.of_alloc _ _).trans (Grow.of_alloc _ _)).trans (Grow.of_alloc _ _))) H2.out (fun j h h' => (H3.out j h h').keep (((Grow.of_alloc _ _).trans (Grow.of_alloc _ _)).trans (Grow.of_alloc _ _)) HT.out.g.size) (a := s0) ⟨An, q0, cn, E0.out An cn, .inl (show RB _ _ _ _ _ s0.pl.own by rw [O0.out]; exact HR0.out.belowAt (HT.out.g.trans (((Grow.of_alloc _ _).trans (Grow.of_alloc _ _)).trans (Grow.of_alloc _ _))) (Nat.le_refl _))⟩ ho9 hg9 HX.out
    have HA1 := hid hap.1
    have HA2 := hid hap.2
    clear hap ho9 hg9 HT H1 H2 H3 o9
    have c9 : w9.cell? ⟨gx, 9, none⟩ = some (.slice A 0 c) := HA1.out.at 9
    have s9 := HA1.out.soft 9
    refine hid ?_
    go_wp2
    go_roundw
    case rel => exact ⟨1, A5, c5, by omega, by first | rfl | go_num | simp, HA2.out⟩
    case measure => simp [intOf]
   ·have ek : ((1 : Nat) : Int) = 1 := rfl
    rw [ek]
    clear ek hk hlt
    go_wp2_with (at_builtin; refine wpList_appendZ _ rfl (.tmp 176) (.tmp 187) 49 rfl W.heap.size 57 (.agg #[.int .u32 0, .int .u32 0, .int .u64 0, .int .u64 0, .int .u64 0, .int .u32 0, .int .u32 0, .int .u64 0, .int .u64 0, .int .i64 0, .int .u64 0, .int .u64 0, .slice none 0 0]) 13 104 Tryz.underlying49 (by kernel_rfl) rfl (by omega) A 1 c R rfl (H1.out.keep (((Grow.of_alloc _ _).trans (Grow.of_alloc _ _)).trans (Grow.of_alloc _ _))) _ _ #[.int .u32 0, .int .u32 11, .int .u64 2, .int .u64 0, .int .u64 (q1 : Nat), .int .u32 1, .int .u32 0, .int .u64 0, .int .u64 0, .int .i64 (-1), .int .u64 0, .int .u64 (q1 : Nat), .slice Ab q1 cb] rfl (blk3 rfl).2.2.1 rfl (by simp [Value.oneCell']) (by unfold maxLen; omega) (by omega) (HT.out.g.trans (((Grow.of_alloc _ _).trans (Grow.of_alloc _ _)).trans (Grow.of_alloc _ _))).size ?_; intro A5 c5 w9 ho9 hg9 _; refine Hid.out ?_)
    have hap := (HT.out.grow (((Grow.of_alloc _ _).trans (Grow.of_alloc _ _)).trans (Grow.of_alloc _ _))).app (H1.out.keep (((Grow.of_alloc _ _).trans (Grow.of_alloc _ _)).trans (Grow.of_alloc _ _))) H2.out (fun j h h' => (H3.out j h h').keep (((Grow.of_alloc _ _).trans (Grow.of_alloc _ _)).trans (Grow.of_alloc _ _)) HT.out.g.size) (a := s1) ⟨Ab, q1, cb, E1.out Ab cb, .inl (show RB _ _ _ _ _ s1.pl.own by rw [O1.out]; exact HR1.out.belowAt (HT.out.g.trans (((Grow.of_alloc _ _).trans (Grow.of_alloc _ _)).trans (Grow.of_alloc _ _))) (Nat.le_refl _))⟩ ho9 hg9 HX.out
    have HA1 := hid hap.1
    have HA2 := hid hap.2
    clear hap ho9 hg9 HT H1 H2 H3 o9
    have c9 : w9.cell? ⟨gx, 9, none⟩ = some (.slice A 1 c) := HA1.out.at 9
    have s9 := HA1.out.soft 9
    refine hid ?_
    go_wp2
    go_roundw
    case rel => exact ⟨2, A5, c5, by omega, by first | rfl | go_num | simp, HA2.out⟩
    case measure => simp [intOf]
   ·have ek : ((2 : Nat) : Int) = 2 := rfl
    rw [ek]
    clear ek hk hlt
    go_wp2_with (at_builtin; refine wpList_appendZ _ rfl (.tmp 176) (.tmp 187) 49 rfl W.heap.size 57 (.agg #[.int .u32 0, .int .u32 0, .int .u64 0, .int .u64 0, .int .u64 0, .int .u32 0, .int .u32 0, .int .u64 0, .int .u64 0, .int .i64 0, .int .u64 0, .int .u64 0, .slice none 0 0]) 13 104 Tryz.underlying49 (by kernel_rfl) rfl (by omega) A 2 c R rfl (H1.out.keep (((Grow.of_alloc _ _).trans (Grow.of_alloc _ _)).trans (Grow.of_alloc _ _))) _ _ #[.int .u32 0, .int .u32 1879048182, .int .u64 2, .int .u64 0, .int .u64 (q2 : Nat), .int .u32 1, .int .u32 0, .int .u64 0, .int .u64 0, .int .i64 (-1), .int .u64 0, .int .u64 (q2 : Nat), .slice At q2 ct] rfl (blk3 rfl).2.2.1 rfl (by simp [Value.oneCell']) (by unfold maxLen; omega) (by omega) (HT.out.g.trans (((Grow.of_alloc _ _).trans (Grow.of_alloc _ _)).trans (Grow.of_alloc _ _))).size ?_; intro A5 c5 w9 ho9 hg9 _; refine Hid.out ?_)
    have hap := (HT.out.grow (((Grow.of_alloc _ _).trans (Grow.of_alloc _ _)).trans (Grow.of_alloc _ _))).app (H1.out.keep (((Grow.of_alloc _ _).trans (Grow.of_alloc _ _)).trans (Grow.of_alloc _ _))) H2.out (fun j h h' => (H3.out j h h').keep (((Grow.of_alloc _ _).trans (Grow.of_alloc _ _)).trans (Grow.of_alloc _ _)) HT.out.g.size) (a := s2) ⟨At, q2, ct, E2.out At ct, .inl (show RB _ _ _ _ _ s2.pl.own by rw [O2.out]; exact HR2.out.belowAt (HT.out.g.trans (((Grow.of_alloc _ _).trans (Grow.of_alloc _ _)).trans (Grow.of_alloc _ _))) (Nat.le_refl _))⟩ ho9 hg9 HX.out
    have HA1 := hid hap.1
    have HA2 := hid hap.2
    clear hap ho9 hg9 HT H1 H2 H3 o9
    have c9 : w9.cell? ⟨gx, 9, none⟩ = some (.slice A 2 c) := HA1.out.at 9
    have s9 := HA1.out.soft 9
    refine hid ?_
    go_wp2
    go_roundw
    case rel => exact ⟨3, A5, c5, by omega, by first | rfl | go_num | simp, HA2.out⟩
    case measure => simp [intOf]
  ·have e : k = 3 := by omega
   subst e
   have ek : ((3 : Nat) : Int) = 3 := rfl
   rw [ek]
   clear ek
   go_wp2
   apply HK.out
   exact HJ.out gx A c _ _ ⟨rfl, rfl, rfl, rfl, rfl⟩ (HF1.out.grow HT.out.g) (HG1.out.trans HT.out.g) rfl (HS1.out.grow HT.out.g) rfl HT.out.x (HT.out.s.zr HT.out.g.size)
set_option maxRecDepth 100000
set_option linter.unusedVariables false
theorem mdFT_good {n : Nat} {L : List Bs} {wide big : Bool} {b : Nat} {f : Nat → Nat} (hn : n ≤ 30) (hl : n = L.length) (he : ∀ s ∈ L, s.length ≤ 100) (ho : TfO L n b f) : Good (mdFT L n wide big b f) := by
 have hea : ∀ s ∈ allT L f n, s.length ≤ 100 := allT_each (by rw [← hl]; exact ho.lt) he
 refine mdTf_good (by have := (atT_lt hn hea 0).2; omega) ?_ ?_
 ·unfold symT
  rw [symL_len, sysT_len]
  have : ySize wide ≤ 24 := by cases wide <;> decide
  have := Nat.mul_le_mul (show n + 1 ≤ 31 by omega) this
  omega
 ·rw [Gn.len]
  have h1 : (tblT L wide big b f).words = 2 := rfl
  have h2 : (tblT L wide big b f).buckets = b := rfl
  have h3 : (tblT L wide big b f).n = n := by rw [hl]; exact pickL_len L f L.length
  have h4 := (tblT L wide big b f).z_pos
  have := ho.b2
  rw [h1, h2, h3]
  omega
set_option maxHeartbeats 8000000 in
theorem tf_5 (n : Nat) (L : List Bs) (wide big : Bool) (S : ByteArray) (w : World) (hd : Door w) (hn : n ≤ 30) (hl : n = L.length) (he : ∀ s ∈ L, s.length ≤ 100)
  (H : ∀ a W, J22 L n wide big S w a W → TfW w 22 a W) : ∀ a W, J19 L n wide big S w a W → TfW w 19 a W := by
 rintro a W ⟨gf, b, f, A3, c3, gx, A2, c2, hf, hb, hg, ho, hz, h12, hss, h23, hx, hzr⟩
 obtain ⟨tv, rfl⟩ := tf_frame a hf.size hf.defers
 have hv12 : tv 12 = .slice A3 (n + 1) c3 := h12
 have hv23 : tv 23 = .pointer (some ⟨gx, 0, none⟩) := h23
 have hv3 : tv 3 = .string S := hf.t3
 have hv4 : tv 4 = .pointer (some ⟨gf, 0, none⟩) := hf.t4
 have hv9 : tv 9 = .bool true := hf.t9
 unfold TfW
 rw [hv12, hv23, hv3, hv4, hv9]
 clear hv12 hv23 hv3 hv4 hv9 hf
 clear h12 h23
 have hgood := mdFT_good (wide := wide) (big := big) hn hl he ho
 have HEn := hid (encode_any (mdFT L n wide big b f) hgood.ok none A2 0 0 3 c2 W ZR.nil hzr)
 unfold EncR at HEn
 have HPl : Hid (¬ (mdFT L n wide big b f).planC ≠ 0) := hid (by rw [hgood.plan]; simp)
 have HeT := hid hgood.eT
 have HPa := hid (fun A c (K : Bs) W (hf : FileIs (mdFT L n wide big b f) K) (hr : RB W W.heap.size A K.length c K) (hD : Door W) => parse_back (mdFT L n wide big b f) hgood K [] hf (by rw [List.append_nil]; have := hf.2; have := hgood.eT; omega) A K.length c W (by rw [List.append_nil]; exact hr) hD)
 unfold BackR at HPa
 have HJ : Hid (∀ gx A1 n1 c1 A2 n2 c2 a W, TfF gf S a → Blk W gf 23 #[.bool wide, .bool big] → Grow w W → a.tmps.getD 12 undef = .slice A3 (n + 1) c3 → SS W W.heap.size A3 (n + 1) c3 (allT L f n) →
  a.tmps.getD 29 undef = .pointer (some ⟨gx, 0, none⟩) → n1 = 0 → n2 = 3 → Blk W gx 51 (mdC (mdFT L n wide big b f) (.slice A1 n1 c1) (.slice A2 n2 c2)) → ZR sgK W W.heap.size A1 n1 c1 [] → ZR seK W W.heap.size A2 n2 c2 (mdFT L n wide big b f).secs → TfW w 22 a W) :=
  hid fun gx A1 n1 c1 A2 n2 c2 a W k1 k2 k3 k4 k5 k6 e1 e2 k7 k8 k9 => by
   subst e1
   subst e2
   exact H a W ⟨gf, b, f, A3, c3, gx, A1, c1, A2, c2, k1, k2, k3, ho, hz, k4, k5, k6, k7, k8, k9⟩
 have HF1 := hid hb
 have HG1 := hid hg
 have HS1 := hid hss
 have HX1 := hid hx
 have HD := hid hd
 have es : (mdFT L n wide big b f).segs = [] := rfl
 have ec : (mdFT L n wide big b f).secs.length = 3 := rfl
 have HEc := hid ec
 rw [es] at HPa
 clear hb hg hss hx hzr H ho hz he hl hgood hd es ec
 have m0 : (mdFT L n wide big b f).wide = wide := rfl
 have m1 : (mdFT L n wide big b f).big = big := rfl
 have m2 : (mdFT L n wide big b f).osabi = 0 := rfl
 have m3 : (mdFT L n wide big b f).abi = 0 := rfl
 have m4 : (mdFT L n wide big b f).typ = 0 := rfl
 have m5 : (mdFT L n wide big b f).mach = 0 := rfl
 have m6 : (mdFT L n wide big b f).flags = 0 := rfl
 have m7 : (mdFT L n wide big b f).entry = 0 := rfl
 have m10 : (mdFT L n wide big b f).str = 0 := rfl
 unfold mdC at HEn HPa HJ HX1
 rw [m0, m1, m2, m3, m4, m5, m6, m7, m10] at HEn HX1
 simp only [m0, m1, m2, m3, m4, m5, m6, m7, m10] at HPa HJ
 clear m0 m1 m2 m3 m4 m5 m6 m7 m10
 generalize mdFT L n wide big b f = md at *
 generalize allT L f n = all at *
 conv => arg 2; whnf
 apply wp_seq_k
 intro K hK
 have HK := hid hK
 clear hK
 obtain ⟨v0, v1, v2, v3, v4, v5, v6, v7, v8, v9, v10⟩ := HX1.out.c11
 go_wp2_with fail
 clear v0 v1 v2 v3 v4 v5 v6 v7 v8 v9 v10
 refine HEn.out.mono ?_
 rintro e w2 (⟨hC0, g, K, rfl, hfi, hbk, hge, hg⟩ | ⟨hC0, -, -⟩)
 rotate_left
 ·exact absurd hC0 HPl.out
 have HFi := hid hfi
 have HRb := hid (hbk.rb (by have := hfi.2; have := HeT.out; unfold maxLen; omega))
 have HF2 := hid (HF1.out.grow hg)
 have HG2 : Hid (Grow w w2) := hid (HG1.out.trans hg)
 have HS2 := hid (HS1.out.grow hg)
 clear hC0 hfi hbk hge hg HF1 HG1 HS1 HX1 HEn HPl HeT
 have HPb := hid (HPa.out (some ⟨g, 0, none⟩) K.length K w2 HFi.out HRb.out (HD.out.grow HG2.out))
 generalize K.length = q at HPb HRb ⊢
 clear HPa HFi HRb
 go_wp2
 apply HK.out
 clear HK
 clear K
 apply wp_seq_k
 intro K hK
 have HK := hid hK
 clear hK
 go_wp2_with fail
 refine HPb.out.mono ?_
 rintro e w3 ⟨A4, n4, c4, A5, n5, c5, rfl, hz1, hz2, hg⟩
 have hn4 := hz1.len
 have hn5 := hz2.len
 rw [HEc.out] at hn5
 have HN4 : Hid (n4 = 0) := hid (by simpa using hn4)
 have HN5 : Hid (n5 = 3) := hid hn5
 have HZ1 := hid hz1
 have HZ2 := hid hz2
 have HF3 := hid (HF2.out.grow hg)
 have HG3 : Hid (Grow w w3) := hid (HG2.out.trans hg)
 have HS3 := hid (HS2.out.grow hg)
 clear hn4 hn5 hz1 hz2 hg HF2 HG2 HS2 HPb
 go_wp2
 generalize hW : World.alloc _ _ = W4
 obtain ⟨bx, hg⟩ := blk1 hW
 clear hW
 have HX4 := hid bx
 have HF4 := hid (HF3.out.grow hg)
 have HG4 : Hid (Grow w W4) := hid (HG3.out.trans hg)
 have HS4 := hid (HS3.out.grow hg)
 have HZ1' := hid (HZ1.out.grow hg)
 have HZ2' := hid (HZ2.out.grow hg)
 clear bx hg HF3 HG3 HS3 HZ1 HZ2
 generalize w3.heap.size = gy at HX4 ⊢
 apply HK.out
 clear HK
 clear K
 have x9 : W4.cell? ⟨gy, 9, none⟩ = some (.slice A5 n5 c5) := HX4.out.at 9
 have d3 : ((n5 : Int) != 3) = false := by rw [HN5.out]; rfl
 apply wp_seq_k
 intro K hK
 have HK := hid hK
 clear hK
 go_wp2
 clear x9 d3
 apply HK.out
 exact HJ.out gy A4 n4 c4 A5 n5 c5 _ _ ⟨rfl, rfl, rfl, rfl, rfl⟩ HF4.out HG4.out rfl HS4.out rfl HN4.out HN5.out HX4.out HZ1'.out HZ2'.out
set_option maxRecDepth 100000
set_option linter.unusedVariables false
theorem mBytes_sec (m : Md) (A1 : Option Addr) (c1 : Nat) (A2 : Option Addr) (n2 c2 : Nat) (ty : Nat) (o : Bs) (A : Option Addr) (c : Nat) (w : World) (hs : m.segs = []) (g1 : ZR sgK w w.heap.size A1 0 c1 []) (g : RB w w.heap.size A o.length c o) (ho : o.length ≤ 10000) :
  Calls Tryz.prog 13 #[.agg (mdC m (.slice A1 0 c1) (.slice A2 n2 c2)), .agg #[.int .i64 (-1), .int .u64 0, .int .u64 (o.length : Nat), .slice A o.length c]] w (NewB o w) := by
 have e : m.bytes (seT ty o).pl = o := by unfold Md.bytes seT; simp
 have := mBytes_any m A1 A2 0 c1 n2 c2 (seT ty o).pl ⟨by unfold I64; simp only [seT]; omega, by simp only [seT]; omega, by simp only [seT]; omega⟩ A o.length c w (by rw [hs]; exact g1) g (by rw [e]; omega)
 rw [e] at this
 exact this
theorem sec_at {w : World} {b2 o2 n2 c2 k : Nat} {l : List Se} {ty : Nat} {o : Bs} (h : ZR seK w w.heap.size (some ⟨b2, o2, none⟩) n2 c2 l) (hk : k < l.length) (he : l[k] = seT ty o) :
  ∃ A c, b2 < w.heap.size ∧ RB w w.heap.size A o.length c o ∧ w.cell? ⟨b2, o2 + k * 13 + 9, none⟩ = some (.int .i64 (-1)) ∧ w.cell? ⟨b2, o2 + k * 13 + 10, none⟩ = some (.int .u64 0) ∧ w.cell? ⟨b2, o2 + k * 13 + 11, none⟩ = some (.int .u64 (o.length : Nat)) ∧ w.cell? ⟨b2, o2 + k * 13 + 12, none⟩ = some (.slice A o.length c) := by
 obtain ⟨A, n, c, hb, hc, hr⟩ := h.at hk
 rw [he] at hc hr
 have hr : RB w w.heap.size A n c o := hr
 obtain rfl := hr.len
 exact ⟨A, c, hb, hr, hc 9 _ rfl, hc 10 _ rfl, hc 11 _ rfl, hc 12 _ rfl⟩
set_option maxHeartbeats 8000000 in
theorem tf_6 (n : Nat) (L : List Bs) (wide big : Bool) (S : ByteArray) (w : World) (hn : n ≤ 30) (hl : n = L.length) (he : ∀ s ∈ L, s.length ≤ 100)
  (H : ∀ a W, J24 L n wide big S w a W → TfW w 24 a W) : ∀ a W, J22 L n wide big S w a W → TfW w 22 a W := by
 rintro a W ⟨gf, b, f, A3, c3, gx, A1, c1, A2, c2, hf, hb, hg, ho, hz, h12, hss, h29, hx, hzg, hzr⟩
 obtain ⟨tv, rfl⟩ := tf_frame a hf.size hf.defers
 have hv12 : tv 12 = .slice A3 (n + 1) c3 := h12
 have hv29 : tv 29 = .pointer (some ⟨gx, 0, none⟩) := h29
 have hv3 : tv 3 = .string S := hf.t3
 have hv4 : tv 4 = .pointer (some ⟨gf, 0, none⟩) := hf.t4
 have hv9 : tv 9 = .bool true := hf.t9
 unfold TfW
 rw [hv12, hv29, hv3, hv4, hv9]
 clear hv12 hv29 hv3 hv4 hv9 hf
 clear h12 h29
 have hea : ∀ s ∈ allT L f n, s.length ≤ 100 := allT_each (by rw [← hl]; exact ho.lt) he
 obtain ⟨b2, o2, hA2, hb2⟩ := hzr.pos (by omega)
 subst hA2
 have hys : ySize wide ≤ 24 ∧ 0 < ySize wide := by cases wide <;> decide
 have hsl : (symT L n wide big f).length = (n + 1) * ySize wide := by unfold symT; rw [symL_len, sysT_len]
 have hle : (symT L n wide big f).length ≤ 10000 := by
  rw [hsl]
  have := Nat.mul_le_mul (show n + 1 ≤ 31 by omega) hys.1
  omega
 obtain ⟨Bq, eq, hbb, hrb, q9, q10, q11, q12⟩ := sec_at (k := 1) (ty := 11) (o := symT L n wide big f) hzr (show 1 < 3 by omega) rfl
 have HBy := hid (fun W' (hW : Grow W W') => mBytes_sec (mdFT L n wide big b f) A1 c1 (some ⟨b2, o2, none⟩) 3 c2 11 (symT L n wide big f) Bq eq W' rfl (hzg.grow hW) (hrb.grow hW) hle)
 have hfit := sysT_fit wide (fun i => (atT_lt hn hea i).1) (n + 1) (by omega)
 have hsy : syms (symT L n wide big f) wide big = sysT (atT_ L n f) (n + 1) := syms_put _ wide big hfit
 have hq : (symT L n wide big f).length / ySize wide = n + 1 := by rw [hsl, Nat.mul_div_cancel _ hys.2]
 have HMod : Hid (¬ (symT L n wide big f).length % ySize wide ≠ 0) := hid (by rw [hsl, Nat.mul_mod_left]; simp)
 have HYl := hid (fun A c W' (h : RB W' W'.heap.size A (symT L n wide big f).length c (symT L n wide big f)) => yAll_any A (symT L n wide big f).length c (symT L n wide big f) wide big W' h hle)
 unfold YAll at HYl
 rw [hsy, hq] at HYl
 unfold NewB at HBy
 have HJ : Hid (∀ Ar cr a W, TfF gf S a → Blk W gf 23 #[.bool wide, .bool big] → Grow w W → a.tmps.getD 12 undef = .slice A3 (n + 1) c3 → SS W W.heap.size A3 (n + 1) c3 (allT L f n) →
  a.tmps.getD 29 undef = .pointer (some ⟨gx, 0, none⟩) → Blk W gx 51 (mdC (mdFT L n wide big b f) (.slice A1 0 c1) (.slice (some ⟨b2, o2, none⟩) 3 c2)) → ZR sgK W W.heap.size A1 0 c1 [] → ZR seK W W.heap.size (some ⟨b2, o2, none⟩) 3 c2 (mdFT L n wide big b f).secs →
  a.tmps.getD 31 undef = .slice Ar (n + 1) cr → ZS W W.heap.size 6 Ar (n + 1) cr ((sysT (atT_ L n f) (n + 1)).map Sy.C) → TfW w 24 a W) :=
  hid fun Ar cr a W k1 k2 k3 k4 k5 k6 k7 k8 k9 k10 k11 => H a W ⟨gf, b, f, A3, c3, gx, A1, c1, some ⟨b2, o2, none⟩, c2, Ar, cr, k1, k2, k3, ho, hz, k4, k5, k6, k7, k8, k9, k10, k11⟩
 have HF1 := hid hb
 have HG1 := hid hg
 have HS1 := hid hss
 have HX1 := hid hx
 have HZg := hid hzg
 have HZr := hid hzr
 have HBb := hid hbb
 have Q9 := hid q9
 have Q10 := hid q10
 have Q11 := hid q11
 have Q12 := hid q12
 clear hb hg hss hx hzg hzr H ho hz he hl hea hb2 hbb hrb q9 q10 q11 q12 hfit hsy hq hsl hle hys
 have m0 : (mdFT L n wide big b f).wide = wide := rfl
 have m1 : (mdFT L n wide big b f).big = big := rfl
 have m2 : (mdFT L n wide big b f).osabi = 0 := rfl
 have m3 : (mdFT L n wide big b f).abi = 0 := rfl
 have m4 : (mdFT L n wide big b f).typ = 0 := rfl
 have m5 : (mdFT L n wide big b f).mach = 0 := rfl
 have m6 : (mdFT L n wide big b f).flags = 0 := rfl
 have m7 : (mdFT L n wide big b f).entry = 0 := rfl
 have m10 : (mdFT L n wide big b f).str = 0 := rfl
 unfold mdC at HBy HJ HX1
 rw [m0, m1, m2, m3, m4, m5, m6, m7, m10] at HX1
 simp only [m0, m1, m2, m3, m4, m5, m6, m7, m10] at HBy HJ
 clear m0 m1 m2 m3 m4 m5 m6 m7 m10
 generalize mdFT L n wide big b f = md at *
 generalize allT L f n = all at *
 generalize symT L n wide big f = sb at *
 generalize atT_ L n f = at_ at *
 generalize hsq : sb.length = q at *
 clear hsq
 conv => arg 2; whnf
 apply wp_seq_k
 intro K hK
 have HK := hid hK
 clear hK
 refine wp_region_chain [(0, true), (1, true), (2, true), (3, true), (4, true), (5, true), (7, true), (6, false), (8, false), (9, true), (10, true), (11, true), (12, true), (13, true)] (by kernel_rfl) (by kernel_rfl) (by kernel_rfl) ?_
 have HF2 := hid HF1.out.drew
 have HX2 := hid HX1.out.drew
 have HG2 : Hid (Grow w W.drew) := hid (HG1.out.trans (Grow.of_drew _))
 have HW2 : Hid (Grow W W.drew) := hid (Grow.of_drew _)
 generalize W.drew = v0 at HF2 HX2 HG2 HW2 ⊢
 have f0 : ∀ W, Grow v0 W → W.cell? ⟨gf, 0, none⟩ = some (.bool wide) := fun W hW => (HF2.out.grow hW).at 0
 have f1 : ∀ W, Grow v0 W → W.cell? ⟨gf, 1, none⟩ = some (.bool big) := fun W hW => (HF2.out.grow hW).at 1
 have r9 : ∀ W, Grow v0 W → W.cell? ⟨b2, o2 + 13 + 9, none⟩ = some (.int .i64 (-1)) := fun W hW => (Below.cell (HW2.out.trans hW) HBb.out).trans Q9.out
 have r10 : ∀ W, Grow v0 W → W.cell? ⟨b2, o2 + 13 + 10, none⟩ = some (.int .u64 0) := fun W hW => (Below.cell (HW2.out.trans hW) HBb.out).trans Q10.out
 have r11 : ∀ W, Grow v0 W → W.cell? ⟨b2, o2 + 13 + 11, none⟩ = some (.int .u64 (q : Nat)) := fun W hW => (Below.cell (HW2.out.trans hW) HBb.out).trans Q11.out
 have r12 : ∀ W, Grow v0 W → W.cell? ⟨b2, o2 + 13 + 12, none⟩ = some (.slice Bq q eq) := fun W hW => (Below.cell (HW2.out.trans hW) HBb.out).trans Q12.out
 have x0 : ∀ W, Grow v0 W → W.cell? ⟨gx, 0, none⟩ = some (.bool wide) := fun W hW => (HX2.out.grow hW).at 0
 have x1 : ∀ W, Grow v0 W → W.cell? ⟨gx, 1, none⟩ = some (.bool big) := fun W hW => (HX2.out.grow hW).at 1
 have x2 : ∀ W, Grow v0 W → W.cell? ⟨gx, 2, none⟩ = some (.int .u8 0) := fun W hW => (HX2.out.grow hW).at 2
 have x3 : ∀ W, Grow v0 W → W.cell? ⟨gx, 3, none⟩ = some (.int .u8 0) := fun W hW => (HX2.out.grow hW).at 3
 have x4 : ∀ W, Grow v0 W → W.cell? ⟨gx, 4, none⟩ = some (.int .u16 0) := fun W hW => (HX2.out.grow hW).at 4
 have x5 : ∀ W, Grow v0 W → W.cell? ⟨gx, 5, none⟩ = some (.int .u16 0) := fun W hW => (HX2.out.grow hW).at 5
 have x6 : ∀ W, Grow v0 W → W.cell? ⟨gx, 6, none⟩ = some (.int .u32 0) := fun W hW => (HX2.out.grow hW).at 6
 have x7 : ∀ W, Grow v0 W → W.cell? ⟨gx, 7, none⟩ = some (.int .u64 0) := fun W hW => (HX2.out.grow hW).at 7
 have x8 : ∀ W, Grow v0 W → W.cell? ⟨gx, 8, none⟩ = some (.slice A1 0 c1) := fun W hW => (HX2.out.grow hW).at 8
 have x9 : ∀ W, Grow v0 W → W.cell? ⟨gx, 9, none⟩ = some (.slice (some ⟨b2, o2, none⟩) 3 c2) := fun W hW => (HX2.out.grow hW).at 9
 have x10 : ∀ W, Grow v0 W → W.cell? ⟨gx, 10, none⟩ = some (.int .i64 0) := fun W hW => (HX2.out.grow hW).at 10
 repeat ((first | (refine chain_take rfl (by rfl) ?_ (fun W hG => ?_) ?_; rotate_left; (go_simp; rfl)) | refine chain_skip rfl (by rfl) ?_); simp only [Act.put, List.setIfInBounds_toArray, List.set_cons_zero, List.set_cons_succ])
 clear r9 r10 r11 r12 x0 x1 x2 x3 x4 x5 x6 x7 x8 x9 x10 f0 f1
 refine chain_only rfl (by rfl) (fun K hK => ?_)
 go_simp
 refine (HBy.out _ HW2.out).mono ?_
 rintro e w3 ⟨Ao, co, rfl, hob, hg⟩
 refine hK _ _ hg ?_
 clear hK K
 have HOb := hid hob.rb
 have HF3 := hid (HF2.out.grow hg)
 have HG3 : Hid (Grow w w3) := hid (HG2.out.trans hg)
 have HW3 : Hid (Grow W w3) := hid (HW2.out.trans hg)
 clear hob hg HF2 HX2 HG2 HW2 HBy
 repeat ((first | (refine chain_take rfl (by rfl) ?_ (fun W hG => ?_) ?_; rotate_left; (go_simp; rfl)) | refine chain_skip rfl (by rfl) ?_); simp only [Act.put, List.setIfInBounds_toArray, List.set_cons_zero, List.set_cons_succ])
 refine chain_only rfl (by rfl) (fun K hK => ?_)
 go_simp
 refine (HYl.out Ao co _ HOb.out).mono ?_
 rintro e w4 (⟨-, Ar, cr, rfl, hzs, hg⟩ | ⟨hno, -⟩)
 rotate_left
 ·exact absurd hno HMod.out
 refine hK _ _ hg ?_
 clear hK K
 have HZ4 := hid hzs
 have HF4 := hid (HF3.out.grow hg)
 have HG4 : Hid (Grow w w4) := hid (HG3.out.trans hg)
 have HW4 : Hid (Grow W w4) := hid (HW3.out.trans hg)
 clear hzs hg HF3 HG3 HW3 HOb HYl
 repeat ((first | (refine chain_take rfl (by rfl) ?_ (fun W hG => ?_) ?_; rotate_left; (go_simp; rfl)) | refine chain_skip rfl (by rfl) ?_); simp only [Act.put, List.setIfInBounds_toArray, List.set_cons_zero, List.set_cons_succ])
 refine chain_done ?_
 apply HK.out
 clear HK
 clear K
 have z4 : (((n : Int) + 1) != ((n : Int) + 1)) = false := by simp
 have z5 : (((n + 1 : Nat) : Int) != ((n + 1 : Nat) : Int)) = false := by simp
 apply wp_seq_k
 intro K hK
 have HK := hid hK
 clear hK
 go_wp2
 clear z4 z5
 apply HK.out
 exact HJ.out Ar cr _ _ ⟨rfl, rfl, rfl, rfl, rfl⟩ HF4.out HG4.out rfl (HS1.out.grow HW4.out) rfl (HX1.out.grow HW4.out) (HZg.out.grow HW4.out) (HZr.out.grow HW4.out) rfl HZ4.out
end Go.Proofs.YtfbimboemahhhaaGreatDoor
