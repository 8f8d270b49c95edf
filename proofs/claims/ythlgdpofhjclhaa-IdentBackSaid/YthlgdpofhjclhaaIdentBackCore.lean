/-
  The walk of bezantlaw03.IdentBack: at any file's beginning, any bytes, place and turn it returns true, and nothing that was there has changed.
-/
import Derived.Test.YthlgdpofhjclhaaUp3
import Derived.Test.YthlgdpofhjclhaaIdentTellsCore
import Derived.Lib.SmallJoins
import Derived.Laws.BitsAllLaws
namespace Go.Proofs.Ythlgdpofhjclhaa
open Go.RowKit

/-- The first nine bytes of a file, and others behind. -/
theorem told_app (wide big : Bool) (o a : UInt8) (l : List UInt8) : Told ((idL wide big o a).take 9 ++ l) (if 7 ≤ l.length then 0 else 2) (if 7 ≤ l.length then 0 else 9 + l.length) := by
  have hc : Clean ((idL wide big o a).take 9 ++ l) 7 := clean_of (wide := wide) (big := big) (o := o) (a := a) fun j hj hlt => by
    rw [List.getElem_append_left (by simp [idL]; omega), List.getElem_take, List.getD_eq_getElem?_getD, List.getElem?_eq_getElem (by simp [idL]; omega)]
    rfl
  have hl : ((idL wide big o a).take 9 ++ l).length = 9 + l.length := by simp [idL]; omega
  split
  · exact .inl ⟨rfl, rfl, hc, by omega⟩
  · exact .inr (.inl ⟨rfl, hl.symm, hc, by omega⟩)

theorem idOf_app (wide big : Bool) (o a : UInt8) (l : List UInt8) : idOf ((idL wide big o a).take 9 ++ l) 0 = idV wide big o a := by
  cases wide <;> cases big <;> rfl

/-- With one of the first seven turned it is another one. -/
theorem told_set (wide big : Bool) (o a : UInt8) (k : Nat) (hk : k < 7) (v : UInt8) (hv : v ≠ (idL wide big o a).getD k 0) {p : Nat} (h : Told ((idL wide big o a).set k v) 0 p) :
    ∃ P Q : Bool, idOf ((idL wide big o a).set k v) 0 = idV P Q o a ∧ (P ≠ wide ∨ Q ≠ big) := by
  have hcl : Clean ((idL wide big o a).set k v) 7 := by
    rcases h with ⟨_, _, h, _⟩ | ⟨h, _⟩ | ⟨h, _⟩
    · exact h
    · omega
    · omega
  have hf := hcl k (by simp [idL]; omega) hk
  rw [List.getElem_set_self] at hf
  match k, hk with
  | 0, _ => simp [idL, faultN] at hf hv; exact absurd hf hv
  | 1, _ => simp [idL, faultN] at hf hv; exact absurd hf hv
  | 2, _ => simp [idL, faultN] at hf hv; exact absurd hf hv
  | 3, _ => simp [idL, faultN] at hf hv; exact absurd hf hv
  | 6, _ => simp [idL, faultN] at hf hv; exact absurd hf hv
  | 4, _ =>
    simp [idL, faultN] at hf hv
    rcases (show v = 1 ∨ v = 2 from Decidable.or_iff_not_imp_left.2 hf) with rfl | rfl
    · exact ⟨false, big, by cases big <;> rfl, .inl fun h => by subst h; exact hv rfl⟩
    · exact ⟨true, big, by cases big <;> rfl, .inl fun h => by subst h; exact hv rfl⟩
  | 5, _ =>
    simp [idL, faultN] at hf hv
    rcases (show v = 1 ∨ v = 2 from Decidable.or_iff_not_imp_left.2 hf) with rfl | rfl
    · exact ⟨wide, false, by cases wide <;> rfl, .inr fun h => by subst h; exact hv rfl⟩
    · exact ⟨wide, true, by cases wide <;> rfl, .inr fun h => by subst h; exact hv rfl⟩

theorem Grow.trans' {w a b : World} (h : Grow w a) (k : Below w.heap.size a b) : Below w.heap.size w b := Below.trans h k

/-- The bytes of a block of their own. -/
def Own (w : World) (g : Nat) (l : List UInt8) : Prop := w.heap[g]? = some (.cells (l.map byt).toArray 5 (0, 0))
theorem Own.lt {w : World} {g : Nat} {l : List UInt8} (h : Own w g l) : g < w.heap.size := by
  rcases Nat.lt_or_ge g w.heap.size with h1 | h1
  · exact h1
  · rw [Own, Array.getElem?_eq_none h1] at h; cases h
theorem Own.grow {w w' : World} {g : Nat} {l : List UInt8} (h : Own w g l) (hb : Grow w w') : Own w' g l := by
  rw [Own, hb.block g h.lt]; exact h
theorem Own.at {w : World} {g : Nat} {l : List UInt8} (h : Own w g l) (j : Nat) (hj : j < l.length) : w.cell? ⟨g, j, none⟩ = some (.int .u8 (l[j].toNat : Int)) := by
  rw [Joins.cell_of_block h]; simp [hj, byt]
theorem Own.rb {w : World} {g n : Nat} {l : List UInt8} (h : Own w g l) (hn : n = l.length) (hm : n ≤ maxLen) : RB w w.heap.size (some ⟨g, 0, none⟩) n n l :=
  ⟨hn, Nat.le_refl _, hm, fun _ => ⟨g, 0, rfl, h.lt, fun j hj => by rw [Nat.zero_add]; exact h.at j hj⟩⟩
theorem Own.set {w : World} {g : Nat} {l : List UInt8} (h : Own w g l) (k : Nat) (v : UInt8) : Own (w.setCell ⟨g, k, none⟩ (.int .u8 (v.toNat : Int))) g (l.set k v) := by
  rw [Own, Joins.block_setCell h]
  simp [byt, List.map_set]
theorem Own.put (w : World) (ob : Obj) (wide big : Bool) (o a : UInt8) : Own ((w.alloc ob).alloc (.cells (idC wide big o a) 5)) (w.heap.size + 1) (idL wide big o a) := by
  have h := heap_alloc_new (w.alloc ob) (.cells (idC wide big o a) 5)
  simpa [Own, idC] using h
theorem four_after {w W : World} {b : Nat} {x y z t : Value} (h : w.cell? ⟨b, 0, none⟩ = some x ∧ w.cell? ⟨b, 1, none⟩ = some y ∧ w.cell? ⟨b, 2, none⟩ = some z ∧ w.cell? ⟨b, 3, none⟩ = some t) (hb : Below (b + 1) w W) :
    W.cell? ⟨b, 0, none⟩ = some x ∧ W.cell? ⟨b, 1, none⟩ = some y ∧ W.cell? ⟨b, 2, none⟩ = some z ∧ W.cell? ⟨b, 3, none⟩ = some t := by
  have e : ∀ i, W.cell? ⟨b, i, none⟩ = w.cell? ⟨b, i, none⟩ := fun i => hb.cell (Nat.lt_succ_self b)
  rw [e, e, e, e]; exact h

theorem xor_ne (u y : UInt8) (h : y ≠ 0) : u ^^^ y ≠ u := fun e => h (by
  have h2 : u ^^^ (u ^^^ y) = u ^^^ u := by rw [e]
  rwa [← UInt8.xor_assoc, UInt8.xor_self, UInt8.zero_xor] at h2)

set_option maxHeartbeats 2000000 in
theorem identBack_core (wide big : Bool) (o a : UInt8) (A : Option Addr) (n c : Nat) (l : List UInt8) (z : Int) (y : UInt8) (w : World) (h : RB w w.heap.size A n c l) :
    Calls Try.prog 4 #[idV wide big o a, .slice A n c, .int .i64 z, .int .u8 (y.toNat : Int)] w fun e w' => e = .returned (.bool true) ∧ Below w.heap.size w w' := by
  have HR := Lib.hid h
  have hc := h.cap
  have hm := h.max
  unfold maxLen at hm
  have HL := Lib.hid h.len
  clear h
  have HX := Lib.hid (four w (.bool wide) (.bool big) (.int .u8 (o.toNat : Int)) (.int .u8 (a.toNat : Int)) 25)
  have HG0 := Lib.hid (Grow.of_alloc w (.cells #[.bool wide, .bool big, .int .u8 (o.toNat : Int), .int .u8 (a.toNat : Int)] 25))
  have HP := Lib.hid (fun W => idPut_any wide big o a W)
  have HO := Lib.hid (fun (w : World) (ob : Obj) => Own.put w ob wide big o a)
  have HT := Lib.hid (told_app wide big o a l)
  have HI := Lib.hid (idOf_app wide big o a l)
  have HT1 := Lib.hid (told_idL wide big o a)
  have HI1 := Lib.hid (idOf_idL wide big o a)
  have HS := Lib.hid (fun k hk v hv p h => told_set wide big o a k hk v hv (p := p) h)
  have hL : (idL wide big o a).length = 16 := rfl
  unfold idV at HP HI HI1 HS ⊢
  generalize idC wide big o a = C at HP HO
  generalize idL wide big o a = L at HO HT HI HT1 HI1 HS hL
  have HLL := Lib.hid hL
  clear hL
  generalize (o.toNat : Int) = ov at HX HG0 HP HI HI1 HS ⊢
  generalize (a.toNat : Int) = av at HX HG0 HP HI HI1 HS ⊢
  by_cases hbig : 1000 < n
  · go_enter Try.func4, Try.ntmps4
    go_wp2_with (go_at_call 5; refine (up3_any _).mono ?_; rintro e w1 ⟨rfl, hb1⟩; have HB := Lib.hid hb1; clear hb1)
    go_ret
    exact ⟨rfl, HG0.out.trans HB.out⟩
  · have hd : decide (1000 < (n : Int)) = false := decide_eq_false (by omega)
    go_enter Try.func4, Try.ntmps4
    go_wp2_with fail
    refine (up3_any _).mono ?_
    rintro e w1 ⟨rfl, hb1⟩
    obtain ⟨x0, x1, x2, x3⟩ := HX.out w1 hb1
    have HB1 := Lib.hid hb1
    have HG1 : Hid (Grow w w1) := HG0.out.trans hb1
    clear hb1
    go_wp2_with fail
    clear x0 x1 x2 x3
    refine (HP.out _).mono ?_
    rintro e w2 ⟨rfl, ob, hw2⟩
    have HO2 : Hid (Own w2 (w1.heap.size + 1) L) := by rw [hw2]; exact HO.out _ _
    have hb2 : Grow w1 w2 := by rw [hw2]; exact (Grow.of_alloc _ _).trans (Grow.of_alloc _ _)
    have HB2 := Lib.hid (HB1.out.trans hb2)
    have HG2 : Hid (Grow w w2) := HG1.out.trans hb2
    have HLO : Hid (w.heap.size + 1 ≤ w1.heap.size + 1) := Nat.succ_le_succ HG1.out.size
    generalize w1.heap.size + 1 = g at HO2 HLO ⊢
    clear hb2 hw2 ob HB1 HG1 w1
    have HR2 : Hid (RB w2 w.heap.size A n c l) := HR.out.belowAt HG2.out (Nat.le_refl _)
    have HN2 : Hid (RB w2 w2.heap.size (some ⟨g, 0, none⟩) 9 16 (L.take 9)) := (HO2.out.rb (n := 16) HLL.out.symm (by decide)).sub (p := 0) (m := 9) (by omega) (by omega)
    go_wp2_with (first
      | (at_builtin; refine wpList_appendB _ rfl (.tmp 29) (.tmp 31) 26 rfl w2.heap.size 5 Try.underlying26 (by kernel_rfl) _ 0 0 [] rfl (OB.lit w2 w2.heap.size 5 [] (Nat.zero_le _) (Nat.le_refl _)) w2.heap.size (some ⟨g, 0, none⟩) 9 16 (L.take 9) rfl (HN2.out.belowAt (Grow.of_alloc w2 _) (Nat.le_refl _)) (by omega) (by simp) ?_; intro A3 c3 w3 ho3 hb3; have HO3 := Lib.hid ho3; have HB3 := Lib.hid (Below.trans (Grow.of_alloc w2 _) hb3); clear ho3 hb3)
      | (at_builtin; refine wpList_appendB _ rfl (.tmp 32) (.tmp 33) 26 rfl w2.heap.size 5 Try.underlying26 (by kernel_rfl) A3 9 c3 ([] ++ L.take 9) rfl HO3.out w.heap.size A n c l rfl (HR2.out.belowAt HB3.out HG2.out.size) (by omega) HB3.out.size ?_; intro A4 c4 w4 ho4 hb4; have HO4 := Lib.hid ho4; have HB4 := Lib.hid (Below.trans HB3.out hb4); clear ho4 hb4))
    refine (idGet_any A4 (9 + n) c4 _ _ HO4.out.rb).mono ?_
    rintro e w5 ⟨cd, p, err, rfl, ht, he, hb5⟩
    have ht1 : Told (L.take 9 ++ l) cd p := ht
    obtain ⟨hcd, -⟩ := ht1.one HT.out
    have HE := Lib.hid he
    have hb25 : Grow w2 w5 := Below.trans HB4.out (show Below w2.heap.size w4 w5 from hb5.mono HB4.out.size)
    have HG5 : Hid (Grow w w5) := HG2.out.trans hb25
    have HO5 : Hid (Own w5 g L) := HO2.out.grow hb25
    have HX5 : Hid (∀ W, Grow w5 W → _) := fun W h => HX.out W ((HB2.out.trans hb25).trans h)
    clear ht he hb5 hb25 HB2 HG2 HO2 HR2 HN2 HO3 HB3 HO4 HB4 HR HX HT HP HG0
    rw [List.nil_append]
    have hln := HL.out
    have h5 : (err = .nilIface ∧ idOf (L.take 9 ++ l) cd = .agg #[.bool wide, .bool big, .int .u8 ov, .int .u8 av] ∧ 7 ≤ n) ∨ ((∃ B, err = .iface 42 (.pointer (some ⟨B, 0, none⟩))) ∧ idOf (L.take 9 ++ l) cd = .agg #[.bool false, .bool false, .int .u8 0, .int .u8 0] ∧ n < 7) := by
      rcases HE.out with ⟨h0, _, h1⟩ | ⟨h0, B, h1, _⟩
      · refine .inl ⟨h1, by rw [h0]; exact HI.out, ?_⟩
        rw [h0] at hcd; split at hcd <;> omega
      · split at hcd
        · omega
        · refine .inr ⟨⟨B, h1⟩, by rw [idOf, if_neg (by omega)]; rfl, by omega⟩
    clear hcd ht1 hln HE
    rcases h5 with ⟨rfl, hi, h7⟩ | ⟨⟨B, rfl⟩, hi, h7⟩
    · rw [hi]
      have hd7 : decide ((16 : Int) ≤ ((9 + n : Nat) : Int)) = true := decide_eq_true (by omega)
      clear hi
      obtain ⟨x0, x1, x2, x3⟩ := HX5.out (w5.alloc (.cells #[.bool wide, .bool big, .int .u8 ov, .int .u8 av] 25)) (Grow.of_alloc _ _)
      go_wp2_with fail
      clear x0 x1 x2 x3 hd7
      have H6 : Hid (Grow w5 (w5.alloc (.cells #[.bool wide, .bool big, .int .u8 ov, .int .u8 av] 25))) := Grow.of_alloc _ _
      generalize w5.alloc (.cells #[.bool wide, .bool big, .int .u8 ov, .int .u8 av] 25) = w6 at H6 ⊢
      generalize Value.nilIface = E1
      have HG6 : Hid (Grow w w6) := HG5.out.trans H6.out
      have HO6 : Hid (Own w6 g L) := HO5.out.grow H6.out
      have HX6 : Hid (∀ W, Grow w6 W → _) := fun W h => HX5.out W (H6.out.trans h)
      clear HG5 HO5 HX5 H6 h7
      refine (idGet_any _ 16 16 L _ (HO6.out.rb (n := 16) HLL.out.symm (by decide))).mono ?_
      rintro e w7 ⟨cd7, p7, err7, rfl, ht, he, hb7⟩
      obtain ⟨rfl, rfl⟩ := ht.one HT1.out
      obtain rfl := he.nil
      rw [HI1.out]
      have HG7 : Hid (Grow w w7) := HG6.out.trans hb7
      have HO7 : Hid (Own w7 g L) := HO6.out.grow hb7
      have HX7 : Hid (∀ W, Grow w7 W → _) := fun W h => HX6.out W (hb7.trans h)
      clear ht he hb7 HG6 HO6 HX6 HT1 HI1
      obtain ⟨x0, x1, x2, x3⟩ := HX7.out (w7.alloc (.cells #[.bool wide, .bool big, .int .u8 ov, .int .u8 av] 25)) (Grow.of_alloc _ _)
      go_wp2_with fail
      clear x0 x1 x2 x3
      refine (pick_any z _).mono ?_
      rintro e w8 ⟨k, hk, rfl, hw8⟩
      have H8 : Hid (Grow w7 w8) := by rw [← hw8]; exact Grow.of_alloc _ _
      clear hw8
      have HG8 : Hid (Grow w w8) := HG7.out.trans H8.out
      have HO8 : Hid (Own w8 g L) := HO7.out.grow H8.out
      have HX8 : Hid (∀ W, Grow w8 W → _) := fun W h => HX7.out W (H8.out.trans h)
      clear HG7 HO7 HX7 H8
      have hkL : k < L.length := by rw [HLL.out]; omega
      have hu := HO8.out.at k hkL
      have hfz := Joins.unfrozen_of_block HO8.out k
      have HNE := Lib.hid (fun (hy : y ≠ 0) => xor_ne L[k] y hy)
      have HD : Hid (L[k] = L.getD k 0) := by rw [List.getD_eq_getElem?_getD, List.getElem?_eq_getElem hkL]; exact Lib.hid rfl
      generalize L[k] = u at hu HNE HD
      have hxor : bits .xor .u8 (u.toNat : Int) (y.toNat : Int) = ((u ^^^ y).toNat : Int) := by
        rw [u8_xor_nat _ _ (UInt8.toNat_lt u) (UInt8.toNat_lt y), UInt8.toNat_xor]
      have HK := Lib.hid hkL
      clear hkL
      have k1 : (0 : Int) ≤ (k : Int) := by omega
      have k2 : (k : Int) < 16 := by omega
      go_wp2_with fail
      clear hu hfz hxor k1 k2
      rw [show u.toNat ^^^ y.toNat = (u ^^^ y).toNat from (UInt8.toNat_xor u y).symm]
      generalize u ^^^ y = v at HNE ⊢
      have HO9 : Hid (Own (w8.setCell ⟨g, k, none⟩ (.int .u8 (v.toNat : Int))) g (L.set k v)) := HO8.out.set k v
      have HB9 : Hid (Below (w.heap.size + 1) w8 (w8.setCell ⟨g, k, none⟩ (.int .u8 (v.toNat : Int)))) := (Below.refl _ _).setCell (p := ⟨g, k, none⟩) HLO.out _
      generalize w8.setCell ⟨g, k, none⟩ (.int .u8 (v.toNat : Int)) = w9 at HO9 HB9 ⊢
      have HW : Hid (w.heap.size + 1 ≤ w9.heap.size) := Nat.le_trans HLO.out (Nat.le_of_lt HO9.out.lt)
      have HG9 : Hid (Grow w w9) := HG8.out.trans' (HB9.out.mono (Nat.le_succ _))
      have HX9 : Hid (∀ W, Grow w9 W → _) := fun W h => four_after (HX8.out w8 (Below.refl _ _)) (HB9.out.trans (h.mono HW.out))
      clear HO8 HG8 HX8 HB9 HW
      refine (idGet_any _ 16 16 (L.set k v) _ (HO9.out.rb (n := 16) (by rw [List.length_set, HLL.out]) (by decide))).mono ?_
      rintro e wa ⟨cda, pa, erra, rfl, ht, he, hba⟩
      have HTa := Lib.hid ht
      have HEa := Lib.hid he
      have HGa : Hid (Grow w wa) := HG9.out.trans hba
      have HXa : Hid (∀ W, Grow wa W → _) := fun W h => HX9.out W (hba.trans h)
      clear ht he hba HG9 HX9 HO9
      by_cases hy : y = 0
      · subst hy
        obtain ⟨P, Q, R, S, hX⟩ := idOf_agg (L.set k v) cda
        rw [hX]
        clear hX
        go_wp2
        go_ret
        exact ⟨rfl, HGa.out.trans (Grow.of_alloc _ _)⟩
      · have hv := HNE.out hy
        have hy0 : (y.toNat : Int) ≠ 0 := fun h => hy (UInt8.toNat.inj (by simpa using h))
        clear hy
        rcases HEa.out with ⟨rfl, rfl, rfl⟩ | ⟨h0, B1, rfl, _⟩
        · obtain ⟨P, Q, hX, hPQ⟩ := HS.out k hk v (by rw [← HD.out]; exact hv) _ HTa.out
          rw [hX]
          clear hX hv
          obtain ⟨x0, x1, x2, x3⟩ := HXa.out (wa.alloc (.cells #[.bool P, .bool Q, .int .u8 ov, .int .u8 av] 25)) (Grow.of_alloc _ _)
          have HPQ := Lib.hid hPQ
          clear hPQ
          go_wp2
          all_goals first
            | (exfalso; have h1 := HPQ.out; simp_all; done)
            | (go_ret; exact ⟨rfl, HGa.out.trans (Grow.of_alloc _ _)⟩)
        · obtain ⟨P, Q, R, S, hX⟩ := idOf_agg (L.set k v) cda
          rw [hX]
          clear hX hv
          go_wp2
          go_ret
          exact ⟨rfl, HGa.out.trans (Grow.of_alloc _ _)⟩
    · rw [hi]
      have hd7 : decide ((16 : Int) ≤ ((9 + n : Nat) : Int)) = false := decide_eq_false (by omega)
      clear hi
      go_wp2_with fail
      clear hd7
      have H6 : Hid (Grow w5 (w5.alloc (.cells #[.bool false, .bool false, .int .u8 0, .int .u8 0] 25))) := Grow.of_alloc _ _
      generalize w5.alloc (.cells #[.bool false, .bool false, .int .u8 0, .int .u8 0] 25) = w6 at H6 ⊢
      have HG6 : Hid (Grow w w6) := HG5.out.trans H6.out
      have HO6 : Hid (Own w6 g L) := HO5.out.grow H6.out
      have HX6 : Hid (∀ W, Grow w6 W → _) := fun W h => HX5.out W (H6.out.trans h)
      clear HG5 HO5 HX5 H6 h7
      refine (idGet_any _ 16 16 L _ (HO6.out.rb (n := 16) HLL.out.symm (by decide))).mono ?_
      rintro e w7 ⟨cd7, p7, err7, rfl, ht, he, hb7⟩
      obtain ⟨rfl, rfl⟩ := ht.one HT1.out
      obtain rfl := he.nil
      rw [HI1.out]
      have HG7 : Hid (Grow w w7) := HG6.out.trans hb7
      have HO7 : Hid (Own w7 g L) := HO6.out.grow hb7
      have HX7 : Hid (∀ W, Grow w7 W → _) := fun W h => HX6.out W (hb7.trans h)
      clear ht he hb7 HG6 HO6 HX6 HT1 HI1
      obtain ⟨x0, x1, x2, x3⟩ := HX7.out (w7.alloc (.cells #[.bool wide, .bool big, .int .u8 ov, .int .u8 av] 25)) (Grow.of_alloc _ _)
      go_wp2_with fail
      clear x0 x1 x2 x3
      refine (pick_any z _).mono ?_
      rintro e w8 ⟨k, hk, rfl, hw8⟩
      have H8 : Hid (Grow w7 w8) := by rw [← hw8]; exact Grow.of_alloc _ _
      clear hw8
      have HG8 : Hid (Grow w w8) := HG7.out.trans H8.out
      have HO8 : Hid (Own w8 g L) := HO7.out.grow H8.out
      have HX8 : Hid (∀ W, Grow w8 W → _) := fun W h => HX7.out W (H8.out.trans h)
      clear HG7 HO7 HX7 H8
      have hkL : k < L.length := by rw [HLL.out]; omega
      have hu := HO8.out.at k hkL
      have hfz := Joins.unfrozen_of_block HO8.out k
      have HNE := Lib.hid (fun (hy : y ≠ 0) => xor_ne L[k] y hy)
      have HD : Hid (L[k] = L.getD k 0) := by rw [List.getD_eq_getElem?_getD, List.getElem?_eq_getElem hkL]; exact Lib.hid rfl
      generalize L[k] = u at hu HNE HD
      have hxor : bits .xor .u8 (u.toNat : Int) (y.toNat : Int) = ((u ^^^ y).toNat : Int) := by
        rw [u8_xor_nat _ _ (UInt8.toNat_lt u) (UInt8.toNat_lt y), UInt8.toNat_xor]
      have HK := Lib.hid hkL
      clear hkL
      have k1 : (0 : Int) ≤ (k : Int) := by omega
      have k2 : (k : Int) < 16 := by omega
      go_wp2_with fail
      clear hu hfz hxor k1 k2
      rw [show u.toNat ^^^ y.toNat = (u ^^^ y).toNat from (UInt8.toNat_xor u y).symm]
      generalize u ^^^ y = v at HNE ⊢
      have HO9 : Hid (Own (w8.setCell ⟨g, k, none⟩ (.int .u8 (v.toNat : Int))) g (L.set k v)) := HO8.out.set k v
      have HB9 : Hid (Below (w.heap.size + 1) w8 (w8.setCell ⟨g, k, none⟩ (.int .u8 (v.toNat : Int)))) := (Below.refl _ _).setCell (p := ⟨g, k, none⟩) HLO.out _
      generalize w8.setCell ⟨g, k, none⟩ (.int .u8 (v.toNat : Int)) = w9 at HO9 HB9 ⊢
      have HW : Hid (w.heap.size + 1 ≤ w9.heap.size) := Nat.le_trans HLO.out (Nat.le_of_lt HO9.out.lt)
      have HG9 : Hid (Grow w w9) := HG8.out.trans' (HB9.out.mono (Nat.le_succ _))
      have HX9 : Hid (∀ W, Grow w9 W → _) := fun W h => four_after (HX8.out w8 (Below.refl _ _)) (HB9.out.trans (h.mono HW.out))
      clear HO8 HG8 HX8 HB9 HW
      refine (idGet_any _ 16 16 (L.set k v) _ (HO9.out.rb (n := 16) (by rw [List.length_set, HLL.out]) (by decide))).mono ?_
      rintro e wa ⟨cda, pa, erra, rfl, ht, he, hba⟩
      have HTa := Lib.hid ht
      have HEa := Lib.hid he
      have HGa : Hid (Grow w wa) := HG9.out.trans hba
      have HXa : Hid (∀ W, Grow wa W → _) := fun W h => HX9.out W (hba.trans h)
      clear ht he hba HG9 HX9 HO9
      by_cases hy : y = 0
      · subst hy
        obtain ⟨P, Q, R, S, hX⟩ := idOf_agg (L.set k v) cda
        rw [hX]
        clear hX
        go_wp2
        go_ret
        exact ⟨rfl, HGa.out.trans (Grow.of_alloc _ _)⟩
      · have hv := HNE.out hy
        have hy0 : (y.toNat : Int) ≠ 0 := fun h => hy (UInt8.toNat.inj (by simpa using h))
        clear hy
        rcases HEa.out with ⟨rfl, rfl, rfl⟩ | ⟨h0, B1, rfl, _⟩
        · obtain ⟨P, Q, hX, hPQ⟩ := HS.out k hk v (by rw [← HD.out]; exact hv) _ HTa.out
          rw [hX]
          clear hX hv
          obtain ⟨x0, x1, x2, x3⟩ := HXa.out (wa.alloc (.cells #[.bool P, .bool Q, .int .u8 ov, .int .u8 av] 25)) (Grow.of_alloc _ _)
          have HPQ := Lib.hid hPQ
          clear hPQ
          go_wp2
          all_goals first
            | (exfalso; have h1 := HPQ.out; simp_all; done)
            | (go_ret; exact ⟨rfl, HGa.out.trans (Grow.of_alloc _ _)⟩)
        · obtain ⟨P, Q, R, S, hX⟩ := idOf_agg (L.set k v) cda
          rw [hX]
          clear hX hv
          go_wp2
          go_ret
          exact ⟨rfl, HGa.out.trans (Grow.of_alloc _ _)⟩
end Go.Proofs.Ythlgdpofhjclhaa
