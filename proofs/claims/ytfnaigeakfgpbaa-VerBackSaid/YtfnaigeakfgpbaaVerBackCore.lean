/-
  The walk of bezantlaw13.VerBack: at any definitions, needs and bytes it returns true, and nothing that was there has changed.
-/
import Derived.Test.YtfnaigeakfgpbaaUp13
import Derived.Test.YtfnaigeakfgpbaaVeSmall
import Derived.Test.YtfnaigeakfgpbaaVeSame
import Derived.Test.YtfnaigeakfgpbaaVePutN
import Derived.Test.YtfnaigeakfgpbaaNtCut
import Derived.Test.YtfnaigeakfgpbaaCut
namespace Go.Proofs.Ytfnaigeakfgpbaa
open Go.RowKit

set_option maxRecDepth 100000 in
theorem list79 {l0 : List Value} (h0 : l0.length = 79) : ∃ x0 x1 x2 x3 x4 x5 x6 x7 x8 x9 x10 x11 x12 x13 x14 x15 x16 x17 x18 x19 x20 x21 x22 x23 x24 x25 x26 x27 x28 x29 x30 x31 x32 x33 x34 x35 x36 x37 x38 x39 x40 x41 x42 x43 x44 x45 x46 x47 x48 x49 x50 x51 x52 x53 x54 x55 x56 x57 x58 x59 x60 x61 x62 x63 x64 x65 x66 x67 x68 x69 x70 x71 x72 x73 x74 x75 x76 x77 x78, l0 = [x0, x1, x2, x3, x4, x5, x6, x7, x8, x9, x10, x11, x12, x13, x14, x15, x16, x17, x18, x19, x20, x21, x22, x23, x24, x25, x26, x27, x28, x29, x30, x31, x32, x33, x34, x35, x36, x37, x38, x39, x40, x41, x42, x43, x44, x45, x46, x47, x48, x49, x50, x51, x52, x53, x54, x55, x56, x57, x58, x59, x60, x61, x62, x63, x64, x65, x66, x67, x68, x69, x70, x71, x72, x73, x74, x75, x76, x77, x78] := by
  obtain ⟨x0, l1, e0, h1⟩ := uncons h0
  obtain ⟨x1, l2, e1, h2⟩ := uncons h1
  obtain ⟨x2, l3, e2, h3⟩ := uncons h2
  obtain ⟨x3, l4, e3, h4⟩ := uncons h3
  obtain ⟨x4, l5, e4, h5⟩ := uncons h4
  obtain ⟨x5, l6, e5, h6⟩ := uncons h5
  obtain ⟨x6, l7, e6, h7⟩ := uncons h6
  obtain ⟨x7, l8, e7, h8⟩ := uncons h7
  obtain ⟨x8, l9, e8, h9⟩ := uncons h8
  obtain ⟨x9, l10, e9, h10⟩ := uncons h9
  obtain ⟨x10, l11, e10, h11⟩ := uncons h10
  obtain ⟨x11, l12, e11, h12⟩ := uncons h11
  obtain ⟨x12, l13, e12, h13⟩ := uncons h12
  obtain ⟨x13, l14, e13, h14⟩ := uncons h13
  obtain ⟨x14, l15, e14, h15⟩ := uncons h14
  obtain ⟨x15, l16, e15, h16⟩ := uncons h15
  obtain ⟨x16, l17, e16, h17⟩ := uncons h16
  obtain ⟨x17, l18, e17, h18⟩ := uncons h17
  obtain ⟨x18, l19, e18, h19⟩ := uncons h18
  obtain ⟨x19, l20, e19, h20⟩ := uncons h19
  obtain ⟨x20, l21, e20, h21⟩ := uncons h20
  obtain ⟨x21, l22, e21, h22⟩ := uncons h21
  obtain ⟨x22, l23, e22, h23⟩ := uncons h22
  obtain ⟨x23, l24, e23, h24⟩ := uncons h23
  obtain ⟨x24, l25, e24, h25⟩ := uncons h24
  obtain ⟨x25, l26, e25, h26⟩ := uncons h25
  obtain ⟨x26, l27, e26, h27⟩ := uncons h26
  obtain ⟨x27, l28, e27, h28⟩ := uncons h27
  obtain ⟨x28, l29, e28, h29⟩ := uncons h28
  obtain ⟨x29, l30, e29, h30⟩ := uncons h29
  obtain ⟨x30, l31, e30, h31⟩ := uncons h30
  obtain ⟨x31, l32, e31, h32⟩ := uncons h31
  obtain ⟨x32, l33, e32, h33⟩ := uncons h32
  obtain ⟨x33, l34, e33, h34⟩ := uncons h33
  obtain ⟨x34, l35, e34, h35⟩ := uncons h34
  obtain ⟨x35, l36, e35, h36⟩ := uncons h35
  obtain ⟨x36, l37, e36, h37⟩ := uncons h36
  obtain ⟨x37, l38, e37, h38⟩ := uncons h37
  obtain ⟨x38, l39, e38, h39⟩ := uncons h38
  obtain ⟨x39, l40, e39, h40⟩ := uncons h39
  obtain ⟨x40, l41, e40, h41⟩ := uncons h40
  obtain ⟨x41, l42, e41, h42⟩ := uncons h41
  obtain ⟨x42, l43, e42, h43⟩ := uncons h42
  obtain ⟨x43, l44, e43, h44⟩ := uncons h43
  obtain ⟨x44, l45, e44, h45⟩ := uncons h44
  obtain ⟨x45, l46, e45, h46⟩ := uncons h45
  obtain ⟨x46, l47, e46, h47⟩ := uncons h46
  obtain ⟨x47, l48, e47, h48⟩ := uncons h47
  obtain ⟨x48, l49, e48, h49⟩ := uncons h48
  obtain ⟨x49, l50, e49, h50⟩ := uncons h49
  obtain ⟨x50, l51, e50, h51⟩ := uncons h50
  obtain ⟨x51, l52, e51, h52⟩ := uncons h51
  obtain ⟨x52, l53, e52, h53⟩ := uncons h52
  obtain ⟨x53, l54, e53, h54⟩ := uncons h53
  obtain ⟨x54, l55, e54, h55⟩ := uncons h54
  obtain ⟨x55, l56, e55, h56⟩ := uncons h55
  obtain ⟨x56, l57, e56, h57⟩ := uncons h56
  obtain ⟨x57, l58, e57, h58⟩ := uncons h57
  obtain ⟨x58, l59, e58, h59⟩ := uncons h58
  obtain ⟨x59, l60, e59, h60⟩ := uncons h59
  obtain ⟨x60, l61, e60, h61⟩ := uncons h60
  obtain ⟨x61, l62, e61, h62⟩ := uncons h61
  obtain ⟨x62, l63, e62, h63⟩ := uncons h62
  obtain ⟨x63, l64, e63, h64⟩ := uncons h63
  obtain ⟨x64, l65, e64, h65⟩ := uncons h64
  obtain ⟨x65, l66, e65, h66⟩ := uncons h65
  obtain ⟨x66, l67, e66, h67⟩ := uncons h66
  obtain ⟨x67, l68, e67, h68⟩ := uncons h67
  obtain ⟨x68, l69, e68, h69⟩ := uncons h68
  obtain ⟨x69, l70, e69, h70⟩ := uncons h69
  obtain ⟨x70, l71, e70, h71⟩ := uncons h70
  obtain ⟨x71, l72, e71, h72⟩ := uncons h71
  obtain ⟨x72, l73, e72, h73⟩ := uncons h72
  obtain ⟨x73, l74, e73, h74⟩ := uncons h73
  obtain ⟨x74, l75, e74, h75⟩ := uncons h74
  obtain ⟨x75, l76, e75, h76⟩ := uncons h75
  obtain ⟨x76, l77, e76, h77⟩ := uncons h76
  obtain ⟨x77, l78, e77, h78⟩ := uncons h77
  obtain ⟨x78, l79, e78, h79⟩ := uncons h78
  have e := List.eq_nil_of_length_eq_zero h79
  rw [e0, e1, e2, e3, e4, e5, e6, e7, e8, e9, e10, e11, e12, e13, e14, e15, e16, e17, e18, e19, e20, e21, e22, e23, e24, e25, e26, e27, e28, e29, e30, e31, e32, e33, e34, e35, e36, e37, e38, e39, e40, e41, e42, e43, e44, e45, e46, e47, e48, e49, e50, e51, e52, e53, e54, e55, e56, e57, e58, e59, e60, e61, e62, e63, e64, e65, e66, e67, e68, e69, e70, e71, e72, e73, e74, e75, e76, e77, e78, e]
  exact ⟨_, _, _, _, _, _, _, _, _, _, _, _, _, _, _, _, _, _, _, _, _, _, _, _, _, _, _, _, _, _, _, _, _, _, _, _, _, _, _, _, _, _, _, _, _, _, _, _, _, _, _, _, _, _, _, _, _, _, _, _, _, _, _, _, _, _, _, _, _, _, _, _, _, _, _, _, _, _, _, rfl⟩

/-- Reading all of what was put: all of it. -/
theorem read_all {M : VM} (hK : M.K.Is) (big : Bool) (L : List Ve) (ok : ∀ e ∈ L, e.Ok M.K ∧ e.May = true) (h0 : 0 < L.length) (rest : List UInt8) {w w' : World} {e : Ending} (h : VAll M (vAns M.K (vsB M.K big L ++ rest) big) w e w') :
    ∃ A c, e = .returned (.tuple #[.slice A L.length c, .nilIface]) ∧ ZV M w' w'.heap.size A L.length c L ∧ Grow w w' := by
  rw [ans_back hK big L ok h0 rest] at h
  rcases h with ⟨-, A, c, he, hz, hg⟩ | ⟨hno, -⟩
  · exact ⟨A, c, he, hz, hg⟩
  · exact absurd rfl hno
/-- Reading what was put, cut off: an error, but of no bytes. -/
theorem read_cut {M : VM} (hK : M.K.Is) (big : Bool) (L : List Ve) (ok : ∀ e ∈ L, e.Ok M.K ∧ e.May = true) (h0 : 0 < L.length) (k : Nat) (hk : k < (vsB M.K big L).length) {w w' : World} {e : Ending} (h : VAll M (vAns M.K ((vsB M.K big L).take k) big) w e w') :
    ∃ A n c er, e = .returned (.tuple #[.slice A n c, er]) ∧ ((k = 0 ∧ er = .nilIface) ∨ (0 < k ∧ ∃ b, er = .iface 78 (.pointer (some ⟨b, 0, none⟩)))) ∧ Grow w w' := by
  by_cases hk0 : k = 0
  · subst hk0
    have e0 : vAns M.K ((vsB M.K big L).take 0) big = ([], 0, 0) := rfl
    rw [e0] at h
    rcases h with ⟨-, A, c, he, hz, hg⟩ | ⟨hno, -⟩
    · exact ⟨A, _, c, _, he, .inl ⟨rfl, rfl⟩, hg⟩
    · exact absurd rfl hno
  · have hc := ans_cut hK big L ok h0 k hk (by omega)
    rcases h with ⟨hno, -⟩ | ⟨hb, v, he, hE, hg⟩
    · exact absurd hno hc
    · obtain ⟨b, rfl⟩ := hE.some hb
      exact ⟨none, 0, 0, _, he, .inr ⟨by omega, b, rfl⟩, hg⟩

theorem cut_h8 (a : Addr) (n c q : Nat) (hq : q ≤ c) (W : World) : (Instr.slice 24 (.slice (some a) n c) none (some (.int .i64 (q : Int))) none).run Try.prog W = .ok (.slice (some a) q c) W := by
  have elem8 : Try.prog.elem 24 = 5 := by kernel_rfl
  exact run_cut_h (P := Try.prog) 24 (by rw [elem8]; exact Try.underlying24) (fun W => by rw [elem8]; kernel_rfl) a n c .i64 q hq W

set_option maxRecDepth 100000 in
set_option maxHeartbeats 8000000 in
theorem verBack_core (A : Option Addr) (n c : Nat) (L : List Ve) (A' : Option Addr) (n' c' : Nat) (M : List Ve) (big : Bool) (A2 : Option Addr) (n2 c2 : Nat) (l : List UInt8) (cut : Int) (w : World)
    (h : ZV vmD w w.heap.size A n c L) (ok : ∀ e ∈ L, e.Ok vkD) (h' : ZV vmN w w.heap.size A' n' c' M) (ok' : ∀ e ∈ M, e.Ok vkN) (h2 : RB w w.heap.size A2 n2 c2 l) :
    Calls Try.prog 4 #[.slice A n c, .slice A' n' c', .bool big, .slice A2 n2 c2, .int .i64 cut] w fun e w' => e = .returned (.bool true) ∧ Below w.heap.size w w' := by
  have HS := Lib.hid h
  have HS' := Lib.hid h'
  have HR2 := Lib.hid h2
  have hn := h.len
  have hn' := h'.len
  have hn2 := h2.len
  have HSm := Lib.hid (fun W (h : ZV vmD W W.heap.size A n c L) (h' : ZV vmN W W.heap.size A' n' c' M) => small_any A A' n c n' c' L M _ W h h')
  clear h h' h2
  generalize hI : veSmI L M = I at HSm
  by_cases hsm : veSm L M = true ∧ n2 ≤ 1000
  rotate_left
  · have hI2 : I = 0 ∨ (I = 1 ∧ 1000 < n2) := by
      by_cases h : veSm L M = true
      · exact .inr ⟨by rw [← hI, veSmI_yes h], Nat.lt_of_not_le fun h2 => hsm ⟨h, h2⟩⟩
      · exact .inl (by rw [← hI]; exact veSmI_no (by simpa using h))
    clear hI hsm hn hn' hn2 ok ok'
    rcases hI2 with rfl | ⟨rfl, h5⟩
    · go_enter Try.func4, Try.ntmps4
      go_wp2_with fail
      refine (up13_any _).mono ?_
      rintro e w1 ⟨rfl, hg1⟩
      have HG1 := Lib.hid hg1
      clear hg1
      go_wp2_with fail
      refine (HSm.out _ (HS.out.grow HG1.out) (HS'.out.grow HG1.out)).mono ?_
      rintro e w' ⟨rfl, rfl⟩
      clear HSm HS HS' HR2
      go_wp2
      go_ret
      exact ⟨rfl, HG1.out⟩
    · have d2 : decide (1000 < (n2 : Int)) = true := decide_eq_true (by omega)
      clear h5
      go_enter Try.func4, Try.ntmps4
      go_wp2_with fail
      refine (up13_any _).mono ?_
      rintro e w1 ⟨rfl, hg1⟩
      have HG1 := Lib.hid hg1
      clear hg1
      go_wp2_with fail
      refine (HSm.out _ (HS.out.grow HG1.out) (HS'.out.grow HG1.out)).mono ?_
      rintro e w' ⟨rfl, rfl⟩
      clear HSm HS HS' HR2
      go_wp2
      go_ret
      exact ⟨rfl, HG1.out⟩
  · obtain ⟨hsm1, h5⟩ := hsm
    have hsp := hsm1
    unfold veSm at hsp
    rw [Bool.and_eq_true] at hsp
    have hbD := veSm1_len (K := vkD) (.inl rfl) big hsp.1
    have hbN := veSm1_len (K := vkN) (.inr rfl) big hsp.2
    have hn40 := (veSm1_of hsp.1).1
    have hn40' := (veSm1_of hsp.2).1
    obtain rfl : I = 1 := by rw [← hI, veSmI_yes hsm1]
    have d2 : decide (1000 < (n2 : Int)) = false := decide_eq_false (by omega)
    have HP := Lib.hid (fun W (h : ZV vmD W W.heap.size A n c L) => (putD_any A n c L ok big hbD (by omega) W h).mono fun e w' h => vput_uni h)
    have HP' := Lib.hid (fun W (h : ZV vmN W W.heap.size A' n' c' M) => (putN_any A' n' c' M ok' big hbN (by omega) W h).mono fun e w' h => vput_uni h)
    have HA := Lib.hid (fun (hm : VMays L = true) (h0 : 0 < n) (A : Option Addr) (n c : Nat) W (h : RB W W.heap.size A n c (vsB vkD big L ++ l)) => (defs_any A n c _ big W h (by have := h.len; rw [List.length_append] at this; omega)).mono fun e w' h => read_all (M := vmD) (.inl rfl) big L (fun e he => ⟨ok e he, mays_all hm e he⟩) (by omega) l h)
    have HC := Lib.hid (fun (hm : VMays L = true) (h0 : 0 < n) (A : Option Addr) (k c : Nat) (hk : k < (vsB vkD big L).length) W (h : RB W W.heap.size A k c ((vsB vkD big L).take k)) => (defs_any A k c _ big W h (by omega)).mono fun e w' h => read_cut (M := vmD) (.inl rfl) big L (fun e he => ⟨ok e he, mays_all hm e he⟩) (by omega) k hk h)
    have HA' := Lib.hid (fun (hm : VMays M = true) (h0 : 0 < n') (A : Option Addr) (n c : Nat) W (h : RB W W.heap.size A n c (vsB vkN big M ++ l)) => (needs_any A n c _ big W h (by have := h.len; rw [List.length_append] at this; omega)).mono fun e w' h => read_all (M := vmN) (.inr rfl) big M (fun e he => ⟨ok' e he, mays_all hm e he⟩) (by omega) l h)
    have HC' := Lib.hid (fun (hm : VMays M = true) (h0 : 0 < n') (A : Option Addr) (k c : Nat) (hk : k < (vsB vkN big M).length) W (h : RB W W.heap.size A k c ((vsB vkN big M).take k)) => (needs_any A k c _ big W h (by omega)).mono fun e w' h => read_cut (M := vmN) (.inr rfl) big M (fun e he => ⟨ok' e he, mays_all hm e he⟩) (by omega) k hk h)
    have HPos := Lib.hid (fun (h0 : 0 < n) => vsB_pos (K := vkD) (.inl rfl) big L (by omega))
    have HPos' := Lib.hid (fun (h0 : 0 < n') => vsB_pos (K := vkN) (.inr rfl) big M (by omega))
    have HX : Hid (VMays L = true → putX vkD L big = vsB vkD big L) := Lib.hid fun h => by rw [putX, if_pos h]
    have HX' : Hid (VMays M = true → putX vkN M big = vsB vkN big M) := Lib.hid fun h => by rw [putX, if_pos h]
    have HXn : Hid (VMays M = true → n' = 0 → (putX vkN M big).length = 0) := Lib.hid fun h h0 => by
      have : M = [] := List.eq_nil_of_length_eq_zero (by omega)
      rw [putX, if_pos h, this]; rfl
    have HXe : Hid (VMays M = false → (putX vkN M big).length = 0) := Lib.hid fun h => by rw [putX, if_neg (by simp [h])]; rfl
    have HNl := Lib.hid hn
    have HNl' := Lib.hid hn'
    rw [show vmD.K = vkD from rfl] at HP
    rw [show vmN.K = vkN from rfl] at HP'
    generalize vsB vkD big L = PD at HA HC HPos HX hbD
    generalize vsB vkN big M = PN at HA' HC' HPos' HX' hbN
    generalize putX vkD L big = X at HP HX
    generalize putX vkN M big = X' at HP' HX' HXn HXe
    generalize VMays L = bD at HP HA HC HX
    generalize VMays M = bN at HP' HA' HC' HX' HXn HXe
    have hn21 : n2 ≤ 1000 := h5
    clear hn hn' hn2 hI hsm1 h5 hsp hn40 hn40' ok ok'
    go_enter Try.func4, Try.ntmps4
    go_wp2_with fail
    refine (up13_any _).mono ?_
    rintro e w1 ⟨rfl, hg1⟩
    have HG1 := Lib.hid hg1
    clear hg1
    go_wp2_with fail
    refine (HSm.out _ (HS.out.grow HG1.out) (HS'.out.grow HG1.out)).mono ?_
    rintro e w' ⟨rfl, rfl⟩
    clear HSm
    go_wp2_with fail
    clear d2
    rename_i K hK K2 hK2
    have HK := Lib.hid hK
    clear hK
    refine (HP.out _ (HS.out.grow HG1.out)).mono ?_
    rintro e w2 ⟨Ac, cc, rfl, hr, hg2⟩
    have HR1 := Lib.hid hr
    have HG2 : Hid (Grow w w2) := HG1.out.trans hg2
    clear hr hg2 HG1 HP
    go_wp2_with fail
    apply HK.out
    clear HK K
    apply wp_seq_k
    intro K hK
    refine wp_cut (fun a a' w' => Grow w w' ∧ a' = ⟨(a.tmps.toList.take 14 ++ (a'.tmps.toList.drop 14).take 79 ++ a.tmps.toList.drop 93).toArray, a.defers⟩ ∧ ((a'.tmps.toList.drop 14).take 79).length = 79) ?_ ?_
    · clear HP' HA' HC' HPos' HX' HXn HXe HS' HNl' hbN hK K
      unfold putE
      by_cases hgo : bD = true ∧ 0 < n
      · obtain ⟨rfl, hn0⟩ := hgo
        obtain rfl := HX.out rfl
        have hpos := HPos.out hn0
        have HA1 := Lib.hid (HA.out rfl hn0)
        have HC1 := Lib.hid (HC.out rfl hn0)
        have g1 : decide ((0 : Int) < (n : Int)) = true := decide_eq_true (by omega)
        have g2 : (0 : Int) < (n : Int) := by omega
        simp only [if_true]
        clear HA HC HX HPos
        obtain ⟨pl, hpl⟩ : ∃ pl, pl = X.length := ⟨_, rfl⟩
        rw [← hpl] at hpos HR1
        rw [← hpl]
        have HPl := Lib.hid hpl
        have hpb : pl ≤ 100000 := by omega
        have g3 : ((pl : Int) == 0) = false := by simp; omega
        clear hpl
        obtain ⟨bb, ob, rfl, -, -⟩ := HR1.out.pos hpos
        have HO0 := Lib.hid (OB.roomyR w2 w2.heap.size 5 0 #[] rfl (Nat.zero_le _) (Nat.le_refl _))
        have hga := Grow.of_alloc w2 (.cells #[] 5)
        have HRa := Lib.hid ((HR1.out.belowAt hga (Nat.le_refl _)).more hga.size)
        have HGa := Lib.hid hga
        clear hga
        go_wp2_with (at_builtin; refine wpList_appendB (w2.alloc (.cells #[] 5)) rfl (.tmp 56) (.tmp 57) 24 rfl w2.heap.size 5 Try.underlying24 (by kernel_rfl) _ 0 0 _ rfl HO0.out _ _ pl cc _ rfl HRa.out (by omega) HGa.out.size ?_; intro A5 c5 w5 ho5 hb5; refine Hid.out ?_)
        rw [Nat.zero_add] at ho5
        have HO5 := Lib.hid ho5
        have HG5 : Hid (Grow w2 w5) := HGa.out.trans' hb5
        have HR5 := Lib.hid ((HR2.out.belowAt (HG2.out.trans HG5.out) (Nat.le_refl _)).more (HG2.out.trans HG5.out).size)
        clear ho5 hb5 HO0 HRa HGa
        refine Lib.hid ?_
        go_wp2_with (at_builtin; refine wpList_appendB w5 rfl (.tmp 58) (.tmp 59) 24 rfl w2.heap.size 5 Try.underlying24 (by kernel_rfl) A5 pl c5 _ rfl HO5.out _ A2 n2 c2 _ rfl HR5.out (by omega) HG5.out.size ?_; intro A6 c6 w6 ho6 hb6; refine Hid.out ?_)
        have HO6 := Lib.hid ho6.rb
        have HG6 : Hid (Grow w2 w6) := HG5.out.trans' hb6
        clear ho6 hb6 HO5 HG5 HR5
        refine Lib.hid ?_
        go_wp2_with fail
        refine (HA1.out _ _ _ _ HO6.out).mono ?_
        rintro e w7 ⟨Ax, cx, rfl, hz, hg7⟩
        have HZ7 := Lib.hid hz
        have HG7 : Hid (Grow w2 w7) := HG6.out.trans hg7
        clear hz hg7 HO6 HG6 HA1
        go_wp2_with fail
        refine (pick_below cut pl _ hpos (by omega)).mono ?_
        rintro e w' ⟨k, hkp, rfl, rfl⟩
        have s1 := cut_h8 ⟨bb, ob, none⟩ pl cc k (by have := HR1.out.cap; omega)
        have hrk := HR1.out.cut (p := 0) (m := k) (by omega)
        rw [cutA_zero, List.drop_zero, Nat.sub_zero] at hrk
        have HRk := Lib.hid ((hrk.belowAt HG7.out (Nat.le_refl _)).more HG7.out.size)
        have HkP : Hid (k < X.length) := Lib.hid (by rw [← HPl.out]; exact hkp)
        clear hrk
        go_wp2_with fail
        refine (HC1.out _ _ _ HkP.out _ HRk.out).mono ?_
        rintro e w8 ⟨Ay, ny, cy, er, rfl, hk0, hg8⟩
        have HK0 := Lib.hid hk0
        have HZ8 := Lib.hid (HZ7.out.grow hg8)
        have HG8 : Hid (Grow w2 w8) := HG7.out.trans hg8
        clear hg8 hk0 HZ7 HG7 HC1 HRk s1 HkP hkp
        go_wp2_with fail
        refine (sameD_any _ _ _ _ _ _ L _ HZ8.out (HS.out.grow (HG2.out.trans HG8.out))).mono ?_
        rintro e w9 ⟨rfl, hg9⟩
        have HG9 : Hid (Grow w w9) := (HG2.out.trans HG8.out).trans hg9
        clear hg9 HZ8 HG8 HG2 HR1 HR2
        rcases HK0.out with hk0 | hk0
        · obtain rfl : k = 0 := hk0.1
          obtain rfl := hk0.2
          go_wp2
          exact HG9.out
        · obtain ⟨hk1, be, rfl⟩ := hk0
          have f1 : ((k : Int) == 0) = false := by simp; omega
          go_wp2
          exact HG9.out
      · clear HA HC HX HPos HR2 HS HR1
        cases bD
        · simp only [Bool.false_eq_true, if_false]
          go_wp2
          exact HG2.out
        · obtain rfl : n = 0 := by
            rcases Nat.eq_zero_or_pos n with h | h
            · exact h
            · exact absurd ⟨rfl, h⟩ hgo
          simp only [if_true]
          go_wp2
          exact HG2.out
    · rintro a' w5 ⟨hgr, ha, hl⟩
      generalize (a'.tmps.toList.drop 14).take 79 = vs at ha hl
      obtain ⟨x0, x1, x2, x3, x4, x5, x6, x7, x8, x9, x10, x11, x12, x13, x14, x15, x16, x17, x18, x19, x20, x21, x22, x23, x24, x25, x26, x27, x28, x29, x30, x31, x32, x33, x34, x35, x36, x37, x38, x39, x40, x41, x42, x43, x44, x45, x46, x47, x48, x49, x50, x51, x52, x53, x54, x55, x56, x57, x58, x59, x60, x61, x62, x63, x64, x65, x66, x67, x68, x69, x70, x71, x72, x73, x74, x75, x76, x77, x78, rfl⟩ := list79 hl
      subst ha
      clear hl
      have HG5 := Lib.hid hgr
      clear hgr HA HC HX HPos HR1 HG2 HNl hbD
      apply hK
      clear hK K
      simp only [List.take_succ_cons, List.take_zero, List.drop_succ_cons, List.drop_zero, List.cons_append, List.nil_append]
      generalize putE bD = pe
      go_wp2_with fail
      refine (HP'.out _ (HS'.out.grow HG5.out)).mono ?_
      rintro e w2 ⟨Ac, cc, rfl, hr, hg2⟩
      have HR1 := Lib.hid hr
      have HG2 : Hid (Grow w w2) := HG5.out.trans hg2
      clear hr hg2 HG5 HP'
      unfold putE
      by_cases hgo : bN = true ∧ 0 < n'
      · obtain ⟨rfl, hn0⟩ := hgo
        obtain rfl := HX'.out rfl
        have hpos := HPos'.out hn0
        have HA1 := Lib.hid (HA'.out rfl hn0)
        have HC1 := Lib.hid (HC'.out rfl hn0)
        have g1 : ((n' : Int) == 0) = false := by simp; omega
        simp only [if_true]
        clear HA' HC' HX' HPos' HXn HXe
        obtain ⟨pl, hpl⟩ : ∃ pl, pl = X'.length := ⟨_, rfl⟩
        rw [← hpl] at hpos HR1
        rw [← hpl]
        have HPl := Lib.hid hpl
        have hpb : pl ≤ 100000 := by omega
        have g3 : ((pl : Int) == 0) = false := by simp; omega
        clear hpl
        obtain ⟨bb, ob, rfl, -, -⟩ := HR1.out.pos hpos
        have HO0 := Lib.hid (OB.roomyR w2 w2.heap.size 5 0 #[] rfl (Nat.zero_le _) (Nat.le_refl _))
        have hga := Grow.of_alloc w2 (.cells #[] 5)
        have HRa := Lib.hid ((HR1.out.belowAt hga (Nat.le_refl _)).more hga.size)
        have HGa := Lib.hid hga
        clear hga
        go_wp2_with (at_builtin; refine wpList_appendB (w2.alloc (.cells #[] 5)) rfl (.tmp 120) (.tmp 121) 24 rfl w2.heap.size 5 Try.underlying24 (by kernel_rfl) _ 0 0 _ rfl HO0.out _ _ pl cc _ rfl HRa.out (by omega) HGa.out.size ?_; intro A5 c5 w5 ho5 hb5; refine Hid.out ?_)
        rw [Nat.zero_add] at ho5
        have HO5 := Lib.hid ho5
        have HG5 : Hid (Grow w2 w5) := HGa.out.trans' hb5
        have HR5 := Lib.hid ((HR2.out.belowAt (HG2.out.trans HG5.out) (Nat.le_refl _)).more (HG2.out.trans HG5.out).size)
        clear ho5 hb5 HO0 HRa HGa
        refine Lib.hid ?_
        go_wp2_with (at_builtin; refine wpList_appendB w5 rfl (.tmp 122) (.tmp 123) 24 rfl w2.heap.size 5 Try.underlying24 (by kernel_rfl) A5 pl c5 _ rfl HO5.out _ A2 n2 c2 _ rfl HR5.out (by omega) HG5.out.size ?_; intro A6 c6 w6 ho6 hb6; refine Hid.out ?_)
        have HO6 := Lib.hid ho6.rb
        have HG6 : Hid (Grow w2 w6) := HG5.out.trans' hb6
        clear ho6 hb6 HO5 HG5 HR5
        refine Lib.hid ?_
        go_wp2_with fail
        refine (HA1.out _ _ _ _ HO6.out).mono ?_
        rintro e w7 ⟨Ax, cx, rfl, hz, hg7⟩
        have HZ7 := Lib.hid hz
        have HG7 : Hid (Grow w2 w7) := HG6.out.trans hg7
        clear hz hg7 HO6 HG6 HA1
        go_wp2_with fail
        refine (pick_below cut pl _ hpos (by omega)).mono ?_
        rintro e w' ⟨k, hkp, rfl, rfl⟩
        have s1 := cut_h8 ⟨bb, ob, none⟩ pl cc k (by have := HR1.out.cap; omega)
        have hrk := HR1.out.cut (p := 0) (m := k) (by omega)
        rw [cutA_zero, List.drop_zero, Nat.sub_zero] at hrk
        have HRk := Lib.hid ((hrk.belowAt HG7.out (Nat.le_refl _)).more HG7.out.size)
        have HkP : Hid (k < X'.length) := Lib.hid (by rw [← HPl.out]; exact hkp)
        clear hrk
        go_wp2_with fail
        refine (HC1.out _ _ _ HkP.out _ HRk.out).mono ?_
        rintro e w8 ⟨Ay, ny, cy, er, rfl, hk0, hg8⟩
        have HK0 := Lib.hid hk0
        have HZ8 := Lib.hid (HZ7.out.grow hg8)
        have HG8 : Hid (Grow w2 w8) := HG7.out.trans hg8
        clear hg8 hk0 HZ7 HG7 HC1 HRk s1 HkP hkp
        go_wp2_with fail
        refine (sameN_any _ _ _ _ _ _ M _ HZ8.out (HS'.out.grow (HG2.out.trans HG8.out))).mono ?_
        rintro e w9 ⟨rfl, hg9⟩
        have HG9 : Hid (Grow w w9) := (HG2.out.trans HG8.out).trans hg9
        clear hg9 HZ8 HG8 HG2 HR1 HR2
        rcases HK0.out with hk0 | hk0
        · obtain rfl : k = 0 := hk0.1
          obtain rfl := hk0.2
          go_wp2
          go_ret
          exact ⟨rfl, HG9.out⟩
        · obtain ⟨hk1, be, rfl⟩ := hk0
          have f1 : ((k : Int) == 0) = false := by simp; omega
          go_wp2
          go_ret
          exact ⟨rfl, HG9.out⟩
      · cases bN
        · have hx0 := HXe.out rfl
          clear HA' HC' HX' HPos' HXn HXe HR2 HS HR1
          simp only [Bool.false_eq_true, if_false]
          rw [hx0]
          go_wp2
          go_ret
          exact ⟨rfl, HG2.out⟩
        · obtain rfl : n' = 0 := by
            rcases Nat.eq_zero_or_pos n' with h | h
            · exact h
            · exact absurd ⟨rfl, h⟩ hgo
          have hx0 := HXn.out rfl rfl
          clear HA' HC' HX' HPos' HXn HXe HR2 HS HR1
          simp only [if_true]
          rw [hx0]
          go_wp2
          go_ret
          exact ⟨rfl, HG2.out⟩
end Go.Proofs.Ytfnaigeakfgpbaa
