/-
  Several texts in one: The contracts of strings; A map from names to places, as the lists tell it; The contract of strs; The walk of TopFinds, part by part; The walk of TopFinds, part 0.
-/
import Derived.Test.YtfbimboemahhhaaGreatDoorTfG9
import Derived.Test.YtfbimboemahhhaaGreatDoorTfG3
import Derived.Maps.OwnSet
import Derived.Test.YtfbimboemahhhaaGreatDoorTfG15
import Derived.Test.YtfbimboemahhhaaGreatDoorTfG4
import Derived.Test.YtfbimboemahhhaaGreatDoorTfG22
import Derived.Test.YtfbimboemahhhaaGreatDoorTfG36
import Derived.Test.YtfbimboemahhhaaGreatDoorTfG37
import Derived.Test.YtfbimboemahhhaaGreatDoorTfG21
import Derived.Test.YtfbimboemahhhaaGreatDoorTfG17
namespace Go.Proofs.YtfbimboemahhhaaGreatDoor
open Go.Lib (hid)
open Go.RowKit
set_option maxRecDepth 100000
theorem lidx_any (s : ByteArray) (w : World) :
  Calls Tryz.prog 114 #[.string s, .int .u8 0] w fun e w' => e = .returned (.int .i64 (Lib.indexByte s.data.toList 0)) ∧ w = w' := by
 have R := hid (Lib.run_indexByteString (P := Tryz.prog) s 0 w)
 go_enter Tryz.func114, Tryz.ntmps114
 go_wp2
 rw [run_callFunc_extern Tryz.func142 (by kernel_rfl) (by kernel_rfl) (by kernel_rfl) (e := Extern.BytealgIndexByte.indexByte) (by kernel_rfl), R.out]
 simp only [Result.andThen]
 rw [Oper.upon_value]
 go_wp2
 go_ret
 exact ⟨rfl, rfl⟩
theorem sidx_any (s : ByteArray) (w : World) :
  Calls Tryz.prog 66 #[.string s, .int .u8 0] w fun e w' => e = .returned (.int .i64 (Lib.indexByte s.data.toList 0)) ∧ w = w' := by
 go_enter Tryz.func66, Tryz.ntmps66
 go_wp2_with (go_at_call 114; refine (lidx_any _ _).mono ?_; rintro e w' ⟨rfl, rfl⟩)
 go_ret
 exact ⟨rfl, rfl⟩
set_option maxHeartbeats 400000 in
theorem areNames_any (A : Option Addr) (n c : Nat) (L : List Bs) (B : Nat) (w : World) (h : SS w B A n c L) :
  Calls Tryz.prog 24 #[.slice A n c] w fun e w' => e = .returned (.bool (areN L)) ∧ w = w' := by
 have HS := hid h
 have HL := hid h.len
 have hc := h.cap
 have hm := h.max
 unfold maxLen at hm
 clear h
 go_enter Tryz.func24, Tryz.ntmps24
 go_wp2
 go_loop [7] (fun i => ∃ k : Nat, k ≤ n ∧ i = .int .i64 k ∧ Hid (∀ j, j < k → noZero (L.getD j []) = true)) (fun i => n - (intOf i).toNat)
 case atStart => exact ⟨0, Nat.zero_le _, rfl, hid fun j hj => absurd hj (by omega)⟩
 case round =>
  obtain ⟨k, hk, rfl, HK⟩ := hrel
  by_cases hlt : k < n
  ·obtain ⟨b, off, rfl, hb, hcell⟩ := HS.out.pos (by omega)
   have hkL : k < L.length := by rw [← HL.out]; exact hlt
   have q := hcell k hkL
   have hi := indexByte_name (L.getD k [])
   have HM := hid (getD_mem hkL)
   have hl := bstr_list (L.getD k [])
   have HC : Hid (∀ w, Calls Tryz.prog 66 #[.string (bstr (L.getD k [])), .int .u8 0] w fun e w' => e = .returned (.int .i64 (Lib.indexByte (L.getD k []) 0)) ∧ w = w') := fun w => by
    have := sidx_any (bstr (L.getD k [])) w
    rw [hl] at this
    exact this
   have HI := hid hi
   clear hcell hb hkL hi hl
   generalize bstr (L.getD k []) = S at q HC
   generalize Lib.indexByte (L.getD k []) 0 = r at HC HI
   by_cases h0 : r < 0
   ·go_wp2_with (go_at_call 66; refine (HC.out _).mono ?_; rintro e w' ⟨rfl, rfl⟩)
    go_round
    case rel =>
     refine ⟨k + 1, by omega, by go_num, hid fun j hj => ?_⟩
     by_cases e : j < k
     ·exact HK.out j e
     ·have : j = k := by omega
      subst this
      exact HI.out.1 h0
    case measure => simp [intOf]; omega
   ·have E : Hid (areN L = false) := by
     refine hid ?_
     have : noZero (L.getD k []) = false := by
      cases hz : noZero (L.getD k [])
      ·rfl
      ·exact absurd (HI.out.2 hz) h0
     unfold areN
     rw [List.all_eq_false]
     exact ⟨_, HM.out, by rw [this]; decide⟩
    go_wp2_with (go_at_call 66; refine (HC.out _).mono ?_; rintro e w' ⟨rfl, rfl⟩)
    go_ret
    exact ⟨by rw [E.out]; rfl, rfl⟩
  ·have E : Hid (areN L = true) := hid (List.all_eq_true.2 (all_of_getD fun j hj => HK.out j (by rw [← HL.out] at hj; omega)))
   go_wp2
   go_ret
   exact ⟨by rw [E.out]; rfl, rfl⟩
end Go.Proofs.YtfbimboemahhhaaGreatDoor
namespace Go.Proofs.YtfbimboemahhhaaGreatDoor
open Go.Lib (hid)
open Go.RowKit Go.Maps
def MapOf (D : DataW Unit) (f : Bs → Option Nat) : Prop :=
 IsMap D ∧ ∀ s, Maps.has D (.string s) = (f s).isSome ∧ ∀ p, f s = some p → ∀ z, D.atKey (.string s) z = .lit (.int .u64 (p : Int))
theorem isKey {s : Bs} : WideAt.IsKeyLit (.string s) := by simp [WideAt.IsKeyLit]
theorem mapOf_empty : MapOf (.map []) fun _ => none := ⟨isMap_empty, fun _ => ⟨rfl, fun _ h => by cases h⟩⟩
theorem MapOf.put {D : DataW Unit} {f f' : Bs → Option Nat} {s : Bs} {p : Nat} (h : MapOf D f) (hf : ∀ x, f' x = if s = x then some p else f x) : MapOf (D.put (.string s) (.lit (.int .u64 (p : Int)))) f' := by
 refine ⟨h.1.put _ _, fun x => ?_⟩
 rw [hf]
 by_cases e : s = x
 ·subst e
  rw [if_pos rfl]
  refine ⟨has_put_same h.1 isKey _, fun q hq z => ?_⟩
  injection hq with hq
  subst hq
  exact atKey_put_same h.1 isKey _ _
 ·rw [if_neg e]
  have hne : Lit.string x ≠ Lit.string s := fun h => e (by injection h with h; exact h.symm)
  refine ⟨by rw [has_put_other hne]; exact (h.2 x).1, fun q hq z => ?_⟩
  rw [atKey_put_other hne]
  exact (h.2 x).2 q hq z
theorem MapOf.congr {D : DataW Unit} {f f' : Bs → Option Nat} (h : MapOf D f) (hf : ∀ x, f' x = f x) : MapOf D f' := by
 obtain rfl : f' = f := funext hf
 exact h
theorem wpList_insert_own {H : Type} {P : Program} (w : World) {ops : Array Oper} {rest : List Oper} {o : Oper} {a : Act} {Q : Exit → Act → World → Prop}
  (hg : o.guard = none) (m x v : Operand) (t : TypeId) (hop : o.op = Op.insert t m x v)
  (k e : TypeId) (K : Keyed P k) (ht : P.underlying t = some (.map k e)) (R : Value → Option (DataW H × List MemPlace)) (b n : Nat) (D : DataW H)
  (hm : a.eval m = .map (some b)) (hown : w.ownsMap P k R b n D) (hn : n < maxLen) (key val : Value) (kl : Lit) (hx : a.eval x = key) (hv : a.eval v = val) (hkey : keyOf P k key = some kl)
  (d : DataW H) (ps : List MemPlace) (hval : R val = some (d, ps))
  (hK : ∀ w', w'.ownsMap P k R b (n + 1) (D.put kl d) → w.grownBy w' (some b) → wpList P ops Q rest (a.put o.dst undef) w') :
  wpList P ops Q (o :: rest) a w := by
 refine wpList_plain hg fun K' hK' => ?_
 obtain ⟨w', hrun, r1, r2⟩ := hown.update K ht hn hkey hval
 unfold Oper.wp
 simp [execOp, hop, hm, hx, hv, hrun, Result.andThen]
 exact hK' _ _ (hK w' r1 r2)
theorem wpList_lookup_there {P : Program} (w : World) {ops : Array Oper} {rest : List Oper} {o : Oper} {a : Act} {Q : Exit → Act → World → Prop}
  (hg : o.guard = none) (m x : Operand) (t : TypeId) (hop : o.op = Op.lookup t m x true)
  (k e : TypeId) (K : Keyed P k) (ht : P.underlying t = some (.map k e)) (he : P.underlying e = some (.int .u64)) (hz : (zeroValue e).run P w = .ok (.int .u64 0) w) (b n : Nat) (D : DataW Unit)
  (hm : a.eval m = .map (some b)) (hown : w.ownsMap P k (plainElem P e) b n D) (key : Value) (s : Bs) (hx : a.eval x = key) (hkey : keyOf P k key = some (.string s))
  (f : Bs → Option Nat) (hD : MapOf D f) (p : Nat) (hp : f s = some p)
  (hK : wpList P ops Q rest (a.put o.dst (.tuple #[.int .u64 (p : Int), .bool true])) w) : wpList P ops Q (o :: rest) a w :=
 wpList_lookup_own_ok_int w hg m x t hop k e .u64 K ht he hz b n D hm hown key _ hx hkey (fun c hat _ => by
  rw [(hD.2 s).2 p hp] at hat
  injection hat with hat
  injection hat with _ hat
  rw [← hat, (hD.2 s).1, hp]
  exact hK)
theorem wpList_lookup_not {P : Program} (w : World) {ops : Array Oper} {rest : List Oper} {o : Oper} {a : Act} {Q : Exit → Act → World → Prop}
  (hg : o.guard = none) (m x : Operand) (t : TypeId) (hop : o.op = Op.lookup t m x true)
  (k e : TypeId) (K : Keyed P k) (ht : P.underlying t = some (.map k e)) (he : P.underlying e = some (.int .u64)) (hz : (zeroValue e).run P w = .ok (.int .u64 0) w) (b n : Nat) (D : DataW Unit)
  (hm : a.eval m = .map (some b)) (hown : w.ownsMap P k (plainElem P e) b n D) (key : Value) (s : Bs) (hx : a.eval x = key) (hkey : keyOf P k key = some (.string s))
  (f : Bs → Option Nat) (hD : MapOf D f) (hp : f s = none)
  (hK : wpList P ops Q rest (a.put o.dst (.tuple #[.int .u64 0, .bool false])) w) : wpList P ops Q (o :: rest) a w :=
 wpList_lookup_own_ok_int w hg m x t hop k e .u64 K ht he hz b n D hm hown key _ hx hkey (fun c hat _ => by
  have hh : Maps.has D (.string s) = false := by rw [(hD.2 s).1, hp]; rfl
  rw [atKey_of_not_has hh] at hat
  injection hat with hat
  injection hat with _ hat
  rw [← hat, hh]
  exact hK)
theorem strKeyed : Keyed Tryz.prog 9 := string_keyed Tryz.underlying9
theorem zeroU64 (w : World) : (zeroValue 37).run Tryz.prog w = .ok (.int .u64 0) w := by kernel_rfl
theorem keyStr {s : Bs} {S : ByteArray} (h : s.length ≤ maxLen) (hS : S = bstr s) : keyOf Tryz.prog 9 (.string S) = some (.string s) := by
 subst hS
 rw [WideMaps.keyOf_string_mk Tryz.underlying9 (by rw [bstr_size]; exact h), bstr_list]
def BuiltR (L : List Bs) (w : World) (e : Ending) (w' : World) : Prop :=
 Grow w w' ∧ ((areN L = false ∧ e = .returned (.tuple #[.slice none 0 0, .slice none 0 0, .iface 86 (.int .i64 9)])) ∨
  (areN L = true ∧ ∃ A c A2 c2, e = .returned (.tuple #[.slice A (tab L L.length).length c, .slice A2 L.length c2, .nilIface]) ∧ RB w' w'.heap.size A (tab L L.length).length c (tab L L.length) ∧
   NS w' w'.heap.size .u64 A2 L.length c2 (ats L L.length)))
theorem bound_tab {L : List Bs} {k : Nat} (h5 : ∀ s ∈ L, s.length ≤ 500) (hk : k ≤ 60) : (tab L k).length ≤ 40000 := by
 have h1 := tab_le h5 k
 have h2 : k * (500 + 1) ≤ 60 * 501 := Nat.mul_le_mul hk (Nat.le_refl _)
 omega
theorem own_new (w : World) (n : Nat) : (((w.alloc (.cells #[.int .u8 0] 5)).alloc (.cells (madeCells #[.int .u64 0] n) 37)).alloc (.map #[] 0)).ownsMap Tryz.prog 9 (plainElem (H := Unit) Tryz.prog 37) (w.heap.size + 1 + 1) 0 (.map []) := by
 have := World.ownsMap_made (H := Unit) ((w.alloc (.cells #[.int .u8 0] 5)).alloc (.cells (madeCells #[.int .u64 0] n) 37)) Tryz.prog 9 (plainElem Tryz.prog 37)
 simpa using this
theorem build_start (w : World) (n : Nat) (F : List Nat) {W : World} (hg : (((w.alloc (.cells #[.int .u8 0] 5)).alloc (.cells (madeCells #[.int .u64 0] n) 37)).alloc (.map #[] 0)).grownBy W (some (w.heap.size + 1 + 1))) :
  OB W w.heap.size 5 (some ⟨w.heap.size, 0, none⟩) 1 1 [0] ∧ W.rowIs (w.heap.size + 1) 37 n (laidTo .u64 F 0) ∧ Below w.heap.size w W ∧ w.heap.size + 1 + 1 < W.heap.size := by
 have h1 : OB (w.alloc (.cells #[.int .u8 0] 5)) w.heap.size 5 (some ⟨w.heap.size, 0, none⟩) 1 1 [0] := OB.lit w w.heap.size 5 [0] (by decide) (Nat.le_refl _)
 have h2 := ((h1.alloc (.cells (madeCells #[.int .u64 0] n) 37)).alloc (.map #[] 0)).grownBy hg (.inr (by simp [own]; omega))
 have r1 := (World.rowIs_made (w.alloc (.cells #[.int .u8 0] 5)) (.int .u64 0) n 37)
 have r2 := (r1.alloc (.map #[] 0))
 have s1 := hg.size
 simp at s1
 have e1 : (w.alloc (.cells #[.int .u8 0] 5)).heap.size = w.heap.size + 1 := by simp
 rw [e1] at r2
 refine ⟨h2, (r2.of_block (hg.block _ (by simp) (by simp))).congr fun i _ => by simp [laidTo], ?_, by omega⟩
 exact ((((Below.refl _ _).alloc (Nat.le_refl _) _).alloc (by simp) _).alloc (by simp; omega) _).grown hg (by simp; omega) (fun k hk => by injection hk with hk; omega)
set_option maxHeartbeats 1000000 in
set_option maxRecDepth 100000 in
theorem strBuild_any (A : Option Addr) (n c : Nat) (L : List Bs) (w : World) (h : SS w w.heap.size A n c L) (h60 : L.length ≤ 60) (h5 : ∀ s ∈ L, s.length ≤ 500) :
  Calls Tryz.prog 7 #[.slice A n c] w (BuiltR L w) := by
 obtain rfl := h.len
 have HS := hid h
 have hc := h.cap
 have hm := h.max
 unfold maxLen at hm
 have HA := hid (fun W (hS : SS W w.heap.size A L.length c L) => areNames_any A L.length c L _ W hS)
 have H5 := hid h5
 clear h h5
 obtain ⟨N, hN⟩ : ∃ N, N = areN L := ⟨_, rfl⟩
 rw [← hN] at HA
 cases N with
 | false =>
  have HN := hid hN.symm
  clear hN
  go_enter Tryz.func7, Tryz.ntmps7
  go_wp2_with (go_at_call 24; refine (HA.out _ HS.out).mono ?_; rintro e w' ⟨rfl, rfl⟩)
  go_ret3
  exact ⟨Grow.refl _, .inl ⟨HN.out, rfl⟩⟩
 | true =>
  have HN := hid hN.symm
  clear hN
  have hmk := run_make_row' (P := Tryz.prog) 30 37 (.int .u64 0) 8 Tryz.underlying30 (by kernel_rfl) rfl .i64 .i64 L.length (by omega) (by omega)
  have hmm := @run_makeMap Tryz.prog
  go_enter Tryz.func7, Tryz.ntmps7
  go_wp2_with fail
  refine (HA.out _ HS.out).mono ?_
  rintro e w' ⟨rfl, rfl⟩
  go_wp2_with (refine wpList_insert_own _ rfl (.tmp 20) _ _ 87 rfl 9 37 strKeyed Tryz.underlying87 (plainElem (H := Unit) Tryz.prog 37) (w.heap.size + 1 + 1) 0 (.map []) rfl (own_new w L.length) (by unfold maxLen; omega) _ _ _ rfl rfl (keyStr (s := []) (Nat.zero_le _) rfl) _ _ (plainElem_int Tryz.underlying37 (by decide)) ?_)
  intro W1 hown1 hg1
  obtain ⟨a1, a2, a3, a4⟩ := build_start w L.length (ats L L.length) hg1
  have HO0 := hid a1
  have HR0 := hid a2
  have HB0 := hid a3
  have HM0 := hid hown1
  clear hown1 hg1 a1 a2 a3 hmk hmm HA
  have HD0 : Hid (MapOf ((DataW.map []).put (.string []) (.lit (.int .u64 0))) (look (L.take 0) (ats L 0))) := by
   refine hid (MapOf.put (p := 0) mapOf_empty fun x => ?_)
   rw [List.take_zero, ats_zero, look_nil]
   by_cases e : x = []
   ·rw [if_pos e, if_pos e.symm]
   ·rw [if_neg e, if_neg fun h => e h.symm]
  generalize (DataW.map []).put (.string []) (.lit (.int .u64 0)) = D0 at HM0 HD0
  obtain ⟨G, hG⟩ : ∃ G, G = w.heap.size := ⟨_, rfl⟩
  rw [← hG] at a4 HO0 HR0 HM0 HB0 ⊢
  have HGw := hid hG
  clear hG
  have h61 : (L.length : Int) ≤ 60 := by omega
  go_wp2_with fail
  go_loopw [5, 24] (fun T i wr => ∃ (k : Nat) (A : Option Addr) (c : Nat) (D : DataW Unit), k ≤ L.length ∧ i = .int .i64 k ∧ T = .slice A (tab L k).length c ∧ OB wr G 5 A (tab L k).length c (tab L k) ∧
   wr.ownsMap Tryz.prog 9 (plainElem Tryz.prog 37) (G + 1 + 1) (k + 1) D ∧ MapOf D (look (L.take k) (ats L k)) ∧ wr.rowIs (G + 1) 37 L.length (laidTo .u64 (ats L L.length) k) ∧ Below G w wr ∧ G + 1 + 1 < wr.heap.size) (fun _ i _ => L.length - (intOf i).toNat)
  case atStart => exact ⟨0, _, _, D0, Nat.zero_le _, rfl, rfl, HO0.out, HM0.out, HD0.out, HR0.out, HB0.out, a4⟩
  case round =>
   obtain ⟨k, TA, tc, D, hk, rfl, rfl, ho, hmap, hD, hrow, hbel, hsz⟩ := hrel
   have HO := hid ho
   have HM := hid hmap
   have HD := hid hD
   have HR := hid hrow
   have HB := hid hbel
   clear ho hmap hD hrow hbel HO0 HR0 HB0 HM0 HD0
   by_cases hlt : k < L.length
   ·have HSw := (HS.out.belowAt HB.out (by rw [HGw.out]; exact Nat.le_refl _))
    obtain ⟨b, off, rfl, hb, hcell⟩ := HSw.pos (by omega)
    have q := hcell k hlt
    clear hb hcell
    have HQ := hid (H5.out _ (getD_mem hlt))
    obtain ⟨s, hs⟩ : ∃ s, s = L.getD k [] := ⟨_, rfl⟩
    rw [← hs] at q HQ
    have Hs := hid hs
    obtain ⟨S, hS⟩ : ∃ S, S = bstr s := ⟨_, rfl⟩
    rw [← hS] at q
    have HSs := hid hS
    have HK := hid (keyStr (S := S) (s := s) (by have := HQ.out; unfold maxLen; omega) hS)
    clear hs hS
    have ht := bound_tab H5.out (k := k) (by omega)
    cases hl : look (L.take k) (ats L k) s with
    | some p =>
     have HP := hid hl
     have HPL : Hid (look (L.take k) (ats L k) (L.getD k []) = some p) := by rw [← Hs.out]; exact HP
     clear hl
     have c1 := HR.out.cell hlt
     have f1 := HR.out.frozen k
     have HR1 := hid (HR.out.set k (.int .u64 (p : Int)))
     go_wp2_with (refine wpList_lookup_there _ rfl (.tmp 30) (.tmp 31) 87 rfl 9 37 strKeyed Tryz.underlying87 Tryz.underlying37 (zeroU64 _) (G + 1 + 1) _ D rfl HM.out _ s rfl HK.out _ HD.out p HP.out ?_)
     go_roundw
     case rel =>
      have e1 := (tab_old HPL.out).1
      exact ⟨k + 1, TA, tc, D, by omega, by go_num, by rw [e1], by rw [e1]; exact HO.out.grownBy (grown_setB _ _ _) (.inr (HO.out.rowNe HR.out (by decide)).symm), (HM.out.setCell (show G + 1 + 1 ≠ G + 1 by omega) _).mono (by omega),
       HD.out.congr fun x => look_old hlt HPL.out x, HR1.out.congr fun j _ => laidTo_succ (ats_at_old hlt HPL.out) j, HB.out.setCell (show G ≤ G + 1 by omega) _, by simpa using hsz⟩
     case measure => simp [intOf]; omega
    | none =>
     have HP := hid hl
     have HPL : Hid (look (L.take k) (ats L k) (L.getD k []) = none) := by rw [← Hs.out]; exact HP
     clear hl
     have z1 : IntKind.u64.wrap ((tab L k).length : Int) = ((tab L k).length : Int) := by rw [IntKind.wrap_u64]; omega
     go_wp2_with (first
      | (refine wpList_lookup_not _ rfl (.tmp 30) (.tmp 31) 87 rfl 9 37 strKeyed Tryz.underlying87 Tryz.underlying37 (zeroU64 _) (G + 1 + 1) _ D rfl HM.out _ s rfl HK.out _ HD.out HP.out ?_)
      | (refine wpList_mapUpdate_own _ rfl (.tmp 40) (.tmp 41) (.tmp 42) 87 rfl 9 37 strKeyed Tryz.underlying87 (plainElem (H := Unit) Tryz.prog 37) (G + 1 + 1) _ D rfl HM.out (by unfold maxLen; omega) _ _ _ rfl rfl HK.out _ _ (plainElem_int Tryz.underlying37 (WalkArith.wf_u64 (by omega))) ?_))
     intro w2 hown2 hg2
     have HM2 := hid hown2
     have HG2 := hid hg2
     have HO2 := hid (HO.out.grownBy hg2 (.inr (HO.out.mapNe HM.out).symm))
     have HR2 := hid (HR.out.of_block (hg2.block _ HR.out.lt (by simp)))
     have HB2 := hid (HB.out.grown hg2 (by omega) (fun j hj => by injection hj with hj; omega))
     have hz2 := hg2.size
     have hq := HQ.out
     clear hown2 hg2 HK
     go_wp2_with (refine wpList_appendStr _ rfl (.tmp 43) (.tmp 44) 29 9 rfl G 5 Tryz.underlying29 Tryz.underlying9 (by kernel_rfl) TA _ tc _ rfl HO2.out S s HSs.out rfl (by omega) (by omega) ?_)
     intro A3 c3 w3 ho3 hg3
     have HM3 := hid (HM2.out.kept hg3 (HO2.out.mapNe HM2.out))
     have HR3 := hid (HR2.out.of_block (hg3.block _ HR2.out.lt (HO2.out.rowNe HR2.out (by decide))))
     have HB3 := hid (HB2.out.grown hg3 (by omega) (fun j hj => HO2.out.ge hj))
     have HO3 := hid (ho3.alloc (.cells #[.int .u8 0] 5))
     have HL3 := hid (RB.lit w3 5 [0] (by decide))
     have hz3 := hg3.size
     clear ho3 hg3
     go_wp2_with (refine wpList_appendG _ rfl (.tmp 46) (.tmp 47) 29 rfl G 5 Tryz.underlying29 (by kernel_rfl) A3 _ c3 _ rfl HO3.out _ _ 1 1 [0] rfl HL3.out (by omega) (by simp; omega) ?_)
     intro A4 c4 w4 ho4 hg4
     have hz4 := hg4.size
     simp at hz4
     have HM4 := hid ((HM3.out.alloc (.cells #[.int .u8 0] 5)).kept hg4 (HO3.out.mapNe (HM3.out.alloc _)))
     have HR4 := hid ((HR3.out.alloc (.cells #[.int .u8 0] 5)).of_block (hg4.block _ (by have := HR3.out.lt; simp; omega) (HO3.out.rowNe (HR3.out.alloc _) (by decide))))
     have HB4 := hid ((HB3.out.alloc (show G ≤ w3.heap.size by omega) (.cells #[.int .u8 0] 5)).grown hg4 (by simp; omega) (fun j hj => HO3.out.ge hj))
     have HO4 := hid ho4
     have c1 := HR4.out.cell hlt
     have f1 := HR4.out.frozen k
     have HR5 := hid (HR4.out.set k (.int .u64 ((tab L k).length : Int)))
     clear ho4 hg4
     go_wp2
     go_roundw
     case rel =>
      have e1 := (tab_new HPL.out).1
      rw [← Hs.out] at e1
      have e2 : (tab L (k + 1)).length = (tab L k).length + s.length + 1 := by rw [e1, List.length_append, List.length_append]; rfl
      exact ⟨k + 1, A4, c4, _, by omega, by go_num, by rw [e2], by rw [e2, e1]; exact HO4.out.grownBy (grown_setB w4 ⟨G + 1, k, none⟩ _) (.inr (HO4.out.rowNe HR4.out (by decide)).symm), HM4.out.setCell (show G + 1 + 1 ≠ G + 1 by omega) _,
       HD.out.put fun x => by rw [look_new hlt HPL.out, Hs.out], HR5.out.congr fun j _ => laidTo_succ (ats_at_new hlt HPL.out) j, HB4.out.setCell (show G ≤ G + 1 by omega) _, by simp; omega⟩
     case measure => simp [intOf]; omega
   ·obtain rfl : k = L.length := by omega
    have e0 : (ats L L.length).length = L.length := ats_len _
    have HBl := hid (blk_of_rowIs HR.out e0)
    have HNs := hid (NS.of_blk (B := wr.heap.size) HBl.out rfl (by omega) (by rw [e0]; unfold maxLen; omega))
    rw [e0] at HNs
    clear e0
    go_wp2
    go_ret3
    refine ⟨by have := HB.out; rw [HGw.out] at this; exact this, .inr ⟨HN.out, TA, tc, _, _, rfl, HO.out.rb, HNs.out⟩⟩
end Go.Proofs.YtfbimboemahhhaaGreatDoor
namespace Go.Proofs.YtfbimboemahhhaaGreatDoor
open Go.Lib (hid)
open Go.RowKit
set_option maxRecDepth 100000
set_option linter.unusedVariables false
def sufOf : Nat → Code → Code
 | n + 1, .seq _ b => sufOf n b
 | _, c => c
def bodyOf (f : Func) : Code := match f.body with
 | some c => c
 | none => .skip
theorem uncons1 {l : List Value} {n : Nat} (h : l.length = n + 1) : ∃ x t, l = x :: t ∧ t.length = n := by
 cases l with
 | nil => simp at h
 | cons x t => exact ⟨x, t, rfl, by simpa using h⟩
theorem ls16 {l : List Value} {n : Nat} (h : l.length = n + 16) : ∃ x0 x1 x2 x3 x4 x5 x6 x7 x8 x9 x10 x11 x12 x13 x14 x15 t, l = x0 :: x1 :: x2 :: x3 :: x4 :: x5 :: x6 :: x7 :: x8 :: x9 :: x10 :: x11 :: x12 :: x13 :: x14 :: x15 :: t ∧ t.length = n := by
 obtain ⟨x0, l, rfl, h0⟩ := uncons1 h
 obtain ⟨x1, l, rfl, h1⟩ := uncons1 h0
 obtain ⟨x2, l, rfl, h2⟩ := uncons1 h1
 obtain ⟨x3, l, rfl, h3⟩ := uncons1 h2
 obtain ⟨x4, l, rfl, h4⟩ := uncons1 h3
 obtain ⟨x5, l, rfl, h5⟩ := uncons1 h4
 obtain ⟨x6, l, rfl, h6⟩ := uncons1 h5
 obtain ⟨x7, l, rfl, h7⟩ := uncons1 h6
 obtain ⟨x8, l, rfl, h8⟩ := uncons1 h7
 obtain ⟨x9, l, rfl, h9⟩ := uncons1 h8
 obtain ⟨x10, l, rfl, h10⟩ := uncons1 h9
 obtain ⟨x11, l, rfl, h11⟩ := uncons1 h10
 obtain ⟨x12, l, rfl, h12⟩ := uncons1 h11
 obtain ⟨x13, l, rfl, h13⟩ := uncons1 h12
 obtain ⟨x14, l, rfl, h14⟩ := uncons1 h13
 obtain ⟨x15, l, rfl, h15⟩ := uncons1 h14
 exact ⟨x0, x1, x2, x3, x4, x5, x6, x7, x8, x9, x10, x11, x12, x13, x14, x15, l, rfl, h15⟩
set_option maxHeartbeats 4000000 in
theorem tf_frame (a : Act) (h : a.tmps.size = 308) (hd : a.defers = []) : ∃ v : Nat → Value, a = ⟨#[v 0, v 1, v 2, v 3, v 4, v 5, v 6, v 7, v 8, v 9, v 10, v 11, v 12, v 13, v 14, v 15, v 16, v 17, v 18, v 19, v 20, v 21, v 22, v 23, v 24, v 25, v 26, v 27, v 28, v 29, v 30, v 31, v 32, v 33, v 34, v 35, v 36, v 37, v 38, v 39, v 40, v 41, v 42, v 43, v 44, v 45, v 46, v 47, v 48, v 49, v 50, v 51, v 52, v 53, v 54, v 55, v 56, v 57, v 58, v 59, v 60, v 61, v 62, v 63, v 64, v 65, v 66, v 67, v 68, v 69, v 70, v 71, v 72, v 73, v 74, v 75, v 76, v 77, v 78, v 79, v 80, v 81, v 82, v 83, v 84, v 85, v 86, v 87, v 88, v 89, v 90, v 91, v 92, v 93, v 94, v 95, v 96, v 97, v 98, v 99, v 100, v 101, v 102, v 103, v 104, v 105, v 106, v 107, v 108, v 109, v 110, v 111, v 112, v 113, v 114, v 115, v 116, v 117, v 118, v 119, v 120, v 121, v 122, v 123, v 124, v 125, v 126, v 127, v 128, v 129, v 130, v 131, v 132, v 133, v 134, v 135, v 136, v 137, v 138, v 139, v 140, v 141, v 142, v 143, v 144, v 145, v 146, v 147, v 148, v 149, v 150, v 151, v 152, v 153, v 154, v 155, v 156, v 157, v 158, v 159, v 160, v 161, v 162, v 163, v 164, v 165, v 166, v 167, v 168, v 169, v 170, v 171, v 172, v 173, v 174, v 175, v 176, v 177, v 178, v 179, v 180, v 181, v 182, v 183, v 184, v 185, v 186, v 187, v 188, v 189, v 190, v 191, v 192, v 193, v 194, v 195, v 196, v 197, v 198, v 199, v 200, v 201, v 202, v 203, v 204, v 205, v 206, v 207, v 208, v 209, v 210, v 211, v 212, v 213, v 214, v 215, v 216, v 217, v 218, v 219, v 220, v 221, v 222, v 223, v 224, v 225, v 226, v 227, v 228, v 229, v 230, v 231, v 232, v 233, v 234, v 235, v 236, v 237, v 238, v 239, v 240, v 241, v 242, v 243, v 244, v 245, v 246, v 247, v 248, v 249, v 250, v 251, v 252, v 253, v 254, v 255, v 256, v 257, v 258, v 259, v 260, v 261, v 262, v 263, v 264, v 265, v 266, v 267, v 268, v 269, v 270, v 271, v 272, v 273, v 274, v 275, v 276, v 277, v 278, v 279, v 280, v 281, v 282, v 283, v 284, v 285, v 286, v 287, v 288, v 289, v 290, v 291, v 292, v 293, v 294, v 295, v 296, v 297, v 298, v 299, v 300, v 301, v 302, v 303, v 304, v 305, v 306, v 307], []⟩ := by
 obtain ⟨⟨l⟩, d⟩ := a
 obtain rfl : d = [] := hd
 replace h : l.length = 308 := h
 obtain ⟨t0, t1, t2, t3, t4, t5, t6, t7, t8, t9, t10, t11, t12, t13, t14, t15, l, rfl, h0⟩ := ls16 (n := 292) h
 obtain ⟨t16, t17, t18, t19, t20, t21, t22, t23, t24, t25, t26, t27, t28, t29, t30, t31, l, rfl, h16⟩ := ls16 (n := 276) h0
 obtain ⟨t32, t33, t34, t35, t36, t37, t38, t39, t40, t41, t42, t43, t44, t45, t46, t47, l, rfl, h32⟩ := ls16 (n := 260) h16
 obtain ⟨t48, t49, t50, t51, t52, t53, t54, t55, t56, t57, t58, t59, t60, t61, t62, t63, l, rfl, h48⟩ := ls16 (n := 244) h32
 obtain ⟨t64, t65, t66, t67, t68, t69, t70, t71, t72, t73, t74, t75, t76, t77, t78, t79, l, rfl, h64⟩ := ls16 (n := 228) h48
 obtain ⟨t80, t81, t82, t83, t84, t85, t86, t87, t88, t89, t90, t91, t92, t93, t94, t95, l, rfl, h80⟩ := ls16 (n := 212) h64
 obtain ⟨t96, t97, t98, t99, t100, t101, t102, t103, t104, t105, t106, t107, t108, t109, t110, t111, l, rfl, h96⟩ := ls16 (n := 196) h80
 obtain ⟨t112, t113, t114, t115, t116, t117, t118, t119, t120, t121, t122, t123, t124, t125, t126, t127, l, rfl, h112⟩ := ls16 (n := 180) h96
 obtain ⟨t128, t129, t130, t131, t132, t133, t134, t135, t136, t137, t138, t139, t140, t141, t142, t143, l, rfl, h128⟩ := ls16 (n := 164) h112
 obtain ⟨t144, t145, t146, t147, t148, t149, t150, t151, t152, t153, t154, t155, t156, t157, t158, t159, l, rfl, h144⟩ := ls16 (n := 148) h128
 obtain ⟨t160, t161, t162, t163, t164, t165, t166, t167, t168, t169, t170, t171, t172, t173, t174, t175, l, rfl, h160⟩ := ls16 (n := 132) h144
 obtain ⟨t176, t177, t178, t179, t180, t181, t182, t183, t184, t185, t186, t187, t188, t189, t190, t191, l, rfl, h176⟩ := ls16 (n := 116) h160
 obtain ⟨t192, t193, t194, t195, t196, t197, t198, t199, t200, t201, t202, t203, t204, t205, t206, t207, l, rfl, h192⟩ := ls16 (n := 100) h176
 obtain ⟨t208, t209, t210, t211, t212, t213, t214, t215, t216, t217, t218, t219, t220, t221, t222, t223, l, rfl, h208⟩ := ls16 (n := 84) h192
 obtain ⟨t224, t225, t226, t227, t228, t229, t230, t231, t232, t233, t234, t235, t236, t237, t238, t239, l, rfl, h224⟩ := ls16 (n := 68) h208
 obtain ⟨t240, t241, t242, t243, t244, t245, t246, t247, t248, t249, t250, t251, t252, t253, t254, t255, l, rfl, h240⟩ := ls16 (n := 52) h224
 obtain ⟨t256, t257, t258, t259, t260, t261, t262, t263, t264, t265, t266, t267, t268, t269, t270, t271, l, rfl, h256⟩ := ls16 (n := 36) h240
 obtain ⟨t272, t273, t274, t275, t276, t277, t278, t279, t280, t281, t282, t283, t284, t285, t286, t287, l, rfl, h272⟩ := ls16 (n := 20) h256
 obtain ⟨t288, t289, t290, t291, t292, t293, t294, t295, t296, t297, t298, t299, t300, t301, t302, t303, l, rfl, h288⟩ := ls16 (n := 4) h272
 obtain ⟨t304, l, rfl, h304⟩ := uncons1 (n := 3) h288
 obtain ⟨t305, l, rfl, h305⟩ := uncons1 (n := 2) h304
 obtain ⟨t306, l, rfl, h306⟩ := uncons1 (n := 1) h305
 obtain ⟨t307, l, rfl, h307⟩ := uncons1 (n := 0) h306
 obtain rfl : l = [] := List.length_eq_zero_iff.1 h307
 exact ⟨fun i => [t0, t1, t2, t3, t4, t5, t6, t7, t8, t9, t10, t11, t12, t13, t14, t15, t16, t17, t18, t19, t20, t21, t22, t23, t24, t25, t26, t27, t28, t29, t30, t31, t32, t33, t34, t35, t36, t37, t38, t39, t40, t41, t42, t43, t44, t45, t46, t47, t48, t49, t50, t51, t52, t53, t54, t55, t56, t57, t58, t59, t60, t61, t62, t63, t64, t65, t66, t67, t68, t69, t70, t71, t72, t73, t74, t75, t76, t77, t78, t79, t80, t81, t82, t83, t84, t85, t86, t87, t88, t89, t90, t91, t92, t93, t94, t95, t96, t97, t98, t99, t100, t101, t102, t103, t104, t105, t106, t107, t108, t109, t110, t111, t112, t113, t114, t115, t116, t117, t118, t119, t120, t121, t122, t123, t124, t125, t126, t127, t128, t129, t130, t131, t132, t133, t134, t135, t136, t137, t138, t139, t140, t141, t142, t143, t144, t145, t146, t147, t148, t149, t150, t151, t152, t153, t154, t155, t156, t157, t158, t159, t160, t161, t162, t163, t164, t165, t166, t167, t168, t169, t170, t171, t172, t173, t174, t175, t176, t177, t178, t179, t180, t181, t182, t183, t184, t185, t186, t187, t188, t189, t190, t191, t192, t193, t194, t195, t196, t197, t198, t199, t200, t201, t202, t203, t204, t205, t206, t207, t208, t209, t210, t211, t212, t213, t214, t215, t216, t217, t218, t219, t220, t221, t222, t223, t224, t225, t226, t227, t228, t229, t230, t231, t232, t233, t234, t235, t236, t237, t238, t239, t240, t241, t242, t243, t244, t245, t246, t247, t248, t249, t250, t251, t252, t253, t254, t255, t256, t257, t258, t259, t260, t261, t262, t263, t264, t265, t266, t267, t268, t269, t270, t271, t272, t273, t274, t275, t276, t277, t278, t279, t280, t281, t282, t283, t284, t285, t286, t287, t288, t289, t290, t291, t292, t293, t294, t295, t296, t297, t298, t299, t300, t301, t302, t303, t304, t305, t306, t307].getD i undef, rfl⟩
structure TfF (gf : Nat) (S : ByteArray) (a : Act) : Prop where
 size : a.tmps.size = 308
 defers : a.defers = []
 t3 : a.tmps.getD 3 undef = .string S
 t4 : a.tmps.getD 4 undef = .pointer (some ⟨gf, 0, none⟩)
 t9 : a.tmps.getD 9 undef = .bool true
section
variable (L : List Bs) (n : Nat) (wide big : Bool) (S : ByteArray) (w : World)
def J4 (A1 : Option Addr) (c1 : Nat) (a : Act) (W : World) : Prop :=
 ∃ gf b0, TfF gf S a ∧ Blk W gf 23 #[.bool wide, .bool big] ∧ Grow w W ∧ a.tmps.getD 1 undef = .slice A1 n c1 ∧ a.tmps.getD 2 undef = .int .i64 b0
structure TfO (b : Nat) (f : Nat → Nat) : Prop where
 b1 : 1 ≤ b
 b2 : b ≤ 20
 lt : ∀ i, i < n → f i < n
 up : Rise (fun i => gnH (L.getD i []) % b) 0 n f
def J9 (a : Act) (W : World) : Prop :=
 ∃ gf b f A3 c3, TfF gf S a ∧ Blk W gf 23 #[.bool wide, .bool big] ∧ Grow w W ∧ TfO L n b f ∧ a.tmps.getD 2 undef = .int .i64 (b : Nat) ∧ a.tmps.getD 12 undef = .slice A3 (n + 1) c3 ∧ SS W W.heap.size A3 (n + 1) c3 (allT L f n)
def nmT (f : Nat → Nat) : Bs := tab (allT L f n) (n + 1)
def atT_ (f : Nat → Nat) : List Nat := ats (allT L f n) (n + 1)
def J14 (a : Act) (W : World) : Prop :=
 ∃ gf b f A3 c3 An cn Ay cy, TfF gf S a ∧ Blk W gf 23 #[.bool wide, .bool big] ∧ Grow w W ∧ TfO L n b f ∧ areN (allT L f n) = true ∧ a.tmps.getD 2 undef = .int .i64 (b : Nat) ∧ a.tmps.getD 12 undef = .slice A3 (n + 1) c3 ∧ SS W W.heap.size A3 (n + 1) c3 (allT L f n) ∧
  a.tmps.getD 14 undef = .slice An (nmT L n f).length cn ∧ RB W W.heap.size An (nmT L n f).length cn (nmT L n f) ∧ a.tmps.getD 17 undef = .slice Ay (n + 1) cy ∧ ZS W W.heap.size 6 Ay (n + 1) cy ((sysT (atT_ L n f) (n + 1)).map Sy.C)
def symT (f : Nat → Nat) : Bs := rowB big (symQ wide (sysT (atT_ L n f) (n + 1)))
def tblT (b : Nat) (f : Nat → Nat) : Gn := lawG 1 b 2 6 wide big L f
def J17 (a : Act) (W : World) : Prop :=
 ∃ gf b f A3 c3 An cn Ab cb At ct, TfF gf S a ∧ Blk W gf 23 #[.bool wide, .bool big] ∧ Grow w W ∧ TfO L n b f ∧ areN (allT L f n) = true ∧ a.tmps.getD 12 undef = .slice A3 (n + 1) c3 ∧ SS W W.heap.size A3 (n + 1) c3 (allT L f n) ∧
  a.tmps.getD 14 undef = .slice An (nmT L n f).length cn ∧ RB W W.heap.size An (nmT L n f).length cn (nmT L n f) ∧ a.tmps.getD 21 undef = .slice Ab (symT L n wide big f).length cb ∧ RB W W.heap.size Ab (symT L n wide big f).length cb (symT L n wide big f) ∧
  a.tmps.getD 19 undef = .slice At (tblT L wide big b f).B.length ct ∧ RB W W.heap.size At (tblT L wide big b f).B.length ct (tblT L wide big b f).B
def mdFT (b : Nat) (f : Nat → Nat) : Md := mdTf wide big (nmT L n f) (symT L n wide big f) (tblT L wide big b f).B
def J19 (a : Act) (W : World) : Prop :=
 ∃ gf b f A3 c3 gx A2 c2, TfF gf S a ∧ Blk W gf 23 #[.bool wide, .bool big] ∧ Grow w W ∧ TfO L n b f ∧ areN (allT L f n) = true ∧ a.tmps.getD 12 undef = .slice A3 (n + 1) c3 ∧ SS W W.heap.size A3 (n + 1) c3 (allT L f n) ∧
  a.tmps.getD 23 undef = .pointer (some ⟨gx, 0, none⟩) ∧ Blk W gx 51 (mdC (mdFT L n wide big b f) (.slice none 0 0) (.slice A2 3 c2)) ∧ ZR seK W W.heap.size A2 3 c2 (mdFT L n wide big b f).secs
def J22 (a : Act) (W : World) : Prop :=
 ∃ gf b f A3 c3 gx A1 c1 A2 c2, TfF gf S a ∧ Blk W gf 23 #[.bool wide, .bool big] ∧ Grow w W ∧ TfO L n b f ∧ areN (allT L f n) = true ∧ a.tmps.getD 12 undef = .slice A3 (n + 1) c3 ∧ SS W W.heap.size A3 (n + 1) c3 (allT L f n) ∧
  a.tmps.getD 29 undef = .pointer (some ⟨gx, 0, none⟩) ∧ Blk W gx 51 (mdC (mdFT L n wide big b f) (.slice A1 0 c1) (.slice A2 3 c2)) ∧ ZR sgK W W.heap.size A1 0 c1 [] ∧ ZR seK W W.heap.size A2 3 c2 (mdFT L n wide big b f).secs
def J24 (a : Act) (W : World) : Prop :=
 ∃ gf b f A3 c3 gx A1 c1 A2 c2 Ar cr, TfF gf S a ∧ Blk W gf 23 #[.bool wide, .bool big] ∧ Grow w W ∧ TfO L n b f ∧ areN (allT L f n) = true ∧ a.tmps.getD 12 undef = .slice A3 (n + 1) c3 ∧ SS W W.heap.size A3 (n + 1) c3 (allT L f n) ∧
  a.tmps.getD 29 undef = .pointer (some ⟨gx, 0, none⟩) ∧ Blk W gx 51 (mdC (mdFT L n wide big b f) (.slice A1 0 c1) (.slice A2 3 c2)) ∧ ZR sgK W W.heap.size A1 0 c1 [] ∧ ZR seK W W.heap.size A2 3 c2 (mdFT L n wide big b f).secs ∧
  a.tmps.getD 31 undef = .slice Ar (n + 1) cr ∧ ZS W W.heap.size 6 Ar (n + 1) cr ((sysT (atT_ L n f) (n + 1)).map Sy.C)
def J27 (s : Bs) (a : Act) (W : World) : Prop :=
 ∃ gf b f gx A1 c1 A2 c2 Af cf v, TfF gf S a ∧ Blk W gf 23 #[.bool wide, .bool big] ∧ Grow w W ∧ TfO L n b f ∧
  a.tmps.getD 29 undef = .pointer (some ⟨gx, 0, none⟩) ∧ Blk W gx 51 (mdC (mdFT L n wide big b f) (.slice A1 0 c1) (.slice A2 3 c2)) ∧ ZR sgK W W.heap.size A1 0 c1 [] ∧ ZR seK W W.heap.size A2 3 c2 (mdFT L n wide big b f).secs ∧
  a.tmps.getD 33 undef = .slice Af (n + 1) cf ∧ SS W W.heap.size Af (n + 1) cf (allT L f n) ∧ a.tmps.getD 34 undef = .int .i64 (v : Nat) ∧ WantT (allT L f n) s (n + 1) v
end
def TfW (w : World) (k : Nat) (a : Act) (W : World) : Prop := (sufOf k (bodyOf Tryz.f3)).wp Tryz.prog (bodyPost Tryz.prog Tryz.f3 (fun e w' => e = .returned (.bool true) ∧ Grow w w')) a W
set_option maxRecDepth 100000
set_option linter.unusedVariables false
set_option maxHeartbeats 8000000 in
theorem tf_0 (A1 : Option Addr) (n c1 : Nat) (L : List Bs) (wide big : Bool) (b0 : Int) (S : ByteArray) (w : World) (h1 : SS w w.heap.size A1 n c1 L) (hd : Door w)
  (H : n ≤ 30 → (∀ s ∈ L, s.length ≤ 100) → S.size ≤ 100 → ∀ a W, J4 n wide big S w A1 c1 a W → TfW w 4 a W) :
  Calls Tryz.prog 3 #[.agg #[.bool wide, .bool big], .slice A1 n c1, .int .i64 b0, .string S] w fun e w' => e = .returned (.bool true) ∧ Grow w w' := by
 have HL := hid h1
 have HN := hid h1.len
 have hc := h1.cap
 have hm := h1.max
 unfold maxLen at hm
 have HH := hid H
 have HD := hid hd
 clear h1 H hd
 go_enter Tryz.func3, Tryz.ntmps3
 apply wp_seq_k
 intro K hK
 have HK := hid hK
 clear hK
 go_wp2
 generalize hW : World.alloc _ _ = W0
 obtain ⟨b1, hg0⟩ := blk1 hW
 clear hW
 have HF0 := hid b1
 have HG0 := hid hg0
 clear b1 hg0
 generalize w.heap.size = gf at HF0 ⊢
 apply HK.out
 clear HK
 clear K
 apply wp_seq_k
 intro K hK
 have HK := hid hK
 clear hK
 go_wp2_with fail
 refine (upTop _ (HD.out.grow HG0.out)).mono ?_
 rintro e w1 ⟨rfl, hg⟩
 have HF1 := hid (HF0.out.grow hg)
 have HG1 : Hid (Grow w w1) := hid (HG0.out.trans hg)
 clear hg HF0 HG0
 go_wp2
 apply HK.out
 clear HK
 clear K
 by_cases h30 : 30 < n
 ·have d1 : decide ((30 : Int) < (n : Int)) = true := decide_eq_true (by omega)
  have d2 : decide (30 < n) = true := decide_eq_true h30
  clear h30
  go_wp2
  go_ret
  exact ⟨rfl, HG1.out⟩
 have d1 : decide ((30 : Int) < (n : Int)) = false := decide_eq_false (by omega)
 have d2 : decide (30 < n) = false := decide_eq_false h30
 by_cases h100 : 100 < S.size
 ·have d3 : decide ((100 : Int) < (S.size : Int)) = true := decide_eq_true (by omega)
  have d4 : decide (100 < S.size) = true := decide_eq_true h100
  clear h30 h100
  go_wp2
  go_ret
  exact ⟨rfl, HG1.out⟩
 have d3 : decide ((100 : Int) < (S.size : Int)) = false := decide_eq_false (by omega)
 have d4 : decide (100 < S.size) = false := decide_eq_false h100
 have HP1 : Hid (n ≤ 30) := hid (by omega)
 have HP2 : Hid (S.size ≤ 100) := hid (by omega)
 clear h30 h100
 apply wp_seq_k
 intro K hK
 have HK := hid hK
 clear hK
 go_wp2
 apply HK.out
 clear HK
 clear K
 clear d1 d2 d3 d4
 apply wp_seq_k
 intro K hK
 have HK := hid hK
 clear hK
 go_wp2_with fail
 go_loopw [10] (fun i wr => ∃ k : Nat, k ≤ n ∧ i = .int .i64 k ∧ wr = w1 ∧ Hid (∀ j, j < k → (L.getD j []).length ≤ 100)) (fun i _ => n - (intOf i).toNat)
 case atStart => exact ⟨0, Nat.zero_le _, rfl, rfl, hid fun j hj => absurd hj (by omega)⟩
 case round =>
  obtain ⟨k, hk, rfl, rfl, HE⟩ := hrel
  by_cases hlt : k < n
  ·obtain ⟨b, off, hA, hb, hcell⟩ := HL.out.pos (by omega)
   subst hA
   have q := (Below.cell HG1.out hb).trans (hcell k (by rw [← HN.out]; exact hlt))
   have w0 : (0 : Int) ≤ (k : Int) := by omega
   have w1' : (k : Int) < (n : Int) := by omega
   have dk : decide ((k : Int) < (n : Int)) = true := decide_eq_true (by omega)
   have hz := bstr_size (L.getD k [])
   have HZ := hid hz
   clear hcell hb hz
   generalize bstr (L.getD k []) = T at q HZ
   by_cases ht : 100 < T.size
   ·have d3 : decide ((100 : Int) < (T.size : Int)) = true := decide_eq_true (by omega)
    have d4 : decide (100 < T.size) = true := decide_eq_true ht
    clear ht
    go_wp2
    go_ret
    exact ⟨rfl, HG1.out⟩
   ·have d3 : decide ((100 : Int) < (T.size : Int)) = false := decide_eq_false (by omega)
    have d4 : decide (100 < T.size) = false := decide_eq_false ht
    have HE2 : Hid (∀ j, j < k + 1 → (L.getD j []).length ≤ 100) := hid fun j hj => by
     by_cases e : j = k
     ·subst e; have := HZ.out; omega
     ·exact HE.out j (by omega)
    clear ht
    go_wp2
    go_roundw
    case rel => exact ⟨k + 1, by omega, by go_num, by trivial, HE2⟩
    case measure => simp [intOf]; omega
  ·have e : k = n := by omega
   subst e
   have dk : decide ((k : Int) < (k : Int)) = false := decide_eq_false (by omega)
   have HP3 : Hid (∀ s ∈ L, s.length ≤ 100) := hid (all_of_getD fun j hj => HE.out j (by rw [HN.out]; exact hj))
   go_wp2
   apply HK.out
   exact HH.out HP1.out HP3.out HP2.out _ _ ⟨gf, b0, ⟨rfl, rfl, rfl, rfl, rfl⟩, HF1.out, HG1.out, rfl, rfl⟩
end Go.Proofs.YtfbimboemahhhaaGreatDoor
