/-
  Several texts in one: append of all of a slice of structs, nil or not, to rows of the call's own, nil or not; and of so many new zero values to nil; The contracts of slices; The contract of rebase.
-/
import Derived.Test.YtfpihkbpelbcbaaRtG2
import Derived.Lib.AppendZeros
import Derived.Test.YtfpihkbpelbcbaaRtG13
namespace Go.Proofs.Ytfpihkbpelbcbaa
open Go.Lib (hid)
open Go.RowKit
set_option linter.unusedVariables false
theorem flat_len {z : Nat} (l : List (Array Value)) (h : ∀ r ∈ l, r.size = z) : (l.flatMap Array.toList).length = l.length * z := by
 induction l with
 | nil => simp
 | cons r l ih =>
  rw [List.flatMap_cons, List.length_append, ih fun x hx => h x (List.mem_cons_of_mem _ hx), List.length_cons, Nat.succ_mul]
  have := h r (List.mem_cons_self ..)
  simp [this, Nat.add_comm]
theorem run_appendZx {P : Program} (w : World) (base : Nat) (t ty e : TypeId) (zv : Value) (z bytes : Nat) (ht : P.underlying t = some (.slice e))
  (hinfo : (P.info? e).map (fun i => (i.zero, i.size, i.bytes)) = some (some zv, z, bytes)) (hzs : zv.cells.size = z) (hz0 : 0 < z)
  (A : Option Addr) (n c : Nat) (l : List (Array Value)) (hown : ZO w base e z A n c l) (B : Nat) (A' : Option Addr) (m c' : Nat) (R : List (Array Value)) (hr : ZS w B z A' m c' R) (h1 : ∀ r ∈ R, r.all (·.oneCell') = true)
  (h63 : n + m ≤ maxLen) (hsz : (n + m) * bytes ≤ 140737488355328) (hbase : base ≤ w.heap.size) :
  ∃ A2 c2 w', (Builtin.append_ #[t, t] ty #[.slice A n c, .slice A' m c']).run P w = .ok (.slice A2 (n + m) c2) w' ∧ ZO w' base e z A2 (n + m) c2 (l ++ R) ∧ w.grownBy w' (own A) := by
 obtain ⟨i, hi, hz, hs, hby⟩ := info_parts hinfo
 rcases A' with _ | a
 ·have hm : m = 0 := by
   rcases Nat.eq_zero_or_pos m with h0 | h0
   ·exact h0
   ·obtain ⟨_, _, h, _⟩ := hr.pos h0
    cases h
  subst hm
  have hl' : R = [] := List.eq_nil_of_length_eq_zero hr.len.symm
  subst hl'
  refine ⟨A, c, w, ?_, by simpa using hown, ⟨rfl, rfl, rfl, Nat.le_refl _, fun _ _ _ => rfl⟩⟩
  rcases hown.1.2 with ⟨h0, h1⟩ | ⟨g, cap, cur, h0, _, _, hnc, _⟩
  ·injection h0 with e1 e2 e3
   subst e1; subst e2; subst e3
   simp [Builtin.append_, run_underlying ht, sizeOf, typeInfo, hi, Builtin.lenOf, Builtin.firstCells]
  ·injection h0 with e1 e2 e3
   subst e1; subst e3
   simp [Builtin.append_, run_underlying ht, sizeOf, typeInfo, hi, Builtin.lenOf, Builtin.firstCells, hnc, storeCells]
 ·have hlen : (R.flatMap Array.toList).length = m * z := by rw [flat_len R hr.size, hr.len]
  obtain ⟨v', w', hrun, h2, h3, h4, h5⟩ := run_append_own_at (P := P) w base t ty e i zv z bytes ht hi hz hs hby hzs hz0 _ n _ hown.1 a m c' (R.flatMap Array.toList)
   hlen (fun j u hj => by
    have hjl : j < m * z := by rw [← hlen]; exact (List.getElem?_eq_some_iff.1 hj).1
    have hm0 : 0 < m := by
     rcases Nat.eq_zero_or_pos m with h | h
     ·subst h; omega
     ·exact h
    obtain ⟨b, off, e1, hb, hc⟩ := hr.pos hm0
    injection e1 with e1
    subst e1
    have hq : j / z < R.length := by rw [← hr.len]; exact Nat.div_lt_of_lt_mul (by rw [Nat.mul_comm]; exact hjl)
    have hf := flat_at R hr.size (j / z) hq (j % z) (Nat.mod_lt _ hz0)
    rw [Nat.div_add_mod' j z, hj] at hf
    have := hc (j / z) hq (j % z) u hf.symm
    rw [Nat.add_assoc, Nat.div_add_mod' j z] at this
    have e2 : (⟨b, off, none⟩ : Addr).add j = ⟨b, off + j, none⟩ := by unfold Addr.add; split <;> simp_all
    rw [e2]
    exact this)
   (by
    intro u hu
    obtain ⟨r, hr1, hr2⟩ := List.mem_flatMap.1 hu
    exact (Array.all_eq_true_iff_forall_mem.1 (h1 r hr1)) u (by simpa using hr2)) h63 hsz hbase
  have hv : ∃ A2 c2, v' = .slice A2 (n + m) c2 := by
   rcases h2.2 with ⟨h0, h1⟩ | ⟨g, cap, cur, h0, _⟩
   ·exact ⟨none, 0, by rw [h0, h1]⟩
   ·exact ⟨_, _, h0⟩
  obtain ⟨A2, c2, rfl⟩ := hv
  rw [own_slice] at h3
  refine ⟨A2, c2, w', hrun, ⟨by rw [List.flatMap_append]; exact h2, by rw [List.length_append, hown.2.1, hr.len], fun r hr1 => ?_⟩, h3⟩
  rcases List.mem_append.1 hr1 with h | h
  ·exact hown.2.2 r h
  ·exact hr.size r h
theorem wpList_appendZx {P : Program} (w : World) {ops : Array Oper} {rest : List Oper} {o : Oper} {a : Act} {Q : Exit → Act → World → Prop} (hgd : o.guard = none) (s x : Operand) (t : TypeId)
  (ho : o.op = .call { callee := .builtin .append, args := #[s, x], argTypes := #[t, t] })
  (base : Nat) (e : TypeId) (zv : Value) (z bytes : Nat) (ht : P.underlying t = some (.slice e)) (hinfo : (P.info? e).map (fun i => (i.zero, i.size, i.bytes)) = some (some zv, z, bytes)) (hzs : zv.cells.size = z) (hz0 : 0 < z)
  (A : Option Addr) (n c : Nat) (l : List (Array Value)) (hs : a.eval s = .slice A n c) (hown : ZO w base e z A n c l)
  (B : Nat) (A' : Option Addr) (m c' : Nat) (R : List (Array Value)) (hx : a.eval x = .slice A' m c') (hr : ZS w B z A' m c' R) (h1 : ∀ r ∈ R, r.all (·.oneCell') = true)
  (h63 : n + m ≤ maxLen) (hsz : (n + m) * bytes ≤ 140737488355328) (hbase : base ≤ w.heap.size)
  (h : ∀ A2 c2 w', ZO w' base e z A2 (n + m) c2 (l ++ R) → w.grownBy w' (own A) → wpList P ops Q rest (a.put o.dst (.slice A2 (n + m) c2)) w') : wpList P ops Q (o :: rest) a w := by
 refine wpList_plain hgd fun K hK => ?_
 obtain ⟨A2, c2, w', hrun, h2, h3⟩ := run_appendZx (P := P) w base t o.type e zv z bytes ht hinfo hzs hz0 A n c l hown B A' m c' R hr h1 h63 hsz hbase
 unfold Oper.wp execOp
 simp only [ho, resolve, invoke, builtin, Sem.run_bind, Sem.run_pure, Result.andThen_ok, List.map_toArray, List.map_cons, List.map_nil, hs, hx, hrun]
 exact hK _ _ (h A2 c2 w' h2 h3)
theorem wp_appendZx {P : Program} (w : World) {o : Oper} {a : Act} {K : Act → World → Prop} {Q : Exit → Act → World → Prop} (s x : Operand) (t : TypeId)
  (ho : o.op = .call { callee := .builtin .append, args := #[s, x], argTypes := #[t, t] })
  (base : Nat) (e : TypeId) (zv : Value) (z bytes : Nat) (ht : P.underlying t = some (.slice e)) (hinfo : (P.info? e).map (fun i => (i.zero, i.size, i.bytes)) = some (some zv, z, bytes)) (hzs : zv.cells.size = z) (hz0 : 0 < z)
  (A : Option Addr) (n c : Nat) (l : List (Array Value)) (hs : a.eval s = .slice A n c) (hown : ZO w base e z A n c l)
  (B : Nat) (A' : Option Addr) (m c' : Nat) (R : List (Array Value)) (hx : a.eval x = .slice A' m c') (hr : ZS w B z A' m c' R) (h1 : ∀ r ∈ R, r.all (·.oneCell') = true)
  (h63 : n + m ≤ maxLen) (hsz : (n + m) * bytes ≤ 140737488355328) (hbase : base ≤ w.heap.size)
  (h : ∀ A2 c2 w', ZO w' base e z A2 (n + m) c2 (l ++ R) → w.grownBy w' (own A) → K (a.put o.dst (.slice A2 (n + m) c2)) w') : o.wp P a w K Q := by
 obtain ⟨A2, c2, w', hrun, h2, h3⟩ := run_appendZx (P := P) w base t o.type e zv z bytes ht hinfo hzs hz0 A n c l hown B A' m c' R hr h1 h63 hsz hbase
 unfold Oper.wp execOp
 simp only [ho, resolve, invoke, builtin, Sem.run_bind, Sem.run_pure, Result.andThen_ok, List.map_toArray, List.map_cons, List.map_nil, hs, hx, hrun]
 exact h A2 c2 w' h2 h3
theorem run_nil_zeros {P : Program} (w : World) (t tn ty e : TypeId) (zv : Value) (z bytes : Nat) (ht : P.underlying t = some (.slice e)) (htn : P.underlying tn = some (.int .i64))
  (hinfo : (P.info? e).map (fun i => (i.zero, i.size, i.bytes)) = some (some zv, z, bytes)) (hzs : zv.cells.size = z) (hz0 : 0 < z) (n : Nat) (h0 : 0 < n) (h48 : n * bytes ≤ 140737488355328) (h63 : n ≤ 4611686018427387904) :
  ∃ c w', (Builtin.append_ #[t, tn] ty #[.slice none 0 0, .int .i64 (n : Int)]).run P w = .ok (.slice (some ⟨w.heap.size, 0, none⟩) n c) w' ∧ n ≤ c ∧ c ≤ maxLen ∧ ZO w' w.heap.size e z (some ⟨w.heap.size, 0, none⟩) 0 c [] ∧ Grow w w' := by
 obtain ⟨i, hi, hz, hs, hby⟩ := info_parts hinfo
 have hrun := Lib.run_append_nil_zeros (P := P) w t tn ty e i zv .i64 .i64 ht htn hi hz n h0 (by rw [hs]; exact hz0) (by omega) (by rw [hby]; omega)
 have hge := grownCap_ge w n 0 e
 have hle := grownCap_le_maxLen w n 0 e (by unfold maxLen; omega)
 generalize grownCap w n 0 e = c at *
 refine ⟨c, _, hrun, hge, hle, ?_, (Grow.of_drew w).trans (Grow.of_alloc _ _)⟩
 exact ZO.room w.drew w.heap.size e c z _ hle (Nat.le_refl _) (by
  simp [Builtin.zeroCells, hzs]
  rw [← Nat.add_mul]
  congr 1
  omega)
set_option maxRecDepth 100000
set_option linter.unusedVariables false
set_option maxHeartbeats 1000000 in
theorem relGrow_any (n : Nat) (w : World) (hn : n ≤ 1000000) :
  Calls Try.prog 65 #[.slice none 0 0, .int .i64 (n : Int)] w fun e w' => ∃ A c, e = .returned (.slice A 0 c) ∧ ZO w' w.heap.size 68 4 A 0 c [] ∧ Grow w w' := by
 have h1 : ¬ ((n : Int) < 0) := by omega
 have h1' : decide ((n : Int) < 0) = false := decide_eq_false h1
 have z1 : IntKind.i64.wrap (n : Int) = (n : Int) := by rw [IntKind.wrap_i64]; omega
 rcases Nat.eq_zero_or_pos n with h0 | h0
 ·subst h0
  go_enter Try.func65, Try.ntmps65
  go_wp2
  go_ret
  exact ⟨none, 0, rfl, ZO.nil, Grow.refl _⟩
 ·have d1 : decide ((0 : Int) < (n : Int)) = true := decide_eq_true (by omega)
  obtain ⟨c, w', hrun, hge, hle, ho, hg⟩ := run_nil_zeros (P := Try.prog) w 63 3 63 68 re0.V 4 24 Try.underlying63 Try.underlying3 (by kernel_rfl) rfl (by omega) n h0 (by omega) (by omega)
  have HO := hid ho
  have HG := hid hg
  have HR := hid hrun
  unfold maxLen at hle
  have c0 : ¬ c = 0 := by omega
  have c1 : (0 : Int) ≤ (c : Int) := by omega
  clear ho hg hrun
  go_enter Try.func65, Try.ntmps65
  go_wp2_with (at_builtin; refine Lib.wpList_append_run w rfl (.tmp 20) (.tmp 21) 63 3 rfl (.slice none 0 0) (.int .i64 (n : Int)) rfl rfl _ _ HR.out ?_)
  go_ret
  exact ⟨_, c, rfl, HO.out, HG.out⟩
set_option maxHeartbeats 4000000 in
theorem relConcat_any (L1 L2 : List Re) (A1 A2 : Option Addr) (n1 c1 n2 c2 gx : Nat) (t : TypeId) (w : World) (g1 : ZS w w.heap.size 4 A1 n1 c1 (L1.map Re.C)) (g2 : ZS w w.heap.size 4 A2 n2 c2 (L2.map Re.C)) (gb : Blk w gx t #[.slice A1 n1 c1, .slice A2 n2 c2]) (h1 : n1 ≤ 100000) (h2 : n2 ≤ 100000) :
  Calls Try.prog 43 #[.slice (some ⟨gx, 0, none⟩) 2 2] w fun e w' => ∃ A c, e = .returned (.slice A (n1 + n2) c) ∧ ZO w' w.heap.size 68 4 A (n1 + n2) c ((L1 ++ L2).map Re.C) ∧ Grow w w' := by
 have HG1 := hid g1
 have HG2 := hid g2
 have HB := hid gb
 obtain ⟨N, hN⟩ : ∃ N, N = n1 + n2 := ⟨_, rfl⟩
 rw [← hN]
 have HN := hid hN
 have hN1 : N ≤ 200000 := by omega
 have HGr := hid (fun W => relGrow_any N W (by omega))
 have q0 : w.cell? ⟨gx, 0, none⟩ = some (.slice A1 n1 c1) := gb.at 0
 have q1 : w.cell? ⟨gx, 1, none⟩ = some (.slice A2 n2 c2) := gb.at 1
 have HO1 : Hid (∀ r ∈ L1.map Re.C, r.all (·.oneCell') = true) := hid fun r hr => by
  obtain ⟨x, _, rfl⟩ := List.mem_map.1 hr
  exact x.one
 have HO2 : Hid (∀ r ∈ L2.map Re.C, r.all (·.oneCell') = true) := hid fun r hr => by
  obtain ⟨x, _, rfl⟩ := List.mem_map.1 hr
  exact x.one
 have HM := hid (List.map_append (f := Re.C) (l₁ := L1) (l₂ := L2))
 clear g1 g2 gb hN
 generalize (L1 ++ L2).map Re.C = M at *
 generalize L1.map Re.C = M1 at *
 generalize L2.map Re.C = M2 at *
 go_enter Try.func43, Try.ntmps43
 go_wp2_with fail
 go_loopw [3, 11] (fun s i wr => w = wr ∧ ((i = .int .i64 0 ∧ s = .int .i64 0) ∨ (i = .int .i64 1 ∧ s = .int .i64 (n1 : Int)) ∨ (i = .int .i64 2 ∧ s = .int .i64 (N : Int)))) (fun _ i _ => 2 - (intOf i).toNat)
 case atStart => exact ⟨rfl, .inl ⟨rfl, rfl⟩⟩
 case round =>
  obtain ⟨rfl, h⟩ := hrel
  rcases h with ⟨rfl, rfl⟩ | ⟨rfl, rfl⟩ | ⟨rfl, rfl⟩
  ·have z1 : IntKind.i64.wrap (n1 : Int) = (n1 : Int) := by rw [IntKind.wrap_i64]; omega
   have d1 : decide ((n1 : Int) < 0) = false := decide_eq_false (by omega)
   go_wp2
   go_roundw
   case rel => exact ⟨trivial, .inr (.inl ⟨rfl, rfl⟩)⟩
   case measure => simp [intOf]
  ·have z1 : IntKind.i64.wrap ((n1 : Int) + (n2 : Int)) = (N : Int) := by rw [IntKind.wrap_i64, HN.out]; omega
   have d1 : decide ((N : Int) < 0) = false := decide_eq_false (by omega)
   go_wp2
   go_roundw
   case rel => exact ⟨trivial, .inr (.inr ⟨rfl, rfl⟩)⟩
   case measure => simp [intOf]
  ·go_wp2_with fail
   refine (HGr.out _).mono ?_
   rintro e w1 ⟨A3, c3, rfl, ho, hg⟩
   have HO0 := hid ho
   have HG0 := hid hg
   clear ho hg HGr q0 q1
   go_wp2_with fail
   go_loopw [6, 27] (fun s i wr => Grow w wr ∧ ((i = .int .i64 0 ∧ ∃ A c, s = .slice A 0 c ∧ ZO wr w.heap.size 68 4 A 0 c []) ∨ (i = .int .i64 1 ∧ ∃ A c, s = .slice A n1 c ∧ ZO wr w.heap.size 68 4 A n1 c M1) ∨ (i = .int .i64 2 ∧ ∃ A c, s = .slice A N c ∧ ZO wr w.heap.size 68 4 A N c M))) (fun _ i _ => 2 - (intOf i).toNat)
   case atStart => exact ⟨HG0.out, .inl ⟨rfl, A3, c3, rfl, HO0.out⟩⟩
   case round =>
    obtain ⟨hg, h⟩ := hrel
    have HG := hid hg
    have HB1 := hid (HB.out.grow hg)
    have HS := hid hg.size
    clear HG0 HO0 hg
    rcases h with ⟨rfl, A4, c4, rfl, ho⟩ | ⟨rfl, A4, c4, rfl, ho⟩ | ⟨rfl, A4, c4, rfl, ho⟩
    ·have q0 : wr.cell? ⟨gx, 0, none⟩ = some (.slice A1 n1 c1) := HB1.out.at 0
     have HZ := hid (HG1.out.belowAt HG.out (Nat.le_refl _))
     have HO := hid ho
     clear ho
     go_wp2_with (at_builtin; refine wpList_appendZx wr rfl (.tmp 31) (.tmp 32) 63 rfl w.heap.size 68 re0.V 4 24 Try.underlying63 (by kernel_rfl) rfl (by omega) A4 0 c4 [] rfl HO.out _ A1 n1 c1 M1 rfl HZ.out HO1.out (by unfold maxLen; omega) (by omega) HS.out ?_; intro A5 c5 w9 ho9 hg9; refine Hid.out ?_)
     have HO9 := hid ho9
     have HG9 : Hid (Grow w w9) := HG.out.trans' ((Below.refl _ _).grown hg9 HS.out fun k hk => HO.out.ge hk)
     rw [Nat.zero_add, List.nil_append] at HO9
     clear ho9 hg9 q0 HZ HO
     refine hid ?_
     have e0 : 0 + n1 = n1 := Nat.zero_add _
     go_wp2
     go_roundw
     case rel => exact ⟨HG9.out, .inr (.inl ⟨rfl, A5, c5, rfl, HO9.out⟩)⟩
     case measure => simp [intOf]
    ·have q0 : wr.cell? ⟨gx, 1, none⟩ = some (.slice A2 n2 c2) := HB1.out.at 1
     have HZ := hid (HG2.out.belowAt HG.out (Nat.le_refl _))
     have HO := hid ho
     clear ho
     go_wp2_with (at_builtin; refine wpList_appendZx wr rfl (.tmp 31) (.tmp 32) 63 rfl w.heap.size 68 re0.V 4 24 Try.underlying63 (by kernel_rfl) rfl (by omega) A4 n1 c4 M1 rfl HO.out _ A2 n2 c2 M2 rfl HZ.out HO2.out (by unfold maxLen; omega) (by omega) HS.out ?_; intro A5 c5 w9 ho9 hg9; refine Hid.out ?_)
     have HO9 := hid ho9
     have HG9 : Hid (Grow w w9) := HG.out.trans' ((Below.refl _ _).grown hg9 HS.out fun k hk => HO.out.ge hk)
     rw [← HM.out] at HO9
     rw [← HN.out] at HO9 ⊢
     clear ho9 hg9 q0 HZ HO
     refine hid ?_
     go_wp2
     go_roundw
     case rel => exact ⟨HG9.out, .inr (.inr ⟨rfl, A5, c5, rfl, HO9.out⟩)⟩
     case measure => simp [intOf]
    ·have HO := hid ho
     clear ho
     go_wp2
     go_ret
     exact ⟨A4, c4, rfl, HO.out, HG.out⟩
set_option maxRecDepth 100000
set_option linter.unusedVariables false
theorem relsOf_ok (m : Md) (adds : Bool) : ∀ r ∈ m.relsOf adds, r.Ok := fun r hr => by
 rw [m.relsOf_of] at hr
 split at hr
 ·split at hr
  ·simp at hr
  ·unfold relsIf at hr
   split at hr
   ·exact relsTo_ok _ _ _ _ _ r hr
   ·simp at hr
 ·simp at hr
theorem allRels_ok (m : Md) : ∀ r ∈ m.allRels, r.Ok := fun r hr => by
 rcases List.mem_append.1 hr with h | h
 ·exact relsOf_ok m true r h
 ·exact relsOf_ok m false r h
theorem relsIf_len (l : List UInt8) (wide adds big : Bool) : (relsIf l wide adds big).length ≤ l.length := by
 unfold relsIf
 split
 ·unfold rels
  rw [relsTo_len]
  exact Nat.div_le_self _ _
 ·simp
theorem relsOf_len (m : Md) (hsm : m.Small) (adds : Bool) : (m.relsOf adds).length ≤ 100000 := by
 rw [m.relsOf_of]
 split
 ·split
  ·simp
  ·rename_i x hx
   obtain ⟨hi, -, -, -, hp⟩ := m.among_some (show m.among (m.relA adds).1 (m.relZ adds).1 = some (x.1, x.2) from hx)
   have h1 := relsIf_len (m.relB x adds) m.wide adds m.big
   have h2 := hsm _ (List.getElem_mem hi)
   have h3 : (m.relB x adds).length ≤ m.segs[x.1].pl.own.length := by
    unfold Md.relB
    rw [getD_at hi, List.length_take, List.length_drop]
    omega
   omega
 ·simp
theorem relStep_no {m : Md} {d : Nat} {Bs : List (List UInt8)} {r : Re} (h : isRel m.mach r.ty = false) : m.relStep d Bs r = Bs := by unfold Md.relStep; rw [h]; rfl
set_option maxHeartbeats 8000000 in
theorem rbWords_any (m : Md) (ok : m.Ok) (hck : m.chk = 0) (hsm : m.Small) (B : Nat) (A1 : Option Addr) (n1 c1 : Nat) (A2 : Option Addr) (n2 c2 : Nat) (S1 S2 : Nat → Sl) (d : Nat) (w : World) (h : MW B w m A1 n1 c1 A2 n2 c2 S1 S2) (hd : d < 18446744073709551616) :
  Calls Try.prog 18 #[.agg (mdC m (.slice A1 n1 c1) (.slice A2 n2 c2)), .int .u64 (d : Int)] w fun e w' => e = .returned (.tuple #[]) ∧ MW B w' (m.withB (m.words d)) A1 n1 c1 A2 n2 c2 S1 S2 ∧ Turn B w w' := by
 have HM := hid h
 have HDy := hid (fun W (hW : MW B W m A1 n1 c1 A2 n2 c2 S1 S2) => rbDynamic_any m ok hsm A1 n1 c1 A2 n2 c2 W hW.zr1)
 have HRt := hid (fun AL nL cL W (hW : MW B W m A1 n1 c1 A2 n2 c2 S1 S2) gl => rbRels_any m ok hsm A1 n1 c1 (.slice A2 n2 c2) AL nL cL true W hW.zr1 gl)
 have HRf := hid (fun AL nL cL W (hW : MW B W m A1 n1 c1 A2 n2 c2 S1 S2) gl => rbRels_any m ok hsm A1 n1 c1 (.slice A2 n2 c2) AL nL cL false W hW.zr1 gl)
 have HCo := hid (fun A1 A2 n1 c1 n2 c2 gx t W g1 g2 gb h1 h2 => relConcat_any (m.relsOf true) (m.relsOf false) A1 A2 n1 c1 n2 c2 gx t W g1 g2 gb h1 h2)
 have HIr := hid (fun r W => rbRel_any r m.mach W)
 have HWo : Hid (∀ k, k ≤ m.allRels.length → ∀ a : Nat, a < 18446744073709551616 → ∀ W, MW B W (m.withB (m.relTo d k)) A1 n1 c1 A2 n2 c2 S1 S2 → Calls Try.prog 46 #[.agg (mdC m (.slice A1 n1 c1) (.slice A2 n2 c2)), .int .u64 (a : Int), .int .u64 (d : Int)] W fun e w' => e = .returned (.tuple #[]) ∧ MW B w' ((m.withB (m.relTo d k)).wordM a d) A1 n1 c1 A2 n2 c2 S1 S2 ∧ Turn B W w') :=
  hid fun k hk a ha W hW => rbWord_any (m.withB (m.relTo d k)) (withB_ok ok _) B A1 n1 c1 A2 n2 c2 S1 S2 a d W hW ha hd
 have HEn : Hid (m.dynP.inn ≠ -1 → ∀ Sp AL nL cL W, MW B W (m.withB (m.relEnd d)) A1 n1 c1 A2 n2 c2 S1 S2 → ZO W B 77 2 AL nL cL (m.ents.map Dy.C) → Calls Try.prog 47 #[.agg (mdC m (.slice A1 n1 c1) (.slice A2 n2 c2)), .agg (plC m.dynP Sp), .slice AL nL cL, .int .u64 (d : Int)] W fun e w' => e = .returned (.tuple #[]) ∧ MW B w' (m.withB (m.entTo d m.ents.length)) A1 n1 c1 A2 n2 c2 S1 S2 ∧ Turn B W w') :=
  hid fun hin Sp AL nL cL W hW gl => rbEnts_any m ok hck hsm hin B A1 n1 c1 A2 n2 c2 S1 S2 Sp AL nL cL d W hW gl hd
 have HSt : Hid (∀ k (hk : k < m.allRels.length), isRel m.mach m.allRels[k].ty = true → (m.withB (m.relTo d k)).wordM m.allRels[k].off d = m.withB (m.relTo d (k + 1))) := hid fun k hk hr => by
  rw [m.relTo_succ d k hk]
  exact withB_word (Fit.relTo m d k (by omega)) d _ hr
 have HSn : Hid (∀ k (hk : k < m.allRels.length), isRel m.mach m.allRels[k].ty = false → m.relTo d (k + 1) = m.relTo d k) := hid fun k hk hr => by
  rw [m.relTo_succ d k hk, relStep_no hr]
 have H0 : Hid (m.withB (m.relTo d 0) = m) := hid (by rw [m.relTo_zero]; exact withB_own0 m)
 have HEd : Hid (m.relTo d m.allRels.length = m.relEnd d) := hid rfl
 have HWs : Hid (m.words d = if m.dynP.inn = -1 then m.relEnd d else m.entTo d m.ents.length) := hid rfl
 have HRo := hid (allRels_ok m)
 have HAl : Hid (m.relsOf true ++ m.relsOf false = m.allRels) := hid rfl
 have HL1 := relsOf_len m hsm true
 have HL2 := relsOf_len m hsm false
 have hla : m.allRels.length = (m.relsOf true).length + (m.relsOf false).length := List.length_append
 have HLa := hid hla
 clear hla
 have hmach := ok.mach
 obtain ⟨x0, x1, x2, x3, x4, x6, x7, x10, hC⟩ : ∃ x0 x1 x2 x3 x4 x6 x7 x10 : Value, mdC m (.slice A1 n1 c1) (.slice A2 n2 c2) = #[x0, x1, x2, x3, x4, .int .u16 (m.mach : Nat), x6, x7, .slice A1 n1 c1, .slice A2 n2 c2, x10] := ⟨_, _, _, _, _, _, _, _, rfl⟩
 rw [hC] at HDy HRt HRf HWo HEn ⊢
 clear hC ok h hck hsm
 rw [HAl.out] at HCo
 unfold plC at HDy HEn
 generalize m.words d = WS_ at *
 generalize m.relTo d = RT at *
 generalize m.allRels = AR at *
 generalize m.relsOf true = R1 at *
 generalize m.relsOf false = R2 at *
 generalize m.mach = mc at *
 generalize m.relEnd d = RE at *
 generalize m.entTo d = ET at *
 generalize m.ents = EL at *
 generalize m.dynP = DP at *
 go_enter Try.func18, Try.ntmps18
 go_wp2_with fail
 generalize hW : World.alloc _ _ = W0
 obtain ⟨b1, hg0⟩ := blk1 hW
 clear hW
 have HB0 := hid b1
 have HM0 := hid (HM.out.grow hg0)
 have HG0 := hid hg0
 clear b1 hg0 HM
 generalize w.heap.size = gm at *
 refine (HDy.out W0 HM0.out).mono ?_
 rintro e w1 ⟨Ap, np, cp, AL, nL, cL, rfl, hz, hg⟩
 have HB1 := hid (HB0.out.grow hg)
 have HM1 := hid (HM0.out.grow hg)
 have HG1 : Hid (Grow w w1) := hid (HG0.out.trans hg)
 have HZ1 := hid (hz.mono HM0.out.hB)
 clear hz hg HB0 HM0 HG0 HDy
 go_wp2_with fail
 generalize hW : World.alloc _ _ = W2
 obtain ⟨bp, hg2⟩ := blk1 hW
 clear hW
 have hgd := hg2.trans (Grow.of_drew W2)
 have HP2 := hid bp.drew
 have HB2 := hid (HB1.out.grow hgd)
 have HM2 := hid (HM1.out.grow hgd)
 have HG2 : Hid (Grow w W2.drew) := hid (HG1.out.trans hgd)
 have HZ2 := hid (HZ1.out.keep hgd)
 clear bp hg2 hgd HB1 HM1 HG1 HZ1
 refine wp_region_chain [(0, true), (1, true), (3, true), (4, true), (9, true), (2, false), (5, false), (6, false), (7, false), (8, true)] (by kernel_rfl) (by kernel_rfl) (by kernel_rfl) ?_
 generalize W2.drew = v0 at *
 generalize w1.heap.size = gp at *
 have q0 : ∀ W, Grow v0 W → _ := fun W hW => (HB2.out.grow hW).c11
 repeat (refine chain_take rfl (by rfl) ?_ (fun W hG => ?_) ?_; rotate_left; (obtain ⟨v0, v1, v2, v3, v4, v5, v6, v7, v8, v9, v10⟩ := q0 W hG; go_simp; rfl); simp only [Act.put, List.setIfInBounds_toArray, List.set_cons_zero, List.set_cons_succ])
 clear q0
 refine chain_only rfl (by rfl) (fun K hK => ?_)
 go_simp
 refine (HRt.out AL nL cL v0 HM2.out HZ2.out.zs).mono ?_
 rintro e v1 ⟨A5, n5, c5, rfl, hz5, hg⟩
 refine hK _ _ hg ?_
 clear hK K
 have HP3 := hid (HP2.out.grow hg)
 have HB3 := hid (HB2.out.grow hg)
 have HM3 := hid (HM2.out.grow hg)
 have HG3 : Hid (Grow w v1) := hid (HG2.out.trans hg)
 have HZ3 := hid (HZ2.out.keep hg)
 have HX3 := hid hz5
 clear hz5 hg HP2 HB2 HM2 HG2 HZ2
 repeat (refine chain_take rfl (by rfl) ?_ (fun W hG => ?_) ?_; rotate_left; (go_simp; rfl); simp only [Act.put, List.setIfInBounds_toArray, List.set_cons_zero, List.set_cons_succ])
 refine chain_only rfl (by rfl) (fun K hK => ?_)
 go_simp
 refine (HRf.out AL nL cL v1 HM3.out HZ3.out.zs).mono ?_
 rintro e v2 ⟨A6, n6, c6, rfl, hz6, hg⟩
 refine hK _ _ hg ?_
 clear hK K
 have HP4 := hid (HP3.out.grow hg)
 have HB4 := hid (HB3.out.grow hg)
 have HM4 := hid (HM3.out.grow hg)
 have HG4 : Hid (Grow w v2) := hid (HG3.out.trans hg)
 have HZ4 := hid (HZ3.out.keep hg)
 have HX4 := hid (HX3.out.keep hg)
 have HY4 := hid hz6
 clear hz6 hg HP3 HB3 HM3 HG3 HZ3 HX3 HRt HRf
 repeat (refine chain_take rfl (by rfl) ?_ (fun W hG => ?_) ?_; rotate_left; (go_simp; rfl); simp only [Act.put, List.setIfInBounds_toArray, List.set_cons_zero, List.set_cons_succ])
 refine chain_only rfl (by rfl) (fun K hK => ?_)
 go_simp
 refine hK _ _ (Grow.of_alloc _ _) ?_
 clear hK K
 generalize hW : World.alloc _ _ = v3
 obtain ⟨bs, hg⟩ := blk1 hW
 clear hW
 have HP5 := hid (HP4.out.grow hg)
 have HB5 := hid (HB4.out.grow hg)
 have HM5 := hid (HM4.out.grow hg)
 have HG5 : Hid (Grow w v3) := hid (HG4.out.trans hg)
 have HZ5 := hid (HZ4.out.keep hg)
 have HX5 := hid (HX4.out.keep hg)
 have HY5 := hid (HY4.out.keep hg)
 have HS5 := hid bs
 clear bs hg HP4 HB4 HM4 HG4 HZ4 HX4 HY4
 generalize v2.heap.size = gs at *
 have hn5 : n5 ≤ 100000 := by have := HX5.out.2.1; rw [List.length_map] at this; omega
 have hn6 : n6 ≤ 100000 := by have := HY5.out.2.1; rw [List.length_map] at this; omega
 have HLn : Hid (n5 + n6 = AR.length) := hid (by have h1 := HX5.out.2.1; have h2 := HY5.out.2.1; rw [List.length_map] at h1 h2; rw [HLa.out, h1, h2])
 repeat (refine chain_take rfl (by rfl) ?_ (fun W hG => ?_) ?_; rotate_left; (go_simp; rfl); simp only [Act.put, List.setIfInBounds_toArray, List.set_cons_zero, List.set_cons_succ])
 refine chain_only rfl (by rfl) (fun K hK => ?_)
 go_simp
 refine (HCo.out A5 A6 n5 c5 n6 c6 gs _ v3 HX5.out.zs HY5.out.zs HS5.out hn5 hn6).mono ?_
 rintro e v4 ⟨A7, c7, rfl, hz7, hg⟩
 refine hK _ _ hg ?_
 clear hK K
 have HP6 := hid (HP5.out.grow hg)
 have HB6 := hid (HB5.out.grow hg)
 have HM6 := hid (HM5.out.grow hg)
 have HG6 : Hid (Grow w v4) := hid (HG5.out.trans hg)
 have HZ6 := hid (HZ5.out.keep hg)
 have HR6 := hid (hz7.mono HM5.out.hB)
 clear hz7 hg HP5 HB5 HM5 HG5 HZ5 HX5 HY5 HS5 HCo
 obtain ⟨N, hN⟩ : ∃ N, N = n5 + n6 := ⟨_, rfl⟩
 have hnN : ((n5 : Int) + (n6 : Int)) = (N : Int) := by omega
 rw [← hN] at HR6 HLn
 have hN2 : N ≤ 200000 := by omega
 try rw [hnN]
 try rw [← hN]
 have HNN := hid hnN
 have HN0 := hid hN
 clear hN hnN hn5 hn6
 repeat (refine chain_take rfl (by rfl) ?_ (fun W hG => ?_) ?_; rotate_left; (go_simp; rfl); simp only [Act.put, List.setIfInBounds_toArray, List.set_cons_zero, List.set_cons_succ])
 refine chain_done ?_
 go_wp2_with fail
 go_loopw [22] (fun i wr => ∃ k : Nat, k ≤ N ∧ i = .int .i64 k ∧ MW B wr (m.withB (RT k)) A1 n1 c1 A2 n2 c2 S1 S2 ∧ ZO wr B 68 4 A7 N c7 (AR.map Re.C) ∧ Turn B v4 wr) (fun i _ => N - (intOf i).toNat)
 case atStart => exact ⟨0, Nat.zero_le _, rfl, by rw [H0.out]; exact HM6.out, HR6.out, Turn.refl⟩
 case round =>
  obtain ⟨k, hk, rfl, hm, hz, ht⟩ := hrel
  have HM7 := hid hm
  have HR7 := hid hz
  have HT7 := hid ht
  have HB7 := hid (HB6.out.turn ht (by decide))
  have HP7 := hid (HP6.out.turn ht (by decide))
  have HZ7 := hid (HZ6.out.turn ht (by decide))
  have HT0 : Hid (Turn B w wr) := hid ((Turn.of_grow HG6.out).trans ht)
  clear hm hz ht HM6 HR6 HB6 HP6 HZ6 HG6
  by_cases hlt : k < N
  ·have hkl : k < AR.length := by rw [← HLn.out]; exact hlt
   have hkM : k < (AR.map Re.C).length := by rw [List.length_map]; exact hkl
   obtain ⟨b, off, rfl, hb, -⟩ := HR7.out.zs.pos (by omega)
   obtain ⟨s, hs⟩ : ∃ s, AR[k] = s := ⟨_, rfl⟩
   have hso := HRo.out s (by rw [← hs]; exact List.getElem_mem hkl)
   have hoff := hso.off
   have HCk : Hid (∀ hk : k < (AR.map Re.C).length, (AR.map Re.C)[k] = s.C) := hid (fun _ => by rw [List.getElem_map, hs])
   have HkM := hid hkM
   have hst := HSt.out k hkl
   have hsn := HSn.out k hkl
   rw [hs] at hst hsn
   have HStk := hid hst
   have HSnk := hid hsn
   have HIk := hid (HIr.out s)
   have HWk := hid (HWo.out k (by omega) s.off hoff)
   have HZs := hid HR7.out.zs
   generalize isRel mc s.ty = ir at *
   generalize AR.map Re.C = MM at *
   unfold Re.C at HCk HIk
   generalize s.off = so at *
   generalize s.sym = ss at *
   generalize s.ty = sty at *
   generalize s.add = sa at *
   clear hkM hst hsn hs hso HRo HSt HSn HWo HIr
   have w0 : (0 : Int) ≤ (k : Int) := by omega
   have w1' : (k : Int) < (N : Int) := by omega
   have f5 : ∀ o, (wr.alloc o).cell? ⟨gm, 5, none⟩ = some (.int .u16 (mc : Nat)) := fun o => (HB7.out.alloc o).at 5
   go_wp2_with (refine wpList_load_zs HZs.out HkM.out rfl 68 (.tmp 24) rfl rfl _ Try.underlying68 rfl (by kernel_rfl) _ (HCk.out _) ?_)
   clear f5
   generalize hW : World.alloc _ _ = w3
   obtain ⟨be, hg3⟩ := blk1 hW
   clear hW
   refine (HIk.out w3).mono ?_
   rintro e w4 ⟨rfl, hg4⟩
   have hg := hg3.trans hg4
   have HE4 := hid (be.grow hg4)
   have HM8 := hid (HM7.out.grow hg)
   have HR8 := hid (HR7.out.keep hg)
   have HT8 : Hid (Turn B v4 w4) := hid (HT7.out.trans (Turn.of_grow hg))
   have HB8 := hid (HB7.out.grow hg)
   clear be hg3 hg4 hg HM7 HR7 HT7 HB7 HP7 HZ7 HT0 HZs HCk HkM HIk
   generalize wr.heap.size = ge at *
   cases ir with
   | false =>
    have hE := HSnk.out rfl
    rw [← hE] at HM8
    clear hE
    go_wp2
    go_roundw
    case rel => exact ⟨k + 1, by omega, by go_num, HM8.out, HR8.out, HT8.out⟩
    case measure => simp [intOf]; omega
   | true =>
    have HSt1 := hid (HStk.out rfl)
    obtain ⟨u0, u1, u2, u3⟩ := HE4.out.c4
    obtain ⟨v0, v1, v2, v3, v4', v5, v6, v7, v8, v9, v10⟩ := HB8.out.c11
    go_wp2_with fail
    clear u0 u1 u2 u3 v0 v1 v2 v3 v4' v5 v6 v7 v8 v9 v10
    refine (HWk.out w4 HM8.out).mono ?_
    rintro e w5 ⟨rfl, hm9, ht9⟩
    rw [HSt1.out] at hm9
    have HM9 := hid hm9
    have HR9 := hid (HR8.out.turn ht9 (by decide))
    have HT9 : Hid (Turn B v4 w5) := hid (HT8.out.trans ht9)
    clear hm9 ht9 HM8 HR8 HT8 HB8 HE4
    go_wp2
    go_roundw
    case rel => exact ⟨k + 1, by omega, by go_num, HM9.out, HR9.out, HT9.out⟩
    case measure => simp [intOf]; omega
  ·have e : k = N := by omega
   subst e
   have hE := HEd.out
   rw [← HLn.out] at hE
   rw [hE] at HM7
   have hDI := HEn.out
   have HWs2 := hid HWs.out
   have HP8 : Hid (Blk wr gp _ #[.int .i64 DP.inn, .int .u64 (DP.off : Nat), .int .u64 (DP.size : Nat), .slice Ap np cp]) := HP7
   clear hE HEn
   generalize hdi : DP.inn = dI at *
   clear hdi
   obtain ⟨u0, u1, u2, u3⟩ := HP8.out.c4
   by_cases h1 : dI = -1
   ·have HD := hid (show WS_ = RE by rw [HWs2.out, if_pos h1])
    have d1 : (dI != -1) = false := by simp [h1]
    rw [← HD.out] at HM7
    clear h1 hDI HWs HWs2
    go_wp2
    go_end0
    exact ⟨rfl, HM7.out, HT0.out⟩
   ·have HD := hid (show WS_ = ET EL.length by rw [HWs2.out, if_neg h1])
    have d1 : (dI != -1) = true := by simp [h1]
    have HEk := hid (hDI h1 (.slice Ap np cp) AL nL cL wr HM7.out HZ7.out)
    rw [← HD.out] at HEk
    obtain ⟨v0, v1, v2, v3, v4', v5, v6, v7, v8, v9, v10⟩ := HB7.out.c11
    clear h1 hDI HWs HWs2
    go_wp2_with fail
    clear u0 u1 u2 u3 v0 v1 v2 v3 v4' v5 v6 v7 v8 v9 v10 d1
    refine HEk.out.mono ?_
    rintro e w5 ⟨rfl, hm9, ht9⟩
    have HM9 := hid hm9
    have HT9 : Hid (Turn B w w5) := hid (HT0.out.trans ht9)
    clear hm9 ht9 HEk
    go_wp2
    go_end0
    exact ⟨rfl, HM9.out, HT9.out⟩
end Go.Proofs.Ytfpihkbpelbcbaa
