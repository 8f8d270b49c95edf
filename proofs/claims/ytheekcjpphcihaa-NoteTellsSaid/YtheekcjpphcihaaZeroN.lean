/-
  append of up to three new 0s (`append(b, make([]byte, n)...)`, n a uint64) onto bytes of the call's own, told with what stays. No program's function is spoken of here.
-/
import Derived.Test.YtheekcjpphcihaaNtMem
import Derived.Lib.AppendStr
namespace Go.Proofs.Ytheekcjpphcihaa
open Go.RowKit

/-- So many 0s, as a string. -/
def zsN (m : Nat) : ByteArray := ⟨(List.replicate m (0 : UInt8)).toArray⟩
theorem zsN_cells (m : Nat) : Lib.strCells (zsN m) = (List.replicate m (0 : UInt8)).map byt := by simp [Lib.strCells, zsN, byt]
theorem zsN_size (m : Nat) : (zsN m).size = m := by simp [zsN, ByteArray.size]

/-- It runs as the append of a string of 0s does. -/
theorem run_append_zerosN {P : Program} (w : World) (t u us ty e : TypeId) (ht : P.underlying t = some (.slice e)) (hu : P.underlying u = some (.int .u64)) (hus : P.underlying us = some .string)
    (hinfo : (P.info? e).map (fun i => (i.zero, i.size, i.bytes)) = some (some (.int .u8 0), 1, 1)) (A : Option Addr) (n c m : Nat) (hm : m ≤ 3) (hsz : n + 3 ≤ 140737488355328) :
    (Builtin.append_ #[t, u] ty #[.slice A n c, .int .u64 (m : Int)]).run P w = (Builtin.append_ #[t, us] ty #[.slice A n c, .string (zsN m)]).run P w := by
  obtain ⟨i, hi, hz, hs, hby⟩ := info_parts hinfo
  have hw : IntKind.i64.wrap (m : Int) = (m : Int) := by rw [IntKind.wrap_i64]; omega
  have hzc : Builtin.zeroCells (Value.int .u8 0).cells m = (Lib.strCells (zsN m)).toArray := by
    rw [zsN_cells]
    apply Array.ext
    · simp [Builtin.zeroCells, Value.cells]
    · intro j h1 h2
      simp [Builtin.zeroCells, Value.cells, byt, Nat.mod_one]
  have hf := fun w => Lib.run_firstCells_string (P := P) w 1 (zsN m)
  rw [zsN_size] at hf
  have hm0 : m = 0 → (Lib.strCells (zsN m)).toArray = #[] := by rintro rfl; rfl
  have h2 : ¬ ((m : Int) > 281474976710656) := by omega
  have h1 : ¬ ((m : Int) < 0) := by omega
  have hap : ∀ w, (if m = 0 then (pure #[] : Sem (Array Value)) else (pure (Builtin.zeroCells (Value.int .u8 0).cells m))).run P w = .ok (Lib.strCells (zsN m)).toArray w := by
    intro w
    by_cases e : m = 0
    · rw [if_pos e, hm0 e]; rfl
    · rw [if_neg e, hzc]; rfl
  by_cases hroom : n + m ≤ c
  · rcases Nat.eq_zero_or_pos m with rfl | hp
    · have e0 := hm0 rfl
      have hw0 : IntKind.i64.wrap 0 = 0 := by rw [IntKind.wrap_i64]; rfl
      have hr0 : n ≤ c := hroom
      simp [Builtin.append_, run_underlying ht, run_underlying hu, run_underlying hus, sizeOf, typeInfo, zeroValue, hi, hz, hs, hby, Builtin.lenOf, hr0, asInt, asIntOf, hw0, zsN_size, hf, e0]
    · have e0 : ¬ m = 0 := by omega
      simp [Builtin.append_, run_underlying ht, run_underlying hu, run_underlying hus, sizeOf, typeInfo, zeroValue, hi, hz, hs, hby, Builtin.lenOf, hroom, asInt, asIntOf, hw, hzc, zsN_size, hf, h2, h1, e0]
  · have h63 : ¬ (9223372036854775807 < ((n : Int) + (m : Int))) := by omega
    have h48 : ¬ (281474976710656 < Builtin.nextslicecap (n + m) c) := by
      have := growslice_fits (need := n + m) (old := c) (bytes := 1) (by omega) (by omega)
      omega
    rcases Nat.eq_zero_or_pos m with rfl | hp
    · have e0 := hm0 rfl
      have hw0 : IntKind.i64.wrap 0 = 0 := by rw [IntKind.wrap_i64]; rfl
      have h63' : ¬ (9223372036854775807 < (n : Int)) := by omega
      rw [Nat.add_zero] at h48 hroom
      simp [Builtin.append_, run_underlying ht, run_underlying hu, run_underlying hus, sizeOf, typeInfo, zeroValue, hi, hz, hs, hby, Builtin.lenOf, hroom, asInt, asIntOf, hw0, zsN_size, hf, h63', h48, e0]
    · have e0 : ¬ m = 0 := by omega
      simp [Builtin.append_, run_underlying ht, run_underlying hu, run_underlying hus, sizeOf, typeInfo, zeroValue, hi, hz, hs, hby, Builtin.lenOf, hroom, asInt, asIntOf, hw, hzc, zsN_size, hf, h63, h48, h2, h1, e0]

/-- What it leaves. -/
theorem run_append_zerosS {P : Program} (w : World) (base : Nat) (t u us ty e : TypeId) (ht : P.underlying t = some (.slice e)) (hu : P.underlying u = some (.int .u64)) (hus : P.underlying us = some .string)
    (hinfo : (P.info? e).map (fun i => (i.zero, i.size, i.bytes)) = some (some (.int .u8 0), 1, 1)) (A : Option Addr) (n c m : Nat) (l : List UInt8) (hown : OB w base e A n c l) (hm : m ≤ 3) (hsz : n + 3 ≤ 140737488355328) (hbase : base ≤ w.heap.size) :
    ∃ A2 c2 w', (Builtin.append_ #[t, u] ty #[.slice A n c, .int .u64 (m : Int)]).run P w = .ok (.slice A2 (n + m) c2) w' ∧ OB w' base e A2 (n + m) c2 (l ++ List.replicate m 0) ∧ Below base w w' ∧ Left w w' A A2 := by
  obtain ⟨i, hi, hz, hs1, hby⟩ := info_parts hinfo
  have hzs := zsN_size m
  rw [run_append_zerosN w t u us ty e ht hu hus hinfo A n c m hm hsz]
  have key : ∀ base, OB w base e A n c l → base ≤ w.heap.size → ∃ A2 c2 w', (Builtin.append_ #[t, us] ty #[.slice A n c, .string (zsN m)]).run P w = .ok (.slice A2 (n + m) c2) w' ∧ OB w' base e A2 (n + m) c2 (l ++ List.replicate m 0) ∧ w.grownBy w' (own A) := fun base hown hbase => by
    obtain ⟨v', w', hr, h2, h3, -⟩ := Lib.run_append_own_string (P := P) w base t us ty e i ht hus hi hz hs1 hby _ n _ hown (zsN m) (by rw [hzs]; unfold maxLen; omega) (by rw [hzs]; omega) hbase
    rw [hzs, zsN_cells, ← List.map_append] at h2
    rw [own_slice] at h3
    have hv : ∃ A2 c2, v' = .slice A2 (n + m) c2 := by
      rcases h2.2 with ⟨h0, h1⟩ | ⟨g, cap, cur, h0, _⟩
      · exact ⟨none, 0, by rw [h0, h1]⟩
      · exact ⟨_, _, h0⟩
    obtain ⟨A2, c2, rfl⟩ := hv
    exact ⟨A2, c2, w', hr, h2, h3⟩
  obtain ⟨A2, c2, w', hr, h2, h3⟩ := key base hown hbase
  have hb : Below base w w' := (Below.refl base w).grown h3 hbase fun k hk => (hown.in hk).1
  refine ⟨A2, c2, w', hr, h2, hb, hb.size, fun k hk hne => h3.block k hk (Ne.symm hne), fun g hg => ?_⟩
  rcases hown.2 with ⟨hv, h0⟩ | ⟨g', cap, cur, hv, hbg, hh, hnc, hcm, hcs, htk⟩
  · injection hv with e1 _ e3
    subst e1; subst e3; subst h0
    have hl : l = [] := List.eq_nil_of_length_eq_zero (by have := hown.1; simpa using this)
    subst hl
    obtain ⟨A3, c3, w3, hr3, h4, -⟩ := key w.heap.size OB.nil (Nat.le_refl _)
    rw [hr] at hr3
    injection hr3 with e4 _
    injection e4 with e4 _ _
    subst e4
    exact .inr (h4.in hg).1
  · injection hv with e1 _ e3
    subst e1; subst e3
    have hcs' : cur.size = c := by simpa using hcs
    by_cases hroom : n + m ≤ c
    · have hr2 := Lib.run_append_room_string (P := P) w t us ty e i ht hus hi hs1 g' n c cur hh (zsN m) (by rw [hzs]; exact hroom) (by rw [hzs]; omega)
      rw [hr] at hr2
      injection hr2 with e4 _
      injection e4 with e4 _ _
      subst e4
      exact .inl hg
    · have holds : ∀ j u, (l.map byt)[j]? = some u → w.cell? ((⟨g', 0, none⟩ : Addr).add j) = some u := World.ownsRow.cells hown (g := g') rfl
      have hr2 := Lib.run_append_grow_string (P := P) w t us ty e i (.int .u8 0) ht hus hi hz ⟨g', 0, none⟩ n c (l.map byt) (by rw [hs1]; have := hown.1; simpa using this) holds (zsN m) (by rw [hzs]; omega) (by rw [hzs]; omega) (by rw [hby, hzs]; exact growslice_fits (by omega) (by omega))
      rw [hr] at hr2
      injection hr2 with e4 _
      injection e4 with e4 _ _
      subst e4
      injection hg with hg
      exact .inr (by rw [← hg]; exact Nat.le_refl _)

theorem wpList_appendZeros {P : Program} (w : World) {ops : Array Oper} {rest : List Oper} {o : Oper} {a : Act} {Q : Exit → Act → World → Prop} (hgd : o.guard = none) (s x : Operand) (t u us : TypeId)
    (ho : o.op = .call { callee := .builtin .append, args := #[s, x], argTypes := #[t, u] })
    (base : Nat) (e : TypeId) (ht : P.underlying t = some (.slice e)) (hu : P.underlying u = some (.int .u64)) (hus : P.underlying us = some .string)
    (hinfo : (P.info? e).map (fun i => (i.zero, i.size, i.bytes)) = some (some (.int .u8 0), 1, 1))
    (A : Option Addr) (n c m : Nat) (l : List UInt8) (hs : a.eval s = .slice A n c) (hx : a.eval x = .int .u64 (m : Int)) (hown : OB w base e A n c l) (hm : m ≤ 3)
    (hsz : n + 3 ≤ 140737488355328) (hbase : base ≤ w.heap.size)
    (h : ∀ A2 c2 w', OB w' base e A2 (n + m) c2 (l ++ List.replicate m 0) → Below base w w' → Left w w' A A2 → wpList P ops Q rest (a.put o.dst (.slice A2 (n + m) c2)) w') : wpList P ops Q (o :: rest) a w := by
  refine wpList_plain hgd fun K hK => ?_
  obtain ⟨A2, c2, w', hrun, h2, h3, h4⟩ := run_append_zerosS (P := P) w base t u us o.type e ht hu hus hinfo A n c m l hown hm hsz hbase
  unfold Oper.wp execOp
  simp only [ho, resolve, invoke, builtin, Sem.run_bind, Sem.run_pure, Result.andThen_ok, List.map_toArray, List.map_cons, List.map_nil, hs, hx, hrun]
  exact hK _ _ (h A2 c2 w' h2 h3 h4)
end Go.Proofs.Ytheekcjpphcihaa
