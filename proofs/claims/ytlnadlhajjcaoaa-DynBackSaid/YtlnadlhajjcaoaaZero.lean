/-
  append of new 0s (`append(b, make([]byte, 16)...)`) onto bytes of the call's own. No program's function is spoken of here.
-/
import Derived.Test.YtlnadlhajjcaoaaApp
import Derived.Lib.AppendStr
namespace Go.Proofs.Ytlnadlhajjcaoaa
open Go.RowKit

/-- Sixteen 0s, as a string. -/
def zs16 : ByteArray := ⟨#[0, 0, 0, 0, 0, 0, 0, 0, 0, 0, 0, 0, 0, 0, 0, 0]⟩
theorem zs16_cells : Lib.strCells zs16 = (List.replicate 16 (0 : UInt8)).map byt := rfl
theorem zs16_size : zs16.size = 16 := rfl

/-- It runs as the append of a string of 0s does. -/
theorem run_append_zeros {P : Program} (w : World) (t u us ty e : TypeId) (ht : P.underlying t = some (.slice e)) (hu : P.underlying u = some (.int .i64)) (hus : P.underlying us = some .string)
    (hinfo : (P.info? e).map (fun i => (i.zero, i.size, i.bytes)) = some (some (.int .u8 0), 1, 1)) (A : Option Addr) (n c : Nat) (hsz : n + 16 ≤ 140737488355328) :
    (Builtin.append_ #[t, u] ty #[.slice A n c, .int .i64 16]).run P w = (Builtin.append_ #[t, us] ty #[.slice A n c, .string zs16]).run P w := by
  obtain ⟨i, hi, hz, hs, hby⟩ := info_parts hinfo
  have hw : IntKind.i64.wrap 16 = 16 := by rw [IntKind.wrap_i64]; rfl
  have hzc : Builtin.zeroCells (Value.int .u8 0).cells 16 = (Lib.strCells zs16).toArray := by kernel_rfl
  have hf := fun w => Lib.run_firstCells_string (P := P) w 1 zs16
  rw [zs16_size] at hf
  by_cases hroom : n + 16 ≤ c
  · simp [Builtin.append_, run_underlying ht, run_underlying hu, run_underlying hus, sizeOf, typeInfo, zeroValue, hi, hz, hs, hby, Builtin.lenOf, hroom, asInt, asIntOf, hw, hzc, zs16_size, hf]
  · have h63 : ¬ (9223372036854775807 < ((n : Int) + 16)) := by omega
    have h48 : ¬ (281474976710656 < Builtin.nextslicecap (n + 16) c) := by
      have := growslice_fits (need := n + 16) (old := c) (bytes := 1) (by omega) (by omega)
      omega
    simp [Builtin.append_, run_underlying ht, run_underlying hu, run_underlying hus, sizeOf, typeInfo, zeroValue, hi, hz, hs, hby, Builtin.lenOf, hroom, asInt, asIntOf, hw, hzc, zs16_size, hf, h63, h48]
    intro hb
    omega

theorem wp_appendO {P : Program} (w : World) {o : Oper} {a : Act} {K : Act → World → Prop} {Q : Exit → Act → World → Prop} (s : Operand) (t u us : TypeId)
    (ho : o.op = .call { callee := .builtin .append, args := #[s, .const (.int .i64 16)], argTypes := #[t, u] })
    (base : Nat) (e : TypeId) (ht : P.underlying t = some (.slice e)) (hu : P.underlying u = some (.int .i64)) (hus : P.underlying us = some .string)
    (hinfo : (P.info? e).map (fun i => (i.zero, i.size, i.bytes)) = some (some (.int .u8 0), 1, 1))
    (A : Option Addr) (n c : Nat) (l : List UInt8) (hs : a.eval s = .slice A n c) (hown : OB w base e A n c l)
    (hsz : n + 16 ≤ 140737488355328) (hbase : base ≤ w.heap.size)
    (h : ∀ A2 c2 w', OB w' base e A2 (n + 16) c2 (l ++ List.replicate 16 0) → Below base w w' → K (a.put o.dst (.slice A2 (n + 16) c2)) w') : o.wp P a w K Q := by
  obtain ⟨i, hi, hz, hs1, hby⟩ := info_parts hinfo
  obtain ⟨v', w', hr, h2, h3, -⟩ := Lib.run_append_own_string (P := P) w base t us o.type e i ht hus hi hz hs1 hby _ n _ hown zs16 (by rw [zs16_size]; unfold maxLen; omega) (by rw [zs16_size]; omega) hbase
  rw [← run_append_zeros w t u us o.type e ht hu hus hinfo A n c hsz] at hr
  rw [zs16_size, zs16_cells, ← List.map_append] at h2
  have hv : ∃ A2 c2, v' = .slice A2 (n + 16) c2 := by
    rcases h2.2 with ⟨h0, h1⟩ | ⟨g, cap, cur, h0, _⟩
    · omega
    · exact ⟨_, _, h0⟩
  obtain ⟨A2, c2, rfl⟩ := hv
  have hb : Below base w w' := (Below.refl base w).grown h3 hbase fun k hk => (hown.lt k hk).1
  have hx : a.eval (.const (.int .i64 16)) = .int .i64 16 := rfl
  unfold Oper.wp execOp
  simp only [ho, resolve, invoke, builtin, Sem.run_bind, Sem.run_pure, Result.andThen_ok, List.map_toArray, List.map_cons, List.map_nil, hs, hx, hr]
  exact h A2 c2 w' h2 hb
end Go.Proofs.Ytlnadlhajjcaoaa
