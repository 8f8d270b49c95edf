/-
  A map from names to places, as the lists tell it. No program's function is spoken of here.
-/
import Derived.Test.YtpoklljgacnipaaStrMath
import Derived.Maps.OwnSet
namespace Go.Proofs.Ytpoklljgacnipaa
open Go.RowKit Go.Maps

/-- The map holds just what f tells. -/
def MapOf (D : DataW Unit) (f : Bs → Option Nat) : Prop :=
  IsMap D ∧ ∀ s, Maps.has D (.string s) = (f s).isSome ∧ ∀ p, f s = some p → ∀ z, D.atKey (.string s) z = .lit (.int .u64 (p : Int))

theorem isKey {s : Bs} : WideAt.IsKeyLit (.string s) := by simp [WideAt.IsKeyLit]
theorem mapOf_empty : MapOf (.map []) fun _ => none := ⟨isMap_empty, fun _ => ⟨rfl, fun _ h => by cases h⟩⟩
theorem MapOf.put {D : DataW Unit} {f f' : Bs → Option Nat} {s : Bs} {p : Nat} (h : MapOf D f) (hf : ∀ x, f' x = if s = x then some p else f x) : MapOf (D.put (.string s) (.lit (.int .u64 (p : Int)))) f' := by
  refine ⟨h.1.put _ _, fun x => ?_⟩
  rw [hf]
  by_cases e : s = x
  · subst e
    rw [if_pos rfl]
    refine ⟨has_put_same h.1 isKey _, fun q hq z => ?_⟩
    injection hq with hq
    subst hq
    exact atKey_put_same h.1 isKey _ _
  · rw [if_neg e]
    have hne : Lit.string x ≠ Lit.string s := fun h => e (by injection h with h; exact h.symm)
    refine ⟨by rw [has_put_other hne]; exact (h.2 x).1, fun q hq z => ?_⟩
    rw [atKey_put_other hne]
    exact (h.2 x).2 q hq z
theorem MapOf.congr {D : DataW Unit} {f f' : Bs → Option Nat} (h : MapOf D f) (hf : ∀ x, f' x = f x) : MapOf D f' := by
  obtain rfl : f' = f := funext hf
  exact h

/-- An entry of a map's literal, laid. -/
theorem wpList_insert_own {H : Type} {P : Program} (w : World) {ops : Array Oper} {rest : List Oper} {o : Oper} {a : Act} {Q : Exit → Act → World → Prop}
    (hg : o.guard = none) (m x v : Operand) (t : TypeId) (hop : o.op = Op.insert t m x v)
    (k e : TypeId) (K : Keyed P k) (ht : P.underlying t = some (.map k e)) (R : Value → Option (DataW H × List MemPlace)) (b n : Nat) (D : DataW H)
    (hm : a.eval m = .map (some b)) (hown : w.ownsMap P k R b n D) (hn : n < maxLen) (key val : Value) (kl : Lit) (hx : a.eval x = key) (hv : a.eval v = val) (hkey : keyOf P k key = some kl)
    (d : DataW H) (ps : List MemPlace) (hval : R val = some (d, ps))
    (hK : ∀ w', w'.ownsMap P k R b (n + 1) (D.put kl d) → w.grownBy w' (some b) → wpList P ops Q rest (a.put o.dst undef) w') :
    wpList P ops Q (o :: rest) a w := by
  refine wpList_plain hg fun K' hK' => ?_
  obtain ⟨w', hrun, r1, r2⟩ := hown.update K ht hn hkey hval
  unfold Oper.wp
  simp [execOp, hop, hm, hx, hv, hrun, Result.andThen]
  exact hK' _ _ (hK w' r1 r2)

/-- A name that is there, looked up. -/
theorem wpList_lookup_there {P : Program} (w : World) {ops : Array Oper} {rest : List Oper} {o : Oper} {a : Act} {Q : Exit → Act → World → Prop}
    (hg : o.guard = none) (m x : Operand) (t : TypeId) (hop : o.op = Op.lookup t m x true)
    (k e : TypeId) (K : Keyed P k) (ht : P.underlying t = some (.map k e)) (he : P.underlying e = some (.int .u64)) (hz : (zeroValue e).run P w = .ok (.int .u64 0) w) (b n : Nat) (D : DataW Unit)
    (hm : a.eval m = .map (some b)) (hown : w.ownsMap P k (plainElem P e) b n D) (key : Value) (s : Bs) (hx : a.eval x = key) (hkey : keyOf P k key = some (.string s))
    (f : Bs → Option Nat) (hD : MapOf D f) (p : Nat) (hp : f s = some p)
    (hK : wpList P ops Q rest (a.put o.dst (.tuple #[.int .u64 (p : Int), .bool true])) w) : wpList P ops Q (o :: rest) a w :=
  wpList_lookup_own_ok_int w hg m x t hop k e .u64 K ht he hz b n D hm hown key _ hx hkey (fun c hat _ => by
    rw [(hD.2 s).2 p hp] at hat
    injection hat with hat
    injection hat with _ hat
    rw [← hat, (hD.2 s).1, hp]
    exact hK)
/-- One that isn't. -/
theorem wpList_lookup_not {P : Program} (w : World) {ops : Array Oper} {rest : List Oper} {o : Oper} {a : Act} {Q : Exit → Act → World → Prop}
    (hg : o.guard = none) (m x : Operand) (t : TypeId) (hop : o.op = Op.lookup t m x true)
    (k e : TypeId) (K : Keyed P k) (ht : P.underlying t = some (.map k e)) (he : P.underlying e = some (.int .u64)) (hz : (zeroValue e).run P w = .ok (.int .u64 0) w) (b n : Nat) (D : DataW Unit)
    (hm : a.eval m = .map (some b)) (hown : w.ownsMap P k (plainElem P e) b n D) (key : Value) (s : Bs) (hx : a.eval x = key) (hkey : keyOf P k key = some (.string s))
    (f : Bs → Option Nat) (hD : MapOf D f) (hp : f s = none)
    (hK : wpList P ops Q rest (a.put o.dst (.tuple #[.int .u64 0, .bool false])) w) : wpList P ops Q (o :: rest) a w :=
  wpList_lookup_own_ok_int w hg m x t hop k e .u64 K ht he hz b n D hm hown key _ hx hkey (fun c hat _ => by
    have hh : Maps.has D (.string s) = false := by rw [(hD.2 s).1, hp]; rfl
    rw [atKey_of_not_has hh] at hat
    injection hat with hat
    injection hat with _ hat
    rw [← hat, hh]
    exact hK)
end Go.Proofs.Ytpoklljgacnipaa
