/-
  'v, ok := m[x]' of a map from integers to integers, what is there told. No program is spoken of here.
-/
import Derived.Test.YtnbgnllkikajpaaWords
import Derived.Maps.OwnSet
namespace Go.Proofs.Ytnbgnllkikajpaa
open Go.RowKit

theorem wpList_lookM {P : Program} (w : World) {ops : Array Oper} {rest : List Oper} {o : Oper} {a : Act} {Q : Exit → Act → World → Prop} (hg : o.guard = none) (m x : Operand) (t : TypeId) (hop : o.op = Op.lookup t m x true)
    (k e : TypeId) (q : IntKind) (K : Maps.Keyed P k) (ht : P.underlying t = some (.map k e)) (he : P.underlying e = some (.int q)) (hz : (zeroValue e).run P w = .ok (.int q 0) w) (b n : Nat) (D : DataW Unit)
    (hm : a.eval m = .map (some b)) (hown : w.ownsMap P k (plainElem P e) b n D) (key : Value) (kl : Lit) (hx : a.eval x = key) (hkey : keyOf P k key = some kl) (c : Int) (h : Bool) (hat : D.atKey kl (.lit (.int q 0)) = .lit (.int q c)) (hh : Maps.has D kl = h)
    (hK : wpList P ops Q rest (a.put o.dst (.tuple #[.int q c, .bool h])) w) : wpList P ops Q (o :: rest) a w :=
  wpList_lookup_own_ok_int w hg m x t hop k e q K ht he hz b n D hm hown key kl hx hkey fun c' h1 _ => by
    rw [hat] at h1
    injection h1 with h1
    injection h1 with _ h1
    rw [← h1, hh]
    exact hK

end Go.Proofs.Ytnbgnllkikajpaa
