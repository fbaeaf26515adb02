/- The law's plays: all kinds. -/
import Derived.Test.YtgnclfeicgbjpaaDPw
import Derived.Test.YtgnclfeicgbjpaaDPv
import Derived.OrdersHeld
namespace Go.Proofs.Ytgnclfeicgbjpaa
open Go.RowKit
variable {w w' w2 : World} {β β' : Nat × Nat → Option Nat} {B i g h : Nat} {m nx : Int} {Z : List Int} {al : Option Addr} {cl : Nat} {s : Int} {k : Nat} {A : List Int} {ar : Option Addr} {cr : Nat}

theorem plays_any (w : World) (R : Reg w β) (P : Pw B w β i g h m nx Z al cl s k A ar cr) (N : Nat) (hN : A.length ≤ N) (hN2 : N < 4399000000000) (hB : B ≤ w.heap.size) (kd : Int) (sc : Bool) (nn xx : Int) : Calls Try.prog 8 #[ptr g, ptr h, .agg #[.int .i64 kd, .bool sc, .int .i64 nn, .int .i64 xx]] w fun e w' => e = .returned (.bool true) ∧ PyA B w w' β i g h N := by
  by_cases h1 : kd = 1
  · exact plays1 w R P N hN hN2 hB kd sc nn xx h1
  by_cases h2 : kd = 2
  · exact plays2 w R P N hN hN2 hB kd sc nn xx h2
  by_cases h3 : kd = 3
  · exact plays3 w R P N hN hN2 hB kd sc nn xx h3
  by_cases h4 : kd = 4
  · exact plays4 w R P N hN hN2 hB kd sc nn xx h4
  by_cases h5 : kd = 5
  · exact plays5 w R P N hN hN2 hB kd sc nn xx h5
  by_cases h6 : kd = 6
  · exact plays6 w R P N hN hN2 hB kd sc nn xx h6
  by_cases h7 : kd = 7
  · exact plays7 w R P N hN hN2 hB kd sc nn xx h7
  · exact plays0 w R P N hN hN2 hB kd sc nn xx (fun j h1 h2 => by omega)
end Go.Proofs.Ytgnclfeicgbjpaa
