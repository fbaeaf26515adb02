/- Words between the kits. -/
import Derived.Test.YtojpjakpcihacaaGreatPKa
namespace Go.Proofs.YtojpjakpcihacaaGreat
theorem block_of_add (p : Addr) (m : Nat) : (p.add m).block = p.block := block_add p m
theorem add_nought (p : Addr) : p.add 0 = p := add_zero p
end Go.Proofs.YtojpjakpcihacaaGreat
