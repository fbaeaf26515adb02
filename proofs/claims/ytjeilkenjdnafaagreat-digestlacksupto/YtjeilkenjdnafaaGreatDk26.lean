/- LMr LOnc LCpt LCp -/
import Derived.Test.YtjeilkenjdnafaaGreatDk25
import Derived.Shelf.SlicesQ.Reverse
import Derived.Lib.OwnBridge
import Derived.Test.YtjeilkenjdnafaaGreatDk20
import Derived.Deep.LoopGhost
namespace Go.Proofs.YtjeilkenjdnafaaGreat.K
section
open Go.RowKit Go.Sort

def encE (e:En):List Value:=(EC e).toList
structure MR (W:World) (ad:Addr) (d:Array En):Prop where
 hk:HoldsK encE 4 W ad.block 0 d
 lt:ad.block < W.heap.size
 ha:ad=⟨ad.block,0,none⟩
theorem MR.at {W:World} {ad:Addr} {d:Array En} (M:MR W ad d) (i:Nat) (hi:i < d.size):EnAt W (ad.add (i * 4)) d[i]! := by
 have h:∀ c,c < 4 -> W.cell? ⟨ad.block,i * 4+c,none⟩=some (encE d[i]!)[c]! := fun c hc=>by
  have:=(M.hk.cell hi hc).1;rwa [Nat.zero_add] at this
 rw [M.ha,Addr.add_lit,Nat.zero_add];exact ⟨h 0 (by omega),by rw [Addr.add_lit];exact h 1 (by omega),by rw [Addr.add_lit];exact h 2 (by omega),by rw [Addr.add_lit];exact h 3 (by omega)⟩
theorem MR.on {W W':World} {ad:Addr} {d:Array En} (M:MR W ad d) (hb:Below W.heap.size W W'):MR W' ad d:=
 ⟨fun j hj=>by rw [hb.cell (p:=⟨ad.block,0+j,none⟩) M.lt,hb.frozen (p:=⟨ad.block,0+j,none⟩) M.lt];exact M.hk j hj,Nat.lt_of_lt_of_le M.lt hb.size,M.ha⟩
def Grew (w w':World):Prop:=∃ q os,w'=grow (w.drewN q) os
end
section
open Go.RowKit
attribute [local go_sem ↓] ld28_eq st28_eq ld26_eq
attribute [local go_sem] zero_EC cells_EV EC_size fold_EC
theorem run_eqD (x y:En) (w:World):(Op.equalIn 10000 55 (.agg (DC x)) (.agg (DC y))).run Tryz.prog w = .ok (sameDot x y) w:=by
 have u3:=Tryz.underlying3;have a3:=Tryz.isAgg3;have z3:=Tryz.sizeOf3
 have hS:Tryz.prog.underlying 55=some (.struct (Tryz.prog.fieldsOf 55)):=by kernel_rfl
 have hp:Tryz.prog.stoodInHeld 55=false:=by kernel_rfl
 obtain ⟨a,b,_,_⟩:=x;obtain ⟨c,d,_,_⟩:=y
 show (Op.equalIn 10000 55 (.agg #[.int .i64 a,.int .i64 b]) (.agg #[.int .i64 c,.int .i64 d])).run Tryz.prog w = .ok (a == c && b == d) w
 rw [show (10000:Nat)=9999+1 from rfl,run_equalIn_struct w 9999 55 _ _ hS hp];simp only [Program.fieldsOf,Tryz.underlying55];go_simp;by_cases h1:a=c <;> by_cases h2:b=d <;> simp [h1,h2]
attribute [local go_sem ↓] run_eq28 run_eqD
def GivesT (w w':World) (e:Ending) (L:List En):Prop:=∃ ao n c R er,e = .returned (.tuple #[.slice ao n c,.int .i64 er])/\ESrc w' ao n c R/\Below w.heap.size w w'/\(∀ ad,ao=some ad -> w.heap.size <= ad.block)/\Settled L R er
end
section
open Go.RowKit Go.Lib
attribute [local go_sem ↓] ld28_eq st28_eq run_eq28
attribute [local go_sem] zero_EC cells_EV EC_size
theorem add_add (p:Addr) (i j:Nat):(p.add i).add j=p.add (i+j):=by
 unfold Addr.add;split <;> split <;> simp_all [Nat.add_assoc]
def cl22 (a:Value):Sem Value:=Builtin.clear_ #[22] 0 #[a]
theorem cl22_eq (a:Value):Builtin.clear_ #[22] 0 #[a]=cl22 a:=rfl
attribute [local go_sem ↓] cl22_eq
def CompOut (w w':World) (e:Ending) (ad:Addr) (cap:Nat) (d:Array En):Prop:=
 ∃ k d',e = .returned (.slice (some ad) k cap)/\MR w' ad d'/\k <= d.size/\d'.size=d.size/\d'.toList.take k=compactUpTo d d.size/\Below ad.block w w'
end
section
open Go.RowKit Go.Lib

theorem asc_of_adj (C:List En) (h:∀ i,i+1 < C.length -> ahead (C.getD i en0) (C.getD (i+1) en0)=true):Asc C:=by
 have key:∀ k i,i+k+1 < C.length -> ahead (C.getD i en0) (C.getD (i+k+1) en0)=true:=by
  intro k
  induction k with
  | zero=>intro i hi;exact h i hi
  | succ k ih=>intro i hi;exact ahead_trans (ih i (by omega)) (h (i+k+1) (by omega))
 refine List.pairwise_iff_getElem.2 fun i j hi hj hij=>?_;have:=key (j - i - 1) i (by omega);rw [show i+(j - i - 1)+1=j by omega] at this;simpa [List.getD,hi,hj] using this
def AdjN (C:List En) (k:Nat):Prop:=∀ i,i+1 < k -> sameDot (C.getD (i+1) en0) (C.getD i en0)=false
end
end Go.Proofs.YtjeilkenjdnafaaGreat.K
