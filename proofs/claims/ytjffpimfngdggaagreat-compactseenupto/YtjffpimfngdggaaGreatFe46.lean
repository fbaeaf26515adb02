/- YFk YEv YEc YEk Litl LKf LRg LLk -/
import Derived.Test.YtjffpimfngdggaaGreatTk
import Derived.Test.YtjffpimfngdggaaGreatFe45
import Derived.Test.YtjffpimfngdggaaGreatFe24
import Derived.Test.YtjffpimfngdggaaGreatFe38
import Derived.Test.YtjffpimfngdggaaGreatFe40
import Derived.Test.YtjffpimfngdggaaGreatFe43
import Derived.Test.YtjffpimfngdggaaGreatFe44
import Derived.Shelf.SlIter.Nil
import Derived.Shelf.SortM.Plain
import Derived.Shelf.SortM.SortNone
import Derived.Test.YtjffpimfngdggaaGreatProg
import Derived.Test.YtjffpimfngdggaaGreatFe31
import Derived.Test.YtjffpimfngdggaaGreatFe35
import Derived.Test.YtjffpimfngdggaaGreatFe15
import Derived.RegionTactic
import Derived.Test.YtjffpimfngdggaaGreatFe36
import Derived.Maps.OwnOps
import Derived.StringKeys
set_option maxRecDepth 100000
set_option maxHeartbeats 8000000
namespace Go.Proofs.YtjffpimfngdggaaGreat
section
open Go.RowKit
def I1 (f:Fc) (m:SpR) (er:Int):Prop:=(¬ av f/\er=1/\m=sp0)∨(av f/\er=0/\∃ s z,StD f s/\lG (ae f.p.P) z/\m=⟨(f.es.length:Int) - (s.es.length:Int),z,(f.rs.length:Int) - ((plR s.rs).length:Int)⟩)
def Bm (w w':World) (x:Ending) (f:Fc):Prop:=∃ m er,x = .returned (.tuple #[SpV m,.int .i64 er])/\Below w.heap.size w w'/\I1 f m er
attribute [local go_sem ↓] zq zp zB zz zL zK zbw zaf bu
attribute [local go_sem] zi zj zk zm zv yO jV vt vW
theorem zbL (w:World):(nX #[]).run Tryz.prog w = .ok (.agg (SpC sp0)) w:=by kernel_rfl
attribute [local go_sem] zbL
theorem zdQ (N:Nat) (hN:N <= 4) (f:Fc) (w:World) (hS:SwB N w f):Calls Tryz.prog 22 #[FaV (mkF f)] w fun e w'=>Bm w w' e f:=by
 obtain ⟨wk,aY,HX,HZ,aq⟩:=BH w f;obtain ⟨G,dF⟩:∃ G,w.heap.size=G:=⟨_,rfl⟩;rw [dF] at HX HZ;have fU:Hid (w.heap.size=G):=dF;have HF:=hide (hS.below aq.out);have hN:=hide hN;clear hS;have l0:=qy HX.out;go_enter Tryz.func22,Tryz.ntmps22;go_wp2_with fail;clear aY dF l0;refine (kY N hN.out f _ HF.out).mono ?_;rintro e v3 ⟨s,er,rfl,Ss,b3,hs⟩;have Hs:=hide hs;clear hs;obtain ⟨gs,ot⟩:∃ g,v3.heap.size=g:=⟨_,rfl⟩;obtain ⟨w3,a8,X3,B3,-⟩:=iL v3 s gs ot;have b33:=b3.trans (B3.mono b3.size);have aB:=hide b33;have th:=hide X3;have fL:=hide (HX.out.below b33)
 have G8:Hid (G+1 < gs):=by have h1:=HZ.out.lt;have h2:=b3.size;show _ < _;omega
 have o9:=hide Ss;clear Ss b3 X3 B3 b33;rcases Hs.out with ⟨h1,rfl,-⟩ | ⟨h1,rfl,h2⟩
 ·have A3:=HZ.out.below aB.out;have st:=bH (m':=sp0) A3;have dW:Hid (cI (w3.setRow (G+1) (SpC sp0)) (G+1) sp0):=A3.setRow;have HE:Hid (Bm w (w3.setRow (G+1) (SpC sp0)) (.returned (.tuple #[SpV sp0,.int .i64 1])) f):=⟨sp0,1,rfl,zh (aq.out.trans (aB.out.mono aq.out.size)) (by rw [fU.out];omega),.inl ⟨h1,rfl,rfl⟩⟩;clear A3 h1 Hs;go_wp2_with fail;clear st a8 ot;refine bodyPost_ret (rJ rfl rfl rfl dW.out) rfl ?_;exact HE.out
 have mn:=hide h1;have HD:=hide h2;clear h1 h2 Hs;obtain ⟨a,ha⟩:∃ a:Int,(f.an:Int) - (s.an:Int)=a:=⟨_,rfl⟩;obtain ⟨b,hb⟩:∃ b:Int,(f.rn:Int) - (s.rn:Int)=b:=⟨_,rfl⟩
 have DM:Hid ((f.es.length:Int) - (s.es.length:Int)=a/\(f.rs.length:Int) - ((plR s.rs).length:Int)=b):=by
  have q1:=HF.out.ok.es.1;have q2:=o9.out.ok.es.1;have q3:=HF.out.ok.rs.len;have q4:=o9.out.ok.rs.len;rw [jy];exact ⟨by rw [q1,q2,ha],by rw [q3,q4,hb]⟩
 have NQ:IntKind.i64.wrap ((f.an:Int) - (s.an:Int))=a:=by
  have q1:=HF.out.an;have q2:=o9.out.an;rw [IntKind.wrap_i64,<- ha];omega
 have NZ:IntKind.i64.wrap ((f.rn:Int) - (s.rn:Int))=b:=by
  have q1:=HF.out.rn;have q2:=o9.out.rn;rw [IntKind.wrap_i64,<- hb];omega
 clear ha hb;have aG:Hid (∀ W,aF W G (mkF f) -> aE W gs (mkF s) -> (W.cell? ⟨G,0,none⟩=some (.slice f.ao f.an f.ac)/\W.cell? ⟨G,3,none⟩=some (.slice f.ro f.rn f.rc)/\(ldP (.pointer (some ⟨G,1,none⟩))).run Tryz.prog W = .ok (PV f.p) W)/\W.cell? ⟨gs,0,none⟩=some (.slice s.ao s.an s.ac)/\W.cell? ⟨gs,3,none⟩=some (.slice s.ro s.rn s.rc)):=fun W h k=>⟨⟨h.cs.1,h.cs.2,zl h.past⟩,k.cs⟩;go_upto_region 4 with fail;clear a8 ot;refine wp_region_held_drew (S:=fun W=>(W.cell? ⟨G,0,none⟩=some (.slice f.ao f.an f.ac)/\W.cell? ⟨G,3,none⟩=some (.slice f.ro f.rn f.rc)/\(ldP (.pointer (some ⟨G,1,none⟩))).run Tryz.prog W = .ok (PV f.p) W)/\W.cell? ⟨gs,0,none⟩=some (.slice s.ao s.an s.ac)/\W.cell? ⟨gs,3,none⟩=some (.slice s.ro s.rn s.rc)) (by kernel_rfl) (aG.out _ (fL.out.below (zg w3)) (th.out.below (zg w3))) (fun hHeld=>?_)
 refine wU 0 ?_;refine wU 1 ?_;refine wU 2 ?_;refine wU 3 ?_;refine wU 4 ?_;refine wU 5 ?_;refine wU 6 ?_;refine wU 7 ?_;refine wU 8 ?_;refine wU 10 ?_;refine wU 11 ?_;refine wU 12 ?_;refine wU 13 ?_;refine wU 14 ?_;refine wU 15 ?_;refine wU 16 ?_;refine wpAnyH_ready (rs:=[9]) (by kernel_rfl) (by simp) (.cons rfl (fun K hK=>?_) .nil);go_simp;go_wp2_with fail;refine (vL f.p _ ((HF.out.ok.below aB.out).p.below (zg w3))).mono ?_;rintro x w5 ⟨z,rfl,hz,b5⟩;have Hz:=hide hz;have b55:=(zg w3).trans (b5.mono (zg w3).size);have i7:=hide (fL.out.below b55);have oM:=hide (th.out.below b55);have dO:=wTr aB b55;clear b5 b55 hz;refine hK.out _ _ (aG.out _ i7.out oM.out) (fun hHeld=>?_);clear hK K;refine wU 17 ?_;have A5:=HZ.out.below dO.out;have st:=bH (m':=⟨a,z,b⟩) A5;replace st:(rR (.pointer (some ⟨G+1,0,none⟩)) (.agg #[.int .i64 a,.int .i64 z,.int .i64 b])).run Tryz.prog w5 = .ok () (w5.setRow (G+1) (SpC ⟨a,z,b⟩)):=st
 have dW:Hid (cI (w5.setRow (G+1) (SpC ⟨a,z,b⟩)) (G+1) ⟨a,z,b⟩):=A5.setRow;have AV:Hid (aF (w5.setRow (G+1) (SpC ⟨a,z,b⟩)) G (mkF f)):=(setRow_other _ _ _ _ (by omega)).trans i7.out;have p5:Hid (aE (w5.setRow (G+1) (SpC ⟨a,z,b⟩)) gs (mkF s)):=(setRow_other _ _ _ _ (by have:=G8.out;omega)).trans oM.out;have HE:Hid (Bm w (w5.setRow (G+1) (SpC ⟨a,z,b⟩)) (.returned (.tuple #[SpV ⟨a,z,b⟩,.int .i64 0])) f):=⟨_,0,rfl,zh (aq.out.trans (dO.out.mono aq.out.size)) (by rw [fU.out];omega),.inr ⟨mn.out,rfl,s,z,HD.out,Hz.out,by rw [<- DM.out.1,<- DM.out.2]⟩⟩;clear A5;refine wpAnyH_ready (rs:=[18]) (by kernel_rfl) (by simp) (.cons rfl (fun K hK=>?_) .nil);go_simp;refine hK.out _ _ (aG.out _ AV.out p5.out) (fun hHeld=>?_);clear hK K;clear st;refine wU 19 ?_;refine wpAnyH_done (by kernel_rfl) ?_ _
 clear hHeld;go_wp2_with fail;refine bodyPost_ret (rJ rfl rfl rfl dW.out) rfl ?_;exact HE.out
end
section
open Go.ChangeShapes Go.WideShapes Go.ChangeAt Go.RowKit Go.Joins
variable {w w' W : World} {g : Nat}
structure Cz where
 f:Fc
 g:Fc
 h:Fc
 s:Fc
 v:Value
 u:Value
def CzC (c:Cz):Array Value:=#[.slice c.f.ao c.f.an c.f.ac,.slice c.f.p.vo c.f.p.vn c.f.p.vc,.slice c.f.p.co c.f.p.cn c.f.p.cc,.slice c.f.ro c.f.rn c.f.rc,
 .slice c.g.ao c.g.an c.g.ac,.slice c.g.p.vo c.g.p.vn c.g.p.vc,.slice c.g.p.co c.g.p.cn c.g.p.cc,.slice c.g.ro c.g.rn c.g.rc,
 .slice c.h.ao c.h.an c.h.ac,.slice c.h.p.vo c.h.p.vn c.h.p.vc,.slice c.h.p.co c.h.p.cn c.h.p.cc,.slice c.h.ro c.h.rn c.h.rc,
 .slice c.s.ao c.s.an c.s.ac,.slice c.s.p.vo c.s.p.vn c.s.p.vc,.slice c.s.p.co c.s.p.cn c.s.p.cc,.slice c.s.ro c.s.rn c.s.rc,c.v,c.u]
abbrev CzV (c:Cz):Value:=.agg (CzC c)
theorem zaJ (c:Cz):(CzC c).size=18:=rfl
theorem yv (c:Cz):(CzV c).cells=CzC c:=by simp [Value.cells]
def fu (w:World) (g:Nat) (c:Cz):Prop:=w.heap[g]? = some (.cells (CzC c) 34 (0,0))
theorem fu.lt {c:Cz} (h:fu w g c):g < w.heap.size:=(Array.getElem?_eq_some_iff.1 h).1
theorem fu.below {c:Cz} (h:fu w g c) (hb:Below w.heap.size w w'):fu w' g c:=(hb.block g h.lt).trans h
theorem zfC (w:World) (c:Cz):fu (w.alloc (.cells (CzC c) 34)) w.heap.size c:=by unfold fu;rw [heap_alloc_new]
theorem fu.fF {c:Cz} (h:fu w g c):rQ w ⟨g,0,none⟩ (mkF c.f):=by
 unfold fu at h;refine ⟨?_,?_,?_,?_⟩ <;> simp [Addr.add,World.cell?,h,CzC,mkF]
theorem fu.hF {c:Cz} (h:fu w g c):rQ w ⟨g,8,none⟩ (mkF c.h):=by
 unfold fu at h;refine ⟨?_,?_,?_,?_⟩ <;> simp [Addr.add,World.cell?,h,CzC,mkF]
structure CzU (W:World) (c:Cz):Prop where
 f:FcU W c.f
 g:FcU W c.g
 h:FcU W c.h
 s:FcU W c.s
theorem tS:Tryz.prog.cellsOf 34=18:=by kernel_rfl
theorem tG:Tryz.prog.cellsOf 32=1:=by kernel_rfl
theorem Bl {α : Type} {l:List α} (h:l.length=18):∃ a0 a1 a2 a3 b0 b1 b2 b3 c0 c1 c2 c3 d0 d1 d2 d3 e0 e1,l=[a0,a1,a2,a3,b0,b1,b2,b3,c0,c1,c2,c3,d0,d1,d2,d3,e0,e1]:=by
 match l,h with
 | [a0,a1,a2,a3,b0,b1,b2,b3,c0,c1,c2,c3,d0,d1,d2,d3,e0,e1],_=>exact ⟨_,_,_,_,_,_,_,_,_,_,_,_,_,_,_,_,_,_,rfl⟩
theorem EU {α : Type} {l:List α} (h:l.length=6):∃ a0 a1 a2 a3 a4 a5,l=[a0,a1,a2,a3,a4,a5]:=by
 match l,h with
 | [a0,a1,a2,a3,a4,a5],_=>exact ⟨_,_,_,_,_,_,rfl⟩
theorem zdu {H:Type} {enc:TypeId × Value -> H} {W:World} {fuel:Nat} {cs:List Value} {x:DataW H × List MemPlace}
  (h:DataW.trod enc Tryz.prog W 0 (fun _=>true) true fuel 34 cs=some x) (hw:Rows.uptoBulk x.1 <= 1048576):∃ c:Cz,cs=(CzC c).toList/\CzU W c:=by
 obtain ⟨xs,m,_,hx,fC,ns,hf⟩:=DataW.trod_struct Tryz.underlying34 h;obtain ⟨a0,a1,a2,a3,b0,b1,b2,b3,c0,c1,c2,c3,d0,d1,d2,d3,e0,e1,rfl⟩:=Bl (fC.trans tS);obtain ⟨y0,y1,y2,y3,y4,y5,rfl⟩:=EU ns;have t0:=hf 0 _ rfl;have t1:=hf 1 _ rfl;have t2:=hf 2 _ rfl;have t3:=hf 3 _ rfl;simp [oA,oH] at t0 t1 t2 t3;subst hx;simp only [Rows.uptoBulk,List.map_cons,List.map_nil,Rows.uptoBulkAll] at hw;obtain ⟨f,ef,Sf⟩:=kl t0 (by omega);obtain ⟨g,eg,Sg⟩:=kl t1 (by omega);obtain ⟨k,eh,Sh⟩:=kl t2 (by omega);obtain ⟨s,es,Ss⟩:=zds t3 (by omega);simp only [FaC,mkF,List.cons.injEq,and_true] at ef eg eh es;obtain ⟨rfl,rfl,rfl,rfl⟩:=ef;obtain ⟨rfl,rfl,rfl,rfl⟩:=eg;obtain ⟨rfl,rfl,rfl,rfl⟩:=eh;obtain ⟨rfl,rfl,rfl,rfl⟩:=es;exact ⟨⟨f,g,k,s,e0,e1⟩,rfl,Sf,Sg,Sh,Ss⟩
end
section
open Go.RowKit
attribute [local go_sem ↓] zB zz zL zK
attribute [local go_sem] zk zm zv yv zaJ
end
section
open Go.RowKit
attribute [local go_sem ↓] zB zz zL zK zaf bu
attribute [local go_sem] zk zm zv yv zaJ jV vt vW
end
end Go.Proofs.YtjffpimfngdggaaGreat
namespace Go.Proofs
open Go.Shelf
def Tryz.keysL_ren:Go.Shelf.Ren:=⟨fun | 7=>60 | 10=>107 | n=>n,fun | 23=>106 | 26=>9 | 3=>108 | 28=>113 | 0=>0 | 27=>112 | 33=>95 | 4=>4 | n=>n,fun | n=>n⟩
theorem Tryz.keysL:Go.Proofs.SlLaysZ.n7 Tryz.prog Tryz.keysL_ren:={
 mixed:=by kernel_rfl
 f7:=⟨Tryz.f60.name,by decide,Tryz.func60.trans (congrArg some (by kernel_rfl))⟩
 f10:=⟨Tryz.f107.name,by decide,Tryz.func107.trans (congrArg some (by kernel_rfl))⟩
 t0:=Tryz.underlying0
 a0:=Tryz.isAgg0
 z0:=Tryz.sizeOf0
 v0:=Tryz.zeroValue0
 t4:=Tryz.underlying4
 a4:=Tryz.isAgg4
 z4:=Tryz.sizeOf4
 v4:=Tryz.zeroValue4
 t23:=Tryz.underlying106
 a23:=Tryz.isAgg106
 z23:=Tryz.sizeOf106
 v23:=Tryz.zeroValue106
 t26:=Tryz.underlying9
 a26:=Tryz.isAgg9
 z26:=Tryz.sizeOf9
 v26:=Tryz.zeroValue9
 t27:=Tryz.underlying112
 a27:=Tryz.isAgg112
 z27:=Tryz.sizeOf112
 v27:=Tryz.zeroValue112
 t28:=Tryz.underlying113
 a28:=Tryz.isAgg113
 z28:=Tryz.sizeOf113
 v28:=Tryz.zeroValue113
 t33:=Tryz.underlying95
 a33:=Tryz.isAgg95
 z33:=Tryz.sizeOf95
 v33:=Tryz.zeroValue95 }
end Go.Proofs
namespace Go.Proofs.YtjffpimfngdggaaGreat.K
section
open Go.RowKit Go.Maps Go.Sort Go.Shelf

theorem bw (m:Nat):AnyZ.SortsIn Tryz.prog Tryz.sortedM_ren Fence.wide m:=
 ⟨fun blk off cap ss W hH hblk dP=>callsIn_wide.2 (AnyM.slices_Sort_string Tryz.sortM blk off cap ss W hH hblk dP),
 fun p cap W=>callsIn_wide.2 (AnyM.slices_Sort_string_none Tryz.sortM p cap W)⟩
theorem zag (mb:Option Nat) (W:World):Calls Tryz.prog 60 #[.map mb] W fun e w'=>e = .returned (.func (.func 107) #[] #[.pointer (some ⟨W.heap.size,0,none⟩)])/\w'=W.alloc (.cells #[.map mb] 106):=
 (callsIn_wide (n:=5)).1 (AnyZ.keys_in Tryz.keysL Fence.wide 5 trivial rfl mb W)
def aZ (w w':World) (e:Ending) (T:List (List UInt8)):Prop:=∃ v,e = .returned v/\w'.ownsRow w.heap.size 9 1 v T.length (T.map encStr)/\Below w.heap.size w w'
theorem jf {H:Type} (b nn:Nat) (D0:DataW H) (R:Value -> Option (DataW H × List MemPlace)) (w:World) (aM:w.ownsMap Tryz.prog 9 R b nn D0) (hmax:Maps.size D0 <= maxLen) (hbytes:Maps.size D0 * 16 <= 140737488355328) :
  Calls Tryz.prog 59 #[.func (.func 107) #[] #[.pointer (some ⟨w.heap.size,0,none⟩)]] (w.alloc (.cells #[.map (some b)] 106)) fun e w'=>∃ ss:List (List UInt8),ss.Perm (strKeys D0)/\aZ (w.alloc (.cells #[.map (some b)] 106)) w' e (ss.mergeSort leB):=by
 have Cp:=aM.lt
 have Bb:SeqGives Fence.wide 2 Tryz.prog 107 #[.pointer (some ⟨w.heap.size,0,none⟩)] encStr (fun ss=>ss.Perm (strKeys D0)) (Maps.size D0) (w.alloc (.cells #[.map (some b)] 106)):=
  AnyZ.keys_gives (ρ := Tryz.keysL_ren) { Tryz.keysL with } Fence.wide _ trivial rfl (by omega) w.heap.size b nn D0 _ (by simp) (by simp) (by
   obtain ⟨es,clock,hb,Ft,hs,hD⟩:=aM
   exact ⟨es,clock,(Below.heap_alloc _ _ b Cp).trans hb,Ft,hs,hD⟩)
 have h:=AnyZ.sorted_in Tryz.sortedM Fence.wide 5 trivial trivial trivial trivial rfl (by omega) (bw _) (enters_of Tryz.func106 (by kernel_rfl) rfl) 107 #[.pointer (some ⟨w.heap.size,0,none⟩)] trivial (enters_of Tryz.func107 (by kernel_rfl) rfl) _ _ hmax hbytes _ Bb;refine ((callsIn_wide (n:=5)).1 h).mono ?_;rintro e w' ⟨v,ss,rfl,hS,dx,_,hb⟩;refine ⟨ss,hS,v,rfl,?_,hb⟩;have e1:(ss.mergeSort leB).length=ss.length:=(List.mergeSort_perm ss leB).length_eq;rw [e1];exact dx
end
section
open Go.RowKit

def ig (n:Nat) (l:Array Bool):Nat:=(List.range n).countP (fun i => !l.getD i true)
theorem xX {p q:Nat -> Bool} {i:Nat}:∀ {xs:List Nat},(∀ j,q j=true -> p j=true) -> i∈xs -> p i=true -> q i=false -> xs.countP q < xs.countP p
 | [],_,h,_,_=>by cases h
 | x :: xs,hpq,h,hp,hq=>by
  have ip:xs.countP q <= xs.countP p:=List.countP_mono_left (fun j _=>hpq j);rcases List.mem_cons.1 h with rfl | h
  ·rw [List.countP_cons_of_neg (by simp [hq]),List.countP_cons_of_pos (by simp [hp])];omega
  ·have:=xX hpq h hp hq;rw [List.countP_cons,List.countP_cons];have hx:=hpq x
   cases hqx:q x with
   | true=>simp [hx hqx];exact this
   | false=>cases p x <;> simp <;> omega
theorem qS {md:Region.Mode} {ops:Array Oper} {l:Array Bool} {i:Nat} (h:i∈Region.ready md ops l):i < ops.size/\l.getD i true=false/\∀ o,ops[i]? = some o -> ∀ e∈o.after,Region.binds md e=true -> l.getD e.on false=true:=by
 unfold Region.ready at h;rw [List.mem_filter,List.mem_range] at h;obtain ⟨h1,h2⟩:=h;simp only [Bool.and_eq_true,Bool.not_eq_true'] at h2;refine ⟨h1,h2.1,fun o ho e he hb=>?_⟩;have h3:=h2.2;rw [ho] at h3;simp only [Option.map_some,Option.getD_some] at h3;have:=Array.all_eq_true'.1 h3 e he;simpa [hb] using this
theorem jL {md:Region.Mode} {ops:Array Oper} {l:Array Bool} (h:ig ops.size l=0):Region.ready md ops l=[]:=by
 unfold Region.ready;rw [List.filter_eq_nil_iff];intro i hi;have:=List.countP_eq_zero.1 h i hi;simp at this;simp [this]
theorem jH {P:Program} {md:Region.Mode} {ops:Array Oper} {Q:Exit -> Act -> World -> Prop} (I:Array Bool -> Act -> World -> Prop) (hz:∀ l a w,I l a w -> l.size=ops.size)
  (hs:∀ l a w,I l a w -> ∀ i,i∈Region.ready md ops l -> wpOp P ops Q i (fun a' w'=>I (l.setIfInBounds i true) a' w') a w)
  (he:∀ l a w,I l a w -> Region.ready md ops l=[] -> Q .normal a w) :
  ∀ (fuel:Nat) (l:Array Bool) (a:Act) (w:World),I l a w -> ig ops.size l <= fuel -> wpAny P md ops Q fuel l a w
 | 0,l,a,w,h,hf=>⟨jL (by omega),he l a w h (jL (by omega))⟩
 | fuel+1,l,a,w,h,hf=>by
  refine ⟨he l a w h,fun i hi=>wpOp_mono (fun a' w' h'=>?_) (hs l a w h i hi)⟩;refine jH I hz hs he fuel _ a' w' h' ?_;obtain ⟨h1,h2,_⟩:=qS hi;have hl:=hz l a w h
  have:ig ops.size (l.setIfInBounds i true) < ig ops.size l:=by
   unfold ig;refine xX (i:=i) (fun j hj=>?_) (List.mem_range.2 h1) (by simp only [h2];rfl) ?_
   ·by_cases e:i=j
    ·subst e;simp [Array.getD,hl,h1] at hj
    ·simpa [Array.getD_eq_getD_getElem?,Array.getElem?_setIfInBounds,e] using hj
   ·simp [Array.getD,hl,h1]
  omega
theorem qq {P:Program} {ops:Array Oper} {Q:Exit -> Act -> World -> Prop} {id:Nat} {a:Act} {w:World} (hm:P.follows .mixedOrders=true) (I:Array Bool -> Act -> World -> Prop) (h0:I (Array.replicate ops.size false) a w.drew) (hz:∀ l a w,I l a w -> l.size=ops.size)
  (hs:∀ l a w,I l a w -> ∀ i,i∈Region.ready .any ops l -> wpOp P ops Q i (fun a' w'=>I (l.setIfInBounds i true) a' w') a w)
  (he:∀ l a w,I l a w -> Region.ready .any ops l=[] -> Q .normal a w):(Code.region id ops true).wp P Q a w:=
 wp_region_any hm (jH I hz hs he _ _ _ _ h0 (by unfold ig;have:=List.countP_le_length (p:=fun i => !(Array.replicate ops.size false).getD i true) (l:=List.range ops.size);simpa using this))
def iR (ops:Array Oper):Bool:=(List.range ops.size).all fun i=>((ops[i]?).map fun o=>o.after.all fun e => !Region.binds .any e || decide (e.on < i)).getD true
theorem q8 {ops:Array Oper} {l:Array Bool} (hb:iR ops=true) (hz:l.size=ops.size) (h:Region.ready .any ops l=[]):∀ i,i < ops.size -> l.getD i false=true:=by
 intro i
 induction i using Nat.strongRecOn with
 | _ i ih =>
  intro hi;unfold Region.ready at h;rw [List.filter_eq_nil_iff] at h;have h1:=h i (List.mem_range.2 hi);have h2:=List.all_eq_true.1 hb i (List.mem_range.2 hi);rw [Array.getElem?_eq_getElem hi] at h1 h2;simp only [Option.map_some,Option.getD_some] at h1 h2
  have h3:(ops[i].after.all fun e => !Region.binds .any e || l.getD e.on false)=true:=by
   rw [Array.all_eq_true'];intro e he;have:=Array.all_eq_true'.1 h2 e he
   cases hb:Region.binds .any e with
   | false=>simp
   | true =>
    simp only [hb,Bool.not_true,Bool.false_or,decide_eq_true_eq] at this;rw [ih e.on this (by omega)];simp
  rw [h3] at h1
  have hl:i < l.size:=by omega
  simp [Array.getD,hl] at h1 ⊢;exact h1
theorem zX {l:Array Bool} {i:Nat} (h:i < l.size):(l.setIfInBounds i true).getD i false=true:=by simp [Array.getD,h]
theorem zf {l:Array Bool} {i j:Nat} (h:i≠j):(l.setIfInBounds i true).getD j false=l.getD j false:=by simp [Array.getD_eq_getD_getElem?,h]
theorem jO {l:Array Bool} {i:Nat} (h:l.getD i true=false):l.getD i false=false:=by
 rw [Array.getD_eq_getD_getElem?] at h ⊢
 cases hq:l[i]? with
 | none=>rw [hq] at h;cases h
 | some x=>rw [hq] at h;exact h
theorem jq (n i:Nat):(Array.replicate n false).getD i false=false:=by
 rw [Array.getD_eq_getD_getElem?,Array.getElem?_replicate];split <;> rfl
structure VI (n:Nat) (ex:List Value) (l:Array Bool) (vs:List Value):Prop where
 sz:l.size=n
 len:vs.length=ex.length
 val:∀ i,i < ex.length -> l.getD i false=true -> vs.getD i undef=ex.getD i undef
theorem VI.start (n:Nat) (ex vs:List Value) (h:vs.length=ex.length):VI n ex (Array.replicate n false) vs:=
 ⟨by simp,h,fun i _ h=>by rw [jq] at h;cases h⟩
theorem VI.set {n:Nat} {ex vs:List Value} {l:Array Bool} (T:VI n ex l vs) (i:Nat) (_:i < n):VI n ex (l.setIfInBounds i true) (vs.set i (ex.getD i undef)):=by
 refine ⟨by simpa using T.sz,by simpa using T.len,fun j hj h=>?_⟩;by_cases e:i=j
 ·subst e;rw [List.getD_eq_getElem?_getD,List.getElem?_set_self (by rw [T.len];exact hj)];rfl
 ·rw [zf e] at h;rw [List.getD_eq_getElem?_getD,List.getElem?_set_ne e,<- List.getD_eq_getElem?_getD];exact T.val j hj h
end
section
open Go.RowKit Go.Maps Go.Sort
attribute [local go_sem ↓] zx zw
attribute [local go_sem] zI zt zF zaI
theorem BF:Keyed Tryz.prog 9:=string_keyed Tryz.underlying9
theorem Ez (w:World):(zeroValue 108).run Tryz.prog w = .ok (LV ln0) w:=Tryz.zeroValue108 w
def Br (w:World) (b k:Nat) (L:List En):Prop:=∃ D,w.ownsMap Tryz.prog 9 RL b k D/\Mp D L
def gA (w w':World) (e:Ending) (L:List En):Prop:=∃ ao n c R er,e = .returned (.tuple #[.slice ao n c,.int .i64 er])/\nT w' ao n c R/\Below w.heap.size w w'/\(∀ ad,ao=some ad -> w.heap.size <= ad.block/\ad=⟨ad.block,0,none⟩)/\fY L R er
theorem zjc (L:List En):chk L=0∨chk L=1:=by unfold chk;split <;> simp
theorem jr {w w':World} {b k n:Nat} {D:DataW Ln} (h:w.ownsMap Tryz.prog 9 RL b k D) (hb:Below n w w') (hn:b < n):w'.ownsMap Tryz.prog 9 RL b k D:=by
 obtain ⟨es,c,h1,h2⟩:=h;exact ⟨es,c,(hb.block b hn).trans h1,h2⟩
structure rG (wk W:World) (b k:Nat) (D:DataW Ln) (e:En) (l0:Ln):Prop where
 own:W.ownsMap Tryz.prog 9 RL b (k+1) (D.put (.string e.sku.data.toList) (.held (fv l0 e)))
 way:∃ Wb,Below wk.heap.size wk Wb/\Wb.grownBy W (some b)
theorem rG.back {w1 wk W:World} {k:Nat} {D:DataW Ln} {e:En} {l0:Ln} (h:rG wk W w1.heap.size k D e l0) (hb:Below w1.heap.size w1 wk):Below w1.heap.size w1 W:=by
 obtain ⟨Wb,b1,g1⟩:=h.way;have h2:=hb.trans (b1.mono hb.size);exact h2.grown g1 h2.size (fun j hj=>by cases hj;exact Nat.le_refl _)
theorem zbc {w:World} {b k:Nat} {D:DataW Ln} {L:List En} (h:w.ownsMap Tryz.prog 9 RL b k D) (hm:Mp D L) (s:ByteArray) (hs:s.size <= maxLen):(Instr.lookup 106 (.map (some b)) (.string s) false).run Tryz.prog w = .ok (LV (cK L s)) w:=by
 obtain ⟨v,ps,hr,hv⟩:=h.lookup BF Tryz.underlying106 (Ez w) (zfz ln0) (Go.WideMaps.keyOf_string_mk Tryz.underlying9 hs);rw [hm.2 s] at hv;rw [hr,zjm hv]
theorem zf6 {wk W:World} {b k:Nat} {D:DataW Ln} {e:En} {l0:Ln} (h:W.ownsMap Tryz.prog 9 RL b k D) (hk:k < maxLen) (hs:e.sku.size <= maxLen) (hb:Below wk.heap.size wk W) :
  ∃ W',(Instr.mapUpdate 106 (.map (some b)) (.string e.sku) (LV (fv l0 e))).run Tryz.prog W = .ok () W'/\rG wk W' b k D e l0:=by
 obtain ⟨W',hr,ho,hg⟩:=h.update BF Tryz.underlying106 hk (Go.WideMaps.keyOf_string_mk Tryz.underlying9 hs) (zfz (fv l0 e));exact ⟨W',hr,ho,W,hb,hg⟩
def tW (w:World) (ao:Option Addr) (m:Nat) (T:List (List UInt8)):Prop:=
 T.length=m/\∀ t,t < m -> ∃ ad,ao=some ad/\w.cell? (ad.add t)=some (encStr (T.getD t []))
theorem tW.below {w w':World} {ao:Option Addr} {m:Nat} {T:List (List UInt8)} (h:tW w ao m T) (hb:Below w.heap.size w w'):tW w' ao m T:=by
 refine ⟨h.1,fun t ht=>?_⟩;obtain ⟨ad,e,hc⟩:=h.2 t ht;exact ⟨ad,e,(hb.cell (World.block_lt_of_cell? _ _ hc)).trans hc⟩
theorem aZ.src {w w':World} {e:Ending} {T:List (List UInt8)} (h:aZ w w' e T):∃ ao c,e = .returned (.slice ao T.length c)/\tW w' ao T.length T/\Below w.heap.size w w':=by
 obtain ⟨v,rfl,hr,hb⟩:=h;rcases hr.2 with ⟨h0,fh⟩ | ⟨g,cap,cur,hv,dN,dy,hnc,eV,hcsz,htake⟩
 ·refine ⟨none,0,by rw [h0,fh],⟨rfl,fun t ht=>?_⟩,hb⟩;omega
 ·subst hv;refine ⟨some ⟨g,0,none⟩,cap,rfl,⟨rfl,fun t ht=>⟨_,rfl,?_⟩⟩,hb⟩;rw [Addr.add_lit,Nat.zero_add,hr.cellAt t (by omega)];simp [List.getD,ht]
theorem iT.form {B0 B:Nat} {w w':World} {ao:Option Addr} {cap:Nat} {acc:List Ln} (O:iT B0 B w w' ao cap acc) (ad:Addr) (h:ao=some ad):ad=⟨ad.block,0,none⟩:=by
 subst h;rcases O.own.2 with ⟨h,_⟩ | ⟨g,cap2,cur,hv,_⟩
 ·cases h
 ·simp only [Value.slice.injEq,Option.some.injEq] at hv;rw [hv.1]
theorem zdg (L:List Ln) (k:Nat) (h:k < L.length):L.take (k+1)=L.take k++[L.getD k ln0]:=by
 rw [List.take_succ_eq_append_getElem h];simp [List.getD,h]
theorem zbd (ao:Option Addr) (n cap:Nat) (L:List En) (w:World) (hS:aD w ao n cap L) :
  Calls Tryz.prog 30 #[.slice ao n cap] w fun e w'=>gA w w' e L:=by
 have HS:=hide hS;have HL:Hid (L.length=n):=hS.1;have hn:=hS.2.2.2.2;clear hS;have GZ:=@run_makeMap Tryz.prog;go_enter Tryz.func30,Tryz.ntmps30;go_wp2_with fail;refine (qv ao n cap L _ HS.out).mono ?_;rintro x w1 ⟨rfl,b1⟩;have B1:=hide b1;have S1:=hide (HS.out.below b1);clear b1;rcases zjc L with h | h
 ·rw [h];have HC:=hide h;have HA:=hide (zir h);have cF:=zcb h;rw [HL.out] at cF;clear h;go_wp2_with fail;go_loopw [19] (fun i wr=>∃ k:Nat,k <= n/\i = .int .i64 k/\Hid (Br wr w1.heap.size k (L.take k))/\Hid (Below w1.heap.size w1 wr)) (fun i _=>n - (intOf i).toNat)
  case atStart=>exact ⟨0,Nat.zero_le _,rfl,⟨_,World.ownsMap_made _ _ _ _,zge⟩,ze _ _⟩
  case round =>
   obtain ⟨k,hk,rfl,HM,HB⟩:=hrel;by_cases ak:k < n
   ·obtain ⟨ad,rfl,A0⟩:=(S1.out.below HB.out).at k ak;have dK:=zO A0;have sW:=hide (jm L k (by rw [HL.out];exact ak));have gk:=HS.out.sku k ak;have ID:=HA.out (L.getD k en0) (by rw [show L.getD k en0=L[k]'(by rw [HL.out];exact ak) by simp [List.getD,HL.out,ak]];exact List.getElem_mem _);obtain ⟨e,He⟩:∃ e,Hid (L.getD k en0=e):=⟨_,rfl⟩;rw [He.out] at dK A0 sW gk ID;obtain ⟨wk,a8,X1,B1',Z1⟩:=made wr e wr.heap.size rfl;have HX:=hide X1;have aq:=hide (HB.out.trans (B1'.mono HB.out.size));obtain ⟨D,aM,uT⟩:=HM.out;obtain ⟨l0,GJ⟩:∃ l0,Hid (cK (L.take k) e.sku=l0):=⟨_,rfl⟩;have iH:lD (L.take k):=fun x hx=>HA.out x (List.mem_of_mem_take hx);have FD:=zh3 (L.take k) iH e.sku
    have Kf:(L.take k).length=k:=by rw [List.length_take,HL.out];omega
    rw [GJ.out,Kf] at FD;have HQ:Hid ((0 <= l0.qty/\l0.qty <= 16000000000000000)/\(0 <= l0.parts/\l0.parts <= 16000000000)/\(1 <= e.qty/\e.qty <= 1000000)):=⟨by omega,by omega,ID⟩;have mz:=jr aM B1' aM.lt
    have LW:Hid (∀ W,Below wk.heap.size wk W -> (Instr.lookup 106 (.map (some w1.heap.size)) (.string e.sku) false).run Tryz.prog W = .ok (LV l0) W):=fun W hW=>by
     have:=zbc (jr mz hW mz.lt) uT e.sku gk;rwa [GJ.out] at this
    have Mi:Hid (∀ W,Below wk.heap.size wk W -> ∃ W',(Instr.mapUpdate 106 (.map (some w1.heap.size)) (.string e.sku) (LV (fv l0 e))).run Tryz.prog W = .ok () W'/\rG wk W' w1.heap.size k D e l0):=fun W hW =>
     zf6 (jr mz hW mz.lt) (by unfold maxLen;omega) gk hW
    have E7:Hid (Mp (D.put (.string e.sku.data.toList) (.held (fv l0 e))) (L.take k++[e])):=by have:=zh1 uT aM.isMap e;rw [GJ.out] at this;exact this
    clear X1 B1' A0 Z1 aM uT iH FD Kf gk ID mz;go_wp2_with fail;clear a8 dK;obtain ⟨ex,gN⟩:∃ ex,Hid (ex=[Value.map (some w1.heap.size),.pointer (some ⟨wr.heap.size,2,none⟩),.string e.sku,.map (some w1.heap.size),.pointer (some ⟨wr.heap.size,2,none⟩),.string e.sku,LV l0,EV e,LV (fv l0 e)]):=⟨_,rfl⟩;refine qq (by kernel_rfl) (fun l x W=>∃ v0 v1 v2 v3 v4 v5 v6 v7 v8,x={ tmps:=#[Value.slice (some ad) n cap,undef,Value.slice none 0 0,Value.int IntKind.i64 0,Value.int IntKind.i64 0,Value.map (some w1.heap.size),undef,Value.pointer (some { block:=wr.heap.size,off:=0 }),undef,undef,undef,Value.slice (some ad) n cap,Value.int IntKind.i64 0,Value.int IntKind.i64 0,Value.bool false,undef,Value.map (some w1.heap.size),Value.slice (some ad) n cap,Value.int IntKind.i64 ↑n,Value.int IntKind.i64 ↑k,Value.bool true,Value.pointer (some (ad.add (k * 4))),EV e,v0,v1,v2,v3,v4,v5,v6,v7,v8,u32,undef,undef,undef,undef,undef,undef,undef,undef,undef,undef,undef,undef,undef,undef,undef,undef],defers:=[] }/\VI 10 ex l [v0,v1,v2,v3,v4,v5,v6,v7,v8]/\(l.getD 9 false=false -> Below wk.heap.size wk W)/\(l.getD 9 false=true -> (∀ i,i < 9 -> l.getD i false=true)/\rG wk W w1.heap.size k D e l0)) ?_ ?_ ?_ ?_
    ·exact ⟨u23,u24,u25,u26,u27,u28,u29,u30,u31,rfl,VI.start 10 ex _ (by rw [gN.out];rfl),fun _=>⟨rfl,rfl,rfl,Nat.le_refl _,fun _ _=>rfl⟩,(fun h=>by rw [jq] at h;cases h)⟩
    ·rintro l x W ⟨v0,v1,v2,v3,v4,v5,v6,v7,v8,rfl,T,_,_⟩;exact T.sz
    ·rintro l x W ⟨v0,v1,v2,v3,v4,v5,v6,v7,v8,rfl,T,hb,hf⟩ i hi;obtain ⟨cv,cC,aH⟩:=qS hi;have aU:=jO cC
     have n9:l.getD 9 false=false:=by
      cases h9:l.getD 9 false with
      | false=>rfl
      | true =>
       by_cases h:i=9
       ·subst h;rw [aU] at h9;cases h9
       ·have:=(hf h9).1 i (by have h':i < 10:=cv;omega);rw [aU] at this;cases this
     have iF:=hide (hb n9);have HT:=hide T;have mB:=hide n9;clear hb hf
     have hc:i=0∨i=1∨i=2∨i=3∨i=4∨i=5∨i=6∨i=7∨i=8∨i=9:=by have h:i < 10:=cv;omega
     rcases hc with rfl | rfl | rfl | rfl | rfl | rfl | rfl | rfl | rfl | rfl
     ·clear hi cv cC aH aU T n9;refine wpOp_step (o:=⟨some 23,.move (.tmp 5),106, "lines.go:18",#[],none⟩) rfl (fun K hK=>?_);go_simp;exact hK _ _ ⟨Value.map (some w1.heap.size),_,_,_,_,_,_,_,_,rfl,by have h:=HT.out.set 0 (by decide);rw [gN.out] at h ⊢;exact h,fun _=>iF.out,(fun h=>by rw [zf (by decide),mB.out] at h;cases h)⟩
     ·clear hi cv cC aH aU T n9;refine wpOp_step (o:=⟨some 24,.fieldAddr 50 (.tmp 7) 1,0, "lines.go:18",#[],none⟩) rfl (fun K hK=>?_);go_simp;exact hK _ _ ⟨_,Value.pointer (some ⟨wr.heap.size,2,none⟩),_,_,_,_,_,_,_,rfl,by have h:=HT.out.set 1 (by decide);rw [gN.out] at h ⊢;exact h,fun _=>iF.out,(fun h=>by rw [zf (by decide),mB.out] at h;cases h)⟩
     ·have d1:=aH _ rfl { on:=1,ground:=Ground.data } (by simp) rfl
      have e1:v1=Value.pointer (some ⟨wr.heap.size,2,none⟩):=by have h:=HT.out.val 1 (by rw [gN.out];simp) d1;rw [gN.out] at h;exact h
      subst e1
      have c1:W.cell? ⟨wr.heap.size,2,none⟩=some (.string e.sku):=by have h:=(HX.out.below iF.out).at.c2;simpa [Addr.add] using h
      clear hi cv cC aH aU T n9;refine wpOp_step (o:=⟨some 25,.load 9 (.tmp 24),9, "lines.go:18",#[⟨1,.data⟩],none⟩) rfl (fun K hK=>?_);go_simp;exact hK _ _ ⟨_,_,Value.string e.sku,_,_,_,_,_,_,rfl,by have h:=HT.out.set 2 (by decide);rw [gN.out] at h ⊢;exact h,fun _=>iF.out,(fun h=>by rw [zf (by decide),mB.out] at h;cases h)⟩
     ·clear hi cv cC aH aU T n9;refine wpOp_step (o:=⟨some 26,.move (.tmp 5),106, "lines.go:18",#[],none⟩) rfl (fun K hK=>?_);go_simp;exact hK _ _ ⟨_,_,_,Value.map (some w1.heap.size),_,_,_,_,_,rfl,by have h:=HT.out.set 3 (by decide);rw [gN.out] at h ⊢;exact h,fun _=>iF.out,(fun h=>by rw [zf (by decide),mB.out] at h;cases h)⟩
     ·clear hi cv cC aH aU T n9;refine wpOp_step (o:=⟨some 27,.fieldAddr 50 (.tmp 7) 1,0, "lines.go:18",#[],none⟩) rfl (fun K hK=>?_);go_simp;exact hK _ _ ⟨_,_,_,_,Value.pointer (some ⟨wr.heap.size,2,none⟩),_,_,_,_,rfl,by have h:=HT.out.set 4 (by decide);rw [gN.out] at h ⊢;exact h,fun _=>iF.out,(fun h=>by rw [zf (by decide),mB.out] at h;cases h)⟩
     ·have d4:=aH _ rfl { on:=4,ground:=Ground.data } (by simp) rfl
      have e4:v4=Value.pointer (some ⟨wr.heap.size,2,none⟩):=by have h:=HT.out.val 4 (by rw [gN.out];simp) d4;rw [gN.out] at h;exact h
      subst e4
      have c1:W.cell? ⟨wr.heap.size,2,none⟩=some (.string e.sku):=by have h:=(HX.out.below iF.out).at.c2;simpa [Addr.add] using h
      clear hi cv cC aH aU T n9;refine wpOp_step (o:=⟨some 28,.load 9 (.tmp 27),9, "lines.go:18",#[⟨4,.data⟩],none⟩) rfl (fun K hK=>?_);go_simp;exact hK _ _ ⟨_,_,_,_,_,Value.string e.sku,_,_,_,rfl,by have h:=HT.out.set 5 (by decide);rw [gN.out] at h ⊢;exact h,fun _=>iF.out,(fun h=>by rw [zf (by decide),mB.out] at h;cases h)⟩
     ·have d3:=aH _ rfl { on:=3,ground:=Ground.data } (by simp) rfl
      have e3:v3=Value.map (some w1.heap.size):=by have h:=HT.out.val 3 (by rw [gN.out];simp) d3;rw [gN.out] at h;exact h
      subst e3;have d5:=aH _ rfl { on:=5,ground:=Ground.data } (by simp) rfl
      have e5:v5=Value.string e.sku:=by have h:=HT.out.val 5 (by rw [gN.out];simp) d5;rw [gN.out] at h;exact h
      subst e5;have KC:=LW.out W iF.out;clear hi cv cC aH aU T n9;refine wpOp_step (o:=⟨some 29,.lookup 106 (.tmp 26) (.tmp 28) false,108, "lines.go:18",#[⟨3,.data⟩,⟨5,.data⟩],none⟩) rfl (fun K hK=>?_);go_simp;exact hK _ _ ⟨_,_,_,_,_,_,LV l0,_,_,rfl,by have h:=HT.out.set 6 (by decide);rw [gN.out] at h ⊢;exact h,fun _=>iF.out,(fun h=>by rw [zf (by decide),mB.out] at h;cases h)⟩
     ·have hl:=zO (HX.out.below iF.out).at
      clear hi cv cC aH aU T n9;refine wpOp_step (o:=⟨some 30,.load 50 (.tmp 7),50, "lines.go:18",#[],none⟩) rfl (fun K hK=>?_);go_simp;exact hK _ _ ⟨_,_,_,_,_,_,_,EV e,_,rfl,by have h:=HT.out.set 7 (by decide);rw [gN.out] at h ⊢;exact h,fun _=>iF.out,(fun h=>by rw [zf (by decide),mB.out] at h;cases h)⟩
     ·have d6:=aH _ rfl { on:=6,ground:=Ground.data } (by simp) rfl
      have e6:v6=LV l0:=by have h:=HT.out.val 6 (by rw [gN.out];simp) d6;rw [gN.out] at h;exact h
      subst e6;have d7:=aH _ rfl { on:=7,ground:=Ground.data } (by simp) rfl
      have e7:v7=EV e:=by have h:=HT.out.val 7 (by rw [gN.out];simp) d7;rw [gN.out] at h;exact h
      subst e7;clear hi cv cC aH aU T n9;refine wpOp_step (o:=⟨some 31,.call ⟨.value (.func 58),#[.tmp 29,.tmp 30],#[108,50]⟩,108, "lines.go:18",#[⟨6,.data⟩,⟨7,.data⟩],none⟩) rfl (fun K hK=>?_);go_simp;go_wp2_with fail;refine (zfG l0 e _ HQ.out.1 HQ.out.2.1 HQ.out.2.2).mono ?_;rintro y w' ⟨rfl,b'⟩;exact hK _ _ ⟨_,_,_,_,_,_,_,_,LV (fv l0 e),rfl,by have h:=HT.out.set 8 (by decide);rw [gN.out] at h ⊢;exact h,fun _=>iF.out.trans (b'.mono iF.out.size),(fun h=>by rw [zf (by decide),mB.out] at h;cases h)⟩
     ·have d0:=aH _ rfl { on:=0,ground:=Ground.data } (by simp) rfl
      have e0:v0=Value.map (some w1.heap.size):=by have h:=HT.out.val 0 (by rw [gN.out];simp) d0;rw [gN.out] at h;exact h
      subst e0;have d2:=aH _ rfl { on:=2,ground:=Ground.data } (by simp) rfl
      have e2:v2=Value.string e.sku:=by have h:=HT.out.val 2 (by rw [gN.out];simp) d2;rw [gN.out] at h;exact h
      subst e2;have d8:=aH _ rfl { on:=8,ground:=Ground.data } (by simp) rfl
      have e8:v8=LV (fv l0 e):=by have h:=HT.out.val 8 (by rw [gN.out];simp) d8;rw [gN.out] at h;exact h
      subst e8
      have aR:∀ i,i < 9 -> l.getD i false=true:=fun i h=>by
       have hc:i=0∨i=1∨i=2∨i=3∨i=4∨i=5∨i=6∨i=7∨i=8:=by omega
       rcases hc with rfl | rfl | rfl | rfl | rfl | rfl | rfl | rfl | rfl
       ·exact aH _ rfl { on:=0,ground:=Ground.phase } (by simp) rfl
       ·exact aH _ rfl { on:=1,ground:=Ground.phase } (by simp) rfl
       ·exact aH _ rfl { on:=2,ground:=Ground.phase } (by simp) rfl
       ·exact aH _ rfl { on:=3,ground:=Ground.phase } (by simp) rfl
       ·exact aH _ rfl { on:=4,ground:=Ground.phase } (by simp) rfl
       ·exact aH _ rfl { on:=5,ground:=Ground.phase } (by simp) rfl
       ·exact aH _ rfl { on:=6,ground:=Ground.phase } (by simp) rfl
       ·exact aH _ rfl { on:=7,ground:=Ground.phase } (by simp) rfl
       ·exact aH _ rfl { on:=8,ground:=Ground.phase } (by simp) rfl
      have F2:=hide aR;obtain ⟨W',NB,hR⟩:=Mi.out W iF.out;have HR:=hide hR;clear hR hi cv cC aH aU T n9 aR d0 d2 d8;refine wpOp_step (o:=⟨none,.mapUpdate 106 (.tmp 23) (.tmp 25) (.tmp 31),0, "lines.go:18",#[⟨0,.data⟩,⟨2,.data⟩,⟨8,.data⟩,⟨8,.chain⟩,⟨0,.phase⟩,⟨1,.phase⟩,⟨2,.phase⟩,⟨3,.phase⟩,⟨4,.phase⟩,⟨5,.phase⟩,⟨6,.phase⟩,⟨7,.phase⟩,⟨8,.phase⟩],none⟩) rfl (fun K hK=>?_);go_simp;exact hK _ _ ⟨_,_,_,_,_,_,_,_,_,rfl,by have h:=HT.out.set 9 (by decide);rw [gN.out] at h ⊢;exact h,(fun h=>by rw [zX (by rw [HT.out.sz];decide)] at h;cases h),fun _=>⟨fun i hi=>by rw [zf (by omega)];exact F2.out i hi,HR.out⟩⟩
    ·rintro l x W ⟨v0,v1,v2,v3,v4,v5,v6,v7,v8,rfl,T,hb,hf⟩ ei;have h9:=q8 (by kernel_rfl) T.sz ei 9 (by decide);obtain ⟨_,hR⟩:=hf h9;have hM:=hR.own;have KU:=hR.back aq.out
     have AO:Hid (Br W w1.heap.size (k+1) (L.take (k+1))):=by show Br _ _ _ _;rw [sW.out];exact ⟨_,hM,E7.out⟩
     have cg:Hid (Below w1.heap.size w1 W):=KU;clear T hb hf ei h9 hR hM KU;go_wp2_with fail;go_roundw
     case rel=>exact ⟨k+1,by omega,by go_num,AO,cg⟩
     case measure=>simp [intOf];omega
   ·obtain rfl:k=n:=by omega
    have u4:L.take k=L:=List.take_of_length_le (by rw [HL.out];exact Nat.le_refl _);obtain ⟨D,aM,uT⟩:=HM.out;rw [u4] at uT;have HO:=hide aM;have E7:=hide uT;have dP:=aM.size_le;have HZ:Hid (Maps.size D <= maxLen/\Maps.size D * 16 <= 140737488355328):=⟨by unfold maxLen;omega,by omega⟩;clear aM uT dP u4 HM;go_wp2_with fail;refine (zag _ _).mono ?_;rintro y w2 ⟨rfl,rfl⟩;go_wp2_with fail;refine (jf w1.heap.size k D RL wr HO.out HZ.out.1 HZ.out.2).mono ?_;rintro y w3 ⟨ss,hp,hg⟩;obtain ⟨a3,c3,rfl,T3,b3⟩:=hg.src;have uF:=hide (zac HO.out BF Tryz.underlying9 E7.out HC.out hp)
    have Ij:(ss.mergeSort leB).length <= k:=by
     have e1:=((List.mergeSort_perm ss leB).trans hp).length_eq
     have e2:(strKeys D).length=Maps.size D:=by
      obtain ⟨es,hD⟩:=HO.out.isMap;subst hD;simp [strKeys,Maps.size]
     have e3:=HO.out.size_le;omega
    obtain ⟨T,HT⟩:∃ T,Hid (ss.mergeSort leB=T):=⟨_,rfl⟩;rw [HT.out] at T3 uF Ij ⊢;have Lm:=hide T3;have aB:Hid (Below w1.heap.size w1 w3):=(HB.out.trans ((ze wr _).mono HB.out.size)).trans (b3.mono (by simp;have:=HB.out.size;omega));have lL:Hid (w3.ownsMap Tryz.prog 9 RL w1.heap.size k D):=jr (HO.out.alloc _) b3 (by simp;have:=HO.out.lt;omega);obtain ⟨m,Hm⟩:∃ m,Hid (T.length=m):=⟨_,rfl⟩;rw [Hm.out] at Ij ⊢
    have GB:Hid (∀ j,j < m -> (T.getD j []).length <= maxLen):=fun j hj=>by
     refine strKeys_le HO.out Tryz.underlying9 _ (((List.mergeSort_perm ss leB).trans hp).mem_iff.1 ?_);rw [HT.out,show T.getD j []=T[j]'(by rw [Hm.out];exact hj) by simp [List.getD,Hm.out,hj]];exact List.getElem_mem _
    clear T3 b3 hg hp;obtain ⟨R,HR⟩:∃ R,Hid (T.map (fun x=>cK L ⟨x.toArray⟩)=R):=⟨_,rfl⟩;rw [HR.out] at uF
    have GS:Hid (R.length=m):=by show _=_;rw [<- HR.out,List.length_map,Hm.out]
    go_wp2_with fail;go_loopw [8,37] (fun v i wr2=>∃ (j:Nat) (ap:Option Addr) (c:Nat),j <= m/\v = .slice ap j c/\i = .int .i64 j/\Hid (iT w3.heap.size w3.heap.size w3 wr2 ap c (R.take j))) (fun _ i _=>m - (intOf i).toNat)
    case atStart=>exact ⟨0,none,0,Nat.zero_le _,rfl,rfl,iT.nil (Below.refl _ _) (Nat.le_refl _) (Nat.le_refl _)⟩
    case round =>
     obtain ⟨j,ap,c,hj,rfl,rfl,sF⟩:=hrel;obtain ⟨acc,fK⟩:∃ acc,Hid (R.take j=acc):=⟨_,rfl⟩;rw [fK.out] at sF
     have nq:acc.length=j:=by rw [<- fK.out,List.length_take,GS.out];omega
     by_cases gt:j < m
     ·obtain ⟨ad3,rfl,LG⟩:=(Lm.out.below sF.out.below).2 j (by rw [Hm.out];exact gt);have rY:=GB.out j gt;obtain ⟨s,Hs⟩:∃ s:ByteArray,Hid (s=⟨(T.getD j []).toArray⟩):=⟨_,rfl⟩
      have Ed:encStr (T.getD j []) = .string s:=by rw [Hs.out]
      rw [Ed] at LG
      have Cu:s.size <= maxLen:=by rw [Hs.out];simpa [ByteArray.size] using rY
      have KC:=zbc (jr lL.out sF.out.below lL.out.lt) E7.out s Cu;obtain ⟨l,Hl⟩:∃ l,Hid (cK L s=l):=⟨_,rfl⟩;rw [Hl.out] at KC
      have HN:Hid (R.take (j+1)=acc++[l]):=by
       show _=_
       rw [zdg R j (by rw [GS.out];exact gt),fK.out,<- HR.out,<- Hl.out,Hs.out];simp [List.getD,Hm.out,gt]
      have O2:=sF.out;clear rY Ed Cu;go_wp2_with (at_builtin;refine O2.append l _ rfl (by omega) rfl (.tmp 41) (.tmp 45) rfl j nq rfl rfl ?_;intro g4 c4 w4 O4 hk4);go_roundw
      case rel=>exact ⟨j+1,some ⟨g4,0,none⟩,c4,by omega,by simp,by go_num,by rw [HN.out];exact O4⟩
      case measure=>simp [intOf];omega
     ·obtain rfl:j=m:=by omega
      have HF:Hid (R=acc):=by show _=_;rw [<- fK.out,List.take_of_length_le (by rw [GS.out];exact Nat.le_refl _)]
      have hs:∀ l∈acc,l.sku.size <= maxLen:=fun l hl=>by
       rw [<- HF.out] at hl;rcases uF.out with ⟨h,_⟩ | ⟨_,_,_,m8⟩
       ·exact absurd HC.out h
       ·obtain ⟨e,he,rfl⟩:=(m8 l).1 hl;rw [zad L e he];exact HS.out.2.2.2.1 e he
      obtain ⟨S5,F5⟩:=sF.out.src hs (by omega);rw [nq] at S5;have u5:=hide S5;have LP:=hide F5;have Gr:=hide sF.out.form;clear S5 F5 hs;have HW:=hide ((B1.out.trans (aB.out.mono B1.out.size)).trans (sF.out.below.mono (Nat.le_trans B1.out.size aB.out.size)));go_wp2_with fail;go_ret2;exact ⟨ap,j,c,acc,0,rfl,u5.out,HW.out,fun ad h=>⟨Nat.le_trans (Nat.le_trans B1.out.size aB.out.size) (LP.out ad h),Gr.out ad h⟩,by rw [<- HF.out];exact uF.out⟩
 ·rw [h]
  have HC:Hid (chk L≠0):=by show chk L≠0;rw [h];decide
  clear h;go_wp2_with fail;go_ret2;exact ⟨none,0,0,[],1,rfl,nT.none _,B1.out,(fun ad h=>by cases h),Or.inl ⟨HC.out,rfl,rfl⟩⟩
end
end Go.Proofs.YtjffpimfngdggaaGreat.K
