/- BMg SXf LFnd LFn2 SXg BCs SXj SXy SYa SXq SZa SZb TJn LOnr LRu TRj SXx SZc SZd SZe SZf TLv -/
import Derived.Test.YtjffpimfngdggaaGreatTk
import Derived.Test.YtjffpimfngdggaaGreatFe36
import Derived.Test.YtjffpimfngdggaaGreatFe34
import Derived.Test.YtjffpimfngdggaaGreatFe33
import Derived.Test.YtjffpimfngdggaaGreatFe28
import Derived.Deep.CutRange
import Derived.Test.YtjffpimfngdggaaGreatFe35
import Derived.Test.YtjffpimfngdggaaGreatFe12
import Derived.Test.YtjffpimfngdggaaGreatFe25
import Derived.Test.YtjffpimfngdggaaGreatFe31
import Derived.Test.YtjffpimfngdggaaGreatFe27
import Derived.Test.YtjffpimfngdggaaGreatFe16
import Derived.Test.YtjffpimfngdggaaGreatFe32
import Derived.Test.YtjffpimfngdggaaGreatFe09
import Derived.Test.YtjffpimfngdggaaGreatFe10
import Derived.Test.YtjffpimfngdggaaGreatFe22
import Derived.Test.YtjffpimfngdggaaGreatFe17
import Derived.BigFrame
import Derived.Test.YtjffpimfngdggaaGreatFe26
set_option maxRecDepth 100000
set_option maxHeartbeats 4000000
namespace Go.Proofs.YtjffpimfngdggaaGreat
section
open Go.RowKit Go.Maps Go.Sort
theorem ze1 (a b:Pv):Array.foldl (fun cs x=>cs.setIfInBounds (2+x.snd) x.fst) (Array.foldl (fun cs x=>cs.setIfInBounds x.snd x.fst) #[(PC pv0)[0]!,(PC pv0)[1]!,(PC pv0)[0]!,(PC pv0)[1]!] (PC a).zipIdx 0 2) (PC b).zipIdx 0 2=#[.slice a.vo a.vn a.vc,.slice a.co a.cn a.cc,.slice b.vo b.vn b.vc,.slice b.co b.cn b.cc]:=rfl
attribute [local go_sem ↓] zq zp
attribute [local go_sem] zi zj zE ze1
def nL (L:List K.En) (P Q:Pst):Prop:=∃ D:Pst,af (cr (L.map aa)) D/\∃ C:Nat -> List Rn,(∀ r,r < 16 -> cH (ae P r) (ae D r) (C r))/\af C Q
theorem wP (ao:Option Addr) (n cap:Nat) (L:List K.En) (p:Pv) (w:World) (hS:K.aD w ao n cap L) (hc:K.chk L=0) (hP:am w p) :
  Calls Tryz.prog 169 #[.slice ao n cap,PV p] w fun x w'=>cV w w' x (nL L p.P):=by
 have b1:=ze w (.cells (PC p) 26);have b2:=ze (w.alloc (.cells (PC p) 26)) (.cells (PC pv0) 26);have eo:=hide ((zr w p).below b2);have X2:=zr (w.alloc (.cells (PC p) 26)) pv0;rw [World.size_alloc] at X2;have fk:=hide X2;have aq:=hide (b1.trans (b2.mono b1.size));have HS:=hide (hS.below aq.out);have HP:=hide (hP.below aq.out);have HC:=hide hc;clear b1 b2 X2 hS hP hc;obtain ⟨wk,aY⟩:∃ wk,(w.alloc (.cells (PC p) 26)).alloc (.cells (PC pv0) 26)=wk:=⟨_,rfl⟩;obtain ⟨G,HG⟩:∃ G,Hid (w.heap.size=G):=⟨_,rfl⟩;have hG:=HG.out;rw [aY] at eo fk aq HS HP;rw [hG] at eo fk;go_enter Tryz.func169,Tryz.ntmps169;go_wp2_with fail;clear aY hG;refine (zc0 ao n cap L _ HS.out).mono ?_;rintro x w3 ⟨b3,⟨-,d,rfl,Sd,Nd,Cd⟩ | ⟨fw,-⟩⟩;rotate_left
 ·exact absurd HC.out fw
 obtain ⟨g5,iD⟩:∃ g5,w3.heap.size=g5:=⟨_,rfl⟩;obtain ⟨w5,a8,X5,b5,s5⟩:=it w3 d g5 iD;have b35:=b3.trans (b5.mono b3.size);have i7:Hid (aA w5 g5 d/\am w5 d):=⟨X5,Sd.below b5⟩;have i8:Hid (aA w5 G p/\am w5 p/\aA w5 (G+1) pv0/\Below w.heap.size w w5/\G+1 < w5.heap.size):=⟨eo.out.below b35,HP.out.below b35,fk.out.below b35,aq.out.trans (b35.mono aq.out.size),Nat.lt_of_lt_of_le fk.out.lt b35.size⟩;have IZ:=hide Cd;clear Sd Nd Cd X5 b3 b5 b35 s5 eo fk HP HS aq
 have l1:=zl i8.out.1.at
 have l2:=zl i7.out.1.at
 go_wp2_with fail;clear a8 iD l1 l2;refine (jz p d _ i8.out.2.1 i7.out.2).mono ?_;rintro x w6 ⟨q,rfl,Sq,Nq,b6,Cq⟩;have X6:=i8.out.2.2.1.below b6;have t6:=qQ (p':=q) X6;have AV:Hid (aA (w6.setRow (G+1) (PC q)) (G+1) q):=setRow_heap _ _ _ _ _ _ X6
 have HE:Hid (cV w (w6.setRow (G+1) (PC q)) (.returned (PV q)) (nL L p.P)):=by
  refine ⟨q,rfl,xR (g:=some (G+1)) Sq (fun k e=>by obtain rfl:=Option.some.inj e;exact dA.new Nq i8.out.2.2.2.2) (fun r _ hr=>setRow_other _ _ _ _ (fun e=>hr (by rw [e]))),Nq.mono i8.out.2.2.2.1.size,zh (i8.out.2.2.2.1.trans (b6.mono i8.out.2.2.2.1.size)) (by have:=HG.out;omega),d.P,IZ.out,Cq⟩
 clear Sq Nq b6 Cq X6;go_wp2_with fail;refine bodyPost_ret (eS rfl rfl AV.out) rfl ?_;exact HE.out
theorem zgr {L:List K.En} {P:Pst} (h:af (cr (L.map aa)) P) (e:K.En) (he:okD (aa e)=true):inB P e=L.any (fun y=>K.al y e):=by
 have h3:=he;unfold okD aa at h3;simp only [Bool.and_eq_true,decide_eq_true_eq] at h3
 have h4:0 <= e.rep/\e.rep < 16:=by simpa [V.isR] using h3.1
 have key:inB P e=true↔L.any (fun y=>K.al y e)=true:=by
  rw [qd,List.any_eq_true];unfold cB;constructor
  ·rintro ⟨-,h2⟩;rw [qf h _ (by show e.rep.toNat < 16;omega),xW] at h2;obtain ⟨d,hd,-,k2,k3⟩:=h2;obtain ⟨x,hx,rfl⟩:=List.mem_map.1 hd;refine ⟨x,hx,?_⟩;unfold aa at k2 k3;simp only at k2 k3;simp only [K.al,Bool.and_eq_true,beq_iff_eq];omega
  ·rintro ⟨x,hx,h2⟩;refine ⟨h3.1,?_⟩;simp only [K.al,Bool.and_eq_true,beq_iff_eq] at h2
   have ed:aa x=aa e:=by unfold aa;rw [h2.1,h2.2]
   rw [qf h _ (by show e.rep.toNat < 16;omega),xW];exact ⟨aa x,List.mem_map.2 ⟨x,hx,rfl⟩,by rw [ed];exact he,by rw [ed];unfold aa;simp only;omega,by rw [ed];rfl⟩
 cases h1:inB P e <;> cases h2:L.any (fun y=>K.al y e)
 ·rfl
 ·rw [h1,h2] at key;exact absurd (key.2 rfl) (by decide)
 ·rw [h1,h2] at key;exact absurd (key.1 rfl) (by decide)
 ·rfl
theorem zhq {L:List K.En} {P Q:Pst} (h:nL L P Q) (e:K.En) (he:okD (aa e)=true):inB Q e=(inB P e && !L.any (fun y=>K.al y e)):=by
 obtain ⟨D,hD,C,hC,hQ⟩:=h;rw [<- zgr hD e he];have h3:=he;unfold okD aa at h3;simp only [Bool.and_eq_true,decide_eq_true_eq] at h3
 have h4:0 <= e.rep/\e.rep < 16:=by simpa [V.isR] using h3.1
 have hr:e.rep.toNat < 16:=by omega
 have key:inB Q e=true↔inB P e=true/\¬ inB D e=true:=by
  rw [qd,qd,qd];unfold cB;simp only [h3.1,true_and];rw [qf hQ _ hr,(hC _ hr).2]
 cases h1:inB Q e <;> cases h2:inB P e <;> cases h5:inB D e <;> simp_all
theorem zgp {a b:Pv} {P:Pst} (h:af (aw [a,b]) P) (e:K.En) (he:okD (aa e)=true):inB P e=(inB a.P e || inB b.P e):=by
 have h3:=he;unfold okD aa at h3;simp only [Bool.and_eq_true,decide_eq_true_eq] at h3
 have h4:0 <= e.rep/\e.rep < 16:=by simpa [V.isR] using h3.1
 have hr:e.rep.toNat < 16:=by omega
 have key:inB P e=true↔inB a.P e=true∨inB b.P e=true:=by
  rw [qd,qd,qd];unfold cB;simp only [h3.1,true_and];rw [qf h _ hr,j6];simp
 cases h1:inB P e <;> cases h2:inB a.P e <;> cases h5:inB b.P e <;> simp_all
def gW (A B:List K.En) (P O:Pst) (x:K.En):Prop:=(x∈A/\mJ B O x=true)∨(x∈B/\mJ A P x=true)
def OkM (A B:List K.En) (P O:Pst):Prop:=K.chk A=0/\K.chk B=0/\aj P/\aj O
def MgD (A B:List K.En) (P O:Pst) (Z:List K.En) (er:Int):Prop:=(¬ OkM A B P O/\Z=[]/\er=1)∨(OkM A B P O/\K.cu (A++B)/\Z=[]/\er=10)∨(OkM A B P O/\¬ K.cu (A++B)/\er=0/\K.Asc Z/\∀ x,x∈Z↔gW A B P O x)
theorem zdN {A B:List K.En} (h:K.cu (A++B)):K.cu (B++A):=by
 obtain ⟨x,hx,y,hy,h1,h2⟩:=h;exact ⟨x,List.mem_append.2 (List.mem_append.1 hx).symm,y,List.mem_append.2 (List.mem_append.1 hy).symm,h1,h2⟩
theorem zdb {A:List K.En} {x:K.En} (h:x∈A):A.any (fun y=>K.al y x)=true:=by
 rw [List.any_eq_true];exact ⟨x,h,by simp [K.al]⟩
theorem zeF {A B U:List K.En} {P O:Pst} {a b:Pv} {J:Pst} (hA:K.chk A=0) (hB:K.chk B=0) (hU:∀ x,x∈U↔x∈A++B) (ha:nL A P a.P) (hb:nL B O b.P) (hJ:af (aw [a,b]) J) (x:K.En):x∈U.filter (pkB J false)↔gW A B P O x:=by
 rw [List.mem_filter,hU x,List.mem_append];have hd:x∈A∨x∈B -> okD (aa x)=true:=fun h=>h.elim (fun h=>zbq (xZ hA x h)) (fun h=>zbq (xZ hB x h))
 have GD:okD (aa x)=true -> (pkB J false x=true↔((inB P x && !A.any (fun y=>K.al y x)) || (inB O x && !B.any (fun y=>K.al y x)))=false):=fun h=>by
  unfold pkB;rw [zgp hJ x h,zhq ha x h,zhq hb x h]
  cases inB P x <;> cases A.any (fun y=>K.al y x) <;> cases inB O x <;> cases B.any (fun y=>K.al y x) <;> decide
 unfold gW mJ;constructor
 ·rintro ⟨h1,h2⟩;rw [GD (hd h1),Bool.or_eq_false_iff] at h2;rcases h1 with h1 | h1
  ·refine .inl ⟨h1,?_⟩;have h3:=h2.2
   cases hx:inB O x <;> cases hy:B.any (fun y=>K.al y x) <;> simp_all
  ·refine .inr ⟨h1,?_⟩;have h3:=h2.1
   cases hx:inB P x <;> cases hy:A.any (fun y=>K.al y x) <;> simp_all
 ·rintro (⟨h1,h2⟩ | ⟨h1,h2⟩)
  ·refine ⟨.inl h1,(GD (hd (.inl h1))).2 ?_⟩;rw [zdb h1]
   cases hx:inB O x <;> cases hy:B.any (fun y=>K.al y x) <;> simp_all
  ·refine ⟨.inr h1,(GD (hd (.inr h1))).2 ?_⟩;rw [zdb h1]
   cases hx:inB P x <;> cases hy:A.any (fun y=>K.al y x) <;> simp_all
theorem zgj (W:World) (a b:Pv) (ha:am W a) (hb:am W b):fq (W.alloc (.cells #[.slice a.vo a.vn a.vc,.slice a.co a.cn a.cc,.slice b.vo b.vn b.vc,.slice b.co b.cn b.cc] 26)) (some ⟨W.heap.size,0,none⟩) 2 [a,b]:=by
 have b1:=ze W (.cells #[.slice a.vo a.vn a.vc,.slice a.co a.cn a.cc,.slice b.vo b.vn b.vc,.slice b.co b.cn b.cc] 26);have h1:=heap_alloc_new W (.cells #[.slice a.vo a.vn a.vc,.slice a.co a.cn a.cc,.slice b.vo b.vn b.vc,.slice b.co b.cn b.cc] 26);refine ⟨rfl,fun e=>(by cases e),fun ad e t p hp=>?_,fun p hp=>?_⟩
 ·obtain rfl:(⟨W.heap.size,0,none⟩:Addr)=ad:=Option.some.inj e;rw [Addr.add_lit,Nat.zero_add]
  match t,hp with
  | 0,hp=>cases hp;refine ⟨?_,?_⟩ <;> (try rw [Addr.add_lit]) <;> simp only [World.cell?,h1] <;> rfl
  | 1,hp=>cases hp;refine ⟨?_,?_⟩ <;> (try rw [Addr.add_lit]) <;> simp only [World.cell?,h1] <;> rfl
  | t+2,hp=>simp at hp
 ·rcases List.mem_cons.1 hp with rfl | hp
  ·exact ha.below b1
  ·obtain rfl:=List.mem_singleton.1 hp;exact hb.below b1
def MgA (w w':World) (x:Ending) (A B:List K.En) (P O:Pst):Prop:=∃ a n c Z er,x = .returned (.tuple #[.slice a n c,.int .i64 er])/\K.aD w' a n c Z/\Below w.heap.size w w'/\MgD A B P O Z er
theorem zeG (ao bo:Option Addr) (n cap m cap':Nat) (A B:List K.En) (p o:Pv) (w:World) (hA:K.aD w ao n cap A) (hB:K.aD w bo m cap' B) (hP:am w p) (hO:am w o) :
  Calls Tryz.prog 123 #[.slice ao n cap,PV p,.slice bo m cap',PV o] w fun x w'=>MgA w w' x A B p.P o.P:=by
 have b1:=ze w (.cells (PC p) 26);have b2:=ze (w.alloc (.cells (PC p) 26)) (.cells (PC o) 26);have eo:=hide ((zr w p).below b2);have X2:=zr (w.alloc (.cells (PC p) 26)) o;rw [World.size_alloc] at X2;have fk:=hide X2;have aq:=hide (b1.trans (b2.mono b1.size));have HA:=hide (hA.below aq.out);have HB:=hide (hB.below aq.out);have HP:=hide (hP.below aq.out);have HO:=hide (hO.below aq.out);clear b1 b2 X2 hA hB hP hO;obtain ⟨wk,aY⟩:∃ wk,(w.alloc (.cells (PC p) 26)).alloc (.cells (PC o) 26)=wk:=⟨_,rfl⟩;obtain ⟨G,hG⟩:∃ G,w.heap.size=G:=⟨_,rfl⟩;rw [aY] at eo fk aq HA HB HP HO;rw [hG] at eo fk
 have l1:=zl eo.out.at
 go_enter Tryz.func123,Tryz.ntmps123;go_wp2_with fail;clear aY hG l1;refine (qW p _ HP.out).mono ?_;rintro x w2 ⟨b,rfl,hb,b2⟩
 cases b with
 | false =>
  have HE:Hid (MgA w w2 (.returned (.tuple #[.slice none 0 0,.int .i64 1])) A B p.P o.P):=⟨_,_,_,_,_,rfl,K.aD.none _,aq.out.trans (b2.mono aq.out.size),.inl ⟨fun h=>(by have:=hb.out.2 h.2.2.1;cases this),rfl,rfl⟩⟩;clear hb b2;go_wp2_with fail;go_ret2;exact HE.out
 | true =>
  have pC:Hid (aj p.P):=hb.out.1 rfl
  have l2:=zl (fk.out.below b2).at
  have cg:=hide b2;clear hb b2;go_wp2_with fail;clear l2;refine (qW o _ (HO.out.below cg.out)).mono ?_;rintro x w3 ⟨b,rfl,hb,b3⟩;have aB:=wTr cg b3;clear b3 cg
  cases b with
  | false =>
   have HE:Hid (MgA w w3 (.returned (.tuple #[.slice none 0 0,.int .i64 1])) A B p.P o.P):=⟨_,_,_,_,_,rfl,K.aD.none _,aq.out.trans (aB.out.mono aq.out.size),.inl ⟨fun h=>(by have:=hb.out.2 h.2.2.2;cases this),rfl,rfl⟩⟩;clear hb;go_wp2_with fail;go_ret2;exact HE.out
  | true =>
   have uj:Hid (aj o.P):=hb.out.1 rfl;clear hb;go_wp2_with fail;refine (K.zdW ao bo n cap m cap' A B _ (HA.out.below aB.out) (HB.out.below aB.out)).mono ?_;rintro x w4 ⟨uo,un,uc,U,er,rfl,S4,b4,hU⟩;have aQ:=wTr aB b4;clear b4 aB;rcases hU with ⟨fw,rfl,rfl⟩ | ⟨iH,⟨fC,rfl,rfl⟩ | ⟨fC,rfl,hAs,hm⟩⟩
   ·have HE:Hid (MgA w w4 (.returned (.tuple #[.slice none 0 0,.int .i64 1])) A B p.P o.P):=⟨_,_,_,_,_,rfl,K.aD.none _,aq.out.trans (aQ.out.mono aq.out.size),.inl ⟨fun h=>fw ⟨h.1,h.2.1⟩,rfl,rfl⟩⟩;clear fw S4;go_wp2_with fail;go_ret2;exact HE.out
   ·have HE:Hid (MgA w w4 (.returned (.tuple #[.slice none 0 0,.int .i64 10])) A B p.P o.P):=⟨_,_,_,_,_,rfl,K.aD.none _,aq.out.trans (aQ.out.mono aq.out.size),.inr (.inl ⟨⟨iH.1,iH.2,pC.out,uj.out⟩,fC,rfl,rfl⟩)⟩;clear iH fC S4;go_wp2_with fail;go_ret2;exact HE.out
   ·have HU:Hid (K.chk A=0/\K.chk B=0/\¬ K.cu (A++B)/\K.Asc U/\∀ x,x∈U↔x∈A++B):=⟨iH.1,iH.2,fC,hAs,hm⟩;have BR:=hide S4;have aG:Hid (∀ W,Below w4.heap.size w4 W -> (ldP (.pointer (some ⟨G,0,none⟩))).run Tryz.prog W = .ok (PV p) W/\(ldP (.pointer (some ⟨G+1,0,none⟩))).run Tryz.prog W = .ok (PV o) W):=fun W hW=>⟨zl ((eo.out.below aQ.out).below hW).at,zl ((fk.out.below aQ.out).below hW).at⟩;have Kc:Hid (∀ W:World,∀ a b:Pv,am W a -> am W b -> fq (W.alloc (.cells #[.slice a.vo a.vn a.vc,.slice a.co a.cn a.cc,.slice b.vo b.vn b.vc,.slice b.co b.cn b.cc] 26)) (some ⟨W.heap.size,0,none⟩) 2 [a,b]):=fun W a b ha hb=>zgj W a b ha hb;clear iH fC hAs hm S4;go_upto_region 6 with fail;refine wp_region_held_drew (S:=fun W=>(ldP (.pointer (some ⟨G,0,none⟩))).run Tryz.prog W = .ok (PV p) W/\(ldP (.pointer (some ⟨G+1,0,none⟩))).run Tryz.prog W = .ok (PV o) W) (by kernel_rfl) (aG.out _ (zg w4)) (fun hHeld=>?_)
    refine wU 0 ?_;refine wU 1 ?_;refine wU 2 ?_;refine wU 4 ?_;refine wU 5 ?_;refine wpAnyH_ready (rs:=[3]) (by kernel_rfl) (by simp) (.cons rfl (fun K hK=>?_) .nil);go_simp;go_wp2_with fail;refine (wP ao n cap A p _ (HA.out.below (aQ.out.trans ((zg w4).mono aQ.out.size))) HU.out.1 (HP.out.below (aQ.out.trans ((zg w4).mono aQ.out.size)))).mono ?_;rintro x w5 ⟨ra,rfl,Sa,-,b5,Ra⟩;have dO:Hid (Below w4.heap.size w4 w5):=(zg w4).trans b5;have JZ:Hid (nL A p.P ra.P):=Ra;have ub:=hide Sa;refine hK.out _ _ (aG.out _ dO.out) (fun hHeld=>?_);clear hK K;clear b5 Sa Ra;refine wpAnyH_ready (rs:=[6]) (by kernel_rfl) (by simp) (.cons rfl (fun K hK=>?_) .nil);go_simp;go_wp2_with fail;refine (wP bo m cap' B o _ (HB.out.below (aQ.out.trans (dO.out.mono aQ.out.size))) HU.out.2.1 (HO.out.below (aQ.out.trans (dO.out.mono aQ.out.size)))).mono ?_
    rintro x w6 ⟨rb,rfl,Sb,-,b6,Rb⟩;have fQ:Hid (Below w4.heap.size w4 w6):=dO.out.trans (b6.mono dO.out.size);have Jn:Hid (nL B o.P rb.P):=Rb;have Cl:Hid (am w6 ra/\am w6 rb):=⟨ub.out.below b6,Sb⟩;refine hK.out _ _ (aG.out _ fQ.out) (fun hHeld=>?_);clear hK K;clear b6 Sb Rb ub;have b7:=ze w6 (.cells #[.slice ra.vo ra.vn ra.vc,.slice ra.co ra.cn ra.cc,.slice rb.vo rb.vn rb.vc,.slice rb.co rb.cn rb.cc] 26);have DQ:=hide (Kc.out w6 ra rb Cl.out.1 Cl.out.2);have dH:=wTr fQ b7;clear b7 Kc;refine wpAnyH_ready (rs:=[7]) (by kernel_rfl) (by simp) (.cons rfl (fun K hK=>?_) .nil);go_simp;refine hK.out _ _ (aG.out _ dH.out) (fun hHeld=>?_);clear hK K
    have Ge:Hid (wt [ra,rb] <= 8796093022207):=by
     obtain ⟨-,-,C1,-,h1⟩:=JZ.out;obtain ⟨-,-,C2,-,h2⟩:=Jn.out;have k1:=(jW h1).1;have k2:=(jW h2).1
     show _ <= _
     simp only [wt];omega
    refine wpAnyH_ready (rs:=[8]) (by kernel_rfl) (by simp) (.cons rfl (fun K hK=>?_) .nil);go_simp;go_wp2_with fail;refine (q9 (some ⟨w6.heap.size,0,none⟩) 2 2 [ra,rb] _ DQ.out Ge.out (by decide)).mono ?_;rintro x w8 ⟨pj,rfl,Sj,-,b8,Cj⟩;have ia:=wTr dH b8;have Gb:=hide Sj;have Ea:Hid (af (aw [ra,rb]) pj.P):=Cj;refine hK.out _ _ (aG.out _ ia.out) (fun hHeld=>?_);clear hK K;clear b8 Sj Cj DQ;refine wpAnyH_ready (rs:=[9]) (by kernel_rfl) (by simp) (.cons rfl (fun K hK=>?_) .nil);go_simp;go_wp2_with fail;refine (jB uo un uc U pj _ (BR.out.below ia.out) Gb.out).mono ?_;rintro x w9 (⟨-,-,a9,n9,c9,rfl,S9,b9,-⟩ | ⟨fw,-⟩);rotate_left
    ·refine absurd ⟨?_,zW.1 Ea.out.canon⟩ fw;exact Go.Proofs.YtjffpimfngdggaaGreat.K.zax HU.out.2.2.2.1 (fun e he=>((List.mem_append.1 ((HU.out.2.2.2.2 e).1 he)).elim (xZ HU.out.1 e) (xZ HU.out.2.1 e)))
    have ix:=wTr ia b9;have HE:Hid (MgA w w9 (.returned (.tuple #[.slice a9 n9 c9,.int .i64 0])) A B p.P o.P):=⟨a9,n9,c9,_,0,rfl,S9,aq.out.trans ((aQ.out.trans (ix.out.mono aQ.out.size)).mono aq.out.size),.inr (.inr ⟨⟨HU.out.1,HU.out.2.1,pC.out,uj.out⟩,HU.out.2.2.1,rfl,HU.out.2.2.2.1.filter _,zeF HU.out.1 HU.out.2.1 HU.out.2.2.2.2 JZ.out Jn.out Ea.out⟩)⟩;refine hK.out _ _ (aG.out _ ix.out) (fun hHeld=>?_);clear hK K;clear S9 b9;refine wU 10 ?_;refine wU 11 ?_;refine wU 12 ?_;refine wU 13 ?_;refine wpAnyH_done (by kernel_rfl) ?_ _;clear hHeld;go_wp2_with fail;go_ret2;exact HE.out
end
section
open Go.RowKit
def RcI (s:Fc) (k:Nat):Prop:=∀ j,j < k -> ¬ wiP (s.rs.getD j rc0).p.P s.p.P/\∀ e∈s.es,cQ (s.rs.getD j rc0) e=false
attribute [local go_sem ↓] zq zp zL zK zZ zY K.zx K.zw
attribute [local go_sem] zi zj zk zm zJ zQ K.zt K.zF
end
end Go.Proofs.YtjffpimfngdggaaGreat
namespace Go.Proofs.YtjffpimfngdggaaGreat.K
section
open Go.RowKit
attribute [local go_sem ↓] zx zw xE xP qz
attribute [local go_sem] zI zt zF
structure ir (w:World) (g:Nat) (e:En):Prop where
 c0:w.cell? ⟨g,0,none⟩=some (.int .i64 e.rep)
 c1:w.cell? ⟨g,1,none⟩=some (.int .i64 e.num)
theorem ir.on {w w':World} {g:Nat} {e:En} (D:ir w g e) (hb:Below w.heap.size w w'):ir w' g e:=
 ⟨(hb.cell (World.block_lt_of_cell? _ _ D.c0)).trans D.c0,(hb.cell (World.block_lt_of_cell? _ _ D.c1)).trans D.c1⟩
theorem zie (w:World) (e:En):ir (w.alloc (.cells (DC e) 48)) w.heap.size e:=⟨by simp [DC],by simp [DC]⟩
theorem zG {w:World} {g:Nat} {e:En} (D:ir w g e):(lj (.pointer (some ⟨g,0,none⟩))).run Tryz.prog w = .ok (.agg (DC e)) w:=by
 have hl:=run_loadCells_list (P:=Tryz.prog) (w:=w) ⟨g,0,none⟩ (DC e).toList (fun j v hv=>by
  match j,hv with
  | 0,hv=>cases hv;rw [add_zero];exact D.c0
  | 1,hv=>cases hv;rw [Addr.add_lit];exact D.c1
  | j+2,hv=>simp [DC] at hv)
 cases hq:Tryz.prog.info? 48 with
 | none=>have:=mf;simp [hq] at this
 | some x =>
  have hs:x.size=2:=by have:=mf;simpa [hq] using this
  have dR:(isAgg 48).run Tryz.prog w = .ok true w:=by
   unfold isAgg;rw [Sem.run_bind,run_underlying Tryz.underlying48 w];rfl
  have e4:(DC e).toList.length=2:=rfl;rw [e4] at hl;unfold lj;simp only [Instr.loadAt,Instr.sureAddr,Sem.run_bind,Sem.run_pure,Result.andThen];simp [loadVar,Sem.run_bind,dR,sizeOf,typeInfo,hq,hs,hl]
theorem zc5 (e:En):(Value.agg (DC e)).cells=DC e:=by simp [Value.cells]
attribute [local go_sem] zc5
def o6 (L:List En) (x:En) (k:Int):Prop:=(k = -1/\∀ i,i < L.length -> al (L.getD i en0) x=false)∨∃ i,i < L.length/\k=(i:Int)/\al (L.getD i en0) x=true/\∀ j,j < i -> al (L.getD j en0) x=false
def fdE (L:List En) (k:Int):En:=if k < 0 then en0 else L.getD k.toNat en0
def fdB (k:Int):Bool:=decide (0 <= k)
theorem tQ {fn:Func} {p q:Tmp} {w:World} {g:Nat} {T:TypeId} {e:En} {b:Value} (h:fn.results=#[.cell p 50,.tmp q]) {tmps:Array Value} (hp:tmps.getD p undef = .pointer (some ⟨g,0,none⟩)) (hq:tmps.getD q undef=b) (A:Box w g T e) :
  (results fn tmps).run Tryz.prog w = .ok (.tuple #[EV e,b]) w:=by
 have hl:=zcy A.at
 simp only [results,h];rw [Array.getD_eq_getD_getElem?] at hp hq;simp [hp,hq,asAddr,hl]
def i5 (w w':World) (y:Ending) (L:List En) (x:En):Prop:=∃ k,y = .returned (.tuple #[EV (fdE L k),.bool (fdB k)])/\o6 L x k/\Below w.heap.size w w'
end
section
open Go.RowKit
attribute [local go_sem ↓] zx zw xE xP qz
attribute [local go_sem] zI zt zF
attribute [local go_sem] zc5
theorem ze3 (e x:En) (b:Nat) (w:World) (D:ir w b x):Calls Tryz.prog 83 #[EV e,.pointer (some ⟨b,0,none⟩)] w fun y w'=>y = .returned (.bool (al e x))/\Below w.heap.size w w':=by
 have X1:=zT w 50 e;have HB:=hide (ze w (.cells (EC e) 50))
 have l1:=xG X1.at
 have l2:=zG (D.on HB.out);clear X1;go_enter Tryz.func83,Tryz.ntmps83;go_wp2_with fail;go_ret;exact ⟨rfl,HB.out⟩
theorem zeS (ao:Option Addr) (n cap:Nat) (L:List En) (x:En) (b:Nat) (w:World) (hS:aD w ao n cap L) (D:ir w b x) :
  Calls Tryz.prog 82 #[.slice ao n cap,.func (.func 83) #[] #[.pointer (some ⟨b,0,none⟩)]] w fun y w'=>∃ k,y = .returned (.int .i64 k)/\o6 L x k/\Below w.heap.size w w':=by
 have HS:=hide hS;have hn:=hS.2.2.2.2;have HL:Hid (L.length=n):=hS.1;have HD:=hide D;clear hS D;go_enter Tryz.func82,Tryz.ntmps82;go_wp2_with fail;go_loopw [5,8] (fun _ i wr=>∃ k:Nat,k <= n/\i = .int .i64 k/\Hid ((∀ j,j < k -> al (L.getD j en0) x=false)/\Below w.heap.size w wr)) (fun _ i _=>n - (intOf i).toNat)
 case atStart=>exact ⟨0,Nat.zero_le _,rfl,fun i hi=>by omega,Below.refl _ _⟩
 case round =>
  obtain ⟨k,hk,rfl,H⟩:=hrel
  rename World=>w4
  by_cases ak:k < n
  ·obtain ⟨ad,rfl,A0⟩:=(HS.out.below H.out.2).at k ak;have dK:=zO A0;obtain ⟨e,He⟩:∃ e,Hid (L.getD k en0=e):=⟨_,rfl⟩;rw [He.out] at dK;clear A0;have HC:=hide (ze3 e x b w4 (HD.out.on H.out.2));obtain ⟨q,Hq⟩:∃ q,Hid (al e x=q):=⟨_,rfl⟩;rw [Hq.out] at HC
   cases q with
   | false =>
    go_wp2_with fail;refine HC.out.mono ?_;rintro y w5 ⟨rfl,b5⟩
    have HN:Hid ((∀ j,j < k+1 -> al (L.getD j en0) x=false)/\Below w.heap.size w w5):=⟨fun j hj=>by
     by_cases ej:j=k
     ·rw [ej,He.out];exact Hq.out
     ·exact H.out.1 j (by omega),H.out.2.trans (b5.mono H.out.2.size)⟩
    clear b5;go_wp2_with fail;go_roundw
    case rel=>exact ⟨k+1,by omega,by go_num,HN⟩
    case measure=>simp [intOf];omega
   | true =>
    go_wp2_with fail;refine HC.out.mono ?_;rintro y w5 ⟨rfl,b5⟩;have HN:Hid (o6 L x (k:Int)/\Below w.heap.size w w5):=⟨Or.inr ⟨k,by rw [HL.out];exact ak,rfl,by rw [He.out];exact Hq.out,H.out.1⟩,H.out.2.trans (b5.mono H.out.2.size)⟩;clear b5;go_wp2_with fail;go_ret;exact ⟨_,rfl,HN.out⟩
  ·obtain rfl:k=n:=by omega
   have HN:Hid (o6 L x (-1)/\Below w.heap.size w w4):=⟨Or.inl ⟨rfl,by rw [HL.out];exact H.out.1⟩,H.out.2⟩;go_wp2_with fail;go_ret;exact ⟨_,rfl,HN.out⟩
theorem zcV (ao:Option Addr) (n cap:Nat) (L:List En) (x:En) (w:World) (hS:aD w ao n cap L) :
  Calls Tryz.prog 43 #[.slice ao n cap,.agg (DC x)] w fun y w'=>i5 w w' y L x:=by
 have hn:=hS.2.2.2.2;have HL:Hid (L.length=n):=hS.1;have B1:=ze w (.cells (DC x) 48);have cg:Hid (Below w.heap.size w ((w.alloc (.cells (DC x) 48)).alloc (.cells (EC en0) 50))):=B1.trans ((ze _ _).mono B1.size);have HD:Hid (ir ((w.alloc (.cells (DC x) 48)).alloc (.cells (EC en0) 50)) w.heap.size x):=(zie w x).on (ze _ _)
 have HX:Hid (Box ((w.alloc (.cells (DC x) 48)).alloc (.cells (EC en0) 50)) (w.heap.size+1) 50 en0):=by have:=zT (w.alloc (.cells (DC x) 48)) 50 en0;rwa [World.size_alloc] at this
 have HS:=hide (hS.below cg.out);obtain ⟨w2,Js⟩:∃ w2,Hid ((w.alloc (.cells (DC x) 48)).alloc (.cells (EC en0) 50)=w2):=⟨_,rfl⟩;rw [Js.out] at cg HD HX HS;clear hS B1;go_enter Tryz.func43,Tryz.ntmps43;go_wp2_with fail;rw [Js.out];refine (zeS ao n cap L x w.heap.size _ HS.out HD.out).mono ?_;rintro y w3 ⟨k,rfl,hk,b3⟩;have HK:=hide hk;have aB:=wTr cg b3;have X3:=HX.out.below b3;have fL:=hide X3;have oS:=hide (HS.out.below b3);clear b3 hk X3;by_cases h0:k < 0
 ·have HE:Hid (fdE L k=en0):=by show _=_;unfold fdE;rw [if_pos h0]
  have HF:Hid (fdB k=false):=by show _=_;unfold fdB;simp;omega
  have a8:=kB (e':=en0) fL.out;have iv:=hide (fL.out.setRow (e':=en0));have aQ:Hid (Below w.heap.size w (w3.setRow (w.heap.size+1) (EC en0))):=zh aB.out (by omega);go_wp2_with fail;refine bodyPost_ret (tQ Tryz.results43 rfl rfl iv.out) rfl ⟨k,by rw [HE.out,HF.out];rfl,HK.out,aQ.out⟩
 ·obtain ⟨i,rfl⟩:∃ i:Nat,k=(i:Int):=⟨k.toNat,by omega⟩
  have ph:i < n:=by
   rcases HK.out with ⟨h,_⟩ | ⟨i',h1,h2,_⟩
   ·omega
   ·rw [HL.out] at h1;omega
  obtain ⟨ad,rfl,A0⟩:=oS.out.at i ph;have dK:=zO A0;obtain ⟨e,He⟩:∃ e,Hid (L.getD i en0=e):=⟨_,rfl⟩;rw [He.out] at dK
  have HE:Hid (fdE L (i:Int)=e):=by show _=_;unfold fdE;rw [if_neg h0,Int.toNat_natCast,He.out]
  have HF:Hid (fdB (i:Int)=true):=by show _=_;unfold fdB;simp
  have a8:=kB (e':=e) fL.out;have iv:=hide (fL.out.setRow (e':=e));have aQ:Hid (Below w.heap.size w (w3.setRow (w.heap.size+1) (EC e))):=zh aB.out (by omega);clear A0 h0;go_wp2_with fail;refine bodyPost_ret (tQ Tryz.results43 rfl rfl iv.out) rfl ⟨(i:Int),by rw [HE.out,HF.out];rfl,HK.out,aQ.out⟩
end
end Go.Proofs.YtjffpimfngdggaaGreat.K
namespace Go.Proofs.YtjffpimfngdggaaGreat
section
open Go.RowKit
structure SwU (w:World) (s:Fc):Prop where
 ok:aV w s
 row:FcR s
 wt:∀ t,wt (ofS s.rs t) <= 8796093022207
 nm:s.rn * (s.an+1) <= 8796093022207
 rn:s.rn <= 2199023255551
theorem SwU.below {w w':World} {s:Fc} (h:SwU w s) (hb:Below w.heap.size w w'):SwU w' s:=⟨h.ok.below hb,h.row,h.wt,h.nm,h.rn⟩
theorem SwU.chk {w:World} {s:Fc} (h:SwU w s):Calls Tryz.prog 27 #[FaV (mkF s)] w fun e w'=>aZ w w' e (mK s):=zbC s w h.ok h.row h.wt h.nm h.rn
def lT (s:Fc) (d:Rn) (x:Int):Prop:=(¬ (aK s/\cB s.p.P d)/\x=0)∨((aK s/\cB s.p.P d)/\(∃ e∈s.es,aa e=d)/\x=1)∨((aK s/\cB s.p.P d)/\(¬ ∃ e∈s.es,aa e=d)/\x=2)
theorem zh6 {L:List K.En} {d:Rn} {k:Int} (h:K.o6 L ⟨d.lo,d.hi,⟨#[]⟩,0⟩ k):K.fdB k=true↔∃ e∈L,aa e=d:=by
 have same:∀ e:K.En,K.al e ⟨d.lo,d.hi,⟨#[]⟩,0⟩=true↔aa e=d:=fun e=>by
  unfold K.al aa;rw [Bool.and_eq_true,beq_iff_eq,beq_iff_eq];constructor
  ·rintro ⟨h1,h2⟩;obtain ⟨a,b⟩:=d;exact congr (congrArg Rn.mk h1) h2
  ·rintro rfl;exact ⟨rfl,rfl⟩
 rcases h with ⟨rfl,h⟩ | ⟨i,hi,rfl,h,-⟩
 ·constructor
  ·intro k
   cases k
  ·rintro ⟨e,he,hd⟩;obtain ⟨t,ht,rfl⟩:=List.getElem_of_mem he;have h1:=h t ht;rw [List.getD_eq_getElem?_getD,List.getElem?_eq_getElem ht] at h1;have h2:=(same L[t]).2 hd;rw [Option.getD_some] at h1;rw [h2] at h1
   cases h1
 ·refine ⟨fun _=>⟨L.getD i K.en0,?_,(same _).1 h⟩,fun _=>by unfold K.fdB;simp⟩;rw [List.getD_eq_getElem?_getD,List.getElem?_eq_getElem hi];exact List.getElem_mem hi
theorem zcz (x y:Rn) (w:World):(Op.equalIn 10000 48 (.agg (RC x)) (.agg (RC y))).run Tryz.prog w = .ok (x.lo == y.lo && x.hi == y.hi) w:=K.xP ⟨x.lo,x.hi,⟨#[]⟩,0⟩ ⟨y.lo,y.hi,⟨#[]⟩,0⟩ w
attribute [local go_sem ↓] zq zp zL zK zV zU K.zx K.zw zcz
attribute [local go_sem] zi zj zk zm zC zN zS K.zt K.zF K.zI
theorem zbB (s:Fc) (d:Rn) (w:World) (hS:SwU w s):Calls Tryz.prog 31 #[FaV (mkF s),RV d] w fun e w'=>aZ w w' e (lT s d):=by
 have b1:=ze w (.cells (FaC (mkF s)) 31);have b2:=ze (w.alloc (.cells (FaC (mkF s)) 31)) (.cells (RC d) 48);have X1:=(qr w (mkF s)).below b2;have Y1:=zT (w.alloc (.cells (FaC (mkF s)) 31)) 48 d;rw [World.size_alloc] at Y1;have aq:=hide (b1.trans (b2.mono b1.size));obtain ⟨wk,aY⟩:∃ wk,(w.alloc (.cells (FaC (mkF s)) 31)).alloc (.cells (RC d) 48)=wk:=⟨_,rfl⟩;rw [aY] at aq X1 Y1;obtain ⟨G,dF⟩:∃ G,w.heap.size=G:=⟨_,rfl⟩;rw [dF] at X1 Y1;have HX:=hide X1;have HY:=hide Y1;have l1:=qj HX.out;clear b1 b2 X1 Y1;have HS:=hide (hS.below aq.out);clear hS;go_enter Tryz.func31,Tryz.ntmps31;go_wp2_with fail;clear aY dF l1;refine HS.out.chk.mono ?_;rintro e w3 ⟨x,rfl,hx,b3⟩;have aB:=hide b3;clear b3;rcases hx with ⟨hf,rfl⟩ | ⟨hf,rfl⟩;rotate_left
 ·have HE:Hid (aZ w w3 (.returned (.int .i64 0)) (lT s d)):=⟨0,rfl,.inl ⟨fun h=>hf h.1,rfl⟩,aq.out.trans (aB.out.mono aq.out.size)⟩;clear hf;go_wp2_with fail;go_ret;exact HE.out
 have lB:=hide hf;have lp:=zl (HX.out.below aB.out).past
 have ly:=zG (HY.out.below aB.out).at
 clear hf;go_wp2_with fail;clear lp ly;refine (qK s.p d _ (HS.out.ok.p.below aB.out)).mono ?_;rintro e w4 ⟨v,rfl,hv,b4⟩;have aQ:=wTr aB b4;clear b4
 cases v with
 | false =>
  have HE:Hid (aZ w w4 (.returned (.int .i64 0)) (lT s d)):=⟨0,rfl,.inl ⟨fun h=>(by have:=hv.2 h.2;cases this),rfl⟩,aq.out.trans (aQ.out.mono aq.out.size)⟩;clear hv;go_wp2_with fail;go_ret;exact HE.out
 | true =>
 have uv:=hide (hv.1 rfl);have c0:=(HX.out.below aQ.out).cs.1
 have ly:=zG (HY.out.below aQ.out).at
 clear hv;go_wp2_with fail;clear c0 ly;refine (K.zcV s.ao s.an s.ac s.es ⟨d.lo,d.hi,⟨#[]⟩,0⟩ _ (HS.out.ok.es.below aQ.out)).mono ?_;rintro e w5 ⟨k,rfl,hk,b5⟩;have sO:=zh6 hk;obtain ⟨g5,iD⟩:∃ g,w5.heap.size=g:=⟨_,rfl⟩;obtain ⟨fe,MJ⟩:∃ e,Hid (K.fdE s.es k=e):=⟨_,rfl⟩;obtain ⟨fb,pz⟩:∃ b,K.fdB k=b:=⟨_,rfl⟩;obtain ⟨w6,a8,X6,B6,-⟩:=K.made w5 fe g5 iD;rw [MJ.out,pz];rw [pz] at sO;have fQ:=hide (aQ.out.trans ((b5.trans (B6.mono b5.size)).mono aQ.out.size));clear b5 hk X6 B6 pz
 cases fb with
 | true =>
  have HE:Hid (aZ w w6 (.returned (.int .i64 1)) (lT s d)):=⟨1,rfl,.inr (.inl ⟨⟨lB.out,uv.out⟩,sO.1 rfl,rfl⟩),aq.out.trans (fQ.out.mono aq.out.size)⟩;clear sO;go_wp2_with fail;clear a8 iD;go_ret;exact HE.out
 | false =>
  have HE:Hid (aZ w w6 (.returned (.int .i64 2)) (lT s d)):=⟨2,rfl,.inr (.inr ⟨⟨lB.out,uv.out⟩,fun h=>(by have:=sO.2 h;cases this),rfl⟩),aq.out.trans (fQ.out.mono aq.out.size)⟩;clear sO;go_wp2_with fail;clear a8 iD;go_ret;exact HE.out
end
section
open Go.RowKit
variable {w w' W : World} {g : Nat}
structure Ks where
 ro:Option Addr
 rn:Nat
 rc:Nat
 qo:Option Addr
 qn:Nat
 qc:Nat
 ao:Option Addr
 an:Nat
 ac:Nat
 bo:Option Addr
 bn:Nat
 bc:Nat
 p:Pv
 o:Pv
def KsC (m:Ks):Array Value:=#[.slice m.ro m.rn m.rc,.slice m.qo m.qn m.qc,.slice m.ao m.an m.ac,.slice m.bo m.bn m.bc,.slice m.p.vo m.p.vn m.p.vc,.slice m.p.co m.p.cn m.p.cc,.slice m.o.vo m.o.vn m.o.vc,.slice m.o.co m.o.cn m.o.cc]
abbrev KsV (m:Ks):Value:=.agg (KsC m)
def RSm (R:List Rc):Prop:=R.length <= 209716/\∀ r∈R,r.p.P.cloud.length <= 1048576
structure KsS (w:World) (m:Ks) (R Q:List Rc) (A B:List K.En):Prop where
 r:RcS w m.ro m.rn m.rc R
 q:RcS w m.qo m.qn m.qc Q
 a:K.aD w m.ao m.an m.ac A
 b:K.aD w m.bo m.bn m.bc B
 p:am w m.p
 o:am w m.o
 sr:RSm R
 sq:RSm Q
 sa:m.an <= 1048576
 sb:m.bn <= 1048576
theorem zjs (X:List Pv) (c:Nat) (h:∀ p∈X,p.P.cloud.length <= c):wt X <= X.length * (c+1):=by
 induction X with
 | nil=>exact Nat.zero_le _
 | cons p X ih =>
  have h1:=ih (fun q hq=>h q (List.mem_cons_of_mem _ hq));have h2:=h p List.mem_cons_self;simp only [wt,List.length_cons];rw [Nat.add_mul];omega
end
section
open Go.RowKit
structure SwB (N:Nat) (w:World) (s:Fc):Prop where
 ok:aV w s
 row:FcR s
 rn:s.rn <= N * 209716
 an:s.an <= N * 1048576
 cl:∀ r∈s.rs,r.p.P.cloud.length <= 1048576
theorem SwB.below {N:Nat} {w w':World} {s:Fc} (h:SwB N w s) (hb:Below w.heap.size w w'):SwB N w' s:=⟨h.ok.below hb,h.row,h.rn,h.an,h.cl⟩
theorem ziJ {R:List Rc} (hn:R.length <= 838864) (hc:∀ r∈R,r.p.P.cloud.length <= 1048576) (t:ByteArray):wt (ofS R t) <= 8796093022207:=by
 have h1:=zjs (ofS R t) 1048576 (fun p hp=>by obtain ⟨r,hr,-,rfl⟩:=km.1 hp;exact hc r hr);have h2:=vD R t;have h4:(ofS R t).length * (1048576+1) <= 838864 * (1048576+1):=Nat.mul_le_mul_right _ (by omega);omega
theorem zi1 {n m:Nat} (hn:n <= 838864) (hm:m <= 4194304):n * (m+1) <= 8796093022207:=by
 have h3:n * (m+1) <= 838864 * (4194304+1):=Nat.mul_le_mul hn (by omega);omega
theorem SwB.u {N:Nat} {w:World} {s:Fc} (h:SwB N w s) (hN:N <= 4):SwU w s:=by
 have h1:=h.rn;have h2:=h.an;have h3:=h.ok.rs.len;exact ⟨h.ok,h.row,ziJ (by omega) h.cl,zi1 (by omega) (by omega),by omega⟩
open Classical in
theorem yQ {α : Type}:∀ {X Y:List α},X.Nodup -> (∀ x∈X,x∈Y) -> X.length <= Y.length
 | [],_,_,_=>Nat.zero_le _
 | a :: X,Y,h,hs=>by
  obtain ⟨h1,h2⟩:=List.nodup_cons.1 h;have ha:=hs a List.mem_cons_self;have h3:=yQ (Y:=Y.erase a) h2 (fun x hx=>(List.mem_erase_of_ne (fun e=>h1 (by rw [<- e];exact hx))).2 (hs x (List.mem_cons_of_mem _ hx)));have h4:=List.length_erase_of_mem ha;have h5:=List.length_pos_of_mem ha;rw [List.length_cons];omega
def SjD (a b s:Fc) (er:Int):Prop:=(¬ (aK a/\aK b)/\er=1/\s=fz0)∨((aK a/\aK b)/\∃ Z e,MgD a.es b.es a.p.P b.p.P Z e/\((e≠0/\er=e/\s=fz0)∨(e=0/\er=0/\∃ U,iQ a.rs b.rs U/\s.es=Z.filter (cW U)/\af (aw [a.p,b.p]) s.p.P/\iA U s.p.P s.rs)))
def SwJ (N:Nat) (w w':World) (e:Ending) (D:Fc -> Int -> Prop):Prop:=∃ s er,e = .returned (.tuple #[FaV (mkF s),.int .i64 er])/\SwB N w' s/\Below w.heap.size w w'/\D s er
def rv (a b:Fc) (x:Int):Prop:=((aK a/\aK b)/\x=0)∨(¬ (aK a/\aK b)/\x=1)
theorem zia (N:Nat) (w:World):SwB N w fz0:=⟨zeV w,zeU,Nat.zero_le _,Nat.zero_le _,fun r h=>(by cases h)⟩
theorem zgo {A B Z:List K.En} {P O:Pst} (h:OkM A B P O) (ha:K.Asc Z) (hm:∀ x,x∈Z↔gW A B P O x):K.chk Z=0/\Z.length <= A.length+B.length:=by
 have hx:∀ x∈Z,x∈A∨x∈B:=fun x hx=>((hm x).1 hx).elim (fun k=>.inl k.1) (fun k=>.inr k.1);refine ⟨K.zax ha (fun x h1=>(hx x h1).elim (xZ h.1 x) (xZ h.2.1 x)),?_⟩;have h1:Z.Nodup:=ha.imp (fun {a b} dS e=>by subst e;rw [K.vq] at dS;cases dS);have h2:=yQ (Y:=A++B) h1 (fun x h3=>List.mem_append.2 (hx x h3));rwa [List.length_append] at h2
theorem zjt {L M F:List Rc} (u:iQ L M F) (hl:∀ r∈L,r.p.P.cloud.length <= 1048576) (hm:∀ r∈M,r.p.P.cloud.length <= 1048576):∀ r∈F,r.p.P.cloud.length <= 1048576:=fun r hr=>by
 have h1:rck r∈plR F:=List.mem_map.2 ⟨r,hr,rfl⟩;rcases (u.1.2 _).1 h1 with h | h
 ·obtain ⟨x,hx,e⟩:=List.mem_map.1 h;have e2:x.p.P=r.p.P:=congrArg Prod.snd e;rw [<- e2];exact hl x hx
 ·obtain ⟨x,hx,e⟩:=List.mem_map.1 h;have e2:x.p.P=r.p.P:=congrArg Prod.snd e;rw [<- e2];exact hm x hx
theorem zhk {L F:List Rc} {P:Pst} (h:iA L P F) (hl:∀ r∈L,r.p.P.cloud.length <= 1048576):∀ r∈F,r.p.P.cloud.length <= 1048576:=fun r hr=>by
 have h1:rck r∈plR F:=List.mem_map.2 ⟨r,hr,rfl⟩;rw [h.2] at h1;obtain ⟨x,hx,e⟩:=List.mem_map.1 (List.mem_filter.1 h1).1;have e2:x.p.P=r.p.P:=congrArg Prod.snd e;rw [<- e2];exact hl x hx
theorem oB (w:World) (f g:Fc):∃ wk,(w.alloc (.cells (FaC (mkF f)) 31)).alloc (.cells (FaC (mkF g)) 31)=wk/\Hid (aE wk w.heap.size (mkF f))/\Hid (aE wk (w.heap.size+1) (mkF g))/\Hid (Below w.heap.size w wk)/\wk.heap.size=w.heap.size+2:=by
 have b1:=ze w (.cells (FaC (mkF f)) 31);have b2:=ze (w.alloc (.cells (FaC (mkF f)) 31)) (.cells (FaC (mkF g)) 31);have X2:=qr (w.alloc (.cells (FaC (mkF f)) 31)) (mkF g);rw [World.size_alloc] at X2;exact ⟨_,rfl,(qr w (mkF f)).below b2,X2,b1.trans (b2.mono b1.size),by simp⟩
attribute [local go_sem ↓] zq zp zL zK qX x4
attribute [local go_sem] zi zj zk zm zv qN xH qD zE
theorem zdj (a b:Fc) (w:World) (hA:SwU w a) (hB:SwU w b):Calls Tryz.prog 122 #[FaV (mkF a),FaV (mkF b)] w fun e w'=>aZ w w' e (rv a b):=by
 obtain ⟨wk,aY,HX,HY,aq,-⟩:=oB w a b;obtain ⟨G,dF⟩:∃ G,w.heap.size=G:=⟨_,rfl⟩;rw [dF] at HX HY;have HA:=hide (hA.below aq.out);have HB:=hide (hB.below aq.out);have l1:=qj HX.out;clear hA hB;go_enter Tryz.func122,Tryz.ntmps122;go_wp2_with fail;clear aY dF l1;refine HA.out.chk.mono ?_;rintro e w3 ⟨x,rfl,hx,b3⟩;have aB:=wTr aq b3;have l2:=qj (HY.out.below b3);have LS:=hide (HB.out.below b3);clear b3;rcases hx with ⟨hf,rfl⟩ | ⟨hf,rfl⟩;rotate_left
 ·have HE:Hid (aZ w w3 (.returned (.int .i64 1)) (rv a b)):=⟨1,rfl,.inr ⟨fun h=>hf h.1,rfl⟩,aB.out⟩;clear hf l2;go_wp2_with fail;go_ret;exact HE.out
 have CD:=hide hf;clear hf;go_wp2_with fail;clear l2;refine LS.out.chk.mono ?_;rintro e w4 ⟨x,rfl,hx,b4⟩;have HE:Hid (aZ w w4 (.returned (.int .i64 x)) (rv a b)):=⟨x,rfl,hx.elim (fun h=>.inl ⟨⟨CD.out,h.1⟩,h.2⟩) (fun h=>.inr ⟨fun k=>h.1 k.2,h.2⟩),aB.out.trans (b4.mono aB.out.size)⟩;clear b4 hx;go_wp2_with fail;go_ret;exact HE.out
end
section
open Go.RowKit
structure Ab where
 L:List K.En
 P:Pst
 R:List Rp
def ab (s:Fc):Ab:=⟨s.es,s.p.P,plR s.rs⟩
def I9 (y:Rp):Prop:=fP y.1=true/\lH y.2
def tI (r:Rp) (e:K.En):Bool:=(decide (r.1.size=0) || (r.1.toList == e.sku.toList)) && inB r.2 e
def fW (R:List Rp) (e:K.En):Prop:=∀ r∈R,tI r e=false
theorem zal (R:List Rc) (e:K.En):cW R e=true↔fW (plR R) e:=by
 unfold cW fW;rw [Bool.not_eq_true',List.any_eq_false];constructor
 ·intro h r hr;obtain ⟨x,hx,rfl⟩:=List.mem_map.1 hr;exact Bool.eq_false_iff.2 (h x hx)
 ·intro h x hx;exact Bool.eq_false_iff.1 (h (rck x) (List.mem_map.2 ⟨x,hx,rfl⟩))
structure FmA (x:Ab):Prop where
 c:K.chk x.L=0
 p:aj x.P
 r:(∀ y∈x.R,I9 y)/\Srt ck x.R
 h:∀ e∈x.L,inB x.P e=true
 w:∀ y∈x.R,¬ wiP y.2 x.P
 f:∀ e∈x.L,fW x.R e
theorem zbk {w:World} {s:Fc} (hF:aV w s):aK s↔FmA (ab s):=by
 have hl:=hF.es.1;have hr:=hF.rs.len;constructor
 ·rintro ⟨⟨h1,h2,h3⟩,h4,h5,h6⟩;rw [<- hr] at h3;obtain ⟨h7,h8⟩:=xS.1 h3;refine ⟨(jl hl).2 h1,h2,⟨fun y hy=>?_,h8⟩,h4,fun y hy=>?_,fun e he=>(zal _ _).1 (h6 e he)⟩
  ·obtain ⟨x,hx,rfl⟩:=List.mem_map.1 hy;exact h7 x hx
  ·obtain ⟨x,hx,rfl⟩:=List.mem_map.1 hy;exact h5 x hx
 ·intro h;refine ⟨⟨(jl hl).1 h.c,h.p,?_⟩,h.h,fun r hr=>h.w (rck r) (List.mem_map.2 ⟨r,hr,rfl⟩),fun e he=>(zal _ _).2 (h.f e he)⟩;rw [<- hr];exact xS.2 ⟨fun r hr=>h.r.1 (rck r) (List.mem_map.2 ⟨r,hr,rfl⟩),h.r.2⟩
def enD (r:Nat) (n:Int):K.En:=⟨(r:Int),n,⟨#[]⟩,0⟩
theorem zcR {P:Pst} {r:Nat} (hr:r < 16) {n:Int}:inB P (enD r n)=true↔mem (ae P r) n:=by
 rw [qd];unfold cB enD
 have h:V.isR (r:Int)=true:=by simp [V.isR];omega
 simp [h]
theorem zcl {A P:Pst}:wiP A P↔∀ e,inB A e=true -> inB P e=true:=by
 constructor
 ·intro h e he;rw [qd] at he ⊢;obtain ⟨h1,h2⟩:=he
  have h4:0 <= e.rep/\e.rep < 16:=by simpa [V.isR] using h1
  exact ⟨h1,h _ (by show e.rep.toNat < 16;omega) _ h2⟩
 ·intro h r hr n hm;exact (zcR hr).1 (h (enD r n) ((zcR hr).2 hm))
theorem zhX {P Q:Pst} (hp:aj P) (hq:aj Q) (h:∀ e,inB P e=true↔inB Q e=true):P=Q:=
 (zW.2 hp:af (ae P) P).unique (zW.2 hq:af (ae Q) Q) fun r hr n=>by
  rw [<- zcR hr,<- zcR hr];exact h _
structure JnA (x y z:Ab):Prop where
 a:K.Asc z.L
 l:∀ e,e∈z.L↔gW x.L y.L x.P y.P e/\fW x.R e/\fW y.R e
 p:aj z.P
 d:∀ e,inB z.P e=true↔inB x.P e=true∨inB y.P e=true
 s:Srt ck z.R
 r:∀ q,q∈z.R↔(q∈x.R∨q∈y.R)/\¬ wiP q.2 z.P
theorem zfw {x y:Ab} (h1:x.L=y.L) (h2:x.P=y.P) (h3:x.R=y.R):x=y:=by
 cases x;cases y;simp_all
theorem JnA.uniq {x y z z':Ab} (h:JnA x y z) (k:JnA x y z'):z=z':=by
 have hP:z.P=z'.P:=zhX h.p k.p fun e=>(h.d e).trans (k.d e).symm;refine zfw (K.bg h.a k.a fun e=>(h.l e).trans (k.l e).symm) hP (Srt.uniq jG h.s k.s fun q=>?_);rw [h.r,k.r,hP]
theorem zbh {A B:List K.En} {P O:Pst} {e:K.En}:gW A B P O e↔gW B A O P e:=or_comm
theorem JnA.comm {x y z:Ab} (h:JnA x y z):JnA y x z:=
 ⟨h.a,fun e=>(h.l e).trans ⟨fun k=>⟨zbh.1 k.1,k.2.2,k.2.1⟩,fun k=>⟨zbh.1 k.1,k.2.2,k.2.1⟩⟩,h.p,fun e=>(h.d e).trans or_comm,h.s,fun q=>(h.r q).trans ⟨fun k=>⟨k.1.symm,k.2⟩,fun k=>⟨k.1.symm,k.2⟩⟩⟩
theorem zfl {P:Pst} {a b:Pv} (h:af (aw [a,b]) P) (e:K.En):inB P e=true↔inB a.P e=true∨inB b.P e=true:=by
 rw [qd,qd,qd];unfold cB;by_cases h1:V.isR e.rep=true
 ·have h4:0 <= e.rep/\e.rep < 16:=by simpa [V.isR] using h1
  have hr:e.rep.toNat < 16:=by omega
  simp only [h1,true_and];rw [qf h _ hr,j6];simp
 ·simp [h1]
theorem zhD {s:Fc} {w:World} (hF:aV w s) (h:aK s):K.chk s.es=0:=(jl hF.es.1).2 h.1.1
theorem zfS {wa wb:World} {a b s:Fc} {er:Int} (hA:aV wa a) (hB:aV wb b) (h:SjD a b s er):(¬ (aK a/\aK b)/\er=1/\s=fz0)∨((aK a/\aK b)/\K.cu (a.es++b.es)/\er=10/\s=fz0)∨((aK a/\aK b)/\¬ K.cu (a.es++b.es)/\er=0/\JnA (ab a) (ab b) (ab s)):=by
 rcases h with h | ⟨hf,Z,e,hm,h⟩
 ·exact .inl h
 right;rcases hm with ⟨h1,-,rfl⟩ | ⟨h1,h2,-,rfl⟩ | ⟨h1,h2,rfl,h3,h4⟩
 ·refine absurd ⟨?_,?_,hf.1.1.2.1,hf.2.1.2.1⟩ h1
  ·exact zhD hA hf.1
  ·exact zhD hB hf.2
 ·rcases h with ⟨-,rfl,rfl⟩ | ⟨h,-⟩
  ·exact .inl ⟨hf,h2,rfl,rfl⟩
  ·cases h
 ·rcases h with ⟨h,-⟩ | ⟨-,rfl,U,hU,h5,h6,h7⟩
  ·exact absurd rfl h
  refine .inr ⟨hf,h2,rfl,?_,fun e=>?_,?_,zfl h6,?_,fun q=>?_⟩
  ·show K.Asc s.es
   rw [h5];exact h3.sublist List.filter_sublist
  ·show e∈s.es↔_
   rw [h5,List.mem_filter,h4,zal];refine and_congr_right fun _=>?_;constructor
   ·intro k;exact ⟨fun r hr=>k r ((hU.1.2 r).2 (.inl hr)),fun r hr=>k r ((hU.1.2 r).2 (.inr hr))⟩
   ·intro k r hr;exact ((hU.1.2 r).1 hr).elim (k.1 r) (k.2 r)
  ·exact zW.1 h6.canon
  ·show Srt ck (plR s.rs)
   rw [h7.2];exact List.Pairwise.sublist List.filter_sublist hU.1.1
  ·show q∈plR s.rs↔_
   rw [h7.2,List.mem_filter,hU.1.2];refine and_congr_right fun _=>?_;unfold waitB;simp;rfl
end
section
open Go.RowKit
theorem vm {R:List K.En} (h:K.Asc R) {x y:K.En} (hx:x∈R) (hy:y∈R) (hs:K.al x y=true):x=y:=
 Classical.byContradiction fun ch=>K.kv h (fun _=>Iff.rfl) ⟨x,hx,y,hy,hs,ch⟩
theorem zhQ {A B:List K.En} (hc:¬ K.cu (A++B)) {x y:K.En} (hx:x∈A) (hy:y∈B) (h:K.al y x=true):y=x:=by
 refine Classical.byContradiction fun ch=>hc ⟨y,List.mem_append.2 (.inr hy),x,List.mem_append.2 (.inl hx),h,ch⟩
theorem vX {A B:List K.En} {O:Pst} (hc:¬ K.cu (A++B)) {x:K.En} (hx:x∈A):mJ B O x=true↔(inB O x=true -> x∈B):=by
 unfold mJ;rw [Bool.or_eq_true,List.any_eq_true,Bool.not_eq_true'];constructor
 ·rintro (⟨y,hy,h⟩ | h) k
  ·rw [<- zhQ hc hx hy h];exact hy
  ·rw [k] at h;cases h
 ·intro h;by_cases k:inB O x=true
  ·exact .inl ⟨x,h k,by simp [K.al]⟩
  ·exact .inr (Bool.eq_false_iff.2 k)
theorem yZ {A B:List K.En} (hc:¬ K.cu (A++B)):¬ K.cu (B++A):=fun h=>hc (zdN h)
theorem zcQ {A B:List K.En} {P O:Pst} (hc:¬ K.cu (A++B)) {e:K.En}:gW A B P O e↔(e∈A∨e∈B)/\(inB P e=true -> e∈A)/\(inB O e=true -> e∈B):=by
 unfold gW;constructor
 ·rintro (⟨h1,h2⟩ | ⟨h1,h2⟩)
  ·exact ⟨.inl h1,fun _=>h1,(vX hc h1).1 h2⟩
  ·exact ⟨.inr h1,(vX (yZ hc) h1).1 h2,fun _=>h1⟩
 ·rintro ⟨h1 | h1,h2,h3⟩
  ·exact .inl ⟨h1,(vX hc h1).2 h3⟩
  ·exact .inr ⟨h1,(vX (yZ hc) h1).2 h2⟩
theorem FmA.asc {x:Ab} (h:FmA x):K.Asc x.L:=K.ve h.c
theorem FmA.ce {x:Ab} (h:FmA x):∀ e∈x.L,K.ceE e=0:=xZ h.c
def NoC (x y:Ab):Prop:=¬ K.cu (x.L++y.L)
theorem zi0 {x y:Ab} (hx:K.Asc x.L) (hy:K.Asc y.L) (h:∀ a∈x.L,∀ b∈y.L,K.al a b=true -> a=b):NoC x y:=by
 rintro ⟨a,ha,b,hb,hs,ch⟩
 have sw:∀ p q:K.En,K.al p q=true -> K.al q p=true:=fun p q h=>by
  unfold K.al at h ⊢;rw [Bool.and_eq_true,beq_iff_eq,beq_iff_eq] at h ⊢;exact ⟨h.1.symm,h.2.symm⟩
 rcases List.mem_append.1 ha with ha | ha <;> rcases List.mem_append.1 hb with hb | hb
 ·exact ch (vm hx ha hb hs)
 ·exact ch (h a ha b hb hs)
 ·exact ch (h b hb a ha (sw _ _ hs)).symm
 ·exact ch (vm hy ha hb hs)
theorem zcG {x:Ab} (h:FmA x):NoC x x:=zi0 h.asc h.asc fun _ ha _ hb hs=>vm h.asc ha hb hs
theorem NoC.at {x y:Ab} (h:NoC x y) {a b:K.En} (ha:a∈x.L) (hb:b∈y.L) (hs:K.al a b=true):a=b:=
 Classical.byContradiction fun ch=>h ⟨a,List.mem_append.2 (.inl ha),b,List.mem_append.2 (.inr hb),hs,ch⟩
theorem JnA.live {x y z:Ab} (h:JnA x y z) (hc:NoC x y) (e:K.En):e∈z.L↔((e∈x.L∨e∈y.L)/\(inB x.P e=true -> e∈x.L)/\(inB y.P e=true -> e∈y.L))/\fW x.R e/\fW y.R e:=by
 rw [h.l,zcQ hc]
theorem JnA.from_ {x y z:Ab} (h:JnA x y z) {e:K.En} (he:e∈z.L):e∈x.L∨e∈y.L:=((h.l e).1 he).1.imp And.left And.left
theorem zib {x y z:Ab} (h:JnA x y z) {e:K.En} (h1:fW x.R e) (h2:fW y.R e):fW z.R e:=fun q hq=>((h.r q).1 hq).1.elim (h1 q) (h2 q)
theorem zja {q:Rp} {e:K.En} (h:tI q e=true):inB q.2 e=true:=by unfold tI at h;rw [Bool.and_eq_true] at h;exact h.2
theorem JnA.form {x y z:Ab} (h:JnA x y z) (hx:FmA x) (hy:FmA y):FmA z:=by
 refine ⟨K.zax h.a fun e he=>(h.from_ he).elim (hx.ce e) (hy.ce e),h.p,⟨fun q hq=>((h.r q).1 hq).1.elim (hx.r.1 q) (hy.r.1 q),h.s⟩,fun e he=>(h.d e).2 ((h.from_ he).imp (hx.h e) (hy.h e)),fun q hq=>((h.r q).1 hq).2,fun e he=>?_⟩;have:=(h.l e).1 he;exact zib h this.2.1 this.2.2
theorem zcN {x y:Ab} (hx:FmA x) (hy:FmA y) (hc:NoC x y):JnA x y y↔(∀ e,inB x.P e=true -> inB y.P e=true)/\(∀ q∈x.R,¬ wiP q.2 y.P -> q∈y.R)/\(∀ e∈y.L,inB x.P e=true -> e∈x.L)/\∀ e∈y.L,fW x.R e:=by
 constructor
 ·intro h;refine ⟨fun e he=>(h.d e).2 (.inl he),fun q hq hw=>(h.r q).2 ⟨.inl hq,hw⟩,fun e he=>?_,fun e he=>?_⟩
  ·exact ((h.live hc e).1 he).1.2.1
  ·exact ((h.live hc e).1 he).2.1
 ·rintro ⟨h1,h2,h3,h4⟩;refine ⟨hy.asc,fun e=>?_,hy.p,fun e=>⟨.inr,fun k=>k.elim (h1 e) id⟩,hy.r.2,fun q=>⟨fun k=>⟨.inr k,hy.w q k⟩,fun k=>k.1.elim (fun m=>h2 q m k.2) id⟩⟩;rw [zcQ hc];constructor
  ·intro k;exact ⟨⟨.inr k,h3 e k,fun _=>k⟩,h4 e k,hy.f e k⟩
  ·rintro ⟨⟨k1 | k1,-,k3⟩,-⟩
   ·exact k3 (h1 e (hx.h e k1))
   ·exact k1
theorem le_refl {x:Ab} (hx:FmA x):JnA x x x:=(zcN hx hx (zcG hx)).2 ⟨fun _ h=>h,fun _ h _=>h,fun _ h _=>h,hx.f⟩
theorem le_trans {x y z:Ab} (hx:FmA x) (hy:FmA y) (hz:FmA z) (c1:NoC x y) (c2:NoC y z) (c3:NoC x z) (h1:JnA x y y) (h2:JnA y z z):JnA x z z:=by
 obtain ⟨a1,a2,a3,a4⟩:=(zcN hx hy c1).1 h1;obtain ⟨b1,b2,b3,b4⟩:=(zcN hy hz c2).1 h2;refine (zcN hx hz c3).2 ⟨fun e h=>b1 e (a1 e h),fun q hq hw=>?_,fun e he hi=>a3 e (b3 e he (a1 e hi)) hi,fun e he q hq=>?_⟩
 ·exact b2 q (a2 q hq fun k=>hw (zcl.2 fun e h=>b1 e (zcl.1 k e h))) hw
 ·refine Bool.eq_false_iff.2 fun DK=>?_;by_cases hw:wiP q.2 y.P
  ·have hi:=zcl.1 hw e (zja DK);have:=a4 e (b3 e he hi) q hq;rw [DK] at this;cases this
  ·have:=b4 e he q (a2 q hq hw);rw [DK] at this;cases this
def ab0:Ab:=⟨[],pv0.P,[]⟩
theorem zjw (e:K.En):inB pv0.P e=false:=by
 refine Bool.eq_false_iff.2 fun h=>?_;unfold inB at h;simp [pv0] at h;omega
end
section
open Go.RowKit
theorem EE (w:World) (f g:Fc):∃ wk,(w.alloc (.cells (FaC (mkF f)) 31)).alloc (.cells (FaC (mkF g)) 31)=wk/\Hid (aE wk w.heap.size (mkF f))/\Hid (aE wk (w.heap.size+1) (mkF g))/\Hid (Below w.heap.size w wk):=by
 have b1:=ze w (.cells (FaC (mkF f)) 31);have b2:=ze (w.alloc (.cells (FaC (mkF f)) 31)) (.cells (FaC (mkF g)) 31);have X2:=qr (w.alloc (.cells (FaC (mkF f)) 31)) (mkF g);rw [World.size_alloc] at X2;exact ⟨_,rfl,(qr w (mkF f)).below b2,X2,b1.trans (b2.mono b1.size)⟩
def EqS (f g:Fc):Prop:=f.es=g.es/\f.p.P=g.p.P/\plR f.rs=plR g.rs
attribute [local go_sem ↓] zq zp zL zK K.zx K.zw K.qz
attribute [local go_sem] zi zj zk zm K.kV K.zI K.zt
end
section
open Go.RowKit
def EnU (A B R:List K.En) (ok:Bool):Prop:=(ok=false/\K.cu (A++B))∨(ok=true/\¬ K.cu (A++B)/\K.Asc R/\∀ e,e∈R↔e∈A∨e∈B)
def EnG (w w':World) (x:Ending) (A B:List K.En):Prop:=∃ o q k R ok,x = .returned (.tuple #[.slice o q k,.bool ok])/\K.aD w' o q k R/\Below w.heap.size w w'/\EnU A B R ok
structure EnM (A B:List K.En) (i j:Nat) (D:List K.En):Prop where
 p:K.Asc (D++A.drop i)
 q:K.Asc (D++B.drop j)
 m:∀ e,(e∈D∨e∈A.drop i∨e∈B.drop j)↔e∈A∨e∈B
 l:D.length <= i+j
theorem EnM.symm {A B D:List K.En} {i j:Nat} (h:EnM A B i j D):EnM B A j i D:=
 ⟨h.q,h.p,fun e=>by have:=h.m e;constructor <;> intro k <;> (have t1:=this.1;have t2:=this.2;grind),by have:=h.l;omega⟩
theorem EnM.none {B:List K.En} {j:Nat} {x:K.En} (hj:j=B.length):∀ y∈B.drop j,K.ahead x y=true:=fun y hy=>by
 rw [hj,List.drop_length] at hy;cases hy
attribute [local go_sem ↓] zV zU K.zx K.zw
attribute [local go_sem] zC zN zS ql K.zI K.zt K.zF K.xu
end
section
open Go.RowKit
section
attribute [local go_sem ↓] zq zp zZ zY
attribute [local go_sem] zJ zQ qe
end
def RcG (w w':World) (x:Ending) (A B:List Rc):Prop:=∃ (h:Hs) (F:List Rc),x = .returned (HsV h)/\RcS w' h.o h.n h.c F/\Below w.heap.size w w'/\iQ A B F/\h.n <= A.length+B.length
attribute [local go_sem ↓] zq zp zZ zY
attribute [local go_sem] zJ zQ qe
end
section
open Go.RowKit
attribute [local go_sem ↓] zq zp zB zz xw x4
attribute [local go_sem] zi zj zk zm zv qR jp qN
end
end Go.Proofs.YtjffpimfngdggaaGreat
namespace Go.Proofs.YtjffpimfngdggaaGreat.K
section
open Go.RowKit
attribute [local go_sem ↓] zx zw xE
attribute [local go_sem] zI zt zF xu
attribute [local go_sem ↓] qz xP
end
section
open Go.RowKit Go.Lib
attribute [local go_sem ↓] zx zw
attribute [local go_sem] zI zt zF xu
end
end Go.Proofs.YtjffpimfngdggaaGreat.K
namespace Go.Proofs.YtjffpimfngdggaaGreat
section
open Go.RowKit
theorem aF.ne {W:World} {g:Nat} {m:cq} (A:aF W g m) {a:Addr} {v:Value} (hc:W.cell? a=some v) (hv:∀ o n c,v ≠ .slice o n c):a.block≠g:=by
 rintro rfl;obtain ⟨b,o,k⟩:=a;unfold aF at A;have h:=World.cell?_spot hc;obtain rfl:k=none:=h;simp only [World.cell?,A] at hc;rcases o with _ | _ | _ | _ | o <;> simp [FaC] at hc
 all_goals exact absurd hc.symm (hv _ _ _)
theorem xm {W:World} {g:Nat} {a:Addr} (c:Array Value) (h:a.block≠g):(W.setRow g c).cell? a=W.cell? a:=by
 unfold World.cell?;rw [setRow_other _ _ _ _ h]
theorem ze6 {W:World} {g:Nat} {m:cq} {ao:Option Addr} {n cap:Nat} {L:List K.En} (A:aF W g m) (h:K.aD W ao n cap L) (c:Array Value):K.aD (W.setRow g c) ao n cap L:=by
 refine ⟨h.1,h.2.1,fun ad e t ht=>?_,h.2.2.2⟩;have B:=h.2.2.1 ad e t ht;have hb:(ad.add (t * 4)).block≠g:=A.ne B.c0 (fun _ _ _ h=>by cases h);exact ⟨by rw [xm c hb];exact B.c0,by rw [xm c (by rw [zs];exact hb)];exact B.c1,by rw [xm c (by rw [zs];exact hb)];exact B.c2,by rw [xm c (by rw [zs];exact hb)];exact B.c3⟩
theorem za2 {W:World} {g:Nat} {m:cq} {p:Pv} (A:aF W g m) (h:am W p) (c:Array Value):am (W.setRow g c) p:=by
 refine ⟨⟨h.vec.1,h.vec.2.1,fun ad e t ht=>?_⟩,⟨h.cloud.len,h.cloud.nil,fun ad e t ht=>?_,h.cloud.big,h.cloud.cap⟩,h.big⟩
 ·have B:=h.vec.2.2 ad e t ht;rw [xm c (A.ne B (fun _ _ _ h=>by cases h))];exact B
 ·have B:=h.cloud.cell ad e t ht;have hb:=A.ne B.c0 (fun _ _ _ h=>by cases h);exact ⟨by rw [xm c hb];exact B.c0,by rw [xm c (by rw [zs];exact hb)];exact B.c1,by rw [xm c (by rw [zs];exact hb)];exact B.c2⟩
theorem zf3 {W:World} {g:Nat} {m:cq} {ao:Option Addr} {n cap:Nat} {L:List Rc} (A:aF W g m) (h:RcS W ao n cap L) (c:Array Value):RcS (W.setRow g c) ao n cap L:=by
 refine ⟨h.len,h.nil,fun ad ha t ht=>?_,fun r hr=>⟨za2 A (h.ok r hr).1 c,(h.ok r hr).2⟩,h.big⟩;have B:=h.at_ ad ha t ht;have hb:=A.ne B.c0 (fun _ _ _ h=>by cases h);exact ⟨by rw [xm c hb];exact B.c0,by rw [xm c (by rw [zs];exact hb)];exact B.c1,by rw [xm c (by rw [zs];exact hb)];exact B.c2⟩
theorem aV.offF {W:World} {g:Nat} {m:cq} {f:Fc} (h:aV W f) (A:aF W g m) (c:Array Value):aV (W.setRow g c) f:=⟨ze6 A h.es c,za2 A h.p c,zf3 A h.rs c⟩
def FcE (w w':World) (e:Ending) (D:Fc -> Int -> Prop):Prop:=∃ f er,e = .returned (.tuple #[FaV (mkF f),.int .i64 er])/\aV w' f/\FcR f/\Below w.heap.size w w'/\D f er
attribute [local go_sem ↓] zq zp zB zz xw x4
attribute [local go_sem] zi zj zk zm zv qR jp qN
end
section
open Go.RowKit
theorem kD (a b:Option Addr) (n c m d:Nat) (p:Pv) (w:World):(lu #[(0,.slice a n c),(1,.agg (PC p)),(2,.slice b m d)]).run Tryz.prog w = .ok (.agg (FaC (mkF ⟨a,n,c,[],p,b,m,d,[]⟩))) w:=by kernel_rfl
def ExA (w w':World) (x:Ending) (s:Fc):Prop:=∃ q:Pv,x = .returned (FaV (mkF ⟨s.ao,s.an,s.ac,s.es,q,s.ro,s.rn,s.rc,s.rs⟩))/\aV w' ⟨s.ao,s.an,s.ac,s.es,q,s.ro,s.rn,s.rc,s.rs⟩/\Below w.heap.size w w'/\∃ D,af (cr (s.es.map aa)) D/\∃ C:Nat -> List Rn,(∀ r,r < 16 -> cH (ae s.p.P r) (ae D r) (C r))/\af C q.P
attribute [local go_sem ↓] zq zp zB zz zL zK xw
attribute [local go_sem] zi zj zk zm zv kD
end
section
open Go.RowKit
def UnD (f g u:Fc):Prop:=K.Asc u.es/\(∀ e,e∈u.es↔e∈f.es∨e∈g.es)/\af (aw [f.p,g.p]) u.p.P/\iQ f.rs g.rs u.rs/\u.rn <= f.rn+g.rn
def UnG (w w':World) (x:Ending) (f g:Fc):Prop:=(K.cu (f.es++g.es)/\x = .returned (.tuple #[FaV (mkF fz0),.bool false])/\Below w.heap.size w w')∨(¬ K.cu (f.es++g.es)/\∃ u,x = .returned (.tuple #[FaV (mkF u),.bool true])/\aV w' u/\Below w.heap.size w w'/\UnD f g u)
attribute [local go_sem ↓] zq zp zB zz xw x4
attribute [local go_sem] zi zj zk zm zv qN kD zE qR
end
section
open Go.RowKit
attribute [local go_sem ↓] zq zp zB zz zV zU K.zx K.zw zZ zY
attribute [local go_sem] zi zj zk zm zv zC zN zS ql K.zI K.zt K.zF K.xu zJ zQ qe
def lvB (P:Pst) (R:List Rc) (e:K.En):Bool := !(inB P e) && cW R e
end
section
open Go.RowKit
def StD (f s:Fc):Prop:=s.es=f.es.filter (lvB f.p.P f.rs)/\dj f s.p.P/\iA f.rs s.p.P s.rs
attribute [local go_sem ↓] zq zp zB zz zL zK qX x4
attribute [local go_sem] zi zj zk zm zv qN xH qD zE
end
section
open Go.RowKit
def exf (s:Fc) (q:Pv):Fc:=⟨s.ao,s.an,s.ac,s.es,q,s.ro,s.rn,s.rc,s.rs⟩
def ExQ (s:Fc) (q:Pv):Prop:=∃ D,af (cr (s.es.map aa)) D/\∃ C:Nat -> List Rn,(∀ r,r < 16 -> cH (ae s.p.P r) (ae D r) (C r))/\af C q.P
theorem zaj {P:Pst} {e:K.En} (h:inB P e=true):0 <= e.rep/\e.rep < 16:=by
 have h1:=((qd P e).1 h).1;simpa [V.isR] using h1
theorem yg {P:Pst} {e:K.En} (h:0 <= e.rep/\e.rep < 16):inB P e=true↔mem (ae P e.rep.toNat) e.num:=by
 rw [qd];unfold cB
 have h1:V.isR e.rep=true:=by simp [V.isR];omega
 simp [h1]
theorem zbj {u:Fc} {P:Pst} (h:dj u P) (e:K.En):inB P e=true↔(okD (aa e)=true/\∃ x∈u.es,aa x=aa e)∨inB u.p.P e=true:=by
 by_cases h0:0 <= e.rep/\e.rep < 16
 ·rw [yg h0,yg h0,h.2 _ (by omega) e.num,xW];refine or_congr_left ?_;constructor
  ·rintro ⟨d,hd,k1,k2,k3⟩;obtain ⟨x,hx,rfl⟩:=List.mem_map.1 hd
   have ed:aa x=aa e:=by
    unfold aa at k2 k3 ⊢;simp only at k2 k3;congr 1;omega
   exact ⟨ed ▸ k1,x,hx,ed⟩
  ·rintro ⟨h1,x,hx,h2⟩;exact ⟨aa x,List.mem_map.2 ⟨x,hx,rfl⟩,h2 ▸ h1,by rw [h2];show e.rep=((e.rep.toNat:Nat):Int);omega,by rw [h2];rfl⟩
 ·constructor
  ·intro h;exact absurd (zaj h) h0
  ·rintro (⟨h,-⟩ | h)
   ·exfalso;unfold okD aa at h;simp only [Bool.and_eq_true] at h;have h1:=h.1;simp [V.isR] at h1;omega
   ·exact absurd (zaj h) h0
end
section
open Go.RowKit
attribute [local go_sem ↓] zq zp zB zz
attribute [local go_sem] zi zj zk zm
def rX (f:Fc):List K.En:=(f.es.filter (pkB f.p.P false)).filter (cW f.rs)
def LvA (w w':World) (x:Ending) (f:Fc):Prop:=(av f/\K.dh w w' x (rX f) 0)∨(¬ av f/\K.dh w w' x [] 1)
theorem y6 {L:List K.En} (h:K.chk L=0) (p:K.En -> Bool):K.chk (L.filter p)=0:=
 K.zax (List.Pairwise.filter p (K.ve h)) (fun e he=>xZ h e (List.mem_filter.1 he).1)
theorem dh.mono0 {w w0 w':World} {x:Ending} {L:List K.En} {er:Int} (h:K.dh w w' x L er) (hb:Below w0.heap.size w0 w):K.dh w0 w' x L er:=by
 obtain ⟨ao,n,c,h1,h2,h3,h4⟩:=h;exact ⟨ao,n,c,h1,h2,hb.trans (h3.mono hb.size),fun ad e=>Nat.le_trans hb.size (h4 ad e)⟩
theorem zaL (f:Fc) (w:World) (hF:aV w f) (hwt:∀ s,wt (ofS f.rs s) <= 8796093022207) (mw:f.rn * (f.an+1) <= 8796093022207) :
  Calls Tryz.prog 25 #[FaV (mkF f)] w fun e w'=>LvA w w' e f:=by
 have HX:=hide (qi w (mkF f));have aq:=hide (ze w (.cells (FaC (mkF f)) 29));have HS:=hide (hF.below aq.out);have HW:=hide (And.intro hwt mw);clear hF hwt mw;obtain ⟨wk,aY⟩:∃ wk,w.alloc (.cells (FaC (mkF f)) 29)=wk:=⟨_,rfl⟩;obtain ⟨G,hG⟩:∃ G,w.heap.size=G:=⟨_,rfl⟩;rw [aY] at HX aq HS;rw [hG] at HX;obtain ⟨c0,c3⟩:=HX.out.cs;have lp:=zl HX.out.past;go_enter Tryz.func25,Tryz.ntmps25;go_wp2_with fail;clear aY hG;refine (jB f.ao f.an f.ac f.es f.p _ HS.out.es HS.out.p).mono ?_;rintro e w1 h1;rcases h1 with ⟨h1,h2,ao,n,c,rfl,S1,b1,n1⟩ | ⟨h1,ao,n,c,rfl,S1,b1,n1⟩;rotate_left
 ·have HE:Hid (LvA w w1 (.returned (.tuple #[.slice none 0 0,.int .i64 1])) f):=.inr ⟨fun h=>h1 ⟨(vG HS.out.es.1).2 h.1,h.2.1⟩,none,0,0,rfl,zcW _,aq.out.trans (b1.mono aq.out.size),fun ad e=>(by cases e)⟩;clear h1 S1 b1 n1 c0 c3 lp;go_wp2_with fail;go_ret2;exact HE.out
 have HC:Hid (K.chk f.es=0/\aj f.p.P):=⟨h1,h2⟩;have aN:=wTr aq b1;have lQ:=hide (HX.out.below b1);have dm:=hide (HS.out.below b1);have nA:=hide S1;have cF:(f.es.filter (pkB f.p.P false)).length=n:=S1.1
 have ip:n <= f.an:=by rw [<- cF,<- HS.out.es.1];exact List.length_filter_le _ _
 have HM:Hid (f.rn * (n+1) <= 8796093022207):=Nat.le_trans (Nat.mul_le_mul_left _ (by omega)) HW.out.2;clear h1 h2 S1 b1 n1 c0 c3 lp cF ip;obtain ⟨-,c3⟩:=lQ.out.cs;go_wp2_with fail;clear c3;refine (yx ao f.ro n c f.rn f.rc _ f.rs _ nA.out dm.out.rs HW.out.1 HM.out).mono ?_;rintro e w2 h2;rcases h2 with ⟨-,h2,h3⟩ | ⟨h2,h3⟩
 ·have HE:Hid (LvA w w2 e f):=.inl ⟨⟨(vG HS.out.es.1).1 HC.out.1,HC.out.2,h2⟩,dh.mono0 h3 aN.out⟩;obtain ⟨a2,n2,c2,rfl,-,-,-⟩:=h3;clear h2;go_wp2_with fail;go_ret2;exact HE.out
 ·have HE:Hid (LvA w w2 e f):=.inr ⟨fun h=>h2 ⟨y6 HC.out.1 _,h.2.2⟩,dh.mono0 h3 aN.out⟩;obtain ⟨a2,n2,c2,rfl,-,-,-⟩:=h3;clear h2;go_wp2_with fail;go_ret2;exact HE.out
end
end Go.Proofs.YtjffpimfngdggaaGreat
