import Derived.Test.YtjffpimfngdggaaGreatFf28
import Derived.Deep.CutRange
import Derived.ProofKit
import Derived.OpenShut
import Derived.Lib.SmallJoins
import Derived.HandedShaped
import Derived.SizedLaws
import Derived.ChangeMaps5
import Derived.JoinedCond
set_option maxRecDepth 100000
set_option maxHeartbeats 4000000
namespace Go.Proofs.YtjffpimfngdggaaGreat
section
open Go.RowKit Go.Maps Go.Sort
theorem zfA (a b:Pv):Array.foldl (fun cs x=>cs.setIfInBounds (2+x.snd) x.fst) (Array.foldl (fun cs x=>cs.setIfInBounds x.snd x.fst) #[(PC pv0)[0]!,(PC pv0)[1]!,(PC pv0)[0]!,(PC pv0)[1]!] (PC a).zipIdx 0 2) (PC b).zipIdx 0 2=#[.slice a.vo a.vn a.vc,.slice a.co a.cn a.cc,.slice b.vo b.vn b.vc,.slice b.co b.cn b.cc]:=rfl
attribute [local go_sem ↓] zq zp
attribute [local go_sem] zi zk zI zfA
def oW (L:List K.En) (P Q:Pst):Prop:=∃ D:Pst,af (cq (L.map ae)) D/\∃ C:Nat -> List Rn,(∀ r,r < 16 -> cB (aa P r) (aa D r) (C r))/\af C Q
theorem yh (ao:Option Addr) (n cap:Nat) (L:List K.En) (p:Pv) (w:World) (hS:K.aD w ao n cap L) (hc:K.chk L=0) (hP:am w p) :
  Calls Tryz.prog 169 #[.slice ao n cap,PV p] w fun x w'=>ct w w' x (oW L p.P):=by
 have b1:=ze w (.cells (PC p) 26);have b2:=ze (w.alloc (.cells (PC p) 26)) (.cells (PC pv0) 26);have dT:=hide ((zm w p).below b2);have X2:=zm (w.alloc (.cells (PC p) 26)) pv0;rw [World.size_alloc] at X2;have eN:=hide X2;have al:=hide (tmq b1 b2);have HS:=hide (hS.below al);have HP:=hide (hP.below al);have HC:=hide hc;clear b1 b2 X2 hS hP hc;obtain ⟨wk,aL⟩:∃ wk,(w.alloc (.cells (PC p) 26)).alloc (.cells (PC pv0) 26)=wk:=⟨_,rfl⟩;obtain ⟨G,HG⟩:∃ G,Hid (w.heap.size=G):=⟨_,rfl⟩;have hG:=HG.out;rw [aL] at dT eN al HS HP;rw [hG] at dT eN;go_enter Tryz.func169,Tryz.ntmps169;go_wp2_with fail;clear aL hG;refine (zdt ao n cap L _ HS).mono ?_;rintro x w3 ⟨b3,⟨-,d,rfl,Sd,Nd,Cd⟩ | ⟨fR,-⟩⟩;rotate_left
 ·exact absurd HC.out fR
 obtain ⟨g5,iY⟩:∃ g5,w3.heap.size=g5:=⟨_,rfl⟩;obtain ⟨w5,cd,X5,b5,s5⟩:=iP w3 d g5 iY;have b35:=tmq b3 b5;have gK:Hid (av w5 g5 d/\am w5 d):=⟨X5,Sd.below b5⟩;have iI:Hid (av w5 G p/\am w5 p/\av w5 (G+1) pv0/\Below w.heap.size w w5/\G+1 < w5.heap.size):=⟨dT.below b35,HP.below b35,eN.below b35,tmq al b35,Nat.lt_of_lt_of_le eN.lt b35.size⟩;have CZ:=hide Cd;clear Sd Nd Cd X5 b3 b5 b35 s5 dT eN HP HS al
 have l1:=zj iI.1.at
 have l2:=zj gK.1.at
 go_wp2_with fail;clear cd iY l1 l2;refine (jH p d _ iI.2.1 gK.2).mono ?_;rintro x w6 ⟨q,rfl,Sq,Nq,b6,Cq⟩;have X6:=iI.2.2.1.below b6;have t6:=qM (p':=q) X6;have tG:Hid (av (w6.setRow (G+1) (PC q)) (G+1) q):=setRow_heap _ _ _ _ _ _ X6
 have HE:Hid (ct w (w6.setRow (G+1) (PC q)) (.returned (PV q)) (oW L p.P)):=by
  refine ⟨q,rfl,x7 (g:=some (G+1)) Sq (fun k e=>by obtain rfl:=Option.some.inj e;exact dI.new Nq iI.2.2.2.2) (fun r _ hr=>setRow_other _ _ _ _ (fun e=>hr (by rw [e]))),Nq.mono iI.2.2.2.1.size,zh (iI.2.2.2.1.trans (b6.mono iI.2.2.2.1.size)) (by have:=HG.out;omega),d.P,CZ.out,Cq⟩
 clear Sq Nq b6 Cq X6;go_wp2_with fail;refine bodyPost_ret (eR rfl rfl tG) rfl ?_;exact HE.out
theorem zg0 {L:List K.En} {P:Pst} (h:af (cq (L.map ae)) P) (e:K.En) (he:okD (ae e)=true):inB P e=L.any (fun y=>K.aq y e):=by
 have h3:=he;unfold okD ae at h3;simp only [Bool.and_eq_true,decide_eq_true_eq] at h3
 have h4:0 <= e.rep/\e.rep < 16:=by simpa [V.isR] using h3.1
 have key:inB P e=true↔L.any (fun y=>K.aq y e)=true:=by
  rw [ql,List.any_eq_true];unfold cj;constructor
  ·rintro ⟨-,h2⟩;rw [zZ h _ (by show e.rep.toNat < 16;omega),xC] at h2;obtain ⟨d,hd,-,k2,k3⟩:=h2;obtain ⟨x,hx,rfl⟩:=List.mem_map.1 hd;refine ⟨x,hx,?_⟩;unfold ae at k2 k3;simp only at k2 k3;simp only [K.aq,Bool.and_eq_true,beq_iff_eq];omega
  ·rintro ⟨x,hx,h2⟩;refine ⟨h3.1,?_⟩;simp only [K.aq,Bool.and_eq_true,beq_iff_eq] at h2
   have ed:ae x=ae e:=by unfold ae;rw [h2.1,h2.2]
   rw [zZ h _ (by show e.rep.toNat < 16;omega),xC];exact ⟨ae x,List.mem_map.2 ⟨x,hx,rfl⟩,by rw [ed];exact he,by rw [ed];unfold ae;simp only;omega,by rw [ed];rfl⟩
 cases h1:inB P e <;> cases h2:L.any (fun y=>K.aq y e)
 ·rfl
 ·rw [h1,h2] at key;exact absurd (key.2 rfl) (by decide)
 ·rw [h1,h2] at key;exact absurd (key.1 rfl) (by decide)
 ·rfl
theorem zh0 {L:List K.En} {P Q:Pst} (h:oW L P Q) (e:K.En) (he:okD (ae e)=true):inB Q e=(inB P e && !L.any (fun y=>K.aq y e)):=by
 obtain ⟨D,hD,C,hC,hQ⟩:=h;rw [<- zg0 hD e he];have h3:=he;unfold okD ae at h3;simp only [Bool.and_eq_true,decide_eq_true_eq] at h3
 have h4:0 <= e.rep/\e.rep < 16:=by simpa [V.isR] using h3.1
 have hr:e.rep.toNat < 16:=by omega
 have key:inB Q e=true↔inB P e=true/\¬ inB D e=true:=by
  rw [ql,ql,ql];unfold cj;simp only [h3.1,true_and];rw [zZ hQ _ hr,(hC _ hr).2]
 cases h1:inB Q e <;> cases h2:inB P e <;> cases h5:inB D e <;> simp_all
theorem zgY {a b:Pv} {P:Pst} (h:af (aA [a,b]) P) (e:K.En) (he:okD (ae e)=true):inB P e=(inB a.P e || inB b.P e):=by
 have h3:=he;unfold okD ae at h3;simp only [Bool.and_eq_true,decide_eq_true_eq] at h3
 have h4:0 <= e.rep/\e.rep < 16:=by simpa [V.isR] using h3.1
 have hr:e.rep.toNat < 16:=by omega
 have key:inB P e=true↔inB a.P e=true∨inB b.P e=true:=by
  rw [ql,ql,ql];unfold cj;simp only [h3.1,true_and];rw [zZ h _ hr,kg];simp
 cases h1:inB P e <;> cases h2:inB a.P e <;> cases h5:inB b.P e <;> simp_all
def it (A B:List K.En) (P O:Pst) (x:K.En):Prop:=(x∈A/\nt B O x=true)∨(x∈B/\nt A P x=true)
def OkM (A B:List K.En) (P O:Pst):Prop:=K.chk A=0/\K.chk B=0/\ag P/\ag O
def MgD (A B:List K.En) (P O:Pst) (Z:List K.En) (er:Int):Prop:=(¬ OkM A B P O/\Z=[]/\er=1)∨(OkM A B P O/\K.cI (A++B)/\Z=[]/\er=10)∨(OkM A B P O/\¬ K.cI (A++B)/\er=0/\K.Asc Z/\∀ x,x∈Z↔it A B P O x)
theorem zej {A B:List K.En} (h:K.cI (A++B)):K.cI (B++A):=by
 obtain ⟨x,hx,y,hy,h1,h2⟩:=h;exact ⟨x,List.mem_append.2 (List.mem_append.1 hx).symm,y,List.mem_append.2 (List.mem_append.1 hy).symm,h1,h2⟩
theorem zdH {A:List K.En} {x:K.En} (h:x∈A):A.any (fun y=>K.aq y x)=true:=by
 rw [List.any_eq_true];exact ⟨x,h,by simp [K.aq]⟩
theorem zfd {A B U:List K.En} {P O:Pst} {a b:Pv} {J:Pst} (hA:K.chk A=0) (hB:K.chk B=0) (hU:∀ x,x∈U↔x∈A++B) (ha:oW A P a.P) (hb:oW B O b.P) (hJ:af (aA [a,b]) J) (x:K.En):x∈U.filter (pkB J false)↔it A B P O x:=by
 rw [List.mem_filter,hU x,List.mem_append];have hd:x∈A∨x∈B -> okD (ae x)=true:=fun h=>h.elim (fun h=>zdB (jT hA x h)) (fun h=>zdB (jT hB x h))
 have IR:okD (ae x)=true -> (pkB J false x=true↔((inB P x && !A.any (fun y=>K.aq y x)) || (inB O x && !B.any (fun y=>K.aq y x)))=false):=fun h=>by
  unfold pkB;rw [zgY hJ x h,zh0 ha x h,zh0 hb x h]
  cases inB P x <;> cases A.any (fun y=>K.aq y x) <;> cases inB O x <;> cases B.any (fun y=>K.aq y x) <;> decide
 unfold it nt;constructor
 ·rintro ⟨h1,h2⟩;rw [IR (hd h1),Bool.or_eq_false_iff] at h2;rcases h1 with h1 | h1
  ·refine .inl ⟨h1,?_⟩;have h3:=h2.2
   cases hx:inB O x <;> cases hy:B.any (fun y=>K.aq y x) <;> simp_all
  ·refine .inr ⟨h1,?_⟩;have h3:=h2.1
   cases hx:inB P x <;> cases hy:A.any (fun y=>K.aq y x) <;> simp_all
 ·rintro (⟨h1,h2⟩ | ⟨h1,h2⟩)
  ·refine ⟨.inl h1,(IR (hd (.inl h1))).2 ?_⟩;rw [zdH h1]
   cases hx:inB O x <;> cases hy:B.any (fun y=>K.aq y x) <;> simp_all
  ·refine ⟨.inr h1,(IR (hd (.inr h1))).2 ?_⟩;rw [zdH h1]
   cases hx:inB P x <;> cases hy:A.any (fun y=>K.aq y x) <;> simp_all
theorem zgR (W:World) (a b:Pv) (ha:am W a) (hb:am W b):fN (W.alloc (.cells #[.slice a.vo a.vn a.vc,.slice a.co a.cn a.cc,.slice b.vo b.vn b.vc,.slice b.co b.cn b.cc] 26)) (some ⟨W.heap.size,0,none⟩) 2 [a,b]:=by
 have b1:=ze W (.cells #[.slice a.vo a.vn a.vc,.slice a.co a.cn a.cc,.slice b.vo b.vn b.vc,.slice b.co b.cn b.cc] 26);have h1:=heap_alloc_new W (.cells #[.slice a.vo a.vn a.vc,.slice a.co a.cn a.cc,.slice b.vo b.vn b.vc,.slice b.co b.cn b.cc] 26);refine ⟨rfl,fun e=>(by cases e),fun ad e t p hp=>?_,fun p hp=>?_⟩
 ·obtain rfl:(⟨W.heap.size,0,none⟩:Addr)=ad:=Option.some.inj e;rw [Addr.add_lit,Nat.zero_add]
  match t,hp with
  | 0,hp=>cases hp;refine ⟨?_,?_⟩ <;> (try rw [Addr.add_lit]) <;> simp only [World.cell?,h1] <;> rfl
  | 1,hp=>cases hp;refine ⟨?_,?_⟩ <;> (try rw [Addr.add_lit]) <;> simp only [World.cell?,h1] <;> rfl
  | t+2,hp=>simp at hp
 ·rcases List.mem_cons.1 hp with rfl | hp
  ·exact ha.below b1
  ·obtain rfl:=List.mem_singleton.1 hp;exact hb.below b1
def MgA (w w':World) (x:Ending) (A B:List K.En) (P O:Pst):Prop:=∃ a n c Z er,x = .returned (.tuple #[.slice a n c,.int .i64 er])/\K.aD w' a n c Z/\Below w.heap.size w w'/\MgD A B P O Z er
theorem zfe (ao bo:Option Addr) (n cap m cap':Nat) (A B:List K.En) (p o:Pv) (w:World) (hA:K.aD w ao n cap A) (hB:K.aD w bo m cap' B) (hP:am w p) (hO:am w o) :
  Calls Tryz.prog 123 #[.slice ao n cap,PV p,.slice bo m cap',PV o] w fun x w'=>MgA w w' x A B p.P o.P:=by
 have b1:=ze w (.cells (PC p) 26);have b2:=ze (w.alloc (.cells (PC p) 26)) (.cells (PC o) 26);have dT:=hide ((zm w p).below b2);have X2:=zm (w.alloc (.cells (PC p) 26)) o;rw [World.size_alloc] at X2;have eN:=hide X2;have al:=hide (tmq b1 b2);have HA:=hide (hA.below al);have HB:=hide (hB.below al);have HP:=hide (hP.below al);have HO:=hide (hO.below al);clear b1 b2 X2 hA hB hP hO;obtain ⟨wk,aL⟩:∃ wk,(w.alloc (.cells (PC p) 26)).alloc (.cells (PC o) 26)=wk:=⟨_,rfl⟩;obtain ⟨G,hG⟩:∃ G,w.heap.size=G:=⟨_,rfl⟩;rw [aL] at dT eN al HA HB HP HO;rw [hG] at dT eN
 have l1:=zj dT.at
 go_enter Tryz.func123,Tryz.ntmps123;go_wp2_with fail;clear aL hG l1;refine (xd p _ HP).mono ?_;rintro x w2 ⟨b,rfl,hb,b2⟩
 cases b with
 | false =>
  have HE:Hid (MgA w w2 (.returned (.tuple #[.slice none 0 0,.int .i64 1])) A B p.P o.P):=⟨_,_,_,_,_,rfl,K.aD.none _,tmq al b2,.inl ⟨fun h=>(by have:=hb.2 h.2.2.1;cases this),rfl,rfl⟩⟩;clear hb b2;go_wp2_with fail;go_ret2;exact HE.out
 | true =>
  have mO:Hid (ag p.P):=hb.1 rfl
  have l2:=zj (eN.below b2).at
  have cu:=hide b2;clear hb b2;go_wp2_with fail;clear l2;refine (xd o _ (HO.below cu)).mono ?_;rintro x w3 ⟨b,rfl,hb,b3⟩;have aw:=wTr cu b3;clear b3 cu
  cases b with
  | false =>
   have HE:Hid (MgA w w3 (.returned (.tuple #[.slice none 0 0,.int .i64 1])) A B p.P o.P):=⟨_,_,_,_,_,rfl,K.aD.none _,tmq al aw,.inl ⟨fun h=>(by have:=hb.2 h.2.2.2;cases this),rfl,rfl⟩⟩;clear hb;go_wp2_with fail;go_ret2;exact HE.out
  | true =>
   have rS:Hid (ag o.P):=hb.1 rfl;clear hb;go_wp2_with fail;refine (K.zet ao bo n cap m cap' A B _ (HA.below aw) (HB.below aw)).mono ?_;rintro x w4 ⟨uo,un,uc,U,er,rfl,S4,b4,hU⟩;have aI:=wTr aw b4;clear b4 aw;rcases hU with ⟨fR,rfl,rfl⟩ | ⟨lH,⟨fT,rfl,rfl⟩ | ⟨fT,rfl,hAs,hm⟩⟩
   ·have HE:Hid (MgA w w4 (.returned (.tuple #[.slice none 0 0,.int .i64 1])) A B p.P o.P):=⟨_,_,_,_,_,rfl,K.aD.none _,tmq al aI,.inl ⟨fun h=>fR ⟨h.1,h.2.1⟩,rfl,rfl⟩⟩;clear fR S4;go_wp2_with fail;go_ret2;exact HE.out
   ·have HE:Hid (MgA w w4 (.returned (.tuple #[.slice none 0 0,.int .i64 10])) A B p.P o.P):=⟨_,_,_,_,_,rfl,K.aD.none _,tmq al aI,.inr (.inl ⟨⟨lH.1,lH.2,mO.out,rS.out⟩,fT,rfl,rfl⟩)⟩;clear lH fT S4;go_wp2_with fail;go_ret2;exact HE.out
   ·have HU:Hid (K.chk A=0/\K.chk B=0/\¬ K.cI (A++B)/\K.Asc U/\∀ x,x∈U↔x∈A++B):=⟨lH.1,lH.2,fT,hAs,hm⟩;have uv:=hide S4;have aB:Hid (∀ W,Below w4.heap.size w4 W -> (ldP (.pointer (some ⟨G,0,none⟩))).run Tryz.prog W = .ok (PV p) W/\(ldP (.pointer (some ⟨G+1,0,none⟩))).run Tryz.prog W = .ok (PV o) W):=fun W hW=>⟨zj ((dT.below aI).below hW).at,zj ((eN.below aI).below hW).at⟩;have Lq:Hid (∀ W:World,∀ a b:Pv,am W a -> am W b -> fN (W.alloc (.cells #[.slice a.vo a.vn a.vc,.slice a.co a.cn a.cc,.slice b.vo b.vn b.vc,.slice b.co b.cn b.cc] 26)) (some ⟨W.heap.size,0,none⟩) 2 [a,b]):=fun W a b ha hb=>zgR W a b ha hb;clear lH fT hAs hm S4;go_upto_region 6 with fail;refine wp_region_held_drew (S:=fun W=>(ldP (.pointer (some ⟨G,0,none⟩))).run Tryz.prog W = .ok (PV p) W/\(ldP (.pointer (some ⟨G+1,0,none⟩))).run Tryz.prog W = .ok (PV o) W) (by kernel_rfl) (aB.out _ (zf w4)) (fun hHeld=>?_)
    refine wU 0 ?_;refine wU 1 ?_;refine wU 2 ?_;refine wU 4 ?_;refine wU 5 ?_;refine wR 3 fun K hK=>?_;go_simp;go_wp2_with fail;refine (yh ao n cap A p _ (HA.below (tmq aI (zf w4))) HU.1 (HP.below (tmq aI (zf w4)))).mono ?_;rintro x w5 ⟨ra,rfl,Sa,-,b5,Ra⟩;have cZ:Hid (Below w4.heap.size w4 w5):=(zf w4).trans b5;have JX:Hid (oW A p.P ra.P):=Ra;have u5:=hide Sa;refine hK.out _ _ (aB.out _ cZ) (fun hHeld=>?_);clear hK K;clear b5 Sa Ra;refine wR 6 fun K hK=>?_;go_simp;go_wp2_with fail;refine (yh bo m cap' B o _ (HB.below (tmq aI cZ)) HU.2.1 (HO.below (tmq aI cZ))).mono ?_
    rintro x w6 ⟨rb,rfl,Sb,-,b6,Rb⟩;have eC:Hid (Below w4.heap.size w4 w6):=tmq cZ b6;have LG:Hid (oW B o.P rb.P):=Rb;have Dc:Hid (am w6 ra/\am w6 rb):=⟨u5.below b6,Sb⟩;refine hK.out _ _ (aB.out _ eC) (fun hHeld=>?_);clear hK K;clear b6 Sb Rb u5;have b7:=ze w6 (.cells #[.slice ra.vo ra.vn ra.vc,.slice ra.co ra.cn ra.cc,.slice rb.vo rb.vn rb.vc,.slice rb.co rb.cn rb.cc] 26);have Dx:=hide (Lq.out w6 ra rb Dc.1 Dc.2);have dR:=wTr eC b7;clear b7 Lq;refine wR 7 fun K hK=>?_;go_simp;refine hK.out _ _ (aB.out _ dR) (fun hHeld=>?_);clear hK K
    have II:Hid (wt [ra,rb] <= 8796093022207):=by
     obtain ⟨-,-,C1,-,h1⟩:=JX.out;obtain ⟨-,-,C2,-,h2⟩:=LG.out;have k1:=(j6 h1).1;have k2:=(j6 h2).1
     show _ <= _
     simp only [wt];omega
    refine wR 8 fun K hK=>?_;go_simp;go_wp2_with fail;refine (xi (some ⟨w6.heap.size,0,none⟩) 2 2 [ra,rb] _ Dx.out II.out (by decide)).mono ?_;rintro x w8 ⟨pj,rfl,Sj,-,b8,Cj⟩;have gA:=wTr dR b8;have Ji:=hide Sj;have Es:Hid (af (aA [ra,rb]) pj.P):=Cj;refine hK.out _ _ (aB.out _ gA) (fun hHeld=>?_);clear hK K;clear b8 Sj Cj Dx;refine wR 9 fun K hK=>?_;go_simp;go_wp2_with fail;refine (jK uo un uc U pj _ (uv.below gA) Ji).mono ?_;rintro x w9 (⟨-,-,a9,n9,c9,rfl,S9,b9,-⟩ | ⟨fR,-⟩);rotate_left
    ·refine absurd ⟨?_,zT.1 Es.canon⟩ fR;exact Go.Proofs.YtjffpimfngdggaaGreat.K.zaT HU.2.2.2.1 (fun e he=>((List.mem_append.1 ((HU.2.2.2.2 e).1 he)).elim (jT HU.1 e) (jT HU.2.1 e)))
    have il:=wTr gA b9;have HE:Hid (MgA w w9 (.returned (.tuple #[.slice a9 n9 c9,.int .i64 0])) A B p.P o.P):=⟨a9,n9,c9,_,0,rfl,S9,tmq al (aI.trans (il.mono aI.size)),.inr (.inr ⟨⟨HU.1,HU.2.1,mO.out,rS.out⟩,HU.2.2.1,rfl,HU.2.2.2.1.filter _,zfd HU.1 HU.2.1 HU.2.2.2.2 JX.out LG.out Es⟩)⟩;refine hK.out _ _ (aB.out _ il) (fun hHeld=>?_);clear hK K;clear S9 b9;refine wU 10 ?_;refine wU 11 ?_;refine wU 12 ?_;refine wU 13 ?_;refine wD ?_ _;clear hHeld;go_wp2_with fail;go_ret2;exact HE.out
end
section
open Go.RowKit
def RcI (s:Fc) (k:Nat):Prop:=∀ j,j < k -> ¬ wiP (s.rs.getD j rc0).p.P s.p.P/\∀ e∈s.es,cv (s.rs.getD j rc0) e=false
attribute [local go_sem ↓] zq zp zP zO qf qe K.zy K.zx
attribute [local go_sem] zi zk zl zr zL zS K.zu K.zH
end
end Go.Proofs.YtjffpimfngdggaaGreat
namespace Go.Proofs.YtjffpimfngdggaaGreat.K
section
open Go.RowKit
attribute [local go_sem ↓] zy zx xG xY qB
attribute [local go_sem] zJ zu zH
structure iM (w:World) (g:Nat) (e:En):Prop where
 c0:w.cell? ⟨g,0,none⟩=some (.int .i64 e.rep)
 c1:w.cell? ⟨g,1,none⟩=some (.int .i64 e.num)
theorem iM.on {w w':World} {g:Nat} {e:En} (D:iM w g e) (hb:Below w.heap.size w w'):iM w' g e:=
 ⟨(hb.cell (World.block_lt_of_cell? _ _ D.c0)).trans D.c0,(hb.cell (World.block_lt_of_cell? _ _ D.c1)).trans D.c1⟩
theorem ziG (w:World) (e:En):iM (w.alloc (.cells (DC e) 48)) w.heap.size e:=⟨by simp [DC],by simp [DC]⟩
theorem zG {w:World} {g:Nat} {e:En} (D:iM w g e):(lS (.pointer (some ⟨g,0,none⟩))).run Tryz.prog w = .ok (.agg (DC e)) w:=by
 have hl:=run_loadCells_list (P:=Tryz.prog) (w:=w) ⟨g,0,none⟩ (DC e).toList (fun j v hv=>by
  match j,hv with
  | 0,hv=>cases hv;rw [add_zero];exact D.c0
  | 1,hv=>cases hv;rw [Addr.add_lit];exact D.c1
  | j+2,hv=>simp [DC] at hv)
 cases hq:Tryz.prog.info? 48 with
 | none=>have:=mt;simp [hq] at this
 | some x =>
  have hs:x.size=2:=by have:=mt;simpa [hq] using this
  have ex:(isAgg 48).run Tryz.prog w = .ok true w:=by
   unfold isAgg;rw [Sem.run_bind,run_underlying Tryz.underlying48 w];rfl
  have e4:(DC e).toList.length=2:=rfl;rw [e4] at hl;unfold lS;simp only [Instr.loadAt,Instr.sureAddr,Sem.run_bind,Sem.run_pure,Result.andThen];simp [loadVar,Sem.run_bind,ex,sizeOf,typeInfo,hq,hs,hl]
theorem zdA (e:En):(Value.agg (DC e)).cells=DC e:=by simp [Value.cells]
attribute [local go_sem] zdA
def sF (L:List En) (x:En) (k:Int):Prop:=(k = -1/\∀ i,i < L.length -> aq (L.getD i en0) x=false)∨∃ i,i < L.length/\k=(i:Int)/\aq (L.getD i en0) x=true/\∀ j,j < i -> aq (L.getD j en0) x=false
def fdE (L:List En) (k:Int):En:=if k < 0 then en0 else L.getD k.toNat en0
def fdB (k:Int):Bool:=decide (0 <= k)
theorem uQ {fn:Func} {p q:Tmp} {w:World} {g:Nat} {T:TypeId} {e:En} {b:Value} (h:fn.results=#[.cell p 50,.tmp q]) {tmps:Array Value} (hp:tmps.getD p undef = .pointer (some ⟨g,0,none⟩)) (hq:tmps.getD q undef=b) (A:Box w g T e) :
  (results fn tmps).run Tryz.prog w = .ok (.tuple #[EV e,b]) w:=by
 have hl:=zcY A.at
 simp only [results,h];rw [Array.getD_eq_getD_getElem?] at hp hq;simp [hp,hq,asAddr,hl]
def lj (w w':World) (y:Ending) (L:List En) (x:En):Prop:=∃ k,y = .returned (.tuple #[EV (fdE L k),.bool (fdB k)])/\sF L x k/\Below w.heap.size w w'
end
section
open Go.RowKit
attribute [local go_sem ↓] zy zx xG xY qB
attribute [local go_sem] zJ zu zH
attribute [local go_sem] zdA
theorem zfC (e x:En) (b:Nat) (w:World) (D:iM w b x):Calls Tryz.prog 83 #[EV e,.pointer (some ⟨b,0,none⟩)] w fun y w'=>y = .returned (.bool (aq e x))/\Below w.heap.size w w':=by
 have X1:=zQ w 50 e;have HB:=hide (ze w (.cells (EC e) 50))
 have l1:=xK X1.at
 have l2:=zG (D.on HB);clear X1;go_enter Tryz.func83,Tryz.ntmps83;go_wp2_with fail;go_ret;exact ⟨rfl,HB.out⟩
theorem zfq (ao:Option Addr) (n cap:Nat) (L:List En) (x:En) (b:Nat) (w:World) (hS:aD w ao n cap L) (D:iM w b x) :
  Calls Tryz.prog 82 #[.slice ao n cap,.func (.func 83) #[] #[.pointer (some ⟨b,0,none⟩)]] w fun y w'=>∃ k,y = .returned (.int .i64 k)/\sF L x k/\Below w.heap.size w w':=by
 have HS:=hide hS;have hn:=hS.2.2.2.2;have HL:Hid (L.length=n):=hS.1;have HD:=hide D;clear hS D;go_enter Tryz.func82,Tryz.ntmps82;go_wp2_with fail;go_loopw [5,8] (fun _ i wr=>∃ k:Nat,k <= n/\i = .int .i64 k/\Hid ((∀ j,j < k -> aq (L.getD j en0) x=false)/\Below w.heap.size w wr)) (fun _ i _=>n - (intOf i).toNat)
 case atStart=>exact ⟨0,Nat.zero_le _,rfl,fun i hi=>by omega,Below.refl _ _⟩
 case round =>
  obtain ⟨k,hk,rfl,H⟩:=hrel
  rename World=>w4
  by_cases ak:k < n
  ·obtain ⟨ad,rfl,A0⟩:=(HS.below H.2).at k ak;have dF:=zB A0;obtain ⟨e,He⟩:∃ e,Hid (L.getD k en0=e):=⟨_,rfl⟩;rw [He.out] at dF;clear A0;have HC:=hide (zfC e x b w4 (HD.on H.2));obtain ⟨q,Hq⟩:∃ q,Hid (aq e x=q):=⟨_,rfl⟩;rw [Hq.out] at HC
   cases q with
   | false =>
    go_wp2_with fail;refine HC.mono ?_;rintro y w5 ⟨rfl,b5⟩
    have HN:Hid ((∀ j,j < k+1 -> aq (L.getD j en0) x=false)/\Below w.heap.size w w5):=⟨fun j hj=>by
     by_cases ej:j=k
     ·rw [ej,He.out];exact Hq.out
     ·exact H.1 j (by omega),H.2.trans (b5.mono H.2.size)⟩
    clear b5;go_wp2_with fail;go_roundw
    case rel=>exact ⟨k+1,by omega,by go_num,HN⟩
    case measure=>simp [intOf];omega
   | true =>
    go_wp2_with fail;refine HC.mono ?_;rintro y w5 ⟨rfl,b5⟩;have HN:Hid (sF L x (k:Int)/\Below w.heap.size w w5):=⟨Or.inr ⟨k,by rw [HL.out];exact ak,rfl,by rw [He.out];exact Hq,H.1⟩,H.2.trans (b5.mono H.2.size)⟩;clear b5;go_wp2_with fail;go_ret;exact ⟨_,rfl,HN.out⟩
  ·obtain rfl:k=n:=by omega
   have HN:Hid (sF L x (-1)/\Below w.heap.size w w4):=⟨Or.inl ⟨rfl,by rw [HL.out];exact H.1⟩,H.2⟩;go_wp2_with fail;go_ret;exact ⟨_,rfl,HN.out⟩
theorem zhf (ao:Option Addr) (n cap:Nat) (L:List En) (x:En) (w:World) (hS:aD w ao n cap L) :
  Calls Tryz.prog 43 #[.slice ao n cap,.agg (DC x)] w fun y w'=>lj w w' y L x:=by
 have hn:=hS.2.2.2.2;have HL:Hid (L.length=n):=hS.1;have B1:=ze w (.cells (DC x) 48);have cu:Hid (Below w.heap.size w ((w.alloc (.cells (DC x) 48)).alloc (.cells (EC en0) 50))):=tmq B1 (ze _ _);have HD:Hid (iM ((w.alloc (.cells (DC x) 48)).alloc (.cells (EC en0) 50)) w.heap.size x):=(ziG w x).on (ze _ _)
 have HX:Hid (Box ((w.alloc (.cells (DC x) 48)).alloc (.cells (EC en0) 50)) (w.heap.size+1) 50 en0):=by have:=zQ (w.alloc (.cells (DC x) 48)) 50 en0;rwa [World.size_alloc] at this
 have HS:=hide (hS.below cu);obtain ⟨w2,Kp⟩:∃ w2,Hid ((w.alloc (.cells (DC x) 48)).alloc (.cells (EC en0) 50)=w2):=⟨_,rfl⟩;rw [Kp.out] at cu HD HX HS;clear hS B1;go_enter Tryz.func43,Tryz.ntmps43;go_wp2_with fail;rw [Kp.out];refine (zfq ao n cap L x w.heap.size _ HS.out HD).mono ?_;rintro y w3 ⟨k,rfl,hk,b3⟩;have HK:=hide hk;have aw:=wTr cu b3;have X3:=HX.below b3;have dh:=hide X3;have mn:=hide (HS.below b3);clear b3 hk X3;by_cases h0:k < 0
 ·have HE:Hid (fdE L k=en0):=by show _=_;unfold fdE;rw [if_pos h0]
  have HF:Hid (fdB k=false):=by show _=_;unfold fdB;simp;omega
  have cd:=kK (e':=en0) dh.out;have eE:=hide (dh.setRow (e':=en0));have aI:Hid (Below w.heap.size w (w3.setRow (w.heap.size+1) (EC en0))):=zh aw.out (by omega);go_wp2_with fail;refine bodyPost_ret (uQ Tryz.results43 rfl rfl eE) rfl ⟨k,by rw [HE.out,HF.out];rfl,HK.out,aI.out⟩
 ·obtain ⟨i,rfl⟩:∃ i:Nat,k=(i:Int):=⟨k.toNat,by omega⟩
  have rt:i < n:=by
   rcases HK.out with ⟨h,_⟩ | ⟨i',h1,h2,_⟩
   ·omega
   ·rw [HL.out] at h1;omega
  obtain ⟨ad,rfl,A0⟩:=mn.at i rt;have dF:=zB A0;obtain ⟨e,He⟩:∃ e,Hid (L.getD i en0=e):=⟨_,rfl⟩;rw [He.out] at dF
  have HE:Hid (fdE L (i:Int)=e):=by show _=_;unfold fdE;rw [if_neg h0,Int.toNat_natCast,He.out]
  have HF:Hid (fdB (i:Int)=true):=by show _=_;unfold fdB;simp
  have cd:=kK (e':=e) dh.out;have eE:=hide (dh.setRow (e':=e));have aI:Hid (Below w.heap.size w (w3.setRow (w.heap.size+1) (EC e))):=zh aw.out (by omega);clear A0 h0;go_wp2_with fail;refine bodyPost_ret (uQ Tryz.results43 rfl rfl eE) rfl ⟨(i:Int),by rw [HE.out,HF.out];rfl,HK.out,aI.out⟩
end
end Go.Proofs.YtjffpimfngdggaaGreat.K
namespace Go.Proofs.YtjffpimfngdggaaGreat
section
open Go.RowKit
structure SwU (w:World) (s:Fc):Prop where
 ok:aU w s
 row:FcR s
 wt:∀ t,wt (ofS s.rs t) <= 8796093022207
 nm:s.rn * (s.an+1) <= 8796093022207
 rn:s.rn <= 2199023255551
theorem SwU.below {w w':World} {s:Fc} (h:SwU w s) (hb:Below w.heap.size w w'):SwU w' s:=⟨h.ok.below hb,h.row,h.wt,h.nm,h.rn⟩
theorem SwU.chk {w:World} {s:Fc} (h:SwU w s):Calls Tryz.prog 27 #[FaV (mkF s)] w fun e w'=>cH w w' e (ns s):=zb1 s w h.ok h.row h.wt h.nm h.rn
def uP (s:Fc) (d:Rn) (x:Int):Prop:=(¬ (aQ s/\cj s.p.P d)/\x=0)∨((aQ s/\cj s.p.P d)/\(∃ e∈s.es,ae e=d)/\x=1)∨((aQ s/\cj s.p.P d)/\(¬ ∃ e∈s.es,ae e=d)/\x=2)
theorem zc1 (x y:Rn) (w:World):(Op.equalIn 10000 48 (.agg (RC x)) (.agg (RC y))).run Tryz.prog w = .ok (x.lo == y.lo && x.hi == y.hi) w:=K.xY ⟨x.lo,x.hi,⟨#[]⟩,0⟩ ⟨y.lo,y.hi,⟨#[]⟩,0⟩ w
attribute [local go_sem ↓] zq zp zP zO zY zX K.zy K.zx zc1
attribute [local go_sem] zi zk zl zr zz zM zR K.zu K.zH K.zJ
end
section
open Go.RowKit
variable {w w' W : World} {g : Nat}
structure Ks where
 ro:Option Addr
 rn:Nat
 rc:Nat
 qo:Option Addr
 qn:Nat
 qc:Nat
 ao:Option Addr
 an:Nat
 ac:Nat
 bo:Option Addr
 bn:Nat
 bc:Nat
 p:Pv
 o:Pv
def KsC (m:Ks):Array Value:=#[.slice m.ro m.rn m.rc,.slice m.qo m.qn m.qc,.slice m.ao m.an m.ac,.slice m.bo m.bn m.bc,.slice m.p.vo m.p.vn m.p.vc,.slice m.p.co m.p.cn m.p.cc,.slice m.o.vo m.o.vn m.o.vc,.slice m.o.co m.o.cn m.o.cc]
abbrev KsV (m:Ks):Value:=.agg (KsC m)
def RSm (R:List Rc):Prop:=R.length <= 209716/\∀ r∈R,r.p.P.cloud.length <= 1048576
structure KsS (w:World) (m:Ks) (R Q:List Rc) (A B:List K.En):Prop where
 r:RcS w m.ro m.rn m.rc R
 q:RcS w m.qo m.qn m.qc Q
 a:K.aD w m.ao m.an m.ac A
 b:K.aD w m.bo m.bn m.bc B
 p:am w m.p
 o:am w m.o
 sr:RSm R
 sq:RSm Q
 sa:m.an <= 1048576
 sb:m.bn <= 1048576
theorem zjR (X:List Pv) (c:Nat) (h:∀ p∈X,p.P.cloud.length <= c):wt X <= X.length * (c+1):=by
 induction X with
 | nil=>exact Nat.zero_le _
 | cons p X ih =>
  have h1:=ih (fun q hq=>h q (List.mem_cons_of_mem _ hq));have h2:=h p List.mem_cons_self;simp only [wt,List.length_cons];rw [Nat.add_mul];omega
end
section
open Go.RowKit
structure SwB (N:Nat) (w:World) (s:Fc):Prop where
 ok:aU w s
 row:FcR s
 rn:s.rn <= N * 209716
 an:s.an <= N * 1048576
 cl:∀ r∈s.rs,r.p.P.cloud.length <= 1048576
theorem SwB.below {N:Nat} {w w':World} {s:Fc} (h:SwB N w s) (hb:Below w.heap.size w w'):SwB N w' s:=⟨h.ok.below hb,h.row,h.rn,h.an,h.cl⟩
theorem zi9 {R:List Rc} (hn:R.length <= 838864) (hc:∀ r∈R,r.p.P.cloud.length <= 1048576) (t:ByteArray):wt (ofS R t) <= 8796093022207:=by
 have h1:=zjR (ofS R t) 1048576 (fun p hp=>by obtain ⟨r,hr,-,rfl⟩:=zav.1 hp;exact hc r hr);have h2:=zaw R t;have h4:(ofS R t).length * (1048576+1) <= 838864 * (1048576+1):=Nat.mul_le_mul_right _ (by omega);omega
theorem zjt {n m:Nat} (hn:n <= 838864) (hm:m <= 4194304):n * (m+1) <= 8796093022207:=by
 have h3:n * (m+1) <= 838864 * (4194304+1):=Nat.mul_le_mul hn (by omega);omega
theorem SwB.u {N:Nat} {w:World} {s:Fc} (h:SwB N w s) (hN:N <= 4):SwU w s:=by
 have h1:=h.rn;have h2:=h.an;have h3:=h.ok.rs.len;exact ⟨h.ok,h.row,zi9 (by omega) h.cl,zjt (by omega) (by omega),by omega⟩
open Classical in
theorem bm {α : Type}:∀ {X Y:List α},X.Nodup -> (∀ x∈X,x∈Y) -> X.length <= Y.length
 | [],_,_,_=>Nat.zero_le _
 | a :: X,Y,h,hs=>by
  obtain ⟨h1,h2⟩:=List.nodup_cons.1 h;have ha:=hs a List.mem_cons_self;have h3:=bm (Y:=Y.erase a) h2 (fun x hx=>(List.mem_erase_of_ne (fun e=>h1 (by rw [<- e];exact hx))).2 (hs x (List.mem_cons_of_mem _ hx)));have h4:=List.length_erase_of_mem ha;have h5:=List.length_pos_of_mem ha;rw [List.length_cons];omega
def SjD (a b s:Fc) (er:Int):Prop:=(¬ (aQ a/\aQ b)/\er=1/\s=fz0)∨((aQ a/\aQ b)/\∃ Z e,MgD a.es b.es a.p.P b.p.P Z e/\((e≠0/\er=e/\s=fz0)∨(e=0/\er=0/\∃ U,ly a.rs b.rs U/\s.es=Z.filter (dn U)/\af (aA [a.p,b.p]) s.p.P/\iW U s.p.P s.rs)))
def SwJ (N:Nat) (w w':World) (e:Ending) (D:Fc -> Int -> Prop):Prop:=∃ s er,e = .returned (.tuple #[FaV (mkF s),.int .i64 er])/\SwB N w' s/\Below w.heap.size w w'/\D s er
def sD (a b:Fc) (x:Int):Prop:=((aQ a/\aQ b)/\x=0)∨(¬ (aQ a/\aQ b)/\x=1)
theorem ziD (N:Nat) (w:World):SwB N w fz0:=⟨zfu w,zft,Nat.zero_le _,Nat.zero_le _,fun r h=>(by cases h)⟩
theorem zgX {A B Z:List K.En} {P O:Pst} (h:OkM A B P O) (ha:K.Asc Z) (hm:∀ x,x∈Z↔it A B P O x):K.chk Z=0/\Z.length <= A.length+B.length:=by
 have hx:∀ x∈Z,x∈A∨x∈B:=fun x hx=>((hm x).1 hx).elim (fun k=>.inl k.1) (fun k=>.inr k.1);refine ⟨K.zaT ha (fun x h1=>(hx x h1).elim (jT h.1 x) (jT h.2.1 x)),?_⟩;have h1:Z.Nodup:=ha.imp (fun {a b} ee e=>by subst e;rw [K.vz] at ee;cases ee);have h2:=bm (Y:=A++B) h1 (fun x h3=>List.mem_append.2 (hx x h3));rwa [List.length_append] at h2
theorem zjS {L M F:List Rc} (u:ly L M F) (hl:∀ r∈L,r.p.P.cloud.length <= 1048576) (hm:∀ r∈M,r.p.P.cloud.length <= 1048576):∀ r∈F,r.p.P.cloud.length <= 1048576:=fun r hr=>by
 have h1:rck r∈plR F:=List.mem_map.2 ⟨r,hr,rfl⟩;rcases (u.1.2 _).1 h1 with h | h
 ·obtain ⟨x,hx,e⟩:=List.mem_map.1 h;have e2:x.p.P=r.p.P:=congrArg Prod.snd e;rw [<- e2];exact hl x hx
 ·obtain ⟨x,hx,e⟩:=List.mem_map.1 h;have e2:x.p.P=r.p.P:=congrArg Prod.snd e;rw [<- e2];exact hm x hx
theorem zhU {L F:List Rc} {P:Pst} (h:iW L P F) (hl:∀ r∈L,r.p.P.cloud.length <= 1048576):∀ r∈F,r.p.P.cloud.length <= 1048576:=fun r hr=>by
 have h1:rck r∈plR F:=List.mem_map.2 ⟨r,hr,rfl⟩;rw [h.2] at h1;obtain ⟨x,hx,e⟩:=List.mem_map.1 (List.mem_filter.1 h1).1;have e2:x.p.P=r.p.P:=congrArg Prod.snd e;rw [<- e2];exact hl x hx
theorem pu (w:World) (f g:Fc):∃ wk,(w.alloc (.cells (FaC (mkF f)) 31)).alloc (.cells (FaC (mkF g)) 31)=wk/\Hid (aG wk w.heap.size (mkF f))/\Hid (aG wk (w.heap.size+1) (mkF g))/\Hid (Below w.heap.size w wk)/\wk.heap.size=w.heap.size+2:=by
 have b1:=ze w (.cells (FaC (mkF f)) 31);have b2:=ze (w.alloc (.cells (FaC (mkF f)) 31)) (.cells (FaC (mkF g)) 31);have X2:=qs (w.alloc (.cells (FaC (mkF f)) 31)) (mkF g);rw [World.size_alloc] at X2;exact ⟨_,rfl,(qs w (mkF f)).below b2,X2,tmq b1 b2,by simp⟩
attribute [local go_sem ↓] zq zp zP zO xe je
attribute [local go_sem] zi zk zl zr zv qR xL qF zI
theorem zdO (a b:Fc) (w:World) (hA:SwU w a) (hB:SwU w b):Calls Tryz.prog 122 #[FaV (mkF a),FaV (mkF b)] w fun e w'=>cH w w' e (sD a b):=by
 obtain ⟨wk,aL,HX,HY,al,-⟩:=pu w a b;obtain ⟨G,cK⟩:∃ G,w.heap.size=G:=⟨_,rfl⟩;rw [cK] at HX HY;have HA:=hide (hA.below al);have HB:=hide (hB.below al);have l1:=qt HX.out;clear hA hB;go_enter Tryz.func122,Tryz.ntmps122;go_wp2_with fail;clear aL cK l1;refine HA.chk.mono ?_;rintro e w3 ⟨x,rfl,hx,b3⟩;have aw:=wTr al b3;have l2:=qt (HY.below b3);have Nn:=hide (HB.below b3);clear b3;rcases hx with ⟨hf,rfl⟩ | ⟨hf,rfl⟩;rotate_left
 ·have HE:Hid (cH w w3 (.returned (.int .i64 1)) (sD a b)):=⟨1,rfl,.inr ⟨fun h=>hf h.1,rfl⟩,aw.out⟩;clear hf l2;go_wp2_with fail;go_ret;exact HE.out
 have tR:=hide hf;clear hf;go_wp2_with fail;clear l2;refine Nn.chk.mono ?_;rintro e w4 ⟨x,rfl,hx,b4⟩;have HE:Hid (cH w w4 (.returned (.int .i64 x)) (sD a b)):=⟨x,rfl,hx.elim (fun h=>.inl ⟨⟨tR.out,h.1⟩,h.2⟩) (fun h=>.inr ⟨fun k=>h.1 k.2,h.2⟩),tmq aw b4⟩;clear b4 hx;go_wp2_with fail;go_ret;exact HE.out
end
section
open Go.ChangeShapes Go.WideShapes Go.ChangeAt Go.RowKit Go.Joins

theorem own:ownKnob Tryz.prog.godebug=none:=by kernel_rfl
theorem uO:laidOutB Tryz.prog=true:=by kernel_rfl
theorem ti:Tryz.prog.cellsOf 104=3:=by kernel_rfl
theorem oI:Tryz.prog.cellsOf 3=1:=by kernel_rfl
theorem mH:Tryz.prog.cellsOf 26=2:=by kernel_rfl
theorem CA:Tryz.prog.cellsOf 23=1:=by kernel_rfl
theorem CJ:Tryz.prog.cellsOf 24=1:=by kernel_rfl
theorem wH {H:Type} (d:DataW H):1 <= Rows.uptoBulk d:=by
 cases d with
 | lit l=>cases l <;> simp only [Rows.uptoBulk] <;> omega
 | _=>simp only [Rows.uptoBulk] <;> omega
theorem vy {H:Type}:∀ (l:List (DataW H)),l.length <= Rows.uptoBulkAll l
 | []=>by simp
 | d :: l=>by have:=vy l;have:=wH d;simp only [Rows.uptoBulkAll,List.length_cons];omega
theorem iO {α : Type} {l:List α} (h:l.length=2):∃ a b,l=[a,b]:=by
 match l,h with
 | [a,b],_=>exact ⟨a,b,rfl⟩
theorem lG {α : Type} {l:List α} (h:l.length=3):∃ a b c,l=[a,b,c]:=by
 match l,h with
 | [a,b,c],_=>exact ⟨a,b,c,rfl⟩
theorem ze1 {H:Type} {enc:TypeId × Value -> H} {w:World} {base:Nat} {spare:Nat -> Bool} {held:Bool} {fuel:Nat} {cs:List Value} {x:DataW H × List MemPlace}
  (h:DataW.trod enc Tryz.prog w base spare held fuel 104 cs=some x):∃ e:Sn,cs=(SC e).toList:=by
 obtain ⟨xs,m,_,hx,fT,mV,hf⟩:=DataW.trod_struct Tryz.underlying104 h;obtain ⟨v0,v1,v2,rfl⟩:=lG (fT.trans ti);obtain ⟨y0,y1,y2,rfl⟩:=lG mV;have t0:=hf 0 _ rfl;have t1:=hf 1 _ rfl;have t2:=hf 2 _ rfl;simp [oI] at t0 t1 t2;obtain ⟨r,e0,-,_⟩:=DataW.trod_int Tryz.underlying3 t0;obtain ⟨n,e1,-,_⟩:=DataW.trod_int Tryz.underlying3 t1;obtain ⟨m',e2,-,_⟩:=DataW.trod_int Tryz.underlying3 t2;simp only [List.cons.injEq,and_true] at e0 e1 e2;subst e0 e1 e2;exact ⟨⟨r,n,m'⟩,rfl⟩
theorem EL {H:Type} {enc:TypeId × Value -> H} {W:World} {fuel:Nat} {v:Value} {x:DataW H × List MemPlace}
  (h:DataW.trod enc Tryz.prog W 0 (fun _=>true) true fuel 23 [v]=some x) (hw:Rows.uptoBulk x.1 <= 1048576):∃ (ao:Option Addr) (n cap:Nat) (Z:List Int),v = .slice ao n cap/\V.Src W ao n cap Z/\n <= 1048576:=by
 rcases DataW.trod_slice Tryz.underlying23 h with h0 | ⟨a,len,cap,elems,rest,n,_,gR,hx,hb,hl,hm,cJ,hel,rK,hns⟩
 ·have e:v = .slice none 0 0:=by simpa using h0.1
  exact ⟨none,0,0,[],e,⟨rfl,fun _=>⟨rfl,rfl⟩,fun ad h=>(by cases h)⟩,Nat.zero_le _⟩
 ·subst hx
  have e:v = .slice (some a) len cap:=by simpa using gR
  simp only [Rows.uptoBulk] at hw;have h1:=vy (elems.map (·.1));simp only [List.length_map] at h1
  have key:∀ i,i < len -> ∃ z:Int,W.cell? (a.add i)=some (.int .i64 z):=by
   intro i hi;have he:=hel i hi;obtain ⟨y,hy⟩:∃ y,elems[i]? = some y:=⟨_,List.getElem?_eq_getElem (by omega)⟩;rw [hy,oI,Option.bind_eq_some_iff] at he;obtain ⟨cs',gR,pT⟩:=he;obtain ⟨ON,-,ml⟩:=World.cells?_some gR;obtain ⟨z,rfl,-,_⟩:=DataW.trod_int Tryz.underlying3 pT;have g0:=ml 0 (by omega);rw [add_zero,Nat.mul_one] at g0;exact ⟨z,g0⟩
  refine ⟨some a,len,cap,(List.range len).map fun i=>if h:i < len then Classical.choose (key i h) else 0,e,⟨by simp,fun h=>(by cases h),fun ad h t ht=>?_⟩,by omega⟩;obtain rfl:=Option.some.inj h
  have:((List.range len).map fun i=>if h:i < len then Classical.choose (key i h) else 0).getD t 0=Classical.choose (key t ht):=by simp [List.getD,ht]
  rw [this];exact Classical.choose_spec (key t ht)
theorem EG {H:Type} {enc:TypeId × Value -> H} {W:World} {fuel:Nat} {v:Value} {x:DataW H × List MemPlace}
  (h:DataW.trod enc Tryz.prog W 0 (fun _=>true) true fuel 24 [v]=some x) (hw:Rows.uptoBulk x.1 <= 1048576):∃ (ao:Option Addr) (n cap:Nat) (L:List Sn),v = .slice ao n cap/\cR W ao n cap L/\n <= 1048576:=by
 rcases DataW.trod_slice Tryz.underlying24 h with h0 | ⟨a,len,cap,elems,rest,n,_,gR,hx,hb,hl,hm,cJ,hel,rK,hns⟩
 ·have e:v = .slice none 0 0:=by simpa using h0.1
  exact ⟨none,0,0,[],e,cR.empty _,Nat.zero_le _⟩
 ·subst hx
  have e:v = .slice (some a) len cap:=by simpa using gR
  simp only [Rows.uptoBulk] at hw;have h1:=vy (elems.map (·.1));simp only [List.length_map] at h1
  have key:∀ i,i < len -> ∃ e:Sn,lB W (a.add (i * 3)) e:=by
   intro i hi;have he:=hel i hi;obtain ⟨y,hy⟩:∃ y,elems[i]? = some y:=⟨_,List.getElem?_eq_getElem (by omega)⟩;rw [hy,ti,Option.bind_eq_some_iff] at he;obtain ⟨cs',gR,pT⟩:=he;obtain ⟨_,-,ml⟩:=World.cells?_some gR;obtain ⟨e,rfl⟩:=ze1 pT;have g0:=ml 0 (by omega);rw [add_zero] at g0;exact ⟨e,⟨g0,ml 1 (by omega),ml 2 (by omega)⟩⟩
  refine ⟨some a,len,cap,(List.range len).map fun i=>if h:i < len then Classical.choose (key i h) else sn0,e,⟨by simp,fun h=>(by cases h),fun ad h t ht=>?_,by omega,hl⟩,by omega⟩;obtain rfl:=Option.some.inj h
  have:((List.range len).map fun i=>if h:i < len then Classical.choose (key i h) else sn0).getD t sn0=Classical.choose (key t ht):=by simp [List.getD,ht]
  rw [this];exact Classical.choose_spec (key t ht)
theorem sY {H:Type} {enc:TypeId × Value -> H} {W:World} {fuel:Nat} {cs:List Value} {x:DataW H × List MemPlace}
  (h:DataW.trod enc Tryz.prog W 0 (fun _=>true) true fuel 26 cs=some x) (hw:Rows.uptoBulk x.1 <= 1048576):∃ p:Pv,cs=[.slice p.vo p.vn p.vc,.slice p.co p.cn p.cc]/\am W p/\p.P.cloud.length <= 1048576:=by
 obtain ⟨xs,m,_,hx,fT,mV,hf⟩:=DataW.trod_struct Tryz.underlying26 h;obtain ⟨v0,v1,rfl⟩:=iO (fT.trans mH);obtain ⟨y0,y1,rfl⟩:=iO mV;have t0:=hf 0 _ rfl;have t1:=hf 1 _ rfl;simp [CA,CJ] at t0 t1;subst hx;simp only [Rows.uptoBulk,List.map_cons,List.map_nil,Rows.uptoBulkAll] at hw;obtain ⟨a0,l0,c0,Z,rfl,S0,g0⟩:=EL t0 (by omega);obtain ⟨a1,l1,c1,L,rfl,S1,g1⟩:=EG t1 (by omega);exact ⟨⟨a0,l0,c0,a1,l1,c1,⟨Z,L⟩⟩,rfl,⟨S0,S1,by show l0 <= _;omega⟩,by show L.length <= _;rw [S1.len];exact g1⟩
end
end Go.Proofs.YtjffpimfngdggaaGreat
namespace Go.Proofs.YtjffpimfngdggaaGreat.K
open Go.ChangeShapes Go.WideShapes Go.ChangeAt Go.RowKit Go.Joins

theorem own:ownKnob Tryz.prog.godebug=none:=by kernel_rfl
theorem pl:Tryz.prog.cellsOf 50=4:=by kernel_rfl
theorem uB:Tryz.prog.cellsOf 48=2:=by kernel_rfl
theorem sU:Tryz.prog.cellsOf 3=1:=by kernel_rfl
theorem Ch:Tryz.prog.cellsOf 9=1:=by kernel_rfl
theorem iO {α : Type} {l:List α} (h:l.length=2):∃ a b,l=[a,b]:=by
 match l,h with
 | [a,b],_=>exact ⟨a,b,rfl⟩
theorem lG {α : Type} {l:List α} (h:l.length=3):∃ a b c,l=[a,b,c]:=by
 match l,h with
 | [a,b,c],_=>exact ⟨a,b,c,rfl⟩
theorem tf {α : Type} {l:List α} (h:l.length=4):∃ a b c d,l=[a,b,c,d]:=by
 match l,h with
 | [a,b,c,d],_=>exact ⟨a,b,c,d,rfl⟩
theorem zdY {H:Type} {enc:TypeId × Value -> H} {w:World} {base:Nat} {spare:Nat -> Bool} {held:Bool} {fuel:Nat} {cs:List Value} {x:DataW H × List MemPlace}
  (h:DataW.trod enc Tryz.prog w base spare held fuel 50 cs=some x):∃ e:En,cs=(EC e).toList/\e.sku.size <= maxLen:=by
 obtain ⟨xs,m,_,hx,fT,mV,hf⟩:=DataW.trod_struct Tryz.underlying50 h;obtain ⟨v0,v1,v2,v3,rfl⟩:=tf (fT.trans pl);obtain ⟨y0,y1,y2,rfl⟩:=lG mV;have t0:=hf 0 _ rfl;have t1:=hf 1 _ rfl;have t2:=hf 2 _ rfl;simp [sU,Ch,uB] at t0 t1 t2;obtain ⟨xs',m',_,OH,MX,Jd,J0⟩:=DataW.trod_struct Tryz.underlying48 t0;obtain ⟨z0,z1,rfl⟩:=iO Jd;have s0:=J0 0 _ rfl;have s1:=J0 1 _ rfl;simp [sU] at s0 s1;obtain ⟨r,e0,-,_⟩:=DataW.trod_int Tryz.underlying3 s0;obtain ⟨n,e1,-,_⟩:=DataW.trod_int Tryz.underlying3 s1;obtain ⟨s,e2,-,w2⟩:=DataW.trod_string Tryz.underlying9 t1;obtain ⟨q,e3,-,_⟩:=DataW.trod_int Tryz.underlying3 t2;simp only [List.cons.injEq,and_true] at e0 e1 e2 e3;subst e0 e1 e2 e3;exact ⟨⟨r,n,s,q⟩,rfl,w2⟩
end Go.Proofs.YtjffpimfngdggaaGreat.K
namespace Go.Proofs.YtjffpimfngdggaaGreat
section
open Go.ChangeShapes Go.WideShapes Go.ChangeAt Go.RowKit Go.Joins

def EU (L:List Rc):Prop:=L.length <= 209715/\∀ r∈L,r.p.P.cloud.length <= 1048576
structure FcU (w:World) (f:Fc):Prop where
 ok:aU w f
 row:FcR f
 sm:EU f.rs
 an:f.an <= 1048576
theorem FcU.rn {w:World} {f:Fc} (h:FcU w f):f.rn <= 209715:=by rw [<- h.ok.rs.len];exact h.sm.1
theorem pD:Tryz.prog.cellsOf 78=3:=by kernel_rfl
theorem uJ:Tryz.prog.cellsOf 9=1:=by kernel_rfl
theorem pz:Tryz.prog.cellsOf 22=1:=by kernel_rfl
theorem pn:Tryz.prog.cellsOf 27=1:=by kernel_rfl
theorem pH:Tryz.prog.cellsOf 29=4:=by kernel_rfl
theorem zcE {H:Type}:∀ (l:List (DataW H)) (d:DataW H),d∈l -> Rows.uptoBulk d <= Rows.uptoBulkAll l
 | e :: l,d,h=>by
  simp only [Rows.uptoBulkAll];rcases List.mem_cons.1 h with rfl | h
  ·omega
  ·have:=zcE l d h;omega
theorem zbS {H:Type}:∀ (l:List (DataW H)),(∀ d∈l,5 <= Rows.uptoBulk d) -> 5 * l.length <= Rows.uptoBulkAll l
 | [],_=>by simp
 | d :: l,h=>by
  have h1:=zbS l (fun e he=>h e (List.mem_cons_of_mem _ he));have h2:=h d List.mem_cons_self;simp only [Rows.uptoBulkAll,List.length_cons];omega
theorem sO {H:Type} {enc:TypeId × Value -> H} {W:World} {fuel:Nat} {v:Value} {x:DataW H × List MemPlace}
  (h:DataW.trod enc Tryz.prog W 0 (fun _=>true) true fuel 22 [v]=some x) (hw:Rows.uptoBulk x.1 <= 1048576):∃ (ao:Option Addr) (n cap:Nat) (L:List K.En),v = .slice ao n cap/\K.aD W ao n cap L/\n <= 1048576:=by
 rcases DataW.trod_slice Tryz.underlying22 h with h0 | ⟨a,len,cap,elems,rest,n,_,gR,hx,hb,hl,hm,cJ,hel,rK,hns⟩
 ·have e:v = .slice none 0 0:=by simpa using h0.1
  exact ⟨none,0,0,[],e,⟨rfl,fun _=>⟨rfl,rfl⟩,fun ad h=>(by cases h),fun e he=>(by cases he),Nat.zero_le _⟩,Nat.zero_le _⟩
 ·subst hx
  have e:v = .slice (some a) len cap:=by simpa using gR
  simp only [Rows.uptoBulk] at hw;have h1:=vy (elems.map (·.1));simp only [List.length_map] at h1
  have key:∀ i,i < len -> ∃ e:K.En,K.gE W (a.add (i * 4)) e/\e.sku.size <= maxLen:=by
   intro i hi;have he:=hel i hi;obtain ⟨y,hy⟩:∃ y,elems[i]? = some y:=⟨_,List.getElem?_eq_getElem (by omega)⟩;rw [hy,K.pl,Option.bind_eq_some_iff] at he;obtain ⟨cs',gR,pT⟩:=he;obtain ⟨_,-,ml⟩:=World.cells?_some gR;obtain ⟨e,rfl,hs⟩:=K.zdY pT;have g0:=ml 0 (by omega);rw [add_zero] at g0;exact ⟨e,⟨g0,ml 1 (by omega),ml 2 (by omega),ml 3 (by omega)⟩,hs⟩
  refine ⟨some a,len,cap,(List.range len).map fun i=>if h:i < len then Classical.choose (key i h) else K.en0,e,⟨by simp,fun h=>(by cases h),fun ad h t ht=>?_,fun e he=>?_,by omega⟩,by omega⟩
  ·obtain rfl:=Option.some.inj h
   have:((List.range len).map fun i=>if h:i < len then Classical.choose (key i h) else K.en0).getD t K.en0=Classical.choose (key t ht):=by simp [List.getD,ht]
   rw [this];exact (Classical.choose_spec (key t ht)).1
  ·simp only [List.mem_map,List.mem_range] at he;obtain ⟨i,hi,rfl⟩:=he;rw [dif_pos hi];exact (Classical.choose_spec (key i hi)).2
theorem zeY {H:Type} {enc:TypeId × Value -> H} {W:World} {fuel:Nat} {cs:List Value} {x:DataW H × List MemPlace}
  (h:DataW.trod enc Tryz.prog W 0 (fun _=>true) true fuel 26 cs=some x):3 <= Rows.uptoBulk x.1:=by
 obtain ⟨xs,m,_,hx,fT,mV,hf⟩:=DataW.trod_struct Tryz.underlying26 h;obtain ⟨y0,y1,rfl⟩:=iO mV;subst hx;have h0:=wH y0.1;have h1:=wH y1.1;simp only [Rows.uptoBulk,List.map_cons,List.map_nil,Rows.uptoBulkAll];omega
theorem zbv {H:Type} {enc:TypeId × Value -> H} {W:World} {fuel:Nat} {cs:List Value} {x:DataW H × List MemPlace}
  (h:DataW.trod enc Tryz.prog W 0 (fun _=>true) true fuel 78 cs=some x):5 <= Rows.uptoBulk x.1/\(Rows.uptoBulk x.1 <= 1048576 -> ∃ r:Rc,cs=(ReC (mkR r)).toList/\cM W r/\r.p.P.cloud.length <= 1048576):=by
 obtain ⟨xs,m,_,hx,fT,mV,hf⟩:=DataW.trod_struct Tryz.underlying78 h;obtain ⟨v0,v1,v2,rfl⟩:=lG (fT.trans pD);obtain ⟨y0,y1,rfl⟩:=iO mV;have t0:=hf 0 _ rfl;have t1:=hf 1 _ rfl;simp [mH,uJ] at t0 t1;subst hx;simp only [Rows.uptoBulk,List.map_cons,List.map_nil,Rows.uptoBulkAll];have b0:=wH y0.1;have b1:=zeY t1;refine ⟨by omega,fun hw=>?_⟩;obtain ⟨s,e0,-,hs⟩:=DataW.trod_string Tryz.underlying9 t0;obtain ⟨p,ep,Sp,hl⟩:=sY t1 (by omega);simp only [List.cons.injEq,and_true] at e0 ep;obtain ⟨rfl,rfl⟩:=ep;subst e0;exact ⟨⟨s,p⟩,rfl,⟨Sp,hs⟩,hl⟩
theorem sl {H:Type} {enc:TypeId × Value -> H} {W:World} {fuel:Nat} {v:Value} {x:DataW H × List MemPlace}
  (h:DataW.trod enc Tryz.prog W 0 (fun _=>true) true fuel 27 [v]=some x) (hw:Rows.uptoBulk x.1 <= 1048576):∃ (ao:Option Addr) (n cap:Nat) (L:List Rc),v = .slice ao n cap/\RcT W ao n cap L/\EU L:=by
 rcases DataW.trod_slice Tryz.underlying27 h with h0 | ⟨a,len,cap,elems,rest,n,_,gR,hx,hb,hl,hm,cJ,hel,rK,hns⟩
 ·have e:v = .slice none 0 0:=by simpa using h0.1
  exact ⟨none,0,0,[],e,⟨RcS.empty _,Nat.le_refl _,fun _=>rfl⟩,Nat.zero_le _,fun r hr=>by cases hr⟩
 ·subst hx
  have e:v = .slice (some a) len cap:=by simpa using gR
  simp only [Rows.uptoBulk] at hw
  have op:∀ i (hi:i < elems.length),i < len/\∃ cs',(5 <= Rows.uptoBulk elems[i].1/\(Rows.uptoBulk elems[i].1 <= 1048576 -> ∃ r:Rc,cs'=(ReC (mkR r)).toList/\cM W r/\r.p.P.cloud.length <= 1048576))/\(∀ j,j < 3 -> W.cell? ((a.add (i * 3)).add j)=cs'[j]?):=by
   intro i hi
   have lO:i < len:=by omega
   have he:=hel i lO;rw [List.getElem?_eq_getElem hi,pD,Option.bind_eq_some_iff] at he;obtain ⟨cs',gR,pT⟩:=he;obtain ⟨_,-,ml⟩:=World.cells?_some gR;exact ⟨lO,cs',zbv pT,fun j hj=>ml j hj⟩
  have h5:=zbS (elems.map (·.1)) (fun d hd=>by
   obtain ⟨y,hy,rfl⟩:=List.mem_map.1 hd;obtain ⟨i,hi,rfl⟩:=List.getElem_of_mem hy;obtain ⟨-,_,h,-⟩:=op i hi
   exact h.1)
  simp only [List.length_map] at h5
  have key:∀ i,i < len -> ∃ r:Rc,iE W (a.add (i * 3)) (mkR r)/\cM W r/\r.p.P.cloud.length <= 1048576:=by
   intro i hi
   have lO:i < elems.length:=by omega
   obtain ⟨-,cs',h,ml⟩:=op i lO;obtain ⟨r,rfl,hr,Ku⟩:=h.2 (by have:=zcE (elems.map (·.1)) elems[i].1 (List.mem_map_of_mem (f:=(·.1)) (List.getElem_mem lO));omega);have g0:=ml 0 (by omega);rw [add_zero] at g0;exact ⟨r,⟨g0,ml 1 (by omega),ml 2 (by omega)⟩,hr,Ku⟩
  refine ⟨some a,len,cap,(List.range len).map fun i=>if h:i < len then Classical.choose (key i h) else rc0,e,⟨⟨by simp,(fun h=>by cases h),fun ad h t ht=>?_,fun r hr=>?_,by omega⟩,hl,fun h=>by cases h⟩,by simp;omega,fun r hr=>?_⟩
  ·obtain rfl:=Option.some.inj h
   have:((List.range len).map fun i=>if h:i < len then Classical.choose (key i h) else rc0).getD t rc0=Classical.choose (key t ht):=by simp [List.getD,ht]
   rw [this];exact (Classical.choose_spec (key t ht)).1
  ·simp only [List.mem_map,List.mem_range] at hr;obtain ⟨i,hi,rfl⟩:=hr;rw [dif_pos hi];exact (Classical.choose_spec (key i hi)).2.1
  ·simp only [List.mem_map,List.mem_range] at hr;obtain ⟨i,hi,rfl⟩:=hr;rw [dif_pos hi];exact (Classical.choose_spec (key i hi)).2.2
theorem kx {H:Type} {enc:TypeId × Value -> H} {W:World} {fuel:Nat} {cs:List Value} {x:DataW H × List MemPlace}
  (h:DataW.trod enc Tryz.prog W 0 (fun _=>true) true fuel 29 cs=some x) (hw:Rows.uptoBulk x.1 <= 1048576):∃ f:Fc,cs=(FaC (mkF f)).toList/\FcU W f:=by
 obtain ⟨xs,m,_,hx,fT,mV,hf⟩:=DataW.trod_struct Tryz.underlying29 h;obtain ⟨v0,v1,v2,v3,rfl⟩:=K.tf (fT.trans pH);obtain ⟨y0,y1,y2,rfl⟩:=lG mV;have t0:=hf 0 _ rfl;have t1:=hf 1 _ rfl;have t2:=hf 2 _ rfl;simp [mH,pz,pn] at t0 t1 t2;subst hx;simp only [Rows.uptoBulk,List.map_cons,List.map_nil,Rows.uptoBulkAll] at hw;obtain ⟨ro,rn,rc,R,rfl,Sr,r1⟩:=sl t2 (by omega);obtain ⟨ao,an,ac,A,rfl,Sa,a1⟩:=sO t0 (by omega);obtain ⟨p,ep,Sp,-⟩:=sY t1 (by omega);simp only [List.cons.injEq,and_true] at ep;obtain ⟨rfl,rfl⟩:=ep;exact ⟨⟨ao,an,ac,A,p,ro,rn,rc,R⟩,rfl,⟨Sa,Sp,Sr.src⟩,⟨Sr.room,Sr.nil⟩,r1,a1⟩
end
section
open Go.ChangeShapes Go.WideShapes Go.ChangeAt Go.RowKit Go.Joins
theorem pt:Tryz.prog.cellsOf 31=4:=by kernel_rfl
theorem zdX {H:Type} {enc:TypeId × Value -> H} {W:World} {fuel:Nat} {cs:List Value} {x:DataW H × List MemPlace}
  (h:DataW.trod enc Tryz.prog W 0 (fun _=>true) true fuel 31 cs=some x) (hw:Rows.uptoBulk x.1 <= 1048576):∃ f:Fc,cs=(FaC (mkF f)).toList/\FcU W f:=by
 obtain ⟨xs,m,_,hx,fT,mV,hf⟩:=DataW.trod_struct Tryz.underlying31 h;obtain ⟨v0,v1,v2,v3,rfl⟩:=K.tf (fT.trans pt);obtain ⟨y0,y1,y2,rfl⟩:=lG mV;have t0:=hf 0 _ rfl;have t1:=hf 1 _ rfl;have t2:=hf 2 _ rfl;simp [mH,pz,pn] at t0 t1 t2;subst hx;simp only [Rows.uptoBulk,List.map_cons,List.map_nil,Rows.uptoBulkAll] at hw;obtain ⟨ro,rn,rc,R,rfl,Sr,r1⟩:=sl t2 (by omega);obtain ⟨ao,an,ac,A,rfl,Sa,a1⟩:=sO t0 (by omega);obtain ⟨p,ep,Sp,-⟩:=sY t1 (by omega);simp only [List.cons.injEq,and_true] at ep;obtain ⟨rfl,rfl⟩:=ep;exact ⟨⟨ao,an,ac,A,p,ro,rn,rc,R⟩,rfl,⟨Sa,Sp,Sr.src⟩,⟨Sr.room,Sr.nil⟩,r1,a1⟩
theorem FcU.b {w:World} {s:Fc} (h:FcU w s):SwB 1 w s:=⟨h.ok,h.row,by have:=h.rn;omega,by have:=h.an;omega,h.sm.2⟩
end
section
open Go.ChangeShapes Go.WideShapes Go.ChangeAt Go.RowKit Go.Joins
variable {w w' W : World} {g : Nat}
structure Cz where
 f:Fc
 g:Fc
 h:Fc
 s:Fc
 v:Value
 u:Value
def CzC (c:Cz):Array Value:=#[.slice c.f.ao c.f.an c.f.ac,.slice c.f.p.vo c.f.p.vn c.f.p.vc,.slice c.f.p.co c.f.p.cn c.f.p.cc,.slice c.f.ro c.f.rn c.f.rc,
 .slice c.g.ao c.g.an c.g.ac,.slice c.g.p.vo c.g.p.vn c.g.p.vc,.slice c.g.p.co c.g.p.cn c.g.p.cc,.slice c.g.ro c.g.rn c.g.rc,
 .slice c.h.ao c.h.an c.h.ac,.slice c.h.p.vo c.h.p.vn c.h.p.vc,.slice c.h.p.co c.h.p.cn c.h.p.cc,.slice c.h.ro c.h.rn c.h.rc,
 .slice c.s.ao c.s.an c.s.ac,.slice c.s.p.vo c.s.p.vn c.s.p.vc,.slice c.s.p.co c.s.p.cn c.s.p.cc,.slice c.s.ro c.s.rn c.s.rc,c.v,c.u]
abbrev CzV (c:Cz):Value:=.agg (CzC c)
theorem zhT (c:Cz):(CzC c).size=18:=rfl
theorem zfT (c:Cz):(CzV c).cells=CzC c:=by simp [Value.cells]
def eV (w:World) (g:Nat) (c:Cz):Prop:=w.heap[g]? = some (.cells (CzC c) 34 (0,0))
theorem eV.lt {c:Cz} (h:eV w g c):g < w.heap.size:=(Array.getElem?_eq_some_iff.1 h).1
theorem eV.below {c:Cz} (h:eV w g c) (hb:Below w.heap.size w w'):eV w' g c:=(hb.block g h.lt).trans h
theorem zgc (w:World) (c:Cz):eV (w.alloc (.cells (CzC c) 34)) w.heap.size c:=by unfold eV;rw [heap_alloc_new]
theorem eV.fF {c:Cz} (h:eV w g c):Cx w ⟨g,0,none⟩ (mkF c.f):=by
 unfold eV at h;refine ⟨?_,?_,?_,?_⟩ <;> simp [Addr.add,World.cell?,h,CzC,mkF]
theorem eV.hF {c:Cz} (h:eV w g c):Cx w ⟨g,8,none⟩ (mkF c.h):=by
 unfold eV at h;refine ⟨?_,?_,?_,?_⟩ <;> simp [Addr.add,World.cell?,h,CzC,mkF]
structure CzU (W:World) (c:Cz):Prop where
 f:FcU W c.f
 g:FcU W c.g
 h:FcU W c.h
 s:FcU W c.s
theorem uI:Tryz.prog.cellsOf 34=18:=by kernel_rfl
theorem uL:Tryz.prog.cellsOf 32=1:=by kernel_rfl
theorem CH {α : Type} {l:List α} (h:l.length=18):∃ a0 a1 a2 a3 b0 b1 b2 b3 c0 c1 c2 c3 d0 d1 d2 d3 e0 e1,l=[a0,a1,a2,a3,b0,b1,b2,b3,c0,c1,c2,c3,d0,d1,d2,d3,e0,e1]:=by
 match l,h with
 | [a0,a1,a2,a3,b0,b1,b2,b3,c0,c1,c2,c3,d0,d1,d2,d3,e0,e1],_=>exact ⟨_,_,_,_,_,_,_,_,_,_,_,_,_,_,_,_,_,_,rfl⟩
theorem EH {α : Type} {l:List α} (h:l.length=6):∃ a0 a1 a2 a3 a4 a5,l=[a0,a1,a2,a3,a4,a5]:=by
 match l,h with
 | [a0,a1,a2,a3,a4,a5],_=>exact ⟨_,_,_,_,_,_,rfl⟩
end
end Go.Proofs.YtjffpimfngdggaaGreat
namespace Go.Proofs.YtjffpimfngdggaaGreat.compactFates
open Go.ChangeShapes Go.WideShapes Go.ChangeAt Go.RowKit Go.Joins
theorem pF:Tryz.prog.cellsOf 48=2:=by kernel_rfl
theorem zgJ {H:Type} {enc:TypeId × Value -> H} {w:World} {base:Nat} {spare:Nat -> Bool} {held:Bool} {fuel:Nat} {cs:List Value} {x:DataW H × List MemPlace}
  (h:DataW.trod enc Tryz.prog w base spare held fuel 48 cs=some x):∃ e:Rn,cs=(RC e).toList:=by
 obtain ⟨xs,m,_,hx,fT,mV,hf⟩:=DataW.trod_struct Tryz.underlying48 h;obtain ⟨v0,v1,rfl⟩:=iO (fT.trans pF);obtain ⟨y0,y1,rfl⟩:=iO mV;have t0:=hf 0 _ rfl;have t1:=hf 1 _ rfl;simp [oI] at t0 t1;obtain ⟨r,e0,-,_⟩:=DataW.trod_int Tryz.underlying3 t0;obtain ⟨n,e1,-,_⟩:=DataW.trod_int Tryz.underlying3 t1;simp only [List.cons.injEq,and_true] at e0 e1;subst e0 e1;exact ⟨⟨r,n⟩,rfl⟩
theorem EQ {H:Type} {enc:TypeId × Value -> H} {W:World} {fuel:Nat} {v:Value} {x:DataW H × List MemPlace}
  (h:DataW.trod enc Tryz.prog W 0 (fun _=>true) true fuel 32 [v]=some x) (hw:Rows.uptoBulk x.1 <= 1048576):∃ (ao:Option Addr) (n cap:Nat) (L:List Rn),v = .slice ao n cap/\aV W ao n cap L/\n <= 1048576:=by
 rcases DataW.trod_slice Tryz.underlying32 h with h0 | ⟨a,len,cap,elems,rest,n,_,gR,hx,hb,hl,hm,cJ,hel,rK,hns⟩
 ·have e:v = .slice none 0 0:=by simpa using h0.1
  exact ⟨none,0,0,[],e,aV.empty _,Nat.zero_le _⟩
 ·subst hx
  have e:v = .slice (some a) len cap:=by simpa using gR
  simp only [Rows.uptoBulk] at hw;have h1:=vy (elems.map (·.1));simp only [List.length_map] at h1
  have key:∀ i,i < len -> ∃ e:Rn,gk W (a.add (i * 2)) e:=by
   intro i hi;have he:=hel i hi;obtain ⟨y,hy⟩:∃ y,elems[i]? = some y:=⟨_,List.getElem?_eq_getElem (by omega)⟩;rw [hy,pF,Option.bind_eq_some_iff] at he;obtain ⟨cs',gR,pT⟩:=he;obtain ⟨_,-,ml⟩:=World.cells?_some gR;obtain ⟨e,rfl⟩:=zgJ pT;have g0:=ml 0 (by omega);rw [add_zero] at g0;exact ⟨e,⟨g0,ml 1 (by omega)⟩⟩
  refine ⟨some a,len,cap,(List.range len).map fun i=>if h:i < len then Classical.choose (key i h) else rn0,e,⟨by simp,fun h=>(by cases h),fun ad h t ht=>?_,hl,hm,by omega⟩,by omega⟩;obtain rfl:=Option.some.inj h
  have:((List.range len).map fun i=>if h:i < len then Classical.choose (key i h) else rn0).getD t rn0=Classical.choose (key t ht):=by simp [List.getD,ht]
  rw [this];exact Classical.choose_spec (key t ht)
theorem tb:Tryz.prog.cellsOf 9=1:=by kernel_rfl
theorem zdZ {H:Type} {enc:TypeId × Value -> H} {W:World} {fuel:Nat} {cs:List Value} {x:DataW H × List MemPlace}
  (h:DataW.trod enc Tryz.prog W 0 (fun _=>true) true fuel 34 cs=some x) (hw:Rows.uptoBulk x.1 <= 1048576):∃ c:Cz,cs=(CzC c).toList/\CzU W c/\∃ (vo:Option Addr) (vn vc:Nat) (D:List Rn) (s:ByteArray),c.v = .slice vo vn vc/\aV W vo vn vc D/\vn <= 1048576/\c.u = .string s/\s.size <= maxLen:=by
 obtain ⟨xs,m,_,hx,fT,mV,hf⟩:=DataW.trod_struct Tryz.underlying34 h;obtain ⟨a0,a1,a2,a3,b0,b1,b2,b3,c0,c1,c2,c3,d0,d1,d2,d3,e0,e1,rfl⟩:=CH (fT.trans uI);obtain ⟨y0,y1,y2,y3,y4,y5,rfl⟩:=EH mV;have t0:=hf 0 _ rfl;have t1:=hf 1 _ rfl;have t2:=hf 2 _ rfl;have t3:=hf 3 _ rfl;have t4:=hf 4 _ rfl;have t5:=hf 5 _ rfl;simp [pH,pt,uL,tb] at t0 t1 t2 t3 t4 t5;subst hx;simp only [Rows.uptoBulk,List.map_cons,List.map_nil,Rows.uptoBulkAll] at hw;obtain ⟨f,ef,Sf⟩:=kx t0 (by omega);obtain ⟨g,eg,Sg⟩:=kx t1 (by omega);obtain ⟨k,eh,Sh⟩:=kx t2 (by omega);obtain ⟨s,es,Ss⟩:=zdX t3 (by omega);obtain ⟨vo,vn,vc,D,rfl,SD,gd⟩:=EQ t4 (by omega);obtain ⟨q,e5,-,hq⟩:=DataW.trod_string Tryz.underlying9 t5;simp only [FaC,mkF,List.cons.injEq,and_true] at ef eg eh es
 obtain ⟨rfl,rfl,rfl,rfl⟩:=ef;obtain ⟨rfl,rfl,rfl,rfl⟩:=eg;obtain ⟨rfl,rfl,rfl,rfl⟩:=eh;obtain ⟨rfl,rfl,rfl,rfl⟩:=es
 obtain rfl:e1 = .string q:=by simpa using e5
 exact ⟨⟨f,g,k,s,.slice vo vn vc,.string q⟩,rfl,⟨Sf,Sg,Sh,Ss⟩,vo,vn,vc,D,q,rfl,SD,gd,rfl,hq⟩
end Go.Proofs.YtjffpimfngdggaaGreat.compactFates
