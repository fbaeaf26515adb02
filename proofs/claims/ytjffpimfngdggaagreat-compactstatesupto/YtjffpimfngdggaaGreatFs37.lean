/- BMg SXf LFnd LFn2 SXg BCs SXj SXy SYa SXq SZa SZb TJn LOnr LRu TRj SXx SZc SZd SZe SZf TLv -/
import Derived.Test.YtjffpimfngdggaaGreatTk
import Derived.Test.YtjffpimfngdggaaGreatFs36
import Derived.Test.YtjffpimfngdggaaGreatFs34
import Derived.Test.YtjffpimfngdggaaGreatFs33
import Derived.Test.YtjffpimfngdggaaGreatFs28
import Derived.Deep.CutRange
import Derived.Test.YtjffpimfngdggaaGreatFs35
import Derived.Test.YtjffpimfngdggaaGreatFs12
import Derived.Test.YtjffpimfngdggaaGreatFs25
import Derived.Test.YtjffpimfngdggaaGreatFs31
import Derived.Test.YtjffpimfngdggaaGreatFs27
import Derived.Test.YtjffpimfngdggaaGreatFs18
import Derived.Test.YtjffpimfngdggaaGreatFs32
import Derived.Test.YtjffpimfngdggaaGreatFs09
import Derived.Test.YtjffpimfngdggaaGreatFs10
import Derived.Test.YtjffpimfngdggaaGreatFs21
import Derived.BigFrame
import Derived.Test.YtjffpimfngdggaaGreatFs26
import Derived.Test.YtjffpimfngdggaaGreatFs19
set_option maxRecDepth 100000
set_option maxHeartbeats 3200000
namespace Go.Proofs.YtjffpimfngdggaaGreat
section
open Go.RowKit Go.Maps Go.Sort
theorem zfc (a b:Pv):Array.foldl (fun cs x=>cs.setIfInBounds (2+x.snd) x.fst) (Array.foldl (fun cs x=>cs.setIfInBounds x.snd x.fst) #[(PC pv0)[0]!,(PC pv0)[1]!,(PC pv0)[0]!,(PC pv0)[1]!] (PC a).zipIdx 0 2) (PC b).zipIdx 0 2=#[.slice a.vo a.vn a.vc,.slice a.co a.cn a.cc,.slice b.vo b.vn b.vc,.slice b.co b.cn b.cc]:=rfl
attribute [local go_sem ↓] zr zq
attribute [local go_sem] zi zk zE zfc
def RmOf (L:List K.En) (P Q:Pst):Prop:=∃ D:Pst,CanonOf (dotsG (L.map dotOf)) D/\∃ C:Nat -> List Rn,(∀ r,r < 16 -> MinusOf (runsAt P r) (runsAt D r) (C r))/\CanonOf C Q
theorem wZ (ao:Option Addr) (n cap:Nat) (L:List K.En) (p:Pv) (w:World) (hS:K.ESrc w ao n cap L) (hc:K.chk L=0) (hP:PSrc w p) :
  Calls Tryz.prog 169 #[.slice ao n cap,PV p] w fun x w'=>GivesP w w' x (RmOf L p.P):=by
 have b1:=ze w (.cells (PC p) 26);have b2:=ze (w.alloc (.cells (PC p) 26)) (.cells (PC pv0) 26);have HXA:=hide ((zm w p).below b2);have X2:=zm (w.alloc (.cells (PC p) 26)) pv0;rw [World.size_alloc] at X2;have HXB:=hide X2;have HBK:=hide (b1.trans (b2.mono b1.size));have HS:=hide (hS.below HBK.out);have HP:=hide (hP.below HBK.out);have HC:=hide hc;clear b1 b2 X2 hS hP hc;obtain ⟨wk,hwk⟩:∃ wk,(w.alloc (.cells (PC p) 26)).alloc (.cells (PC pv0) 26)=wk:=⟨_,rfl⟩;obtain ⟨G,HG⟩:∃ G,Hid (w.heap.size=G):=⟨_,rfl⟩;have hG:=HG.out;rw [hwk] at HXA HXB HBK HS HP;rw [hG] at HXA HXB;go_enter Tryz.func169,Tryz.ntmps169;go_wp2_with fail;clear hwk hG;refine (zc7 ao n cap L _ HS.out).mono ?_;rintro x w3 ⟨b3,⟨-,d,rfl,Sd,Nd,Cd⟩ | ⟨hno,-⟩⟩;rotate_left
 ·exact absurd HC.out hno
 obtain ⟨g5,hg5⟩:∃ g5,w3.heap.size=g5:=⟨_,rfl⟩;obtain ⟨w5,hst,X5,b5,s5⟩:=madeP w3 d g5 hg5;have b35:=b3.trans (b5.mono b3.size);have HX5:Hid (PBox w5 g5 d/\PSrc w5 d):=⟨X5,Sd.below b5⟩;have HA5:Hid (PBox w5 G p/\PSrc w5 p/\PBox w5 (G+1) pv0/\Below w.heap.size w w5/\G+1 < w5.heap.size):=⟨HXA.out.below b35,HP.out.below b35,HXB.out.below b35,HBK.out.trans (b35.mono HBK.out.size),Nat.lt_of_lt_of_le HXB.out.lt b35.size⟩;have HCd:=hide Cd;clear Sd Nd Cd X5 b3 b5 b35 s5 HXA HXB HP HS HBK
 have l1:=zj HA5.out.1.at
 have l2:=zj HX5.out.1.at
 go_wp2_with fail;clear hst hg5 l1 l2;refine (jB p d _ HA5.out.2.1 HX5.out.2).mono ?_;rintro x w6 ⟨q,rfl,Sq,Nq,b6,Cq⟩;have X6:=HA5.out.2.2.1.below b6;have t6:=qV (p':=q) X6;have HX6:Hid (PBox (w6.setRow (G+1) (PC q)) (G+1) q):=setRow_heap _ _ _ _ _ _ X6
 have HE:Hid (GivesP w (w6.setRow (G+1) (PC q)) (.returned (PV q)) (RmOf L p.P)):=by
  refine ⟨q,rfl,xZ (g:=some (G+1)) Sq (fun k e=>by obtain rfl:=Option.some.inj e;exact PFar.new Nq HA5.out.2.2.2.2) (fun r _ hr=>setRow_other _ _ _ _ (fun e=>hr (by rw [e]))),Nq.mono HA5.out.2.2.2.1.size,zh (HA5.out.2.2.2.1.trans (b6.mono HA5.out.2.2.2.1.size)) (by have:=HG.out;omega),d.P,HCd.out,Cq⟩
 clear Sq Nq b6 Cq X6;go_wp2_with fail;refine bodyPost_ret (resP rfl rfl HX6.out) rfl ?_;exact HE.out
theorem zgy {L:List K.En} {P:Pst} (h:CanonOf (dotsG (L.map dotOf)) P) (e:K.En) (he:okD (dotOf e)=true):inB P e=L.any (fun y=>K.sameDot y e):=by
 have h3:=he;unfold okD dotOf at h3;simp only [Bool.and_eq_true,decide_eq_true_eq] at h3
 have h4:0 <= e.rep/\e.rep < 16:=by simpa [V.isR] using h3.1
 have key:inB P e=true↔L.any (fun y=>K.sameDot y e)=true:=by
  rw [qs,List.any_eq_true];unfold dotIn;constructor
  ·rintro ⟨-,h2⟩;rw [zO h _ (by show e.rep.toNat < 16;omega),xq] at h2;obtain ⟨d,hd,-,k2,k3⟩:=h2;obtain ⟨x,hx,rfl⟩:=List.mem_map.1 hd;refine ⟨x,hx,?_⟩;unfold dotOf at k2 k3;simp only at k2 k3;simp only [K.sameDot,Bool.and_eq_true,beq_iff_eq];omega
  ·rintro ⟨x,hx,h2⟩;refine ⟨h3.1,?_⟩;simp only [K.sameDot,Bool.and_eq_true,beq_iff_eq] at h2
   have ed:dotOf x=dotOf e:=by unfold dotOf;rw [h2.1,h2.2]
   rw [zO h _ (by show e.rep.toNat < 16;omega),xq];exact ⟨dotOf x,List.mem_map.2 ⟨x,hx,rfl⟩,by rw [ed];exact he,by rw [ed];unfold dotOf;simp only;omega,by rw [ed];rfl⟩
 cases h1:inB P e <;> cases h2:L.any (fun y=>K.sameDot y e)
 ·rfl
 ·rw [h1,h2] at key;exact absurd (key.2 rfl) (by decide)
 ·rw [h1,h2] at key;exact absurd (key.1 rfl) (by decide)
 ·rfl
theorem zhx {L:List K.En} {P Q:Pst} (h:RmOf L P Q) (e:K.En) (he:okD (dotOf e)=true):inB Q e=(inB P e && !L.any (fun y=>K.sameDot y e)):=by
 obtain ⟨D,hD,C,hC,hQ⟩:=h;rw [<- zgy hD e he];have h3:=he;unfold okD dotOf at h3;simp only [Bool.and_eq_true,decide_eq_true_eq] at h3
 have h4:0 <= e.rep/\e.rep < 16:=by simpa [V.isR] using h3.1
 have hr:e.rep.toNat < 16:=by omega
 have key:inB Q e=true↔inB P e=true/\¬ inB D e=true:=by
  rw [qs,qs,qs];unfold dotIn;simp only [h3.1,true_and];rw [zO hQ _ hr,(hC _ hr).2]
 cases h1:inB Q e <;> cases h2:inB P e <;> cases h5:inB D e <;> simp_all
theorem zgw {a b:Pv} {P:Pst} (h:CanonOf (runsOf [a,b]) P) (e:K.En) (he:okD (dotOf e)=true):inB P e=(inB a.P e || inB b.P e):=by
 have h3:=he;unfold okD dotOf at h3;simp only [Bool.and_eq_true,decide_eq_true_eq] at h3
 have h4:0 <= e.rep/\e.rep < 16:=by simpa [V.isR] using h3.1
 have hr:e.rep.toNat < 16:=by omega
 have key:inB P e=true↔inB a.P e=true∨inB b.P e=true:=by
  rw [qs,qs,qs];unfold dotIn;simp only [h3.1,true_and];rw [zO h _ hr,j7];simp
 cases h1:inB P e <;> cases h2:inB a.P e <;> cases h5:inB b.P e <;> simp_all
def KeptM (A B:List K.En) (P O:Pst) (x:K.En):Prop:=(x∈A/\stayB B O x=true)∨(x∈B/\stayB A P x=true)
def OkM (A B:List K.En) (P O:Pst):Prop:=K.chk A=0/\K.chk B=0/\InForm P/\InForm O
def MgD (A B:List K.En) (P O:Pst) (Z:List K.En) (er:Int):Prop:=(¬ OkM A B P O/\Z=[]/\er=1)∨(OkM A B P O/\K.Clash (A++B)/\Z=[]/\er=10)∨(OkM A B P O/\¬ K.Clash (A++B)/\er=0/\K.Asc Z/\∀ x,x∈Z↔KeptM A B P O x)
theorem zdX {A B:List K.En} (h:K.Clash (A++B)):K.Clash (B++A):=by
 obtain ⟨x,hx,y,hy,h1,h2⟩:=h;exact ⟨x,List.mem_append.2 (List.mem_append.1 hx).symm,y,List.mem_append.2 (List.mem_append.1 hy).symm,h1,h2⟩
theorem zdl {A:List K.En} {x:K.En} (h:x∈A):A.any (fun y=>K.sameDot y x)=true:=by
 rw [List.any_eq_true];exact ⟨x,h,by simp [K.sameDot]⟩
theorem zeR {A B U:List K.En} {P O:Pst} {a b:Pv} {J:Pst} (hA:K.chk A=0) (hB:K.chk B=0) (hU:∀ x,x∈U↔x∈A++B) (ha:RmOf A P a.P) (hb:RmOf B O b.P) (hJ:CanonOf (runsOf [a,b]) J) (x:K.En):x∈U.filter (pkB J false)↔KeptM A B P O x:=by
 rw [List.mem_filter,hU x,List.mem_append];have hd:x∈A∨x∈B -> okD (dotOf x)=true:=fun h=>h.elim (fun h=>zdf (jJ hA x h)) (fun h=>zdf (jJ hB x h))
 have hpk:okD (dotOf x)=true -> (pkB J false x=true↔((inB P x && !A.any (fun y=>K.sameDot y x)) || (inB O x && !B.any (fun y=>K.sameDot y x)))=false):=fun h=>by
  unfold pkB;rw [zgw hJ x h,zhx ha x h,zhx hb x h]
  cases inB P x <;> cases A.any (fun y=>K.sameDot y x) <;> cases inB O x <;> cases B.any (fun y=>K.sameDot y x) <;> decide
 unfold KeptM stayB;constructor
 ·rintro ⟨h1,h2⟩;rw [hpk (hd h1),Bool.or_eq_false_iff] at h2;rcases h1 with h1 | h1
  ·refine .inl ⟨h1,?_⟩;have h3:=h2.2
   cases hx:inB O x <;> cases hy:B.any (fun y=>K.sameDot y x) <;> simp_all
  ·refine .inr ⟨h1,?_⟩;have h3:=h2.1
   cases hx:inB P x <;> cases hy:A.any (fun y=>K.sameDot y x) <;> simp_all
 ·rintro (⟨h1,h2⟩ | ⟨h1,h2⟩)
  ·refine ⟨.inl h1,(hpk (hd (.inl h1))).2 ?_⟩;rw [zdl h1]
   cases hx:inB O x <;> cases hy:B.any (fun y=>K.sameDot y x) <;> simp_all
  ·refine ⟨.inr h1,(hpk (hd (.inr h1))).2 ?_⟩;rw [zdl h1]
   cases hx:inB P x <;> cases hy:A.any (fun y=>K.sameDot y x) <;> simp_all
theorem zgp (W:World) (a b:Pv) (ha:PSrc W a) (hb:PSrc W b):PRow (W.alloc (.cells #[.slice a.vo a.vn a.vc,.slice a.co a.cn a.cc,.slice b.vo b.vn b.vc,.slice b.co b.cn b.cc] 26)) (some ⟨W.heap.size,0,none⟩) 2 [a,b]:=by
 have b1:=ze W (.cells #[.slice a.vo a.vn a.vc,.slice a.co a.cn a.cc,.slice b.vo b.vn b.vc,.slice b.co b.cn b.cc] 26);have h1:=heap_alloc_new W (.cells #[.slice a.vo a.vn a.vc,.slice a.co a.cn a.cc,.slice b.vo b.vn b.vc,.slice b.co b.cn b.cc] 26);refine ⟨rfl,fun e=>(by cases e),fun ad e t p hp=>?_,fun p hp=>?_⟩
 ·obtain rfl:(⟨W.heap.size,0,none⟩:Addr)=ad:=Option.some.inj e;rw [Addr.add_lit,Nat.zero_add]
  match t,hp with
  | 0,hp=>cases hp;refine ⟨?_,?_⟩ <;> (try rw [Addr.add_lit]) <;> simp only [World.cell?,h1] <;> rfl
  | 1,hp=>cases hp;refine ⟨?_,?_⟩ <;> (try rw [Addr.add_lit]) <;> simp only [World.cell?,h1] <;> rfl
  | t+2,hp=>simp at hp
 ·rcases List.mem_cons.1 hp with rfl | hp
  ·exact ha.below b1
  ·obtain rfl:=List.mem_singleton.1 hp;exact hb.below b1
def MgA (w w':World) (x:Ending) (A B:List K.En) (P O:Pst):Prop:=∃ a n c Z er,x = .returned (.tuple #[.slice a n c,.int .i64 er])/\K.ESrc w' a n c Z/\Below w.heap.size w w'/\MgD A B P O Z er
theorem zeS (ao bo:Option Addr) (n cap m cap':Nat) (A B:List K.En) (p o:Pv) (w:World) (hA:K.ESrc w ao n cap A) (hB:K.ESrc w bo m cap' B) (hP:PSrc w p) (hO:PSrc w o) :
  Calls Tryz.prog 123 #[.slice ao n cap,PV p,.slice bo m cap',PV o] w fun x w'=>MgA w w' x A B p.P o.P:=by
 have b1:=ze w (.cells (PC p) 26);have b2:=ze (w.alloc (.cells (PC p) 26)) (.cells (PC o) 26);have HXA:=hide ((zm w p).below b2);have X2:=zm (w.alloc (.cells (PC p) 26)) o;rw [World.size_alloc] at X2;have HXB:=hide X2;have HBK:=hide (b1.trans (b2.mono b1.size));have HA:=hide (hA.below HBK.out);have HB:=hide (hB.below HBK.out);have HP:=hide (hP.below HBK.out);have HO:=hide (hO.below HBK.out);clear b1 b2 X2 hA hB hP hO;obtain ⟨wk,hwk⟩:∃ wk,(w.alloc (.cells (PC p) 26)).alloc (.cells (PC o) 26)=wk:=⟨_,rfl⟩;obtain ⟨G,hG⟩:∃ G,w.heap.size=G:=⟨_,rfl⟩;rw [hwk] at HXA HXB HBK HA HB HP HO;rw [hG] at HXA HXB
 have l1:=zj HXA.out.at
 go_enter Tryz.func123,Tryz.ntmps123;go_wp2_with fail;clear hwk hG l1;refine (q9 p _ HP.out).mono ?_;rintro x w2 ⟨b,rfl,hb,b2⟩
 cases b with
 | false =>
  have HE:Hid (MgA w w2 (.returned (.tuple #[.slice none 0 0,.int .i64 1])) A B p.P o.P):=⟨_,_,_,_,_,rfl,K.ESrc.none _,HBK.out.trans (b2.mono HBK.out.size),.inl ⟨fun h=>(by have:=hb.out.2 h.2.2.1;cases this),rfl,rfl⟩⟩;clear hb b2;go_wp2_with fail;go_ret2;exact HE.out
 | true =>
  have HF1:Hid (InForm p.P):=hb.out.1 rfl
  have l2:=zj (HXB.out.below b2).at
  have HB2:=hide b2;clear hb b2;go_wp2_with fail;clear l2;refine (q9 o _ (HO.out.below HB2.out)).mono ?_;rintro x w3 ⟨b,rfl,hb,b3⟩;have HB3:=wTr HB2 b3;clear b3 HB2
  cases b with
  | false =>
   have HE:Hid (MgA w w3 (.returned (.tuple #[.slice none 0 0,.int .i64 1])) A B p.P o.P):=⟨_,_,_,_,_,rfl,K.ESrc.none _,HBK.out.trans (HB3.out.mono HBK.out.size),.inl ⟨fun h=>(by have:=hb.out.2 h.2.2.2;cases this),rfl,rfl⟩⟩;clear hb;go_wp2_with fail;go_ret2;exact HE.out
  | true =>
   have HF2:Hid (InForm o.P):=hb.out.1 rfl;clear hb;go_wp2_with fail;refine (K.zd6 ao bo n cap m cap' A B _ (HA.out.below HB3.out) (HB.out.below HB3.out)).mono ?_;rintro x w4 ⟨uo,un,uc,U,er,rfl,S4,b4,hU⟩;have HB4:=wTr HB3 b4;clear b4 HB3;rcases hU with ⟨hno,rfl,rfl⟩ | ⟨hok,⟨hcl,rfl,rfl⟩ | ⟨hcl,rfl,hAs,hm⟩⟩
   ·have HE:Hid (MgA w w4 (.returned (.tuple #[.slice none 0 0,.int .i64 1])) A B p.P o.P):=⟨_,_,_,_,_,rfl,K.ESrc.none _,HBK.out.trans (HB4.out.mono HBK.out.size),.inl ⟨fun h=>hno ⟨h.1,h.2.1⟩,rfl,rfl⟩⟩;clear hno S4;go_wp2_with fail;go_ret2;exact HE.out
   ·have HE:Hid (MgA w w4 (.returned (.tuple #[.slice none 0 0,.int .i64 10])) A B p.P o.P):=⟨_,_,_,_,_,rfl,K.ESrc.none _,HBK.out.trans (HB4.out.mono HBK.out.size),.inr (.inl ⟨⟨hok.1,hok.2,HF1.out,HF2.out⟩,hcl,rfl,rfl⟩)⟩;clear hok hcl S4;go_wp2_with fail;go_ret2;exact HE.out
   ·have HU:Hid (K.chk A=0/\K.chk B=0/\¬ K.Clash (A++B)/\K.Asc U/\∀ x,x∈U↔x∈A++B):=⟨hok.1,hok.2,hcl,hAs,hm⟩;have HS4:=hide S4;have HSt:Hid (∀ W,Below w4.heap.size w4 W -> (ldP (.pointer (some ⟨G,0,none⟩))).run Tryz.prog W = .ok (PV p) W/\(ldP (.pointer (some ⟨G+1,0,none⟩))).run Tryz.prog W = .ok (PV o) W):=fun W hW=>⟨zj ((HXA.out.below HB4.out).below hW).at,zj ((HXB.out.below HB4.out).below hW).at⟩;have HPJ:Hid (∀ W:World,∀ a b:Pv,PSrc W a -> PSrc W b -> PRow (W.alloc (.cells #[.slice a.vo a.vn a.vc,.slice a.co a.cn a.cc,.slice b.vo b.vn b.vc,.slice b.co b.cn b.cc] 26)) (some ⟨W.heap.size,0,none⟩) 2 [a,b]):=fun W a b ha hb=>zgp W a b ha hb;clear hok hcl hAs hm S4;go_upto_region 6 with fail;refine wp_region_held_drew (S:=fun W=>(ldP (.pointer (some ⟨G,0,none⟩))).run Tryz.prog W = .ok (PV p) W/\(ldP (.pointer (some ⟨G+1,0,none⟩))).run Tryz.prog W = .ok (PV o) W) (by kernel_rfl) (HSt.out _ (zf w4)) (fun hHeld=>?_)
    refine wU 0 ?_;refine wU 1 ?_;refine wU 2 ?_;refine wU 4 ?_;refine wU 5 ?_;refine wpAnyH_ready (rs:=[3]) (by kernel_rfl) (by simp) (.cons rfl (fun K hK=>?_) .nil);go_simp;go_wp2_with fail;refine (wZ ao n cap A p _ (HA.out.below (HB4.out.trans ((zf w4).mono HB4.out.size))) HU.out.1 (HP.out.below (HB4.out.trans ((zf w4).mono HB4.out.size)))).mono ?_;rintro x w5 ⟨ra,rfl,Sa,-,b5,Ra⟩;have HB5:Hid (Below w4.heap.size w4 w5):=(zf w4).trans b5;have HRa:Hid (RmOf A p.P ra.P):=Ra;have HSa:=hide Sa;refine hK.out _ _ (HSt.out _ HB5.out) (fun hHeld=>?_);clear hK K;clear b5 Sa Ra;refine wpAnyH_ready (rs:=[6]) (by kernel_rfl) (by simp) (.cons rfl (fun K hK=>?_) .nil);go_simp;go_wp2_with fail;refine (wZ bo m cap' B o _ (HB.out.below (HB4.out.trans (HB5.out.mono HB4.out.size))) HU.out.2.1 (HO.out.below (HB4.out.trans (HB5.out.mono HB4.out.size)))).mono ?_
    rintro x w6 ⟨rb,rfl,Sb,-,b6,Rb⟩;have HB6:Hid (Below w4.heap.size w4 w6):=HB5.out.trans (b6.mono HB5.out.size);have HRb:Hid (RmOf B o.P rb.P):=Rb;have HSb:Hid (PSrc w6 ra/\PSrc w6 rb):=⟨HSa.out.below b6,Sb⟩;refine hK.out _ _ (HSt.out _ HB6.out) (fun hHeld=>?_);clear hK K;clear b6 Sb Rb HSa;have b7:=ze w6 (.cells #[.slice ra.vo ra.vn ra.vc,.slice ra.co ra.cn ra.cc,.slice rb.vo rb.vn rb.vc,.slice rb.co rb.cn rb.cc] 26);have HP7:=hide (HPJ.out w6 ra rb HSb.out.1 HSb.out.2);have HB7:=wTr HB6 b7;clear b7 HPJ;refine wpAnyH_ready (rs:=[7]) (by kernel_rfl) (by simp) (.cons rfl (fun K hK=>?_) .nil);go_simp;refine hK.out _ _ (HSt.out _ HB7.out) (fun hHeld=>?_);clear hK K
    have HWt:Hid (wt [ra,rb] <= 8796093022207):=by
     obtain ⟨-,-,C1,-,h1⟩:=HRa.out;obtain ⟨-,-,C2,-,h2⟩:=HRb.out;have k1:=(jX h1).1;have k2:=(jX h2).1
     show _ <= _
     simp only [wt];omega
    refine wpAnyH_ready (rs:=[8]) (by kernel_rfl) (by simp) (.cons rfl (fun K hK=>?_) .nil);go_simp;go_wp2_with fail;refine (xg (some ⟨w6.heap.size,0,none⟩) 2 2 [ra,rb] _ HP7.out HWt.out (by decide)).mono ?_;rintro x w8 ⟨pj,rfl,Sj,-,b8,Cj⟩;have HB8:=wTr HB7 b8;have HSj:=hide Sj;have HCj:Hid (CanonOf (runsOf [ra,rb]) pj.P):=Cj;refine hK.out _ _ (HSt.out _ HB8.out) (fun hHeld=>?_);clear hK K;clear b8 Sj Cj HP7;refine wpAnyH_ready (rs:=[9]) (by kernel_rfl) (by simp) (.cons rfl (fun K hK=>?_) .nil);go_simp;go_wp2_with fail;refine (jD uo un uc U pj _ (HS4.out.below HB8.out) HSj.out).mono ?_;rintro x w9 (⟨-,-,a9,n9,c9,rfl,S9,b9,-⟩ | ⟨hno,-⟩);rotate_left
    ·refine absurd ⟨?_,zP.1 HCj.out.canon⟩ hno;exact Go.Proofs.YtjffpimfngdggaaGreat.K.zaC HU.out.2.2.2.1 (fun e he=>((List.mem_append.1 ((HU.out.2.2.2.2 e).1 he)).elim (jJ HU.out.1 e) (jJ HU.out.2.1 e)))
    have HB9:=wTr HB8 b9;have HE:Hid (MgA w w9 (.returned (.tuple #[.slice a9 n9 c9,.int .i64 0])) A B p.P o.P):=⟨a9,n9,c9,_,0,rfl,S9,HBK.out.trans ((HB4.out.trans (HB9.out.mono HB4.out.size)).mono HBK.out.size),.inr (.inr ⟨⟨HU.out.1,HU.out.2.1,HF1.out,HF2.out⟩,HU.out.2.2.1,rfl,HU.out.2.2.2.1.filter _,zeR HU.out.1 HU.out.2.1 HU.out.2.2.2.2 HRa.out HRb.out HCj.out⟩)⟩;refine hK.out _ _ (HSt.out _ HB9.out) (fun hHeld=>?_);clear hK K;clear S9 b9;refine wU 10 ?_;refine wU 11 ?_;refine wU 12 ?_;refine wU 13 ?_;refine wpAnyH_done (by kernel_rfl) ?_ _;clear hHeld;go_wp2_with fail;go_ret2;exact HE.out
end
section
open Go.RowKit
def RcI (s:Fc) (k:Nat):Prop:=∀ j,j < k -> ¬ wiP (s.rs.getD j rc0).p.P s.p.P/\∀ e∈s.es,covB (s.rs.getD j rc0) e=false
attribute [local go_sem ↓] zr zq zL zK qd zZ K.zy K.zx
attribute [local go_sem] zi zk zl zp zI zU K.zu K.zH
end
end Go.Proofs.YtjffpimfngdggaaGreat
namespace Go.Proofs.YtjffpimfngdggaaGreat.K
section
open Go.RowKit
attribute [local go_sem ↓] zy zx xI jx qz
attribute [local go_sem] zJ zu zH
structure DotAt (w:World) (g:Nat) (e:En):Prop where
 c0:w.cell? ⟨g,0,none⟩=some (.int .i64 e.rep)
 c1:w.cell? ⟨g,1,none⟩=some (.int .i64 e.num)
theorem zde (e:En):(Value.agg (DC e)).cells=DC e:=by simp [Value.cells]
attribute [local go_sem] zde
def IxOf (L:List En) (x:En) (k:Int):Prop:=(k = -1/\∀ i,i < L.length -> sameDot (L.getD i en0) x=false)∨∃ i,i < L.length/\k=(i:Int)/\sameDot (L.getD i en0) x=true/\∀ j,j < i -> sameDot (L.getD j en0) x=false
def fdE (L:List En) (k:Int):En:=if k < 0 then en0 else L.getD k.toNat en0
def fdB (k:Int):Bool:=decide (0 <= k)
theorem resF {fn:Func} {p q:Tmp} {w:World} {g:Nat} {T:TypeId} {e:En} {b:Value} (h:fn.results=#[.cell p 50,.tmp q]) {tmps:Array Value} (hp:tmps.getD p undef = .pointer (some ⟨g,0,none⟩)) (hq:tmps.getD q undef=b) (A:Box w g T e) :
  (results fn tmps).run Tryz.prog w = .ok (.tuple #[EV e,b]) w:=by
 have hl:=zcF A.at
 simp only [results,h];rw [Array.getD_eq_getD_getElem?] at hp hq;simp [hp,hq,asAddr,hl]
def GivesF (w w':World) (y:Ending) (L:List En) (x:En):Prop:=∃ k,y = .returned (.tuple #[EV (fdE L k),.bool (fdB k)])/\IxOf L x k/\Below w.heap.size w w'
end
section
open Go.RowKit
attribute [local go_sem ↓] zy zx xI jx qz
attribute [local go_sem] zJ zu zH
attribute [local go_sem] zde
end
end Go.Proofs.YtjffpimfngdggaaGreat.K
namespace Go.Proofs.YtjffpimfngdggaaGreat
section
open Go.RowKit
structure SwU (w:World) (s:Fc):Prop where
 ok:FcOk w s
 row:FcR s
 wt:∀ t,wt (ofS s.rs t) <= 8796093022207
 nm:s.rn * (s.an+1) <= 8796093022207
 rn:s.rn <= 2199023255551
theorem SwU.below {w w':World} {s:Fc} (h:SwU w s) (hb:Below w.heap.size w w'):SwU w' s:=⟨h.ok.below hb,h.row,h.wt,h.nm,h.rn⟩
theorem SwU.chk {w:World} {s:Fc} (h:SwU w s):Calls Tryz.prog 27 #[FaV (mkF s)] w fun e w'=>GivesK w w' e (ChkS s):=zbI s w h.ok h.row h.wt h.nm h.rn
def KnOf (s:Fc) (d:Rn) (x:Int):Prop:=(¬ (FormS s/\dotIn s.p.P d)/\x=0)∨((FormS s/\dotIn s.p.P d)/\(∃ e∈s.es,dotOf e=d)/\x=1)∨((FormS s/\dotIn s.p.P d)/\(¬ ∃ e∈s.es,dotOf e=d)/\x=2)
theorem zcG (x y:Rn) (w:World):(Op.equalIn 10000 48 (.agg (RC x)) (.agg (RC y))).run Tryz.prog w = .ok (x.lo == y.lo && x.hi == y.hi) w:=K.jx ⟨x.lo,x.hi,⟨#[]⟩,0⟩ ⟨y.lo,y.hi,⟨#[]⟩,0⟩ w
attribute [local go_sem ↓] zr zq zL zK qh qg K.zy K.zx zcG
attribute [local go_sem] zi zk zl zp zF zQ zW K.zu K.zH K.zJ
end
section
open Go.RowKit
variable {w w' W : World} {g : Nat}
structure Ks where
 ro:Option Addr
 rn:Nat
 rc:Nat
 qo:Option Addr
 qn:Nat
 qc:Nat
 ao:Option Addr
 an:Nat
 ac:Nat
 bo:Option Addr
 bn:Nat
 bc:Nat
 p:Pv
 o:Pv
def KsC (m:Ks):Array Value:=#[.slice m.ro m.rn m.rc,.slice m.qo m.qn m.qc,.slice m.ao m.an m.ac,.slice m.bo m.bn m.bc,.slice m.p.vo m.p.vn m.p.vc,.slice m.p.co m.p.cn m.p.cc,.slice m.o.vo m.o.vn m.o.vc,.slice m.o.co m.o.cn m.o.cc]
abbrev KsV (m:Ks):Value:=.agg (KsC m)
def RSm (R:List Rc):Prop:=R.length <= 209716/\∀ r∈R,r.p.P.cloud.length <= 1048576
structure KsS (w:World) (m:Ks) (R Q:List Rc) (A B:List K.En):Prop where
 r:RcS w m.ro m.rn m.rc R
 q:RcS w m.qo m.qn m.qc Q
 a:K.ESrc w m.ao m.an m.ac A
 b:K.ESrc w m.bo m.bn m.bc B
 p:PSrc w m.p
 o:PSrc w m.o
 sr:RSm R
 sq:RSm Q
 sa:m.an <= 1048576
 sb:m.bn <= 1048576
theorem zjs (X:List Pv) (c:Nat) (h:∀ p∈X,p.P.cloud.length <= c):wt X <= X.length * (c+1):=by
 induction X with
 | nil=>exact Nat.zero_le _
 | cons p X ih =>
  have h1:=ih (fun q hq=>h q (List.mem_cons_of_mem _ hq));have h2:=h p List.mem_cons_self;simp only [wt,List.length_cons];rw [Nat.add_mul];omega
end
section
open Go.RowKit
structure SwB (N:Nat) (w:World) (s:Fc):Prop where
 ok:FcOk w s
 row:FcR s
 rn:s.rn <= N * 209716
 an:s.an <= N * 1048576
 cl:∀ r∈s.rs,r.p.P.cloud.length <= 1048576
theorem SwB.below {N:Nat} {w w':World} {s:Fc} (h:SwB N w s) (hb:Below w.heap.size w w'):SwB N w' s:=⟨h.ok.below hb,h.row,h.rn,h.an,h.cl⟩
theorem ziJ {R:List Rc} (hn:R.length <= 838864) (hc:∀ r∈R,r.p.P.cloud.length <= 1048576) (t:ByteArray):wt (ofS R t) <= 8796093022207:=by
 have h1:=zjs (ofS R t) 1048576 (fun p hp=>by obtain ⟨r,hr,-,rfl⟩:=zad.1 hp;exact hc r hr);have h2:=zae R t;have h4:(ofS R t).length * (1048576+1) <= 838864 * (1048576+1):=Nat.mul_le_mul_right _ (by omega);omega
theorem zi3 {n m:Nat} (hn:n <= 838864) (hm:m <= 4194304):n * (m+1) <= 8796093022207:=by
 have h3:n * (m+1) <= 838864 * (4194304+1):=Nat.mul_le_mul hn (by omega);omega
theorem SwB.u {N:Nat} {w:World} {s:Fc} (h:SwB N w s) (hN:N <= 4):SwU w s:=by
 have h1:=h.rn;have h2:=h.an;have h3:=h.ok.rs.len;exact ⟨h.ok,h.row,ziJ (by omega) h.cl,zi3 (by omega) (by omega),by omega⟩
open Classical in
theorem yX {α : Type}:∀ {X Y:List α},X.Nodup -> (∀ x∈X,x∈Y) -> X.length <= Y.length
 | [],_,_,_=>Nat.zero_le _
 | a :: X,Y,h,hs=>by
  obtain ⟨h1,h2⟩:=List.nodup_cons.1 h;have ha:=hs a List.mem_cons_self;have h3:=yX (Y:=Y.erase a) h2 (fun x hx=>(List.mem_erase_of_ne (fun e=>h1 (by rw [<- e];exact hx))).2 (hs x (List.mem_cons_of_mem _ hx)));have h4:=List.length_erase_of_mem ha;have h5:=List.length_pos_of_mem ha;rw [List.length_cons];omega
def SjD (a b s:Fc) (er:Int):Prop:=(¬ (FormS a/\FormS b)/\er=1/\s=fz0)∨((FormS a/\FormS b)/\∃ Z e,MgD a.es b.es a.p.P b.p.P Z e/\((e≠0/\er=e/\s=fz0)∨(e=0/\er=0/\∃ U,UnOf a.rs b.rs U/\s.es=Z.filter (freeB U)/\CanonOf (runsOf [a.p,b.p]) s.p.P/\WtOf U s.p.P s.rs)))
def SwJ (N:Nat) (w w':World) (e:Ending) (D:Fc -> Int -> Prop):Prop:=∃ s er,e = .returned (.tuple #[FaV (mkF s),.int .i64 er])/\SwB N w' s/\Below w.heap.size w w'/\D s er
def ChkBS (a b:Fc) (x:Int):Prop:=((FormS a/\FormS b)/\x=0)∨(¬ (FormS a/\FormS b)/\x=1)
theorem zbo (N:Nat) (w:World):SwB N w fz0:=⟨zcZ w,ze6,Nat.zero_le _,Nat.zero_le _,fun r h=>(by cases h)⟩
theorem zgv {A B Z:List K.En} {P O:Pst} (h:OkM A B P O) (ha:K.Asc Z) (hm:∀ x,x∈Z↔KeptM A B P O x):K.chk Z=0/\Z.length <= A.length+B.length:=by
 have hx:∀ x∈Z,x∈A∨x∈B:=fun x hx=>((hm x).1 hx).elim (fun k=>.inl k.1) (fun k=>.inr k.1);refine ⟨K.zaC ha (fun x h1=>(hx x h1).elim (jJ h.1 x) (jJ h.2.1 x)),?_⟩;have h1:Z.Nodup:=ha.imp (fun {a b} hab e=>by subst e;rw [K.vv] at hab;cases hab);have h2:=yX (Y:=A++B) h1 (fun x h3=>List.mem_append.2 (hx x h3));rwa [List.length_append] at h2
theorem zjt {L M F:List Rc} (u:UnOf L M F) (hl:∀ r∈L,r.p.P.cloud.length <= 1048576) (hm:∀ r∈M,r.p.P.cloud.length <= 1048576):∀ r∈F,r.p.P.cloud.length <= 1048576:=fun r hr=>by
 have h1:rck r∈plR F:=List.mem_map.2 ⟨r,hr,rfl⟩;rcases (u.1.2 _).1 h1 with h | h
 ·obtain ⟨x,hx,e⟩:=List.mem_map.1 h;have e2:x.p.P=r.p.P:=congrArg Prod.snd e;rw [<- e2];exact hl x hx
 ·obtain ⟨x,hx,e⟩:=List.mem_map.1 h;have e2:x.p.P=r.p.P:=congrArg Prod.snd e;rw [<- e2];exact hm x hx
theorem zhr {L F:List Rc} {P:Pst} (h:WtOf L P F) (hl:∀ r∈L,r.p.P.cloud.length <= 1048576):∀ r∈F,r.p.P.cloud.length <= 1048576:=fun r hr=>by
 have h1:rck r∈plR F:=List.mem_map.2 ⟨r,hr,rfl⟩;rw [h.2] at h1;obtain ⟨x,hx,e⟩:=List.mem_map.1 (List.mem_filter.1 h1).1;have e2:x.p.P=r.p.P:=congrArg Prod.snd e;rw [<- e2];exact hl x hx
theorem box2J (w:World) (f g:Fc):∃ wk,(w.alloc (.cells (FaC (mkF f)) 31)).alloc (.cells (FaC (mkF g)) 31)=wk/\Hid (SwBox wk w.heap.size (mkF f))/\Hid (SwBox wk (w.heap.size+1) (mkF g))/\Hid (Below w.heap.size w wk)/\wk.heap.size=w.heap.size+2:=by
 have b1:=ze w (.cells (FaC (mkF f)) 31);have b2:=ze (w.alloc (.cells (FaC (mkF f)) 31)) (.cells (FaC (mkF g)) 31);have X2:=qk (w.alloc (.cells (FaC (mkF f)) 31)) (mkF g);rw [World.size_alloc] at X2;exact ⟨_,rfl,(qk w (mkF f)).below b2,X2,b1.trans (b2.mono b1.size),by simp⟩
attribute [local go_sem ↓] zr zq zL zK xd ja
attribute [local go_sem] zi zk zl zp zv qQ xL qB zE
theorem zdu (a b:Fc) (w:World) (hA:SwU w a) (hB:SwU w b):Calls Tryz.prog 122 #[FaV (mkF a),FaV (mkF b)] w fun e w'=>GivesK w w' e (ChkBS a b):=by
 obtain ⟨wk,hwk,HX,HY,HBK,-⟩:=box2J w a b;obtain ⟨G,hG0⟩:∃ G,w.heap.size=G:=⟨_,rfl⟩;rw [hG0] at HX HY;have HA:=hide (hA.below HBK.out);have HB:=hide (hB.below HBK.out);have l1:=zR HX.out;clear hA hB;go_enter Tryz.func122,Tryz.ntmps122;go_wp2_with fail;clear hwk hG0 l1;refine HA.out.chk.mono ?_;rintro e w3 ⟨x,rfl,hx,b3⟩;have HB3:=wTr HBK b3;have l2:=zR (HY.out.below b3);have HB':=hide (HB.out.below b3);clear b3;rcases hx with ⟨hf,rfl⟩ | ⟨hf,rfl⟩;rotate_left
 ·have HE:Hid (GivesK w w3 (.returned (.int .i64 1)) (ChkBS a b)):=⟨1,rfl,.inr ⟨fun h=>hf h.1,rfl⟩,HB3.out⟩;clear hf l2;go_wp2_with fail;go_ret;exact HE.out
 have HFa:=hide hf;clear hf;go_wp2_with fail;clear l2;refine HB'.out.chk.mono ?_;rintro e w4 ⟨x,rfl,hx,b4⟩;have HE:Hid (GivesK w w4 (.returned (.int .i64 x)) (ChkBS a b)):=⟨x,rfl,hx.elim (fun h=>.inl ⟨⟨HFa.out,h.1⟩,h.2⟩) (fun h=>.inr ⟨fun k=>h.1 k.2,h.2⟩),HB3.out.trans (b4.mono HB3.out.size)⟩;clear b4 hx;go_wp2_with fail;go_ret;exact HE.out
end
section
open Go.RowKit
structure Ab where
 L:List K.En
 P:Pst
 R:List Rp
def ab (s:Fc):Ab:=⟨s.es,s.p.P,plR s.rs⟩
def RpOk (y:Rp):Prop:=skuR y.1=true/\FormP y.2
def covA (r:Rp) (e:K.En):Bool:=(decide (r.1.size=0) || (r.1.toList == e.sku.toList)) && inB r.2 e
def freeA (R:List Rp) (e:K.En):Prop:=∀ r∈R,covA r e=false
theorem zaq (R:List Rc) (e:K.En):freeB R e=true↔freeA (plR R) e:=by
 unfold freeB freeA;rw [Bool.not_eq_true',List.any_eq_false];constructor
 ·intro h r hr;obtain ⟨x,hx,rfl⟩:=List.mem_map.1 hr;exact Bool.eq_false_iff.2 (h x hx)
 ·intro h x hx;exact Bool.eq_false_iff.1 (h (rck x) (List.mem_map.2 ⟨x,hx,rfl⟩))
structure FmA (x:Ab):Prop where
 c:K.chk x.L=0
 p:InForm x.P
 r:(∀ y∈x.R,RpOk y)/\Srt ck x.R
 h:∀ e∈x.L,inB x.P e=true
 w:∀ y∈x.R,¬ wiP y.2 x.P
 f:∀ e∈x.L,freeA x.R e
theorem vX {w:World} {s:Fc} (hF:FcOk w s):FormS s↔FmA (ab s):=by
 have hl:=hF.es.1;have hr:=hF.rs.len;constructor
 ·rintro ⟨⟨h1,h2,h3⟩,h4,h5,h6⟩;rw [<- hr] at h3;obtain ⟨h7,h8⟩:=xH.1 h3;refine ⟨(kz hl).2 h1,h2,⟨fun y hy=>?_,h8⟩,h4,fun y hy=>?_,fun e he=>(zaq _ _).1 (h6 e he)⟩
  ·obtain ⟨x,hx,rfl⟩:=List.mem_map.1 hy;exact h7 x hx
  ·obtain ⟨x,hx,rfl⟩:=List.mem_map.1 hy;exact h5 x hx
 ·intro h;refine ⟨⟨(kz hl).1 h.c,h.p,?_⟩,h.h,fun r hr=>h.w (rck r) (List.mem_map.2 ⟨r,hr,rfl⟩),fun e he=>(zaq _ _).2 (h.f e he)⟩;rw [<- hr];exact xH.2 ⟨fun r hr=>h.r.1 (rck r) (List.mem_map.2 ⟨r,hr,rfl⟩),h.r.2⟩
def enD (r:Nat) (n:Int):K.En:=⟨(r:Int),n,⟨#[]⟩,0⟩
theorem zcY {P:Pst} {r:Nat} (hr:r < 16) {n:Int}:inB P (enD r n)=true↔mem (runsAt P r) n:=by
 rw [qs];unfold dotIn enD
 have h:V.isR (r:Int)=true:=by simp [V.isR];omega
 simp [h]
theorem zct {A P:Pst}:wiP A P↔∀ e,inB A e=true -> inB P e=true:=by
 constructor
 ·intro h e he;rw [qs] at he ⊢;obtain ⟨h1,h2⟩:=he
  have h4:0 <= e.rep/\e.rep < 16:=by simpa [V.isR] using h1
  exact ⟨h1,h _ (by show e.rep.toNat < 16;omega) _ h2⟩
 ·intro h r hr n hm;exact (zcY hr).1 (h (enD r n) ((zcY hr).2 hm))
theorem zeA {P Q:Pst} (hp:InForm P) (hq:InForm Q) (h:∀ e,inB P e=true↔inB Q e=true):P=Q:=
 (zP.2 hp:CanonOf (runsAt P) P).unique (zP.2 hq:CanonOf (runsAt Q) Q) fun r hr n=>by
  rw [<- zcY hr,<- zcY hr];exact h _
structure JnA (x y z:Ab):Prop where
 a:K.Asc z.L
 l:∀ e,e∈z.L↔KeptM x.L y.L x.P y.P e/\freeA x.R e/\freeA y.R e
 p:InForm z.P
 d:∀ e,inB z.P e=true↔inB x.P e=true∨inB y.P e=true
 s:Srt ck z.R
 r:∀ q,q∈z.R↔(q∈x.R∨q∈y.R)/\¬ wiP q.2 z.P
theorem zdm {x y:Ab} (h1:x.L=y.L) (h2:x.P=y.P) (h3:x.R=y.R):x=y:=by
 cases x;cases y;simp_all
theorem JnA.uniq {x y z z':Ab} (h:JnA x y z) (k:JnA x y z'):z=z':=by
 have hP:z.P=z'.P:=zeA h.p k.p fun e=>(h.d e).trans (k.d e).symm;refine zdm (K.br h.a k.a fun e=>(h.l e).trans (k.l e).symm) hP (Srt.uniq jv h.s k.s fun q=>?_);rw [h.r,k.r,hP]
theorem zbl {A B:List K.En} {P O:Pst} {e:K.En}:KeptM A B P O e↔KeptM B A O P e:=or_comm
theorem JnA.comm {x y z:Ab} (h:JnA x y z):JnA y x z:=
 ⟨h.a,fun e=>(h.l e).trans ⟨fun k=>⟨zbl.1 k.1,k.2.2,k.2.1⟩,fun k=>⟨zbl.1 k.1,k.2.2,k.2.1⟩⟩,h.p,fun e=>(h.d e).trans or_comm,h.s,fun q=>(h.r q).trans ⟨fun k=>⟨k.1.symm,k.2⟩,fun k=>⟨k.1.symm,k.2⟩⟩⟩
theorem zfv {P:Pst} {a b:Pv} (h:CanonOf (runsOf [a,b]) P) (e:K.En):inB P e=true↔inB a.P e=true∨inB b.P e=true:=by
 rw [qs,qs,qs];unfold dotIn;by_cases h1:V.isR e.rep=true
 ·have h4:0 <= e.rep/\e.rep < 16:=by simpa [V.isR] using h1
  have hr:e.rep.toNat < 16:=by omega
  simp only [h1,true_and];rw [zO h _ hr,j7];simp
 ·simp [h1]
theorem zhK {s:Fc} {w:World} (hF:FcOk w s) (h:FormS s):K.chk s.es=0:=(kz hF.es.1).2 h.1.1
theorem zf2 {wa wb:World} {a b s:Fc} {er:Int} (hA:FcOk wa a) (hB:FcOk wb b) (h:SjD a b s er):(¬ (FormS a/\FormS b)/\er=1/\s=fz0)∨((FormS a/\FormS b)/\K.Clash (a.es++b.es)/\er=10/\s=fz0)∨((FormS a/\FormS b)/\¬ K.Clash (a.es++b.es)/\er=0/\JnA (ab a) (ab b) (ab s)):=by
 rcases h with h | ⟨hf,Z,e,hm,h⟩
 ·exact .inl h
 right;rcases hm with ⟨h1,-,rfl⟩ | ⟨h1,h2,-,rfl⟩ | ⟨h1,h2,rfl,h3,h4⟩
 ·refine absurd ⟨?_,?_,hf.1.1.2.1,hf.2.1.2.1⟩ h1
  ·exact zhK hA hf.1
  ·exact zhK hB hf.2
 ·rcases h with ⟨-,rfl,rfl⟩ | ⟨h,-⟩
  ·exact .inl ⟨hf,h2,rfl,rfl⟩
  ·cases h
 ·rcases h with ⟨h,-⟩ | ⟨-,rfl,U,hU,h5,h6,h7⟩
  ·exact absurd rfl h
  refine .inr ⟨hf,h2,rfl,?_,fun e=>?_,?_,zfv h6,?_,fun q=>?_⟩
  ·show K.Asc s.es
   rw [h5];exact h3.sublist List.filter_sublist
  ·show e∈s.es↔_
   rw [h5,List.mem_filter,h4,zaq];refine and_congr_right fun _=>?_;constructor
   ·intro k;exact ⟨fun r hr=>k r ((hU.1.2 r).2 (.inl hr)),fun r hr=>k r ((hU.1.2 r).2 (.inr hr))⟩
   ·intro k r hr;exact ((hU.1.2 r).1 hr).elim (k.1 r) (k.2 r)
  ·exact zP.1 h6.canon
  ·show Srt ck (plR s.rs)
   rw [h7.2];exact List.Pairwise.sublist List.filter_sublist hU.1.1
  ·show q∈plR s.rs↔_
   rw [h7.2,List.mem_filter,hU.1.2];refine and_congr_right fun _=>?_;unfold waitB;simp;rfl
end
section
open Go.RowKit
theorem zaK {R:List K.En} (h:K.Asc R) {x y:K.En} (hx:x∈R) (hy:y∈R) (hs:K.sameDot x y=true):x=y:=
 Classical.byContradiction fun hne=>K.kB h (fun _=>Iff.rfl) ⟨x,hx,y,hy,hs,hne⟩
theorem zhY {A B:List K.En} (hc:¬ K.Clash (A++B)) {x y:K.En} (hx:x∈A) (hy:y∈B) (h:K.sameDot y x=true):y=x:=by
 refine Classical.byContradiction fun hne=>hc ⟨y,List.mem_append.2 (.inr hy),x,List.mem_append.2 (.inl hx),h,hne⟩
theorem wn {A B:List K.En} {O:Pst} (hc:¬ K.Clash (A++B)) {x:K.En} (hx:x∈A):stayB B O x=true↔(inB O x=true -> x∈B):=by
 unfold stayB;rw [Bool.or_eq_true,List.any_eq_true,Bool.not_eq_true'];constructor
 ·rintro (⟨y,hy,h⟩ | h) k
  ·rw [<- zhY hc hx hy h];exact hy
  ·rw [k] at h;cases h
 ·intro h;by_cases k:inB O x=true
  ·exact .inl ⟨x,h k,by simp [K.sameDot]⟩
  ·exact .inr (Bool.eq_false_iff.2 k)
theorem bh {A B:List K.En} (hc:¬ K.Clash (A++B)):¬ K.Clash (B++A):=fun h=>hc (zdX h)
theorem zcW {A B:List K.En} {P O:Pst} (hc:¬ K.Clash (A++B)) {e:K.En}:KeptM A B P O e↔(e∈A∨e∈B)/\(inB P e=true -> e∈A)/\(inB O e=true -> e∈B):=by
 unfold KeptM;constructor
 ·rintro (⟨h1,h2⟩ | ⟨h1,h2⟩)
  ·exact ⟨.inl h1,fun _=>h1,(wn hc h1).1 h2⟩
  ·exact ⟨.inr h1,(wn (bh hc) h1).1 h2,fun _=>h1⟩
 ·rintro ⟨h1 | h1,h2,h3⟩
  ·exact .inl ⟨h1,(wn hc h1).2 h3⟩
  ·exact .inr ⟨h1,(wn (bh hc) h1).2 h2⟩
theorem FmA.asc {x:Ab} (h:FmA x):K.Asc x.L:=K.wH h.c
theorem FmA.ce {x:Ab} (h:FmA x):∀ e∈x.L,K.ceE e=0:=jJ h.c
def NoC (x y:Ab):Prop:=¬ K.Clash (x.L++y.L)
theorem zi2 {x y:Ab} (hx:K.Asc x.L) (hy:K.Asc y.L) (h:∀ a∈x.L,∀ b∈y.L,K.sameDot a b=true -> a=b):NoC x y:=by
 rintro ⟨a,ha,b,hb,hs,hne⟩
 have sw:∀ p q:K.En,K.sameDot p q=true -> K.sameDot q p=true:=fun p q h=>by
  unfold K.sameDot at h ⊢;rw [Bool.and_eq_true,beq_iff_eq,beq_iff_eq] at h ⊢;exact ⟨h.1.symm,h.2.symm⟩
 rcases List.mem_append.1 ha with ha | ha <;> rcases List.mem_append.1 hb with hb | hb
 ·exact hne (zaK hx ha hb hs)
 ·exact hne (h a ha b hb hs)
 ·exact hne (h b hb a ha (sw _ _ hs)).symm
 ·exact hne (zaK hy ha hb hs)
theorem zah {x:Ab} (h:FmA x):NoC x x:=zi2 h.asc h.asc fun _ ha _ hb hs=>zaK h.asc ha hb hs
theorem NoC.at {x y:Ab} (h:NoC x y) {a b:K.En} (ha:a∈x.L) (hb:b∈y.L) (hs:K.sameDot a b=true):a=b:=
 Classical.byContradiction fun hne=>h ⟨a,List.mem_append.2 (.inl ha),b,List.mem_append.2 (.inr hb),hs,hne⟩
theorem JnA.live {x y z:Ab} (h:JnA x y z) (hc:NoC x y) (e:K.En):e∈z.L↔((e∈x.L∨e∈y.L)/\(inB x.P e=true -> e∈x.L)/\(inB y.P e=true -> e∈y.L))/\freeA x.R e/\freeA y.R e:=by
 rw [h.l,zcW hc]
theorem JnA.from_ {x y z:Ab} (h:JnA x y z) {e:K.En} (he:e∈z.L):e∈x.L∨e∈y.L:=((h.l e).1 he).1.imp And.left And.left
theorem zib {x y z:Ab} (h:JnA x y z) {e:K.En} (h1:freeA x.R e) (h2:freeA y.R e):freeA z.R e:=fun q hq=>((h.r q).1 hq).1.elim (h1 q) (h2 q)
theorem zjd {q:Rp} {e:K.En} (h:covA q e=true):inB q.2 e=true:=by unfold covA at h;rw [Bool.and_eq_true] at h;exact h.2
theorem JnA.form {x y z:Ab} (h:JnA x y z) (hx:FmA x) (hy:FmA y):FmA z:=by
 refine ⟨K.zaC h.a fun e he=>(h.from_ he).elim (hx.ce e) (hy.ce e),h.p,⟨fun q hq=>((h.r q).1 hq).1.elim (hx.r.1 q) (hy.r.1 q),h.s⟩,fun e he=>(h.d e).2 ((h.from_ he).imp (hx.h e) (hy.h e)),fun q hq=>((h.r q).1 hq).2,fun e he=>?_⟩;have:=(h.l e).1 he;exact zib h this.2.1 this.2.2
theorem zcU {x y:Ab} (hx:FmA x) (hy:FmA y) (hc:NoC x y):JnA x y y↔(∀ e,inB x.P e=true -> inB y.P e=true)/\(∀ q∈x.R,¬ wiP q.2 y.P -> q∈y.R)/\(∀ e∈y.L,inB x.P e=true -> e∈x.L)/\∀ e∈y.L,freeA x.R e:=by
 constructor
 ·intro h;refine ⟨fun e he=>(h.d e).2 (.inl he),fun q hq hw=>(h.r q).2 ⟨.inl hq,hw⟩,fun e he=>?_,fun e he=>?_⟩
  ·exact ((h.live hc e).1 he).1.2.1
  ·exact ((h.live hc e).1 he).2.1
 ·rintro ⟨h1,h2,h3,h4⟩;refine ⟨hy.asc,fun e=>?_,hy.p,fun e=>⟨.inr,fun k=>k.elim (h1 e) id⟩,hy.r.2,fun q=>⟨fun k=>⟨.inr k,hy.w q k⟩,fun k=>k.1.elim (fun m=>h2 q m k.2) id⟩⟩;rw [zcW hc];constructor
  ·intro k;exact ⟨⟨.inr k,h3 e k,fun _=>k⟩,h4 e k,hy.f e k⟩
  ·rintro ⟨⟨k1 | k1,-,k3⟩,-⟩
   ·exact k3 (h1 e (hx.h e k1))
   ·exact k1
theorem le_refl {x:Ab} (hx:FmA x):JnA x x x:=(zcU hx hx (zah hx)).2 ⟨fun _ h=>h,fun _ h _=>h,fun _ h _=>h,hx.f⟩
theorem le_trans {x y z:Ab} (hx:FmA x) (hy:FmA y) (hz:FmA z) (c1:NoC x y) (c2:NoC y z) (c3:NoC x z) (h1:JnA x y y) (h2:JnA y z z):JnA x z z:=by
 obtain ⟨a1,a2,a3,a4⟩:=(zcU hx hy c1).1 h1;obtain ⟨b1,b2,b3,b4⟩:=(zcU hy hz c2).1 h2;refine (zcU hx hz c3).2 ⟨fun e h=>b1 e (a1 e h),fun q hq hw=>?_,fun e he hi=>a3 e (b3 e he (a1 e hi)) hi,fun e he q hq=>?_⟩
 ·exact b2 q (a2 q hq fun k=>hw (zct.2 fun e h=>b1 e (zct.1 k e h))) hw
 ·refine Bool.eq_false_iff.2 fun hcv=>?_;by_cases hw:wiP q.2 y.P
  ·have hi:=zct.1 hw e (zjd hcv);have:=a4 e (b3 e he hi) q hq;rw [hcv] at this;cases this
  ·have:=b4 e he q (a2 q hq hw);rw [hcv] at this;cases this
theorem zh7 {x y:Ab} (h1:JnA x y y) (h2:JnA y x x):x=y:=h2.comm.uniq h1
def ab0:Ab:=⟨[],pv0.P,[]⟩
theorem zjb (e:K.En):inB pv0.P e=false:=by
 refine Bool.eq_false_iff.2 fun h=>?_;unfold inB at h;simp [pv0] at h;omega
end
section
open Go.RowKit
theorem box2S (w:World) (f g:Fc):∃ wk,(w.alloc (.cells (FaC (mkF f)) 31)).alloc (.cells (FaC (mkF g)) 31)=wk/\Hid (SwBox wk w.heap.size (mkF f))/\Hid (SwBox wk (w.heap.size+1) (mkF g))/\Hid (Below w.heap.size w wk):=by
 have b1:=ze w (.cells (FaC (mkF f)) 31);have b2:=ze (w.alloc (.cells (FaC (mkF f)) 31)) (.cells (FaC (mkF g)) 31);have X2:=qk (w.alloc (.cells (FaC (mkF f)) 31)) (mkF g);rw [World.size_alloc] at X2;exact ⟨_,rfl,(qk w (mkF f)).below b2,X2,b1.trans (b2.mono b1.size)⟩
def EqS (f g:Fc):Prop:=f.es=g.es/\f.p.P=g.p.P/\plR f.rs=plR g.rs
attribute [local go_sem ↓] zr zq zL zK K.zy K.zx K.qz
attribute [local go_sem] zi zk zl zp K.vh K.zJ K.zu
end
section
open Go.RowKit
def EnU (A B R:List K.En) (ok:Bool):Prop:=(ok=false/\K.Clash (A++B))∨(ok=true/\¬ K.Clash (A++B)/\K.Asc R/\∀ e,e∈R↔e∈A∨e∈B)
def EnG (w w':World) (x:Ending) (A B:List K.En):Prop:=∃ o q k R ok,x = .returned (.tuple #[.slice o q k,.bool ok])/\K.ESrc w' o q k R/\Below w.heap.size w w'/\EnU A B R ok
structure EnM (A B:List K.En) (i j:Nat) (D:List K.En):Prop where
 p:K.Asc (D++A.drop i)
 q:K.Asc (D++B.drop j)
 m:∀ e,(e∈D∨e∈A.drop i∨e∈B.drop j)↔e∈A∨e∈B
 l:D.length <= i+j
theorem EnM.symm {A B D:List K.En} {i j:Nat} (h:EnM A B i j D):EnM B A j i D:=
 ⟨h.q,h.p,fun e=>by have:=h.m e;constructor <;> intro k <;> (have t1:=this.1;have t2:=this.2;grind),by have:=h.l;omega⟩
theorem EnM.none {B:List K.En} {j:Nat} {x:K.En} (hj:j=B.length):∀ y∈B.drop j,K.ahead x y=true:=fun y hy=>by
 rw [hj,List.drop_length] at hy;cases hy
attribute [local go_sem ↓] qh qg K.zy K.zx
attribute [local go_sem] zF zQ zW qp K.zJ K.zu K.zH K.xz
end
section
open Go.RowKit
section
attribute [local go_sem ↓] zr zq qd zZ
attribute [local go_sem] zI zU qi
end
def RcG (w w':World) (x:Ending) (A B:List Rc):Prop:=∃ (h:Hs) (F:List Rc),x = .returned (HsV h)/\RcS w' h.o h.n h.c F/\Below w.heap.size w w'/\UnOf A B F/\h.n <= A.length+B.length
attribute [local go_sem ↓] zr zq qd zZ
attribute [local go_sem] zI zU qi
end
section
open Go.RowKit
attribute [local go_sem ↓] zr zq zD zC xA ja
attribute [local go_sem] zi zk zl zp zv qW js qQ
end
end Go.Proofs.YtjffpimfngdggaaGreat
namespace Go.Proofs.YtjffpimfngdggaaGreat.K
section
open Go.RowKit
attribute [local go_sem ↓] zy zx xI
attribute [local go_sem] zJ zu zH xz
attribute [local go_sem ↓] qz jx
end
section
open Go.RowKit Go.Lib
attribute [local go_sem ↓] zy zx
attribute [local go_sem] zJ zu zH xz
end
end Go.Proofs.YtjffpimfngdggaaGreat.K
namespace Go.Proofs.YtjffpimfngdggaaGreat
section
open Go.RowKit
theorem FaBox.ne {W:World} {g:Nat} {m:FacV} (A:FaBox W g m) {a:Addr} {v:Value} (hc:W.cell? a=some v) (hv:∀ o n c,v ≠ .slice o n c):a.block≠g:=by
 rintro rfl;obtain ⟨b,o,k⟩:=a;unfold FaBox at A;have h:=World.cell?_spot hc;obtain rfl:k=none:=h;simp only [World.cell?,A] at hc;rcases o with _ | _ | _ | _ | o <;> simp [FaC] at hc
 all_goals exact absurd hc.symm (hv _ _ _)
theorem xv {W:World} {g:Nat} {a:Addr} (c:Array Value) (h:a.block≠g):(W.setRow g c).cell? a=W.cell? a:=by
 unfold World.cell?;rw [setRow_other _ _ _ _ h]
theorem zff {W:World} {g:Nat} {m:FacV} {ao:Option Addr} {n cap:Nat} {L:List K.En} (A:FaBox W g m) (h:K.ESrc W ao n cap L) (c:Array Value):K.ESrc (W.setRow g c) ao n cap L:=by
 refine ⟨h.1,h.2.1,fun ad e t ht=>?_,h.2.2.2⟩;have B:=h.2.2.1 ad e t ht;have hb:(ad.add (t * 4)).block≠g:=A.ne B.c0 (fun _ _ _ h=>by cases h);exact ⟨by rw [xv c hb];exact B.c0,by rw [xv c (by rw [zs];exact hb)];exact B.c1,by rw [xv c (by rw [zs];exact hb)];exact B.c2,by rw [xv c (by rw [zs];exact hb)];exact B.c3⟩
theorem za7 {W:World} {g:Nat} {m:FacV} {p:Pv} (A:FaBox W g m) (h:PSrc W p) (c:Array Value):PSrc (W.setRow g c) p:=by
 refine ⟨⟨h.vec.1,h.vec.2.1,fun ad e t ht=>?_⟩,⟨h.cloud.len,h.cloud.nil,fun ad e t ht=>?_,h.cloud.big,h.cloud.cap⟩,h.big⟩
 ·have B:=h.vec.2.2 ad e t ht;rw [xv c (A.ne B (fun _ _ _ h=>by cases h))];exact B
 ·have B:=h.cloud.cell ad e t ht;have hb:=A.ne B.c0 (fun _ _ _ h=>by cases h);exact ⟨by rw [xv c hb];exact B.c0,by rw [xv c (by rw [zs];exact hb)];exact B.c1,by rw [xv c (by rw [zs];exact hb)];exact B.c2⟩
theorem zgd {W:World} {g:Nat} {m:FacV} {ao:Option Addr} {n cap:Nat} {L:List Rc} (A:FaBox W g m) (h:RcS W ao n cap L) (c:Array Value):RcS (W.setRow g c) ao n cap L:=by
 refine ⟨h.len,h.nil,fun ad ha t ht=>?_,fun r hr=>⟨za7 A (h.ok r hr).1 c,(h.ok r hr).2⟩,h.big⟩;have B:=h.at_ ad ha t ht;have hb:=A.ne B.c0 (fun _ _ _ h=>by cases h);exact ⟨by rw [xv c hb];exact B.c0,by rw [xv c (by rw [zs];exact hb)];exact B.c1,by rw [xv c (by rw [zs];exact hb)];exact B.c2⟩
theorem FcOk.offF {W:World} {g:Nat} {m:FacV} {f:Fc} (h:FcOk W f) (A:FaBox W g m) (c:Array Value):FcOk (W.setRow g c) f:=⟨zff A h.es c,za7 A h.p c,zgd A h.rs c⟩
def FcE (w w':World) (e:Ending) (D:Fc -> Int -> Prop):Prop:=∃ f er,e = .returned (.tuple #[FaV (mkF f),.int .i64 er])/\FcOk w' f/\FcR f/\Below w.heap.size w w'/\D f er
attribute [local go_sem ↓] zr zq zD zC xA ja
attribute [local go_sem] zi zk zl zp zv qW js qQ
end
section
open Go.RowKit
theorem kI (a b:Option Addr) (n c m d:Nat) (p:Pv) (w:World):(bldF #[(0,.slice a n c),(1,.agg (PC p)),(2,.slice b m d)]).run Tryz.prog w = .ok (.agg (FaC (mkF ⟨a,n,c,[],p,b,m,d,[]⟩))) w:=by kernel_rfl
def ExA (w w':World) (x:Ending) (s:Fc):Prop:=∃ q:Pv,x = .returned (FaV (mkF ⟨s.ao,s.an,s.ac,s.es,q,s.ro,s.rn,s.rc,s.rs⟩))/\FcOk w' ⟨s.ao,s.an,s.ac,s.es,q,s.ro,s.rn,s.rc,s.rs⟩/\Below w.heap.size w w'/\∃ D,CanonOf (dotsG (s.es.map dotOf)) D/\∃ C:Nat -> List Rn,(∀ r,r < 16 -> MinusOf (runsAt s.p.P r) (runsAt D r) (C r))/\CanonOf C q.P
attribute [local go_sem ↓] zr zq zD zC zL zK xA
attribute [local go_sem] zi zk zl zp zv kI
end
section
open Go.RowKit
def UnD (f g u:Fc):Prop:=K.Asc u.es/\(∀ e,e∈u.es↔e∈f.es∨e∈g.es)/\CanonOf (runsOf [f.p,g.p]) u.p.P/\UnOf f.rs g.rs u.rs/\u.rn <= f.rn+g.rn
def UnG (w w':World) (x:Ending) (f g:Fc):Prop:=(K.Clash (f.es++g.es)/\x = .returned (.tuple #[FaV (mkF fz0),.bool false])/\Below w.heap.size w w')∨(¬ K.Clash (f.es++g.es)/\∃ u,x = .returned (.tuple #[FaV (mkF u),.bool true])/\FcOk w' u/\Below w.heap.size w w'/\UnD f g u)
attribute [local go_sem ↓] zr zq zD zC xA ja
attribute [local go_sem] zi zk zl zp zv qQ kI zE qW
end
section
open Go.RowKit
attribute [local go_sem ↓] zr zq zD zC qh qg K.zy K.zx qd zZ
attribute [local go_sem] zi zk zl zp zv zF zQ zW qp K.zJ K.zu K.zH K.xz zI zU qi
def lvB (P:Pst) (R:List Rc) (e:K.En):Bool := !(inB P e) && freeB R e
theorem takeR3 (L:List Rc) (k:Nat) (h:k < L.length):L.take (k+1)=L.take k++[L.getD k rc0]:=by
 rw [List.take_succ_eq_append_getElem h];simp [List.getD,h]
end
section
open Go.RowKit
def StD (f s:Fc):Prop:=s.es=f.es.filter (lvB f.p.P f.rs)/\HeardOf f s.p.P/\WtOf f.rs s.p.P s.rs
attribute [local go_sem ↓] zr zq zD zC zL zK xd ja
attribute [local go_sem] zi zk zl zp zv qQ xL qB zE
end
section
open Go.RowKit
def exf (s:Fc) (q:Pv):Fc:=⟨s.ao,s.an,s.ac,s.es,q,s.ro,s.rn,s.rc,s.rs⟩
def ExQ (s:Fc) (q:Pv):Prop:=∃ D,CanonOf (dotsG (s.es.map dotOf)) D/\∃ C:Nat -> List Rn,(∀ r,r < 16 -> MinusOf (runsAt s.p.P r) (runsAt D r) (C r))/\CanonOf C q.P
theorem ku {P:Pst} {e:K.En} (h:inB P e=true):0 <= e.rep/\e.rep < 16:=by
 have h1:=((qs P e).1 h).1;simpa [V.isR] using h1
theorem zcX {P:Pst} {e:K.En} (h:inB P e=true):okD (dotOf e)=true:=by
 have h0:=ku h;unfold inB at h;simp only [Bool.and_eq_true,decide_eq_true_eq] at h;unfold okD dotOf;simp only [Bool.and_eq_true,decide_eq_true_eq];refine ⟨by simp [V.isR];omega,?_⟩
 first
  | exact ⟨h.2.2.1,h.2.2.2.1⟩
  | (simp;omega)
theorem jR {P:Pst} {e:K.En} (h:0 <= e.rep/\e.rep < 16):inB P e=true↔mem (runsAt P e.rep.toNat) e.num:=by
 rw [qs];unfold dotIn
 have h1:V.isR e.rep=true:=by simp [V.isR];omega
 simp [h1]
theorem zja {L:List K.En} {P:Pst} (h:CanonOf (dotsG (L.map dotOf)) P) (e:K.En) (h0:0 <= e.rep/\e.rep < 16):mem (runsAt P e.rep.toNat) e.num↔okD (dotOf e)=true/\∃ x∈L,dotOf x=dotOf e:=by
 rw [zO h _ (by omega),xq];constructor
 ·rintro ⟨d,hd,k1,k2,k3⟩;obtain ⟨x,hx,rfl⟩:=List.mem_map.1 hd
  have ed:dotOf x=dotOf e:=by
   unfold dotOf at k2 k3 ⊢;simp only at k2 k3;congr 1;omega
  exact ⟨ed ▸ k1,x,hx,ed⟩
 ·rintro ⟨h1,x,hx,h2⟩;exact ⟨dotOf x,List.mem_map.2 ⟨x,hx,rfl⟩,h2 ▸ h1,by rw [h2];show e.rep=((e.rep.toNat:Nat):Int);omega,by rw [h2];rfl⟩
theorem zic {s:Fc} {q:Pv} (h:ExQ s q) (e:K.En):inB q.P e=true↔inB s.p.P e=true/\¬ ∃ x∈s.es,dotOf x=dotOf e:=by
 obtain ⟨D,hD,C,hC,hq⟩:=h;by_cases h0:0 <= e.rep/\e.rep < 16
 ·rw [jR h0,jR h0,zO hq _ (by omega),(hC _ (by omega)).2 e.num,zja hD e h0];constructor
  ·rintro ⟨h1,h2⟩;exact ⟨h1,fun h3=>h2 ⟨zcX ((jR h0).2 h1),h3⟩⟩
  ·rintro ⟨h1,h2⟩;exact ⟨h1,fun h3=>h2 h3.2⟩
 ·constructor
  ·intro h;exact absurd (ku h) h0
  ·intro h;exact absurd (ku h.1) h0
theorem zbn {u:Fc} {P:Pst} (h:HeardOf u P) (e:K.En):inB P e=true↔(okD (dotOf e)=true/\∃ x∈u.es,dotOf x=dotOf e)∨inB u.p.P e=true:=by
 by_cases h0:0 <= e.rep/\e.rep < 16
 ·rw [jR h0,jR h0,h.2 _ (by omega) e.num,xq];refine or_congr_left ?_;constructor
  ·rintro ⟨d,hd,k1,k2,k3⟩;obtain ⟨x,hx,rfl⟩:=List.mem_map.1 hd
   have ed:dotOf x=dotOf e:=by
    unfold dotOf at k2 k3 ⊢;simp only at k2 k3;congr 1;omega
   exact ⟨ed ▸ k1,x,hx,ed⟩
  ·rintro ⟨h1,x,hx,h2⟩;exact ⟨dotOf x,List.mem_map.2 ⟨x,hx,rfl⟩,h2 ▸ h1,by rw [h2];show e.rep=((e.rep.toNat:Nat):Int);omega,by rw [h2];rfl⟩
 ·constructor
  ·intro h;exact absurd (ku h) h0
  ·rintro (⟨h,-⟩ | h)
   ·exfalso;unfold okD dotOf at h;simp only [Bool.and_eq_true] at h;have h1:=h.1;simp [V.isR] at h1;omega
   ·exact absurd (ku h) h0
end
section
open Go.RowKit
attribute [local go_sem ↓] zr zq zD zC
attribute [local go_sem] zi zk zl zp
def liveL (f:Fc):List K.En:=(f.es.filter (pkB f.p.P false)).filter (freeB f.rs)
def LvA (w w':World) (x:Ending) (f:Fc):Prop:=(FormF f/\K.GivesEE w w' x (liveL f) 0)∨(¬ FormF f/\K.GivesEE w w' x [] 1)
theorem bi {L:List K.En} (h:K.chk L=0) (p:K.En -> Bool):K.chk (L.filter p)=0:=
 K.zaC (List.Pairwise.filter p (K.wH h)) (fun e he=>jJ h e (List.mem_filter.1 he).1)
theorem GivesEE.mono0 {w w0 w':World} {x:Ending} {L:List K.En} {er:Int} (h:K.GivesEE w w' x L er) (hb:Below w0.heap.size w0 w):K.GivesEE w0 w' x L er:=by
 obtain ⟨ao,n,c,h1,h2,h3,h4⟩:=h;exact ⟨ao,n,c,h1,h2,hb.trans (h3.mono hb.size),fun ad e=>Nat.le_trans hb.size (h4 ad e)⟩
theorem zed (f:Fc) (w:World) (hF:FcOk w f) (hwt:∀ s,wt (ofS f.rs s) <= 8796093022207) (hnm:f.rn * (f.an+1) <= 8796093022207) :
  Calls Tryz.prog 25 #[FaV (mkF f)] w fun e w'=>LvA w w' e f:=by
 have HX:=hide (zY w (mkF f));have HBK:=hide (ze w (.cells (FaC (mkF f)) 29));have HS:=hide (hF.below HBK.out);have HW:=hide (And.intro hwt hnm);clear hF hwt hnm;obtain ⟨wk,hwk⟩:∃ wk,w.alloc (.cells (FaC (mkF f)) 29)=wk:=⟨_,rfl⟩;obtain ⟨G,hG⟩:∃ G,w.heap.size=G:=⟨_,rfl⟩;rw [hwk] at HX HBK HS;rw [hG] at HX;obtain ⟨c0,c3⟩:=HX.out.cs;have lp:=zj HX.out.past;go_enter Tryz.func25,Tryz.ntmps25;go_wp2_with fail;clear hwk hG;refine (jD f.ao f.an f.ac f.es f.p _ HS.out.es HS.out.p).mono ?_;rintro e w1 h1;rcases h1 with ⟨h1,h2,ao,n,c,rfl,S1,b1,n1⟩ | ⟨h1,ao,n,c,rfl,S1,b1,n1⟩;rotate_left
 ·have HE:Hid (LvA w w1 (.returned (.tuple #[.slice none 0 0,.int .i64 1])) f):=.inr ⟨fun h=>h1 ⟨(vO HS.out.es.1).2 h.1,h.2.1⟩,none,0,0,rfl,zc3 _,HBK.out.trans (b1.mono HBK.out.size),fun ad e=>(by cases e)⟩;clear h1 S1 b1 n1 c0 c3 lp;go_wp2_with fail;go_ret2;exact HE.out
 have HC:Hid (K.chk f.es=0/\InForm f.p.P):=⟨h1,h2⟩;have HB1:=wTr HBK b1;have HX1:=hide (HX.out.below b1);have HS1:=hide (HS.out.below b1);have HL1:=hide S1;have hlen:(f.es.filter (pkB f.p.P false)).length=n:=S1.1
 have hle:n <= f.an:=by rw [<- hlen,<- HS.out.es.1];exact List.length_filter_le _ _
 have HM:Hid (f.rn * (n+1) <= 8796093022207):=Nat.le_trans (Nat.mul_le_mul_left _ (by omega)) HW.out.2;clear h1 h2 S1 b1 n1 c0 c3 lp hlen hle;obtain ⟨-,c3⟩:=HX1.out.cs;go_wp2_with fail;clear c3;refine (yD ao f.ro n c f.rn f.rc _ f.rs _ HL1.out HS1.out.rs HW.out.1 HM.out).mono ?_;rintro e w2 h2;rcases h2 with ⟨-,h2,h3⟩ | ⟨h2,h3⟩
 ·have HE:Hid (LvA w w2 e f):=.inl ⟨⟨(vO HS.out.es.1).1 HC.out.1,HC.out.2,h2⟩,GivesEE.mono0 h3 HB1.out⟩;obtain ⟨a2,n2,c2,rfl,-,-,-⟩:=h3;clear h2;go_wp2_with fail;go_ret2;exact HE.out
 ·have HE:Hid (LvA w w2 e f):=.inr ⟨fun h=>h2 ⟨bi HC.out.1 _,h.2.2⟩,GivesEE.mono0 h3 HB1.out⟩;obtain ⟨a2,n2,c2,rfl,-,-,-⟩:=h3;clear h2;go_wp2_with fail;go_ret2;exact HE.out
end
end Go.Proofs.YtjffpimfngdggaaGreat
