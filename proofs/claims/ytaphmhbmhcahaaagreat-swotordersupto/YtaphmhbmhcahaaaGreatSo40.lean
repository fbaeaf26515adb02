/- BMg SXf LFnd -/
import Derived.Test.YtaphmhbmhcahaaaGreatTk
import Derived.Test.YtaphmhbmhcahaaaGreatSo39
import Derived.Test.YtaphmhbmhcahaaaGreatSo34
import Derived.Test.YtaphmhbmhcahaaaGreatSo33
import Derived.Test.YtaphmhbmhcahaaaGreatSo28
import Derived.Deep.CutRange
import Derived.Test.YtaphmhbmhcahaaaGreatSo35
import Derived.Test.YtaphmhbmhcahaaaGreatSo36
import Derived.Test.YtaphmhbmhcahaaaGreatSo12
import Derived.Test.YtaphmhbmhcahaaaGreatSo37
import Derived.Test.YtaphmhbmhcahaaaGreatSo26
import Derived.Test.YtaphmhbmhcahaaaGreatSo31
set_option maxRecDepth 100000
set_option maxHeartbeats 6400000
namespace Go.Proofs.YtaphmhbmhcahaaaGreat
section
open Go.RowKit Go.Maps Go.Sort
theorem fold_PC2k (a b:Pv):Array.foldl (fun cs x=>cs.setIfInBounds (2+x.snd) x.fst) (Array.foldl (fun cs x=>cs.setIfInBounds x.snd x.fst) #[(PC pv0)[0]!,(PC pv0)[1]!,(PC pv0)[0]!,(PC pv0)[1]!] (PC a).zipIdx 0 2) (PC b).zipIdx 0 2=#[.slice a.vo a.vn a.vc,.slice a.co a.cn a.cc,.slice b.vo b.vn b.vc,.slice b.co b.cn b.cc]:=rfl
attribute [local go_sem ↓] ldP_eq stP_eq
attribute [local go_sem] cells_PV PC_size zero_PC fold_PC2k
def RmOf (L:List K.En) (P Q:Pst):Prop:=∃ D:Pst,CanonOf (dotsG (L.map dotOf)) D/\∃ C:Nat -> List Rn,(∀ r,r < 16 -> MinusOf (runsAt P r) (runsAt D r) (C r))/\CanonOf C Q
theorem removed_any (ao:Option Addr) (n cap:Nat) (L:List K.En) (p:Pv) (w:World) (hS:K.ESrc w ao n cap L) (hc:K.chk L=0) (hP:PSrc w p) :
  Calls Tryz.prog 69 #[.slice ao n cap,PV p] w fun x w'=>GivesP w w' x (RmOf L p.P):=by
 have b1:=below_new w (.cells (PC p) 26);have b2:=below_new (w.alloc (.cells (PC p) 26)) (.cells (PC pv0) 26);have HXA:=hide ((pbox_new w p).below b2);have X2:=pbox_new (w.alloc (.cells (PC p) 26)) pv0;rw [World.size_alloc] at X2;have HXB:=hide X2;have HBK:=hide (b1.trans (b2.mono b1.size));have HS:=hide (hS.below HBK.out);have HP:=hide (hP.below HBK.out);have HC:=hide hc;clear b1 b2 X2 hS hP hc;obtain ⟨wk,hwk⟩:∃ wk,(w.alloc (.cells (PC p) 26)).alloc (.cells (PC pv0) 26)=wk:=⟨_,rfl⟩;obtain ⟨G,HG⟩:∃ G,Hid (w.heap.size=G):=⟨_,rfl⟩;have hG:=HG.out;rw [hwk] at HXA HXB HBK HS HP;rw [hG] at HXA HXB;go_enter Tryz.func69,Tryz.ntmps69;go_wp2_with fail;clear hwk hG;refine (dots_any ao n cap L _ HS.out).mono ?_;rintro x w3 ⟨b3,⟨-,d,rfl,Sd,Nd,Cd⟩ | ⟨hno,-⟩⟩;rotate_left
 ·exact absurd HC.out hno
 obtain ⟨g5,hg5⟩:∃ g5,w3.heap.size=g5:=⟨_,rfl⟩;obtain ⟨w5,hst,X5,b5,s5⟩:=madeP w3 d g5 hg5;have b35:=b3.trans (b5.mono b3.size);have HX5:Hid (PBox w5 g5 d/\PSrc w5 d):=⟨X5,Sd.below b5⟩;have HA5:Hid (PBox w5 G p/\PSrc w5 p/\PBox w5 (G+1) pv0/\Below w.heap.size w w5/\G+1 < w5.heap.size):=⟨HXA.out.below b35,HP.out.below b35,HXB.out.below b35,HBK.out.trans (b35.mono HBK.out.size),Nat.lt_of_lt_of_le HXB.out.lt b35.size⟩;have HCd:=hide Cd;clear Sd Nd Cd X5 b3 b5 b35 s5 HXA HXB HP HS HBK
 have l1:=run_ldP HA5.out.1.at
 have l2:=run_ldP HX5.out.1.at
 go_wp2_with fail;clear hst hg5 l1 l2;refine (pastMinus_any p d _ HA5.out.2.1 HX5.out.2).mono ?_;rintro x w6 ⟨q,rfl,Sq,Nq,b6,Cq⟩;have X6:=HA5.out.2.2.1.below b6;have t6:=run_stP (p':=q) X6;have HX6:Hid (PBox (w6.setRow (G+1) (PC q)) (G+1) q):=setRow_heap _ _ _ _ _ _ X6
 have HE:Hid (GivesP w (w6.setRow (G+1) (PC q)) (.returned (PV q)) (RmOf L p.P)):=by
  refine ⟨q,rfl,psrc_keep (g:=some (G+1)) Sq (fun k e=>by obtain rfl:=Option.some.inj e;exact PFar.new Nq HA5.out.2.2.2.2) (fun r _ hr=>setRow_other _ _ _ _ (fun e=>hr (by rw [e]))),Nq.mono HA5.out.2.2.2.1.size,below_setRow (HA5.out.2.2.2.1.trans (b6.mono HA5.out.2.2.2.1.size)) (by have:=HG.out;omega),d.P,HCd.out,Cq⟩
 clear Sq Nq b6 Cq X6;go_wp2_with fail;refine bodyPost_ret (resP rfl rfl HX6.out) rfl ?_;exact HE.out
theorem inB_dots {L:List K.En} {P:Pst} (h:CanonOf (dotsG (L.map dotOf)) P) (e:K.En) (he:okD (dotOf e)=true):inB P e=L.any (fun y=>K.sameDot y e):=by
 have h3:=he;unfold okD dotOf at h3;simp only [Bool.and_eq_true,decide_eq_true_eq] at h3
 have h4:0 <= e.rep/\e.rep < 16:=by simpa [V.isR] using h3.1
 have key:inB P e=true↔L.any (fun y=>K.sameDot y e)=true:=by
  rw [inB_iff,List.any_eq_true];unfold dotIn;constructor
  ·rintro ⟨-,h2⟩;rw [canon_mem h _ (by show e.rep.toNat < 16;omega),dotsG_mem] at h2;obtain ⟨d,hd,-,k2,k3⟩:=h2;obtain ⟨x,hx,rfl⟩:=List.mem_map.1 hd;refine ⟨x,hx,?_⟩;unfold dotOf at k2 k3;simp only at k2 k3;simp only [K.sameDot,Bool.and_eq_true,beq_iff_eq];omega
  ·rintro ⟨x,hx,h2⟩;refine ⟨h3.1,?_⟩;simp only [K.sameDot,Bool.and_eq_true,beq_iff_eq] at h2
   have ed:dotOf x=dotOf e:=by unfold dotOf;rw [h2.1,h2.2]
   rw [canon_mem h _ (by show e.rep.toNat < 16;omega),dotsG_mem];exact ⟨dotOf x,List.mem_map.2 ⟨x,hx,rfl⟩,by rw [ed];exact he,by rw [ed];unfold dotOf;simp only;omega,by rw [ed];rfl⟩
 cases h1:inB P e <;> cases h2:L.any (fun y=>K.sameDot y e)
 ·rfl
 ·rw [h1,h2] at key;exact absurd (key.2 rfl) (by decide)
 ·rw [h1,h2] at key;exact absurd (key.1 rfl) (by decide)
 ·rfl
theorem rm_inB {L:List K.En} {P Q:Pst} (h:RmOf L P Q) (e:K.En) (he:okD (dotOf e)=true):inB Q e=(inB P e && !L.any (fun y=>K.sameDot y e)):=by
 obtain ⟨D,hD,C,hC,hQ⟩:=h;rw [<- inB_dots hD e he];have h3:=he;unfold okD dotOf at h3;simp only [Bool.and_eq_true,decide_eq_true_eq] at h3
 have h4:0 <= e.rep/\e.rep < 16:=by simpa [V.isR] using h3.1
 have hr:e.rep.toNat < 16:=by omega
 have key:inB Q e=true↔inB P e=true/\¬ inB D e=true:=by
  rw [inB_iff,inB_iff,inB_iff];unfold dotIn;simp only [h3.1,true_and];rw [canon_mem hQ _ hr,(hC _ hr).2]
 cases h1:inB Q e <;> cases h2:inB P e <;> cases h5:inB D e <;> simp_all
theorem join_inB {a b:Pv} {P:Pst} (h:CanonOf (runsOf [a,b]) P) (e:K.En) (he:okD (dotOf e)=true):inB P e=(inB a.P e || inB b.P e):=by
 have h3:=he;unfold okD dotOf at h3;simp only [Bool.and_eq_true,decide_eq_true_eq] at h3
 have h4:0 <= e.rep/\e.rep < 16:=by simpa [V.isR] using h3.1
 have hr:e.rep.toNat < 16:=by omega
 have key:inB P e=true↔inB a.P e=true∨inB b.P e=true:=by
  rw [inB_iff,inB_iff,inB_iff];unfold dotIn;simp only [h3.1,true_and];rw [canon_mem h _ hr,runsOf_mem];simp
 cases h1:inB P e <;> cases h2:inB a.P e <;> cases h5:inB b.P e <;> simp_all
def KeptM (A B:List K.En) (P O:Pst) (x:K.En):Prop:=(x∈A/\stayB B O x=true)∨(x∈B/\stayB A P x=true)
def OkM (A B:List K.En) (P O:Pst):Prop:=K.chk A=0/\K.chk B=0/\InForm P/\InForm O
def MgD (A B:List K.En) (P O:Pst) (Z:List K.En) (er:Int):Prop:=(¬ OkM A B P O/\Z=[]/\er=1)∨(OkM A B P O/\K.Clash (A++B)/\Z=[]/\er=10)∨(OkM A B P O/\¬ K.Clash (A++B)/\er=0/\K.Asc Z/\∀ x,x∈Z↔KeptM A B P O x)
theorem clash_swap {A B:List K.En} (h:K.Clash (A++B)):K.Clash (B++A):=by
 obtain ⟨x,hx,y,hy,h1,h2⟩:=h;exact ⟨x,List.mem_append.2 (List.mem_append.1 hx).symm,y,List.mem_append.2 (List.mem_append.1 hy).symm,h1,h2⟩
theorem any_self {A:List K.En} {x:K.En} (h:x∈A):A.any (fun y=>K.sameDot y x)=true:=by
 rw [List.any_eq_true];exact ⟨x,h,by simp [K.sameDot]⟩
theorem merge_mem {A B U:List K.En} {P O:Pst} {a b:Pv} {J:Pst} (hA:K.chk A=0) (hB:K.chk B=0) (hU:∀ x,x∈U↔x∈A++B) (ha:RmOf A P a.P) (hb:RmOf B O b.P) (hJ:CanonOf (runsOf [a,b]) J) (x:K.En):x∈U.filter (pkB J false)↔KeptM A B P O x:=by
 rw [List.mem_filter,hU x,List.mem_append];have hd:x∈A∨x∈B -> okD (dotOf x)=true:=fun h=>h.elim (fun h=>ce_dot (chk_ce hA x h)) (fun h=>ce_dot (chk_ce hB x h))
 have hpk:okD (dotOf x)=true -> (pkB J false x=true↔((inB P x && !A.any (fun y=>K.sameDot y x)) || (inB O x && !B.any (fun y=>K.sameDot y x)))=false):=fun h=>by
  unfold pkB;rw [join_inB hJ x h,rm_inB ha x h,rm_inB hb x h]
  cases inB P x <;> cases A.any (fun y=>K.sameDot y x) <;> cases inB O x <;> cases B.any (fun y=>K.sameDot y x) <;> decide
 unfold KeptM stayB;constructor
 ·rintro ⟨h1,h2⟩;rw [hpk (hd h1),Bool.or_eq_false_iff] at h2;rcases h1 with h1 | h1
  ·refine .inl ⟨h1,?_⟩;have h3:=h2.2
   cases hx:inB O x <;> cases hy:B.any (fun y=>K.sameDot y x) <;> simp_all
  ·refine .inr ⟨h1,?_⟩;have h3:=h2.1
   cases hx:inB P x <;> cases hy:A.any (fun y=>K.sameDot y x) <;> simp_all
 ·rintro (⟨h1,h2⟩ | ⟨h1,h2⟩)
  ·refine ⟨.inl h1,(hpk (hd (.inl h1))).2 ?_⟩;rw [any_self h1]
   cases hx:inB O x <;> cases hy:B.any (fun y=>K.sameDot y x) <;> simp_all
  ·refine ⟨.inr h1,(hpk (hd (.inr h1))).2 ?_⟩;rw [any_self h1]
   cases hx:inB P x <;> cases hy:A.any (fun y=>K.sameDot y x) <;> simp_all
theorem lit_prow (W:World) (a b:Pv) (ha:PSrc W a) (hb:PSrc W b):PRow (W.alloc (.cells #[.slice a.vo a.vn a.vc,.slice a.co a.cn a.cc,.slice b.vo b.vn b.vc,.slice b.co b.cn b.cc] 26)) (some ⟨W.heap.size,0,none⟩) 2 [a,b]:=by
 have b1:=below_new W (.cells #[.slice a.vo a.vn a.vc,.slice a.co a.cn a.cc,.slice b.vo b.vn b.vc,.slice b.co b.cn b.cc] 26);have h1:=heap_alloc_new W (.cells #[.slice a.vo a.vn a.vc,.slice a.co a.cn a.cc,.slice b.vo b.vn b.vc,.slice b.co b.cn b.cc] 26);refine ⟨rfl,fun e=>(by cases e),fun ad e t p hp=>?_,fun p hp=>?_⟩
 ·obtain rfl:(⟨W.heap.size,0,none⟩:Addr)=ad:=Option.some.inj e;rw [Addr.add_lit,Nat.zero_add]
  match t,hp with
  | 0,hp=>cases hp;refine ⟨?_,?_⟩ <;> (try rw [Addr.add_lit]) <;> simp only [World.cell?,h1] <;> rfl
  | 1,hp=>cases hp;refine ⟨?_,?_⟩ <;> (try rw [Addr.add_lit]) <;> simp only [World.cell?,h1] <;> rfl
  | t+2,hp=>simp at hp
 ·rcases List.mem_cons.1 hp with rfl | hp
  ·exact ha.below b1
  ·obtain rfl:=List.mem_singleton.1 hp;exact hb.below b1
def MgA (w w':World) (x:Ending) (A B:List K.En) (P O:Pst):Prop:=∃ a n c Z er,x = .returned (.tuple #[.slice a n c,.int .i64 er])/\K.ESrc w' a n c Z/\Below w.heap.size w w'/\MgD A B P O Z er
theorem merge_any (ao bo:Option Addr) (n cap m cap':Nat) (A B:List K.En) (p o:Pv) (w:World) (hA:K.ESrc w ao n cap A) (hB:K.ESrc w bo m cap' B) (hP:PSrc w p) (hO:PSrc w o) :
  Calls Tryz.prog 35 #[.slice ao n cap,PV p,.slice bo m cap',PV o] w fun x w'=>MgA w w' x A B p.P o.P:=by
 have b1:=below_new w (.cells (PC p) 26);have b2:=below_new (w.alloc (.cells (PC p) 26)) (.cells (PC o) 26);have HXA:=hide ((pbox_new w p).below b2);have X2:=pbox_new (w.alloc (.cells (PC p) 26)) o;rw [World.size_alloc] at X2;have HXB:=hide X2;have HBK:=hide (b1.trans (b2.mono b1.size));have HA:=hide (hA.below HBK.out);have HB:=hide (hB.below HBK.out);have HP:=hide (hP.below HBK.out);have HO:=hide (hO.below HBK.out);clear b1 b2 X2 hA hB hP hO;obtain ⟨wk,hwk⟩:∃ wk,(w.alloc (.cells (PC p) 26)).alloc (.cells (PC o) 26)=wk:=⟨_,rfl⟩;obtain ⟨G,hG⟩:∃ G,w.heap.size=G:=⟨_,rfl⟩;rw [hwk] at HXA HXB HBK HA HB HP HO;rw [hG] at HXA HXB
 have l1:=run_ldP HXA.out.at
 go_enter Tryz.func35,Tryz.ntmps35;go_wp2_with fail;clear hwk hG l1;refine (isNormP_any p _ HP.out).mono ?_;rintro x w2 ⟨b,rfl,hb,b2⟩
 cases b with
 | false =>
  have HE:Hid (MgA w w2 (.returned (.tuple #[.slice none 0 0,.int .i64 1])) A B p.P o.P):=⟨_,_,_,_,_,rfl,K.ESrc.none _,HBK.out.trans (b2.mono HBK.out.size),.inl ⟨fun h=>(by have:=hb.out.2 h.2.2.1;cases this),rfl,rfl⟩⟩;clear hb b2;go_wp2_with fail;go_ret2;exact HE.out
 | true =>
  have HF1:Hid (InForm p.P):=hb.out.1 rfl
  have l2:=run_ldP (HXB.out.below b2).at
  have HB2:=hide b2;clear hb b2;go_wp2_with fail;clear l2;refine (isNormP_any o _ (HO.out.below HB2.out)).mono ?_;rintro x w3 ⟨b,rfl,hb,b3⟩;have HB3:=wTr HB2 b3;clear b3 HB2
  cases b with
  | false =>
   have HE:Hid (MgA w w3 (.returned (.tuple #[.slice none 0 0,.int .i64 1])) A B p.P o.P):=⟨_,_,_,_,_,rfl,K.ESrc.none _,HBK.out.trans (HB3.out.mono HBK.out.size),.inl ⟨fun h=>(by have:=hb.out.2 h.2.2.2;cases this),rfl,rfl⟩⟩;clear hb;go_wp2_with fail;go_ret2;exact HE.out
  | true =>
   have HF2:Hid (InForm o.P):=hb.out.1 rfl;clear hb;go_wp2_with fail;refine (K.union_any ao bo n cap m cap' A B _ (HA.out.below HB3.out) (HB.out.below HB3.out)).mono ?_;rintro x w4 ⟨uo,un,uc,U,er,rfl,S4,b4,hU⟩;have HB4:=wTr HB3 b4;clear b4 HB3;rcases hU with ⟨hno,rfl,rfl⟩ | ⟨hok,⟨hcl,rfl,rfl⟩ | ⟨hcl,rfl,hAs,hm⟩⟩
   ·have HE:Hid (MgA w w4 (.returned (.tuple #[.slice none 0 0,.int .i64 1])) A B p.P o.P):=⟨_,_,_,_,_,rfl,K.ESrc.none _,HBK.out.trans (HB4.out.mono HBK.out.size),.inl ⟨fun h=>hno ⟨h.1,h.2.1⟩,rfl,rfl⟩⟩;clear hno S4;go_wp2_with fail;go_ret2;exact HE.out
   ·have HE:Hid (MgA w w4 (.returned (.tuple #[.slice none 0 0,.int .i64 10])) A B p.P o.P):=⟨_,_,_,_,_,rfl,K.ESrc.none _,HBK.out.trans (HB4.out.mono HBK.out.size),.inr (.inl ⟨⟨hok.1,hok.2,HF1.out,HF2.out⟩,hcl,rfl,rfl⟩)⟩;clear hok hcl S4;go_wp2_with fail;go_ret2;exact HE.out
   ·have HU:Hid (K.chk A=0/\K.chk B=0/\¬ K.Clash (A++B)/\K.Asc U/\∀ x,x∈U↔x∈A++B):=⟨hok.1,hok.2,hcl,hAs,hm⟩;have HS4:=hide S4;have HSt:Hid (∀ W,Below w4.heap.size w4 W -> (ldP (.pointer (some ⟨G,0,none⟩))).run Tryz.prog W = .ok (PV p) W/\(ldP (.pointer (some ⟨G+1,0,none⟩))).run Tryz.prog W = .ok (PV o) W):=fun W hW=>⟨run_ldP ((HXA.out.below HB4.out).below hW).at,run_ldP ((HXB.out.below HB4.out).below hW).at⟩;have HPJ:Hid (∀ W:World,∀ a b:Pv,PSrc W a -> PSrc W b -> PRow (W.alloc (.cells #[.slice a.vo a.vn a.vc,.slice a.co a.cn a.cc,.slice b.vo b.vn b.vc,.slice b.co b.cn b.cc] 26)) (some ⟨W.heap.size,0,none⟩) 2 [a,b]):=fun W a b ha hb=>lit_prow W a b ha hb;clear hok hcl hAs hm S4;go_upto_region 6 with fail;refine wp_region_held_drew (S:=fun W=>(ldP (.pointer (some ⟨G,0,none⟩))).run Tryz.prog W = .ok (PV p) W/\(ldP (.pointer (some ⟨G+1,0,none⟩))).run Tryz.prog W = .ok (PV o) W) (by kernel_rfl) (HSt.out _ (below_drew1 w4)) (fun hHeld=>?_)
    refine wU 0 ?_;refine wU 1 ?_;refine wU 2 ?_;refine wU 4 ?_;refine wU 5 ?_;refine wpAnyH_ready (rs:=[3]) (by kernel_rfl) (by simp) (.cons rfl (fun K hK=>?_) .nil);go_simp;go_wp2_with fail;refine (removed_any ao n cap A p _ (HA.out.below (HB4.out.trans ((below_drew1 w4).mono HB4.out.size))) HU.out.1 (HP.out.below (HB4.out.trans ((below_drew1 w4).mono HB4.out.size)))).mono ?_;rintro x w5 ⟨ra,rfl,Sa,-,b5,Ra⟩;have HB5:Hid (Below w4.heap.size w4 w5):=(below_drew1 w4).trans b5;have HRa:Hid (RmOf A p.P ra.P):=Ra;have HSa:=hide Sa;refine hK.out _ _ (HSt.out _ HB5.out) (fun hHeld=>?_);clear hK K;clear b5 Sa Ra;refine wpAnyH_ready (rs:=[6]) (by kernel_rfl) (by simp) (.cons rfl (fun K hK=>?_) .nil);go_simp;go_wp2_with fail;refine (removed_any bo m cap' B o _ (HB.out.below (HB4.out.trans (HB5.out.mono HB4.out.size))) HU.out.2.1 (HO.out.below (HB4.out.trans (HB5.out.mono HB4.out.size)))).mono ?_
    rintro x w6 ⟨rb,rfl,Sb,-,b6,Rb⟩;have HB6:Hid (Below w4.heap.size w4 w6):=HB5.out.trans (b6.mono HB5.out.size);have HRb:Hid (RmOf B o.P rb.P):=Rb;have HSb:Hid (PSrc w6 ra/\PSrc w6 rb):=⟨HSa.out.below b6,Sb⟩;refine hK.out _ _ (HSt.out _ HB6.out) (fun hHeld=>?_);clear hK K;clear b6 Sb Rb HSa;have b7:=below_new w6 (.cells #[.slice ra.vo ra.vn ra.vc,.slice ra.co ra.cn ra.cc,.slice rb.vo rb.vn rb.vc,.slice rb.co rb.cn rb.cc] 26);have HP7:=hide (HPJ.out w6 ra rb HSb.out.1 HSb.out.2);have HB7:=wTr HB6 b7;clear b7 HPJ;refine wpAnyH_ready (rs:=[7]) (by kernel_rfl) (by simp) (.cons rfl (fun K hK=>?_) .nil);go_simp;refine hK.out _ _ (HSt.out _ HB7.out) (fun hHeld=>?_);clear hK K
    have HWt:Hid (wt [ra,rb] <= 8796093022207):=by
     obtain ⟨-,-,C1,-,h1⟩:=HRa.out;obtain ⟨-,-,C2,-,h2⟩:=HRb.out;have k1:=(canon_len h1).1;have k2:=(canon_len h2).1
     show _ <= _
     simp only [wt];omega
    refine wpAnyH_ready (rs:=[8]) (by kernel_rfl) (by simp) (.cons rfl (fun K hK=>?_) .nil);go_simp;go_wp2_with fail;refine (pastJoin_any (some ⟨w6.heap.size,0,none⟩) 2 2 [ra,rb] _ HP7.out HWt.out (by decide)).mono ?_;rintro x w8 ⟨pj,rfl,Sj,-,b8,Cj⟩;have HB8:=wTr HB7 b8;have HSj:=hide Sj;have HCj:Hid (CanonOf (runsOf [ra,rb]) pj.P):=Cj;refine hK.out _ _ (HSt.out _ HB8.out) (fun hHeld=>?_);clear hK K;clear b8 Sj Cj HP7;refine wpAnyH_ready (rs:=[9]) (by kernel_rfl) (by simp) (.cons rfl (fun K hK=>?_) .nil);go_simp;go_wp2_with fail;refine (outside_any uo un uc U pj _ (HS4.out.below HB8.out) HSj.out).mono ?_;rintro x w9 (⟨-,-,a9,n9,c9,rfl,S9,b9,-⟩ | ⟨hno,-⟩);rotate_left
    ·refine absurd ⟨?_,canon_iff.1 HCj.out.canon⟩ hno;exact Go.Proofs.YtaphmhbmhcahaaaGreat.K.chk_asc HU.out.2.2.2.1 (fun e he=>((List.mem_append.1 ((HU.out.2.2.2.2 e).1 he)).elim (chk_ce HU.out.1 e) (chk_ce HU.out.2.1 e)))
    have HB9:=wTr HB8 b9;have HE:Hid (MgA w w9 (.returned (.tuple #[.slice a9 n9 c9,.int .i64 0])) A B p.P o.P):=⟨a9,n9,c9,_,0,rfl,S9,HBK.out.trans ((HB4.out.trans (HB9.out.mono HB4.out.size)).mono HBK.out.size),.inr (.inr ⟨⟨HU.out.1,HU.out.2.1,HF1.out,HF2.out⟩,HU.out.2.2.1,rfl,HU.out.2.2.2.1.filter _,merge_mem HU.out.1 HU.out.2.1 HU.out.2.2.2.2 HRa.out HRb.out HCj.out⟩)⟩;refine hK.out _ _ (HSt.out _ HB9.out) (fun hHeld=>?_);clear hK K;clear S9 b9;refine wU 10 ?_;refine wU 11 ?_;refine wU 12 ?_;refine wU 13 ?_;refine wpAnyH_done (by kernel_rfl) ?_ _;clear hHeld;go_wp2_with fail;go_ret2;exact HE.out
end
section
open Go.RowKit
theorem within_sx {L:List K.En} {D P:Pst} (hL:K.chk L=0) (hC:CanonOf (dotsG (L.map dotOf)) D):wiP D P↔∀ e∈L,inB P e=true:=by
 constructor
 ·intro h e he;have ho:=ce_dot (chk_ce hL e he);have h3:=ho;unfold okD at h3;rw [Bool.and_eq_true] at h3;have h4:V.isR e.rep=true:=h3.1
  have h5:0 <= e.rep/\e.rep < 16:=by simpa [V.isR] using h4
  have hr:e.rep.toNat < 16:=by omega
  rw [inB_iff];exact ⟨h4,h _ hr _ ((canon_mem hC _ hr _).2 ((dotsG_mem _ _ _).2 ⟨dotOf e,List.mem_map.2 ⟨e,he,rfl⟩,ho,by show e.rep=((e.rep.toNat:Nat):Int);omega,rfl⟩))⟩
 ·intro h r hr n hm;obtain ⟨d,hd,ho,hl,hh⟩:=(dotsG_mem _ _ _).1 ((canon_mem hC r hr n).1 hm);obtain ⟨e,he,rfl⟩:=List.mem_map.1 hd;have h2:=(inB_iff _ _).1 (h e he);have h3:mem (runsAt P e.rep.toNat) e.num:=h2.2;have e1:e.rep=(r:Int):=hl;have e2:e.num=n:=hh;rw [e1,e2] at h3;simpa using h3
def RcI (s:Fc) (k:Nat):Prop:=∀ j,j < k -> ¬ wiP (s.rs.getD j rc0).p.P s.p.P/\∀ e∈s.es,covB (s.rs.getD j rc0) e=false
theorem RcI.done {s:Fc} (h:RcI s s.rs.length):(∀ r∈s.rs,¬ wiP r.p.P s.p.P)/\∀ e∈s.es,freeB s.rs e=true:=by
 have g:∀ r∈s.rs,¬ wiP r.p.P s.p.P/\∀ e∈s.es,covB r e=false:=fun r hr=>by
  obtain ⟨j,hj,rfl⟩:=List.getElem_of_mem hr;have:=h j hj;rw [rcD_at hj] at this;exact this
 refine ⟨fun r hr=>(g r hr).1,fun e he=>?_⟩;unfold freeB;rw [Bool.not_eq_true',List.any_eq_false];intro r hr hc;rw [(g r hr).2 e he] at hc
 cases hc
theorem free_no {s:Fc} {j l:Nat} (hj:j < s.rs.length) (hl:l < s.es.length) (h:covB (s.rs.getD j rc0) (s.es.getD l K.en0)=true):¬ ∀ e∈s.es,freeB s.rs e=true:=by
 intro k
 have he:s.es.getD l K.en0∈s.es:=by
  rw [List.getD_eq_getElem?_getD,List.getElem?_eq_getElem hl];exact List.getElem_mem hl
 have h1:=k _ he;unfold freeB at h1;rw [Bool.not_eq_true',List.any_eq_false] at h1;exact h1 _ (rcD_mem hj) h
attribute [local go_sem ↓] ldP_eq stP_eq ldSw_eq stSw_eq ldRe_eq stRe_eq K.ld28_eq K.st28_eq
attribute [local go_sem] cells_PV PC_size cells_FaV FaC_size cells_ReV ReC_size K.cells_EV K.EC_size
theorem refInForm_any (s:Fc) (w:World) (hF:FcOk w s):Calls Tryz.prog 27 #[FaV (mkF s)] w fun e w'=>GivB w w' e (FormS s):=by
 have b1:=below_new w (.cells (FaC (mkF s)) 29);have X1:=SwBox_new w (mkF s);obtain ⟨wk,hwk⟩:∃ w1,w.alloc (.cells (FaC (mkF s)) 29)=w1:=⟨_,rfl⟩;rw [hwk] at b1 X1;obtain ⟨G,hG0⟩:∃ G,w.heap.size=G:=⟨_,rfl⟩;rw [hG0] at X1;have HX:=hide X1;have HBK:=hide b1;have HF:=hide (hF.below b1);have HLn:Hid (s.es.length=s.an/\s.rs.length=s.rn):=⟨hF.es.1,hF.rs.len⟩;have HNo:Hid (∀ W,Below wk.heap.size wk W -> ¬ FormS s -> GivB w W (.returned (.bool false)) (FormS s)):=fun W hW h=>⟨false,rfl,⟨fun k=>(by cases k),fun k=>absurd k h⟩,b1.trans (hW.mono b1.size)⟩;clear hF b1 X1;obtain ⟨c0,c3⟩:=HX.out.cs;have lp:=run_ldP HX.out.past;go_enter Tryz.func27,Tryz.ntmps27;go_wp2_with fail;clear hwk hG0 c0 c3 lp;refine (K.refEntries_any s.ao s.an s.ac s.es _ HF.out.es).mono ?_;rintro e w3 ⟨rfl,b3⟩;have HB3:=hide b3;clear b3
 cases he:K.okN s.es s.an with
 | false =>
  have HE:=hide (HNo.out _ HB3.out (fun h=>by have:=h.1.1;rw [he] at this;cases this));clear he;go_wp2_with fail;go_ret;exact HE.out
 | true =>
 have HE0:=hide he;clear he;obtain ⟨c0,c3⟩:=(HX.out.below HB3.out).cs;have lp:=run_ldP (HX.out.below HB3.out).past;go_wp2_with fail;clear c0 c3 lp;refine (refIsNorm_any s.p _ (HF.out.p.below HB3.out)).mono ?_;rintro e w4 ⟨v,rfl,hv,b4⟩;have HB4:=wTr HB3 b4;clear b4
 cases v with
 | false =>
  have HE:=hide (HNo.out _ HB4.out (fun h=>by have:=hv.2 h.1.2.1;cases this));clear hv;go_wp2_with fail;go_ret;exact HE.out
 | true =>
 have HI0:=hide (hv.1 rfl);clear hv;obtain ⟨c0,c3⟩:=(HX.out.below HB4.out).cs;go_wp2_with fail;clear c0 c3;refine (refRecords_any s.ro s.rn s.rc s.rs _ (HF.out.rs.below HB4.out)).mono ?_;rintro e w5 ⟨v,rfl,hv,b5⟩;have HB5:=wTr HB4 b5;clear b5
 cases v with
 | false =>
  have HE:=hide (HNo.out _ HB5.out (fun h=>by have:=hv.2 h.1.2.2;cases this));clear hv;go_wp2_with fail;go_ret;exact HE.out
 | true =>
 have HO0:=hide (hv.1 rfl);clear hv;have HSt:Hid (∀ W,Below wk.heap.size wk W -> W.cell? ⟨G,0,none⟩=some (.slice s.ao s.an s.ac)/\(ldP (.pointer (some ⟨G,1,none⟩))).run Tryz.prog W = .ok (PV s.p) W):=fun W h=>⟨(HX.out.below h).cs.1,run_ldP (HX.out.below h).past⟩;have HBd:=hide (HB5.out.trans ((below_drew1 w5).mono HB5.out.size));go_upto_region 3 with fail;refine wp_region_held_drew (S:=fun W=>W.cell? ⟨G,0,none⟩=some (.slice s.ao s.an s.ac)/\(ldP (.pointer (some ⟨G,1,none⟩))).run Tryz.prog W = .ok (PV s.p) W) (by kernel_rfl) (HSt.out _ HBd.out) (fun hHeld=>?_);refine wU 0 ?_;refine wU 1 ?_;refine wU 3 ?_;refine wU 4 ?_;refine wpAnyH_ready (rs:=[2]) (by kernel_rfl) (by simp) (.cons rfl (fun K hK=>?_) .nil);go_simp;go_wp2_with fail;refine (refDots8_any s.ao s.an s.ac s.es ⟨#[]⟩ (-1) _ (HF.out.es.below HBd.out)).mono ?_;rintro x w6 ⟨d,rfl,Sd,-,b6,Cd⟩
 rw [dsB_all] at Cd;have HB6:=wTr HBd b6;have HD:=hide Sd;have HCd:=hide Cd;clear Sd Cd b6;refine hK.out _ _ (HSt.out _ HB6.out) (fun hHeld=>?_);clear hK K;refine wpAnyH_ready (rs:=[5]) (by kernel_rfl) (by simp) (.cons rfl (fun K hK=>?_) .nil);go_simp;go_wp2_with fail;refine (refWithin_any d s.p _ HD.out (HF.out.p.below HB6.out)).mono ?_;rintro x w7 ⟨v,rfl,hv,b7⟩;have HB7:=wTr HB6 b7;have HV:Hid (v=true↔∀ e∈s.es,inB s.p.P e=true):=(show v=true↔wiP d.P s.p.P from hv).trans (within_sx ((chk_okS HLn.out.1).2 HE0.out) HCd.out);clear hv b7;refine hK.out _ _ (HSt.out _ HB7.out) (fun hHeld=>?_);clear hK K;refine wU 6 ?_;refine wpAnyH_done (by kernel_rfl) ?_ _;clear hHeld
 cases v with
 | false =>
  have HE:=hide (HNo.out _ HB7.out (fun h=>by have:=HV.out.2 h.2.1;cases this));go_wp2_with fail;go_ret;exact HE.out
 | true =>
 have HIn:=hide (HV.out.1 rfl);go_wp2_with fail;go_loopw [3,4] (fun i _ wr=>∃ k:Nat,k <= s.rn/\i = .int .i64 (k:Int)/\Hid (RcI s k/\Below wk.heap.size wk wr)) (fun i _ _=>s.rn - (intOf i).toNat)
 case atStart=>exact ⟨0,Nat.zero_le _,rfl,fun j h=>by omega,HB7.out⟩
 case round =>
  obtain ⟨k,hk,rfl,HK⟩:=hrel
  rename World=>wr
  have hbn:=HF.out.rs.big;have hba:=HF.out.es.2.2.2.2;obtain ⟨c0,c3⟩:=(HX.out.below HK.out.2).cs;by_cases hlt:k < s.rn
  ·have hlti:(k:Int) < (s.rn:Int):=by omega
   obtain ⟨ad,hao,-⟩:=HF.out.rs.at k hlt
   obtain ⟨b1,o1,rfl⟩:∃ b1 o1,ad=⟨b1,o1,none⟩:=by
    have h:=HF.out.rs;rw [hao] at h;exact h.spot (by omega)
   obtain ⟨r,Hr⟩:∃ r,Hid (s.rs.getD k rc0=r):=⟨_,rfl⟩;have Hlt:=hide hlt;have Hao:=hide hao
   have HRo:Hid (∀ W,Below wk.heap.size wk W -> RcOk W r):=fun W hW=>by
    have h1:=(HF.out.rs.below hW).okAt k Hlt.out;rw [Hr.out] at h1;exact h1
   have HRa:Hid (∀ W,Below wk.heap.size wk W -> ReAt W ⟨b1,o1+k * 3,none⟩ (mkR r)):=fun W hW=>by
    have A:=(HF.out.rs.below hW).at_ _ Hao.out k Hlt.out;rw [Hr.out,Addr.add_lit] at A;exact A
   have HC3:Hid (∀ W,Below wk.heap.size wk W -> W.cell? ⟨G,3,none⟩=some (.slice (some ⟨b1,o1,none⟩) s.rn s.rc)/\W.cell? ⟨G,0,none⟩=some (.slice s.ao s.an s.ac)):=fun W hW=>by
    have h:=(HX.out.below hW).cs;rw [Hao.out] at h;exact ⟨h.2,h.1⟩
   have HSu:Hid (∀ W,Below wk.heap.size wk W -> (W.cell? ⟨G,3,none⟩=some (.slice (some ⟨b1,o1,none⟩) s.rn s.rc)/\W.cell? ⟨G,0,none⟩=some (.slice s.ao s.an s.ac))/\(ldP (.pointer (some ⟨b1,o1+k * 3+1,none⟩))).run Tryz.prog W = .ok (PV r.p) W/\(ldP (.pointer (some ⟨G,1,none⟩))).run Tryz.prog W = .ok (PV s.p) W):=fun W hW=>⟨HC3.out W hW,run_ldP (HRa.out W hW).flat.2,run_ldP (HX.out.below hW).past⟩;have HBe:=hide (HK.out.2.trans ((below_drew1 wr).mono HK.out.2.size));clear hlt hk hao;go_upto_region 8 with fail;refine wp_region_held_drew (S:=fun W=>(W.cell? ⟨G,3,none⟩=some (.slice (some ⟨b1,o1,none⟩) s.rn s.rc)/\W.cell? ⟨G,0,none⟩=some (.slice s.ao s.an s.ac))/\(ldP (.pointer (some ⟨b1,o1+k * 3+1,none⟩))).run Tryz.prog W = .ok (PV r.p) W/\(ldP (.pointer (some ⟨G,1,none⟩))).run Tryz.prog W = .ok (PV s.p) W) (by kernel_rfl) (HSu.out _ HBe.out) (fun hHeld=>?_)
   refine wU 0 ?_;refine wU 1 ?_;refine wU 2 ?_;refine wU 3 ?_;refine wU 4 ?_;refine wU 5 ?_;refine wU 6 ?_;refine wU 7 ?_;refine wpAnyH_ready (rs:=[8]) (by kernel_rfl) (by simp) (.cons rfl (fun K hK=>?_) .nil);go_simp;go_wp2_with fail;refine (refWithin_any r.p s.p _ (HRo.out _ HBe.out).1 (HF.out.p.below HBe.out)).mono ?_;rintro x w8 ⟨u,rfl,hu,b8⟩;have HU:Hid (u=true↔wiP r.p.P s.p.P):=hu;have HB8:=wTr HBe b8;clear hu b8;refine hK.out _ _ (HSu.out _ HB8.out) (fun hHeld=>?_);clear hK K;refine wpAnyH_done (by kernel_rfl) ?_ _;clear hHeld;clear c0 c3
   cases u with
   | true =>
    have HE:=hide (HNo.out _ HB8.out (fun h=>h.2.2.1 r (by rw [<- Hr.out];exact rcD_mem (by rw [HLn.out.2];exact Hlt.out)) (HU.out.1 rfl)));go_wp2_with fail;go_ret;exact HE.out
   | false =>
    have HWa:Hid (¬ wiP r.p.P s.p.P):=fun h=>by have:=HU.out.2 h;cases this
    go_wp2_with fail;go_loopw [4] (fun i wq=>∃ l:Nat,l <= s.an/\i = .int .i64 (l:Int)/\Hid ((∀ t,t < l -> covB r (s.es.getD t K.en0)=false)/\Below wk.heap.size wk wq)) (fun i _=>s.an - (intOf i).toNat)
    case atStart=>exact ⟨0,Nat.zero_le _,rfl,fun t h=>by omega,HB8.out⟩
    case round =>
     obtain ⟨l,hl,rfl,HL⟩:=hrel
     rename World=>wq
     obtain ⟨c3,c0⟩:=HC3.out _ HL.out.2;by_cases hll:l < s.an
     ·have hlli:(l:Int) < (s.an:Int):=by omega
      obtain ⟨ad,hae,-⟩:=HF.out.es.at l hll;obtain ⟨e,He⟩:∃ e,Hid (s.es.getD l K.en0=e):=⟨_,rfl⟩;have Hll:=hide hll;have Hae:=hide hae
      have hlt2:(k:Int) < (s.rn:Int):=by have:=Hlt.out;omega
      have HSw:Hid (∀ W,Below wk.heap.size wk W -> (W.cell? ⟨G,3,none⟩=some (.slice (some ⟨b1,o1,none⟩) s.rn s.rc)/\W.cell? ⟨G,0,none⟩=some (.slice (some ad) s.an s.ac))/\(ldRe (.pointer (some ⟨b1,o1+k * 3,none⟩))).run Tryz.prog W = .ok (ReV (mkR r)) W/\(K.ld28 (.pointer (some (ad.add (l * 4))))).run Tryz.prog W = .ok (K.EV e) W):=fun W hW=>by
       have h:=HC3.out W hW;rw [Hae.out] at h;obtain ⟨ad',ea,A⟩:=(HF.out.es.below hW).at l Hll.out;rw [Hae.out] at ea;obtain rfl:=Option.some.inj ea;rw [He.out] at A;exact ⟨h,run_laRe (HRa.out W hW),K.run_ld28 A⟩
      have HBg:=hide (HL.out.2.trans ((below_drew1 wq).mono HL.out.2.size));clear hll hl hae;go_upto_region 13 with fail;refine wp_region_held_drew (S:=fun W=>(W.cell? ⟨G,3,none⟩=some (.slice (some ⟨b1,o1,none⟩) s.rn s.rc)/\W.cell? ⟨G,0,none⟩=some (.slice (some ad) s.an s.ac))/\(ldRe (.pointer (some ⟨b1,o1+k * 3,none⟩))).run Tryz.prog W = .ok (ReV (mkR r)) W/\(K.ld28 (.pointer (some (ad.add (l * 4))))).run Tryz.prog W = .ok (K.EV e) W) (by kernel_rfl) (HSw.out _ HBg.out) (fun hHeld=>?_);refine wU 0 ?_;refine wU 1 ?_;refine wU 2 ?_;refine wU 3 ?_;refine wU 4 ?_;refine wU 5 ?_;refine wU 6 ?_;refine wU 7 ?_;refine wU 8 ?_;refine wU 9 ?_;refine wpAnyH_ready (rs:=[10]) (by kernel_rfl) (by simp) (.cons rfl (fun K hK=>?_) .nil);go_simp;go_wp2_with fail;refine (covers08_any r e _ (HRo.out _ HBg.out)).mono ?_;rintro x w9 ⟨rfl,b9⟩;have HB9:=wTr HBg b9
      obtain ⟨cb,Hcb⟩:∃ b,Hid (covB r e=b):=⟨_,rfl⟩;rw [Hcb.out];clear b9;refine hK.out _ _ (HSw.out _ HB9.out) (fun hHeld=>?_);clear hK K;refine wpAnyH_done (by kernel_rfl) ?_ _;clear hHeld;clear c0 c3
      cases cb with
      | true =>
       have HE:=hide (HNo.out _ HB9.out (fun h=>free_no (by rw [HLn.out.2];exact Hlt.out) (by rw [HLn.out.1];exact Hll.out) (by rw [Hr.out,He.out];exact Hcb.out) h.2.2.2));go_wp2_with fail;go_ret;exact HE.out
      | false =>
       have HN:Hid ((∀ t,t < l+1 -> covB r (s.es.getD t K.en0)=false)/\Below wk.heap.size wk w9):=⟨fun t ht=>by
        by_cases e1:t=l
        ·rw [e1,He.out];exact Hcb.out
        ·exact HL.out.1 t (by omega),HB9.out⟩
       go_wp2_with fail;go_roundw
       case rel=>exact ⟨l+1,Hll.out,by simp,HN.out⟩
       case measure=>simp [intOf];omega
     ·have hlli:¬ (l:Int) < (s.an:Int):=by omega
      have HN:Hid (RcI s (k+1)/\Below wk.heap.size wk wq):=⟨fun j hj=>by
       by_cases e1:j=k
       ·rw [e1,Hr.out];refine ⟨HWa.out,fun e he=>?_⟩;obtain ⟨t,ht,rfl⟩:=List.getElem_of_mem he;have h1:=HL.out.1 t (by have:=HLn.out.1;omega);rw [List.getD_eq_getElem?_getD,List.getElem?_eq_getElem ht] at h1;exact h1
       ·exact HK.out.1 j (by omega),HL.out.2⟩
      clear hll hl;go_wp2_with fail;clear c0 c3 hlli;go_roundw
      case rel=>exact ⟨k+1,Hlt.out,by simp,HN.out⟩
      case measure=>simp [intOf];have:=Hlt.out;omega
  ·have hlti:¬ (k:Int) < (s.rn:Int):=by omega
   have HE:Hid (GivB w wr (.returned (.bool true)) (FormS s)):=by
    have h1:=HK.out.1;rw [show k=s.rs.length by rw [HLn.out.2];omega] at h1;exact ⟨true,rfl,⟨fun _=>⟨⟨HE0.out,HI0.out,HO0.out⟩,HIn.out,h1.done.1,h1.done.2⟩,fun _=>rfl⟩,HBK.out.trans (HK.out.2.mono HBK.out.size)⟩
   clear hlt hk;go_wp2_with fail;clear c0 c3;go_ret;exact HE.out
end
end Go.Proofs.YtaphmhbmhcahaaaGreat
namespace Go.Proofs.YtaphmhbmhcahaaaGreat.K
open Go.RowKit
attribute [local go_sem ↓] ld28_eq st28_eq ld26_eq run_eqD run_eq28
attribute [local go_sem] zero_EC cells_EV EC_size
structure DotAt (w:World) (g:Nat) (e:En):Prop where
 c0:w.cell? ⟨g,0,none⟩=some (.int .i64 e.rep)
 c1:w.cell? ⟨g,1,none⟩=some (.int .i64 e.num)
theorem cells_DV (e:En):(Value.agg (DC e)).cells=DC e:=by simp [Value.cells]
attribute [local go_sem] cells_DV
def IxOf (L:List En) (x:En) (k:Int):Prop:=(k = -1/\∀ i,i < L.length -> sameDot (L.getD i en0) x=false)∨∃ i,i < L.length/\k=(i:Int)/\sameDot (L.getD i en0) x=true/\∀ j,j < i -> sameDot (L.getD j en0) x=false
def fdE (L:List En) (k:Int):En:=if k < 0 then en0 else L.getD k.toNat en0
def fdB (k:Int):Bool:=decide (0 <= k)
def GivesF (w w':World) (y:Ending) (L:List En) (x:En):Prop:=∃ k,y = .returned (.tuple #[EV (fdE L k),.bool (fdB k)])/\IxOf L x k/\Below w.heap.size w w'
end Go.Proofs.YtaphmhbmhcahaaaGreat.K
