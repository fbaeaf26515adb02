/- GRf GOa GAe QLb QNy GRv SXh BEn BPl BCl BAp BLf BMg -/
import Derived.Test.YtjeilkenjdnafaaGreatTk
import Derived.Test.YtjeilkenjdnafaaGreatDh16
import Derived.Test.YtjeilkenjdnafaaGreatDh25
import Derived.Test.YtjeilkenjdnafaaGreatDh36
import Derived.Test.YtjeilkenjdnafaaGreatDh09
import Derived.Test.YtjeilkenjdnafaaGreatDh34
import Derived.Test.YtjeilkenjdnafaaGreatDh35
import Derived.Deep.CutRange
import Derived.Test.YtjeilkenjdnafaaGreatDh33
import Derived.Test.YtjeilkenjdnafaaGreatDh20
import Derived.Test.YtjeilkenjdnafaaGreatDh30
import Derived.Test.YtjeilkenjdnafaaGreatDh32
import Derived.Test.YtjeilkenjdnafaaGreatDh27
set_option maxRecDepth 100000
set_option maxHeartbeats 3200000
namespace Go.Proofs.YtjeilkenjdnafaaGreat
section
open Go.RowKit
attribute [local go_sem ↓] ldP_eq stP_eq ldFa_eq stFa_eq ldD_eq stD_eq
attribute [local go_sem] cells_PV PC_size cells_FaV FaC_size cells_RV RC_size zero_RC fold_RC
end
section
open Go.RowKit
attribute [local go_sem ↓] ldP_eq stP_eq ldFa_eq stFa_eq ldD_eq stD_eq
attribute [local go_sem] cells_PV PC_size cells_FaV FaC_size cells_RV RC_size zero_RC fold_RC
end
section
open Go.RowKit
attribute [local go_sem ↓] ldP_eq stP_eq ldFa_eq stFa_eq ldD_eq stD_eq
attribute [local go_sem] cells_PV PC_size cells_FaV FaC_size cells_RV RC_size zero_RC fold_RC
end
section
open Go.RowKit
attribute [local go_sem ↓] ldP_eq stP_eq ldJ_eq stJ_eq
attribute [local go_sem] zeros_JA cells_JAv zero_PC cells_PV fold_PC PC_size fold_PC1
end
section
open Go.RowKit
attribute [local go_sem ↓] ldP_eq stP_eq ldD_eq stD_eq
attribute [local go_sem] zero_PC cells_PV fold_PC PC_size cells_RV RC_size zero_RC fold_RC
theorem build_D (x y:Int):((RC rn0).setIfInBounds 0 (.int .i64 x)).setIfInBounds 1 (.int .i64 y)=RC ⟨x,y⟩:=rfl
attribute [local go_sem] build_D
def NxtOf (P:Pst) (r lim:Int) (d:Rn) (x:Int):Prop:=(V.isR r=false/\d=rn0/\x=3)∨(V.isR r=true/\∃ k,LastOf P r k/\((min lim 1000000000 <= k/\d=rn0/\x=9)∨(k < min lim 1000000000/\d=⟨r,k+1⟩/\x=0)))
def GivN (w w':World) (e:Ending) (P:Pst) (r lim:Int):Prop:=∃ d x,e = .returned (.tuple #[RV d,.int .i64 x])/\NxtOf P r lim d x/\Below w.heap.size w w'
end
section
open Go.RowKit
attribute [local go_sem ↓] ldP_eq stP_eq ldFa_eq stFa_eq ldD_eq stD_eq
attribute [local go_sem] cells_PV PC_size cells_FaV FaC_size cells_RV RC_size zero_RC fold_RC
end
section
open Go.RowKit
theorem dsB_all (L:List K.En):L.filter (dsB ⟨#[]⟩ (-1))=L:=List.filter_eq_self.2 fun e _=>by unfold dsB;rfl
def HeardOf (f:Fc) (P:Pst):Prop:=InForm P/\∀ r,r < 16 -> ∀ n,mem (runsAt P r) n↔mem (dotsG (f.es.map dotOf) r) n∨mem (runsAt f.p.P r) n
theorem HeardOf.one {f:Fc} {P Q:Pst} (h:HeardOf f P) (k:HeardOf f Q):P=Q:=
 (canon_iff.2 h.1).unique (canon_iff.2 k.1) fun r hr n=>(h.2 r hr n).trans (k.2 r hr n).symm
def StOf (f s:Fc):Prop:=s.es=f.es/\HeardOf f s.p.P/\WtOf f.rs s.p.P s.rs
def EvS (f s:Fc) (er:Int):Prop:=(EvOf f er/\er≠0/\s=fz0)∨(EvOf f 0/\er=0/\StOf f s)
attribute [local go_sem ↓] ldP_eq stP_eq ldFa_eq stFa_eq ldSw_eq stSw_eq bldS_eq bsPs_eq
attribute [local go_sem] cells_PV PC_size cells_FaV FaC_size zero_FaZ run_bsPs run_bldS run_bldS0 zero_PC
end
end Go.Proofs.YtjeilkenjdnafaaGreat
namespace Go.Proofs.YtjeilkenjdnafaaGreat.K
section
open Go.RowKit
attribute [local go_sem ↓] ld28_eq st28_eq ld26_eq
attribute [local go_sem] zero_EC cells_EV
end
section
open Go.RowKit
attribute [local go_sem ↓] ld28_eq st28_eq ld26_eq run_eqD
def DBox (w:World) (g:Nat) (y:En):Prop:=w.heap[g]? = some (.cells (DC y) 55 (0,0))
theorem DBox.lt {w:World} {g:Nat} {y:En} (h:DBox w g y):g < w.heap.size:=(Array.getElem?_eq_some_iff.1 h).1
theorem DBox.below {w w':World} {g:Nat} {y:En} (h:DBox w g y) (hb:Below w.heap.size w w'):DBox w' g y:=(hb.block g h.lt).trans h
def PlA (w w':World) (x:Ending) (B:List En) (y:En):Prop:=∃ z:Int,x = .returned (.int .i64 z)/\Below w.heap.size w w'/\((z = -1/\∀ e∈B,sameDot e y=false)∨∃ k:Nat,k < B.length/\z=(k:Int)/\sameDot (B.getD k en0) y=true)
end
section
open Go.RowKit
attribute [local go_sem ↓] ld28_eq st28_eq ld26_eq run_eq28
def CwB (B:List En) (x:En):Prop:=∃ y∈B,sameDot x y=true/\x≠y
def ClA (w w':World) (x:Ending) (A B:List En):Prop:=∃ b:Bool,x = .returned (.bool b)/\(b=true↔Clash (A++B))/\Below w.heap.size w w'
end
end Go.Proofs.YtjeilkenjdnafaaGreat.K
namespace Go.Proofs.YtjeilkenjdnafaaGreat
section
open Go.RowKit
attribute [local go_sem ↓] ldP_eq stP_eq ldRe_eq stRe_eq K.ld28_eq K.st28_eq
attribute [local go_sem] cells_PV PC_size cells_ReV ReC_size K.cells_EV K.EC_size K.zero_EC
variable {w w' w2 W W' : World} {g : Nat}
end
section
open Go.RowKit
attribute [local go_sem ↓] ldP_eq stP_eq K.ld28_eq K.st28_eq K.ld26_eq
attribute [local go_sem] cells_PV PC_size K.cells_EV K.EC_size
def stayB (B:List K.En) (P:Pst) (x:K.En):Bool:=B.any (fun y=>K.sameDot y x) || !inB P x
end
section
open Go.RowKit Go.Maps Go.Sort
theorem fold_PC2k (a b:Pv):Array.foldl (fun cs x=>cs.setIfInBounds (2+x.snd) x.fst) (Array.foldl (fun cs x=>cs.setIfInBounds x.snd x.fst) #[(PC pv0)[0]!,(PC pv0)[1]!,(PC pv0)[0]!,(PC pv0)[1]!] (PC a).zipIdx 0 2) (PC b).zipIdx 0 2=#[.slice a.vo a.vn a.vc,.slice a.co a.cn a.cc,.slice b.vo b.vn b.vc,.slice b.co b.cn b.cc]:=rfl
attribute [local go_sem ↓] ldP_eq stP_eq
attribute [local go_sem] cells_PV PC_size zero_PC fold_PC2k
def RmOf (L:List K.En) (P Q:Pst):Prop:=∃ D:Pst,CanonOf (dotsG (L.map dotOf)) D/\∃ C:Nat -> List Rn,(∀ r,r < 16 -> MinusOf (runsAt P r) (runsAt D r) (C r))/\CanonOf C Q
theorem removed_any (ao:Option Addr) (n cap:Nat) (L:List K.En) (p:Pv) (w:World) (hS:K.ESrc w ao n cap L) (hc:K.chk L=0) (hP:PSrc w p) :
  Calls Tryz.prog 92 #[.slice ao n cap,PV p] w fun x w'=>GivesP w w' x (RmOf L p.P):=by
 have b1:=below_new w (.cells (PC p) 26);have b2:=below_new (w.alloc (.cells (PC p) 26)) (.cells (PC pv0) 26);have HXA:=hide ((pbox_new w p).below b2);have X2:=pbox_new (w.alloc (.cells (PC p) 26)) pv0;rw [World.size_alloc] at X2;have HXB:=hide X2;have HBK:=hide (b1.trans (b2.mono b1.size));have HS:=hide (hS.below HBK.out);have HP:=hide (hP.below HBK.out);have HC:=hide hc;clear b1 b2 X2 hS hP hc;obtain ⟨wk,hwk⟩:∃ wk,(w.alloc (.cells (PC p) 26)).alloc (.cells (PC pv0) 26)=wk:=⟨_,rfl⟩;obtain ⟨G,HG⟩:∃ G,Hid (w.heap.size=G):=⟨_,rfl⟩;have hG:=HG.out;rw [hwk] at HXA HXB HBK HS HP;rw [hG] at HXA HXB;go_enter Tryz.func92,Tryz.ntmps92;go_wp2_with fail;clear hwk hG;refine (dots_any ao n cap L _ HS.out).mono ?_;rintro x w3 ⟨b3,⟨-,d,rfl,Sd,Nd,Cd⟩ | ⟨hno,-⟩⟩;rotate_left
 ·exact absurd HC.out hno
 obtain ⟨g5,hg5⟩:∃ g5,w3.heap.size=g5:=⟨_,rfl⟩;obtain ⟨w5,hst,X5,b5,s5⟩:=madeP w3 d g5 hg5;have b35:=b3.trans (b5.mono b3.size);have HX5:Hid (PBox w5 g5 d/\PSrc w5 d):=⟨X5,Sd.below b5⟩;have HA5:Hid (PBox w5 G p/\PSrc w5 p/\PBox w5 (G+1) pv0/\Below w.heap.size w w5/\G+1 < w5.heap.size):=⟨HXA.out.below b35,HP.out.below b35,HXB.out.below b35,HBK.out.trans (b35.mono HBK.out.size),Nat.lt_of_lt_of_le HXB.out.lt b35.size⟩;have HCd:=hide Cd;clear Sd Nd Cd X5 b3 b5 b35 s5 HXA HXB HP HS HBK
 have l1:=run_ldP HA5.out.1.at
 have l2:=run_ldP HX5.out.1.at
 go_wp2_with fail;clear hst hg5 l1 l2;refine (pastMinus_any p d _ HA5.out.2.1 HX5.out.2).mono ?_;rintro x w6 ⟨q,rfl,Sq,Nq,b6,Cq⟩;have X6:=HA5.out.2.2.1.below b6;have t6:=run_stP (p':=q) X6;have HX6:Hid (PBox (w6.setRow (G+1) (PC q)) (G+1) q):=setRow_heap _ _ _ _ _ _ X6
 have HE:Hid (GivesP w (w6.setRow (G+1) (PC q)) (.returned (PV q)) (RmOf L p.P)):=by
  refine ⟨q,rfl,psrc_keep (g:=some (G+1)) Sq (fun k e=>by obtain rfl:=Option.some.inj e;exact PFar.new Nq HA5.out.2.2.2.2) (fun r _ hr=>setRow_other _ _ _ _ (fun e=>hr (by rw [e]))),Nq.mono HA5.out.2.2.2.1.size,below_setRow (HA5.out.2.2.2.1.trans (b6.mono HA5.out.2.2.2.1.size)) (by have:=HG.out;omega),d.P,HCd.out,Cq⟩
 clear Sq Nq b6 Cq X6;go_wp2_with fail;refine bodyPost_ret (resP rfl rfl HX6.out) rfl ?_;exact HE.out
theorem inB_dots {L:List K.En} {P:Pst} (h:CanonOf (dotsG (L.map dotOf)) P) (e:K.En) (he:okD (dotOf e)=true):inB P e=L.any (fun y=>K.sameDot y e):=by
 have h3:=he;unfold okD dotOf at h3;simp only [Bool.and_eq_true,decide_eq_true_eq] at h3
 have h4:0 <= e.rep/\e.rep < 16:=by simpa [V.isR] using h3.1
 have key:inB P e=true↔L.any (fun y=>K.sameDot y e)=true:=by
  rw [inB_iff,List.any_eq_true];unfold dotIn;constructor
  ·rintro ⟨-,h2⟩;rw [canon_mem h _ (by show e.rep.toNat < 16;omega),dotsG_mem] at h2;obtain ⟨d,hd,-,k2,k3⟩:=h2;obtain ⟨x,hx,rfl⟩:=List.mem_map.1 hd;refine ⟨x,hx,?_⟩;unfold dotOf at k2 k3;simp only at k2 k3;simp only [K.sameDot,Bool.and_eq_true,beq_iff_eq];omega
  ·rintro ⟨x,hx,h2⟩;refine ⟨h3.1,?_⟩;simp only [K.sameDot,Bool.and_eq_true,beq_iff_eq] at h2
   have ed:dotOf x=dotOf e:=by unfold dotOf;rw [h2.1,h2.2]
   rw [canon_mem h _ (by show e.rep.toNat < 16;omega),dotsG_mem];exact ⟨dotOf x,List.mem_map.2 ⟨x,hx,rfl⟩,by rw [ed];exact he,by rw [ed];unfold dotOf;simp only;omega,by rw [ed];rfl⟩
 cases h1:inB P e <;> cases h2:L.any (fun y=>K.sameDot y e)
 ·rfl
 ·rw [h1,h2] at key;exact absurd (key.2 rfl) (by decide)
 ·rw [h1,h2] at key;exact absurd (key.1 rfl) (by decide)
 ·rfl
theorem rm_inB {L:List K.En} {P Q:Pst} (h:RmOf L P Q) (e:K.En) (he:okD (dotOf e)=true):inB Q e=(inB P e && !L.any (fun y=>K.sameDot y e)):=by
 obtain ⟨D,hD,C,hC,hQ⟩:=h;rw [<- inB_dots hD e he];have h3:=he;unfold okD dotOf at h3;simp only [Bool.and_eq_true,decide_eq_true_eq] at h3
 have h4:0 <= e.rep/\e.rep < 16:=by simpa [V.isR] using h3.1
 have hr:e.rep.toNat < 16:=by omega
 have key:inB Q e=true↔inB P e=true/\¬ inB D e=true:=by
  rw [inB_iff,inB_iff,inB_iff];unfold dotIn;simp only [h3.1,true_and];rw [canon_mem hQ _ hr,(hC _ hr).2]
 cases h1:inB Q e <;> cases h2:inB P e <;> cases h5:inB D e <;> simp_all
theorem join_inB {a b:Pv} {P:Pst} (h:CanonOf (runsOf [a,b]) P) (e:K.En) (he:okD (dotOf e)=true):inB P e=(inB a.P e || inB b.P e):=by
 have h3:=he;unfold okD dotOf at h3;simp only [Bool.and_eq_true,decide_eq_true_eq] at h3
 have h4:0 <= e.rep/\e.rep < 16:=by simpa [V.isR] using h3.1
 have hr:e.rep.toNat < 16:=by omega
 have key:inB P e=true↔inB a.P e=true∨inB b.P e=true:=by
  rw [inB_iff,inB_iff,inB_iff];unfold dotIn;simp only [h3.1,true_and];rw [canon_mem h _ hr,runsOf_mem];simp
 cases h1:inB P e <;> cases h2:inB a.P e <;> cases h5:inB b.P e <;> simp_all
def KeptM (A B:List K.En) (P O:Pst) (x:K.En):Prop:=(x∈A/\stayB B O x=true)∨(x∈B/\stayB A P x=true)
def OkM (A B:List K.En) (P O:Pst):Prop:=K.chk A=0/\K.chk B=0/\InForm P/\InForm O
def MgD (A B:List K.En) (P O:Pst) (Z:List K.En) (er:Int):Prop:=(¬ OkM A B P O/\Z=[]/\er=1)∨(OkM A B P O/\K.Clash (A++B)/\Z=[]/\er=10)∨(OkM A B P O/\¬ K.Clash (A++B)/\er=0/\K.Asc Z/\∀ x,x∈Z↔KeptM A B P O x)
theorem clash_swap {A B:List K.En} (h:K.Clash (A++B)):K.Clash (B++A):=by
 obtain ⟨x,hx,y,hy,h1,h2⟩:=h;exact ⟨x,List.mem_append.2 (List.mem_append.1 hx).symm,y,List.mem_append.2 (List.mem_append.1 hy).symm,h1,h2⟩
theorem any_self {A:List K.En} {x:K.En} (h:x∈A):A.any (fun y=>K.sameDot y x)=true:=by
 rw [List.any_eq_true];exact ⟨x,h,by simp [K.sameDot]⟩
theorem merge_mem {A B U:List K.En} {P O:Pst} {a b:Pv} {J:Pst} (hA:K.chk A=0) (hB:K.chk B=0) (hU:∀ x,x∈U↔x∈A++B) (ha:RmOf A P a.P) (hb:RmOf B O b.P) (hJ:CanonOf (runsOf [a,b]) J) (x:K.En):x∈U.filter (pkB J false)↔KeptM A B P O x:=by
 rw [List.mem_filter,hU x,List.mem_append];have hd:x∈A∨x∈B -> okD (dotOf x)=true:=fun h=>h.elim (fun h=>ce_dot (chk_ce hA x h)) (fun h=>ce_dot (chk_ce hB x h))
 have hpk:okD (dotOf x)=true -> (pkB J false x=true↔((inB P x && !A.any (fun y=>K.sameDot y x)) || (inB O x && !B.any (fun y=>K.sameDot y x)))=false):=fun h=>by
  unfold pkB;rw [join_inB hJ x h,rm_inB ha x h,rm_inB hb x h]
  cases inB P x <;> cases A.any (fun y=>K.sameDot y x) <;> cases inB O x <;> cases B.any (fun y=>K.sameDot y x) <;> decide
 unfold KeptM stayB;constructor
 ·rintro ⟨h1,h2⟩;rw [hpk (hd h1),Bool.or_eq_false_iff] at h2;rcases h1 with h1 | h1
  ·refine .inl ⟨h1,?_⟩;have h3:=h2.2
   cases hx:inB O x <;> cases hy:B.any (fun y=>K.sameDot y x) <;> simp_all
  ·refine .inr ⟨h1,?_⟩;have h3:=h2.1
   cases hx:inB P x <;> cases hy:A.any (fun y=>K.sameDot y x) <;> simp_all
 ·rintro (⟨h1,h2⟩ | ⟨h1,h2⟩)
  ·refine ⟨.inl h1,(hpk (hd (.inl h1))).2 ?_⟩;rw [any_self h1]
   cases hx:inB O x <;> cases hy:B.any (fun y=>K.sameDot y x) <;> simp_all
  ·refine ⟨.inr h1,(hpk (hd (.inr h1))).2 ?_⟩;rw [any_self h1]
   cases hx:inB P x <;> cases hy:A.any (fun y=>K.sameDot y x) <;> simp_all
theorem lit_prow (W:World) (a b:Pv) (ha:PSrc W a) (hb:PSrc W b):PRow (W.alloc (.cells #[.slice a.vo a.vn a.vc,.slice a.co a.cn a.cc,.slice b.vo b.vn b.vc,.slice b.co b.cn b.cc] 26)) (some ⟨W.heap.size,0,none⟩) 2 [a,b]:=by
 have b1:=below_new W (.cells #[.slice a.vo a.vn a.vc,.slice a.co a.cn a.cc,.slice b.vo b.vn b.vc,.slice b.co b.cn b.cc] 26);have h1:=heap_alloc_new W (.cells #[.slice a.vo a.vn a.vc,.slice a.co a.cn a.cc,.slice b.vo b.vn b.vc,.slice b.co b.cn b.cc] 26);refine ⟨rfl,fun e=>(by cases e),fun ad e t p hp=>?_,fun p hp=>?_⟩
 ·obtain rfl:(⟨W.heap.size,0,none⟩:Addr)=ad:=Option.some.inj e;rw [Addr.add_lit,Nat.zero_add]
  match t,hp with
  | 0,hp=>cases hp;refine ⟨?_,?_⟩ <;> (try rw [Addr.add_lit]) <;> simp only [World.cell?,h1] <;> rfl
  | 1,hp=>cases hp;refine ⟨?_,?_⟩ <;> (try rw [Addr.add_lit]) <;> simp only [World.cell?,h1] <;> rfl
  | t+2,hp=>simp at hp
 ·rcases List.mem_cons.1 hp with rfl | hp
  ·exact ha.below b1
  ·obtain rfl:=List.mem_singleton.1 hp;exact hb.below b1
def MgA (w w':World) (x:Ending) (A B:List K.En) (P O:Pst):Prop:=∃ a n c Z er,x = .returned (.tuple #[.slice a n c,.int .i64 er])/\K.ESrc w' a n c Z/\Below w.heap.size w w'/\MgD A B P O Z er
theorem merge_any (ao bo:Option Addr) (n cap m cap':Nat) (A B:List K.En) (p o:Pv) (w:World) (hA:K.ESrc w ao n cap A) (hB:K.ESrc w bo m cap' B) (hP:PSrc w p) (hO:PSrc w o) :
  Calls Tryz.prog 63 #[.slice ao n cap,PV p,.slice bo m cap',PV o] w fun x w'=>MgA w w' x A B p.P o.P:=by
 have b1:=below_new w (.cells (PC p) 26);have b2:=below_new (w.alloc (.cells (PC p) 26)) (.cells (PC o) 26);have HXA:=hide ((pbox_new w p).below b2);have X2:=pbox_new (w.alloc (.cells (PC p) 26)) o;rw [World.size_alloc] at X2;have HXB:=hide X2;have HBK:=hide (b1.trans (b2.mono b1.size));have HA:=hide (hA.below HBK.out);have HB:=hide (hB.below HBK.out);have HP:=hide (hP.below HBK.out);have HO:=hide (hO.below HBK.out);clear b1 b2 X2 hA hB hP hO;obtain ⟨wk,hwk⟩:∃ wk,(w.alloc (.cells (PC p) 26)).alloc (.cells (PC o) 26)=wk:=⟨_,rfl⟩;obtain ⟨G,hG⟩:∃ G,w.heap.size=G:=⟨_,rfl⟩;rw [hwk] at HXA HXB HBK HA HB HP HO;rw [hG] at HXA HXB
 have l1:=run_ldP HXA.out.at
 go_enter Tryz.func63,Tryz.ntmps63;go_wp2_with fail;clear hwk hG l1;refine (isNormP_any p _ HP.out).mono ?_;rintro x w2 ⟨b,rfl,hb,b2⟩
 cases b with
 | false =>
  have HE:Hid (MgA w w2 (.returned (.tuple #[.slice none 0 0,.int .i64 1])) A B p.P o.P):=⟨_,_,_,_,_,rfl,K.ESrc.none _,HBK.out.trans (b2.mono HBK.out.size),.inl ⟨fun h=>(by have:=hb.out.2 h.2.2.1;cases this),rfl,rfl⟩⟩;clear hb b2;go_wp2_with fail;go_ret2;exact HE.out
 | true =>
  have HF1:Hid (InForm p.P):=hb.out.1 rfl
  have l2:=run_ldP (HXB.out.below b2).at
  have HB2:=hide b2;clear hb b2;go_wp2_with fail;clear l2;refine (isNormP_any o _ (HO.out.below HB2.out)).mono ?_;rintro x w3 ⟨b,rfl,hb,b3⟩;have HB3:=wTr HB2 b3;clear b3 HB2
  cases b with
  | false =>
   have HE:Hid (MgA w w3 (.returned (.tuple #[.slice none 0 0,.int .i64 1])) A B p.P o.P):=⟨_,_,_,_,_,rfl,K.ESrc.none _,HBK.out.trans (HB3.out.mono HBK.out.size),.inl ⟨fun h=>(by have:=hb.out.2 h.2.2.2;cases this),rfl,rfl⟩⟩;clear hb;go_wp2_with fail;go_ret2;exact HE.out
  | true =>
   have HF2:Hid (InForm o.P):=hb.out.1 rfl;clear hb;go_wp2_with fail;refine (K.union_any ao bo n cap m cap' A B _ (HA.out.below HB3.out) (HB.out.below HB3.out)).mono ?_;rintro x w4 ⟨uo,un,uc,U,er,rfl,S4,b4,hU⟩;have HB4:=wTr HB3 b4;clear b4 HB3;rcases hU with ⟨hno,rfl,rfl⟩ | ⟨hok,⟨hcl,rfl,rfl⟩ | ⟨hcl,rfl,hAs,hm⟩⟩
   ·have HE:Hid (MgA w w4 (.returned (.tuple #[.slice none 0 0,.int .i64 1])) A B p.P o.P):=⟨_,_,_,_,_,rfl,K.ESrc.none _,HBK.out.trans (HB4.out.mono HBK.out.size),.inl ⟨fun h=>hno ⟨h.1,h.2.1⟩,rfl,rfl⟩⟩;clear hno S4;go_wp2_with fail;go_ret2;exact HE.out
   ·have HE:Hid (MgA w w4 (.returned (.tuple #[.slice none 0 0,.int .i64 10])) A B p.P o.P):=⟨_,_,_,_,_,rfl,K.ESrc.none _,HBK.out.trans (HB4.out.mono HBK.out.size),.inr (.inl ⟨⟨hok.1,hok.2,HF1.out,HF2.out⟩,hcl,rfl,rfl⟩)⟩;clear hok hcl S4;go_wp2_with fail;go_ret2;exact HE.out
   ·have HU:Hid (K.chk A=0/\K.chk B=0/\¬ K.Clash (A++B)/\K.Asc U/\∀ x,x∈U↔x∈A++B):=⟨hok.1,hok.2,hcl,hAs,hm⟩;have HS4:=hide S4;have HSt:Hid (∀ W,Below w4.heap.size w4 W -> (ldP (.pointer (some ⟨G,0,none⟩))).run Tryz.prog W = .ok (PV p) W/\(ldP (.pointer (some ⟨G+1,0,none⟩))).run Tryz.prog W = .ok (PV o) W):=fun W hW=>⟨run_ldP ((HXA.out.below HB4.out).below hW).at,run_ldP ((HXB.out.below HB4.out).below hW).at⟩;have HPJ:Hid (∀ W:World,∀ a b:Pv,PSrc W a -> PSrc W b -> PRow (W.alloc (.cells #[.slice a.vo a.vn a.vc,.slice a.co a.cn a.cc,.slice b.vo b.vn b.vc,.slice b.co b.cn b.cc] 26)) (some ⟨W.heap.size,0,none⟩) 2 [a,b]):=fun W a b ha hb=>lit_prow W a b ha hb;clear hok hcl hAs hm S4;go_upto_region 6 with fail;refine wp_region_held_drew (S:=fun W=>(ldP (.pointer (some ⟨G,0,none⟩))).run Tryz.prog W = .ok (PV p) W/\(ldP (.pointer (some ⟨G+1,0,none⟩))).run Tryz.prog W = .ok (PV o) W) (by kernel_rfl) (HSt.out _ (below_drew1 w4)) (fun hHeld=>?_)
    refine wU 0 ?_;refine wU 1 ?_;refine wU 2 ?_;refine wU 4 ?_;refine wU 5 ?_;refine wpAnyH_ready (rs:=[3]) (by kernel_rfl) (by simp) (.cons rfl (fun K hK=>?_) .nil);go_simp;go_wp2_with fail;refine (removed_any ao n cap A p _ (HA.out.below (HB4.out.trans ((below_drew1 w4).mono HB4.out.size))) HU.out.1 (HP.out.below (HB4.out.trans ((below_drew1 w4).mono HB4.out.size)))).mono ?_;rintro x w5 ⟨ra,rfl,Sa,-,b5,Ra⟩;have HB5:Hid (Below w4.heap.size w4 w5):=(below_drew1 w4).trans b5;have HRa:Hid (RmOf A p.P ra.P):=Ra;have HSa:=hide Sa;refine hK.out _ _ (HSt.out _ HB5.out) (fun hHeld=>?_);clear hK K;clear b5 Sa Ra;refine wpAnyH_ready (rs:=[6]) (by kernel_rfl) (by simp) (.cons rfl (fun K hK=>?_) .nil);go_simp;go_wp2_with fail;refine (removed_any bo m cap' B o _ (HB.out.below (HB4.out.trans (HB5.out.mono HB4.out.size))) HU.out.2.1 (HO.out.below (HB4.out.trans (HB5.out.mono HB4.out.size)))).mono ?_
    rintro x w6 ⟨rb,rfl,Sb,-,b6,Rb⟩;have HB6:Hid (Below w4.heap.size w4 w6):=HB5.out.trans (b6.mono HB5.out.size);have HRb:Hid (RmOf B o.P rb.P):=Rb;have HSb:Hid (PSrc w6 ra/\PSrc w6 rb):=⟨HSa.out.below b6,Sb⟩;refine hK.out _ _ (HSt.out _ HB6.out) (fun hHeld=>?_);clear hK K;clear b6 Sb Rb HSa;have b7:=below_new w6 (.cells #[.slice ra.vo ra.vn ra.vc,.slice ra.co ra.cn ra.cc,.slice rb.vo rb.vn rb.vc,.slice rb.co rb.cn rb.cc] 26);have HP7:=hide (HPJ.out w6 ra rb HSb.out.1 HSb.out.2);have HB7:=wTr HB6 b7;clear b7 HPJ;refine wpAnyH_ready (rs:=[7]) (by kernel_rfl) (by simp) (.cons rfl (fun K hK=>?_) .nil);go_simp;refine hK.out _ _ (HSt.out _ HB7.out) (fun hHeld=>?_);clear hK K
    have HWt:Hid (wt [ra,rb] <= 8796093022207):=by
     obtain ⟨-,-,C1,-,h1⟩:=HRa.out;obtain ⟨-,-,C2,-,h2⟩:=HRb.out;have k1:=(canon_len h1).1;have k2:=(canon_len h2).1
     show _ <= _
     simp only [wt];omega
    refine wpAnyH_ready (rs:=[8]) (by kernel_rfl) (by simp) (.cons rfl (fun K hK=>?_) .nil);go_simp;go_wp2_with fail;refine (pastJoin_any (some ⟨w6.heap.size,0,none⟩) 2 2 [ra,rb] _ HP7.out HWt.out (by decide)).mono ?_;rintro x w8 ⟨pj,rfl,Sj,-,b8,Cj⟩;have HB8:=wTr HB7 b8;have HSj:=hide Sj;have HCj:Hid (CanonOf (runsOf [ra,rb]) pj.P):=Cj;refine hK.out _ _ (HSt.out _ HB8.out) (fun hHeld=>?_);clear hK K;clear b8 Sj Cj HP7;refine wpAnyH_ready (rs:=[9]) (by kernel_rfl) (by simp) (.cons rfl (fun K hK=>?_) .nil);go_simp;go_wp2_with fail;refine (outside_any uo un uc U pj _ (HS4.out.below HB8.out) HSj.out).mono ?_;rintro x w9 (⟨-,-,a9,n9,c9,rfl,S9,b9,-⟩ | ⟨hno,-⟩);rotate_left
    ·refine absurd ⟨?_,canon_iff.1 HCj.out.canon⟩ hno;exact Go.Proofs.YtjeilkenjdnafaaGreat.K.chk_asc HU.out.2.2.2.1 (fun e he=>((List.mem_append.1 ((HU.out.2.2.2.2 e).1 he)).elim (chk_ce HU.out.1 e) (chk_ce HU.out.2.1 e)))
    have HB9:=wTr HB8 b9;have HE:Hid (MgA w w9 (.returned (.tuple #[.slice a9 n9 c9,.int .i64 0])) A B p.P o.P):=⟨a9,n9,c9,_,0,rfl,S9,HBK.out.trans ((HB4.out.trans (HB9.out.mono HB4.out.size)).mono HBK.out.size),.inr (.inr ⟨⟨HU.out.1,HU.out.2.1,HF1.out,HF2.out⟩,HU.out.2.2.1,rfl,HU.out.2.2.2.1.filter _,merge_mem HU.out.1 HU.out.2.1 HU.out.2.2.2.2 HRa.out HRb.out HCj.out⟩)⟩;refine hK.out _ _ (HSt.out _ HB9.out) (fun hHeld=>?_);clear hK K;clear S9 b9;refine wU 10 ?_;refine wU 11 ?_;refine wU 12 ?_;refine wU 13 ?_;refine wpAnyH_done (by kernel_rfl) ?_ _;clear hHeld;go_wp2_with fail;go_ret2;exact HE.out
end
end Go.Proofs.YtjeilkenjdnafaaGreat
