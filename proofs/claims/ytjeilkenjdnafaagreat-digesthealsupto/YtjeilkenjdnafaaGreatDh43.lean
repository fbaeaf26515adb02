/- YDk SXa PVw LView TVf SXt YDh -/
import Derived.Test.YtjeilkenjdnafaaGreatTk
import Derived.Test.YtjeilkenjdnafaaGreatDh41
import Derived.Test.YtjeilkenjdnafaaGreatDh21
import Derived.Test.YtjeilkenjdnafaaGreatDh38
import Derived.Test.YtjeilkenjdnafaaGreatDh27
import Derived.Test.YtjeilkenjdnafaaGreatDh00
import Derived.ProofKit
import Derived.OpenShut
import Derived.Lib.SmallJoins
import Derived.HandedShaped
import Derived.SizedLaws
import Derived.ChangeMaps5
import Derived.JoinedCond
import Derived.Test.YtjeilkenjdnafaaGreatDh15
import Derived.Test.YtjeilkenjdnafaaGreatDh42
import Derived.Test.YtjeilkenjdnafaaGreatDh39
set_option maxRecDepth 100000
set_option maxHeartbeats 3200000
namespace Go.Proofs.YtjeilkenjdnafaaGreat
section
open Go.RowKit
def dk1:K.En:=⟨0,1,⟨#[65]⟩,5⟩
def dk2:K.En:=⟨0,2,⟨#[65]⟩,6⟩
def dkP:Pst:=⟨[1,1],[]⟩
def dkH:Pst:=⟨[2,1],[]⟩
def dkL:Pst:=⟨[],[⟨0,2,2⟩]⟩
def dkC:Array Value:=#[.int .i64 0,.int .i64 1,.string ⟨#[65]⟩,.int .i64 5,.int .i64 0,.int .i64 2,.string ⟨#[65]⟩,.int .i64 6]
def bsE2 (a:Array (Nat × Value)):Sem Value:=Instr.buildSlice 22 2 a
theorem bsE2_eq (a:Array (Nat × Value)):Instr.buildSlice 22 2 a=bsE2 a:=rfl
theorem run_bsE2 (w:World):(bsE2 #[(0,.agg #[.int .i64 0,.int .i64 1,.string ⟨#[65]⟩,.int .i64 5]),(1,.agg #[.int .i64 0,.int .i64 2,.string ⟨#[65]⟩,.int .i64 6])]).run Tryz.prog w = .ok (.slice (some ⟨w.heap.size,0,none⟩) 2 2) (w.alloc (.cells dkC 57)):=by kernel_rfl
theorem run_bldF01 (a v:Option Addr) (n c m d:Nat) (w:World):(bldF #[(0,.slice a n c),(1,.agg #[.slice v m d,.slice none 0 0])]).run Tryz.prog w = .ok (.agg #[.slice a n c,.slice v m d,.slice none 0 0,.slice none 0 0]) w:=by kernel_rfl
theorem dkC_src (w:World) (g:Nat) (hg:w.heap.size=g):K.ESrc (w.alloc (.cells dkC 57)) (some ⟨g,0,none⟩) 2 2 [dk1,dk2]:=by
 subst hg;refine ⟨rfl,(fun h=>by cases h),fun ad h t ht=>?_,?_,(show (2:Nat) <= 3518437208883 by decide)⟩
 ·obtain rfl:=Option.some.inj h;have h1:=heap_alloc_new w (.cells dkC 57);have ht2:t < 2:=ht;generalize w.alloc (.cells dkC 57)=W at h1 ⊢;generalize w.heap.size=g at h1 ⊢;clear h ht
  obtain rfl | rfl:t=0∨t=1:=by omega
  ·refine ⟨?_,?_,?_,?_⟩ <;> simp [Addr.add,World.cell?,h1,dkC,dk1]
  ·refine ⟨?_,?_,?_,?_⟩ <;> simp [Addr.add,World.cell?,h1,dkC,dk2]
 ·intro e he;rcases List.mem_cons.1 he with rfl | he
  ·exact (show (1:Nat) <= maxLen by decide)
  ·obtain rfl:=List.mem_singleton.1 he;exact (show (1:Nat) <= maxLen by decide)
theorem madeFx (w:World) (m:Fc) (g:Nat) (hg:w.heap.size=g):∃ w':World,(stFa (.pointer (some ⟨g,0,none⟩)) (.agg (FaC (mkF m)))).run Tryz.prog (w.alloc (.cells (FaC (mkF fz0)) 29)) = .ok () w'/\FaBox w' g (mkF m)/\Below w.heap.size w w'/\w'.heap.size=w.heap.size+1:=by
 subst hg;exact ⟨_,run_stFa (FaBox_new w _),(FaBox_new w _).setRow,below_setRow (below_new w _) (Nat.le_refl _),by simp [World.setRow]⟩
theorem madeDx14 (w:World) (m:Dg) (g:Nat) (hg:w.heap.size=g):∃ w':World,(stDi (.pointer (some ⟨g,0,none⟩)) (.agg (DiC (mkD m)))).run Tryz.prog (w.alloc (.cells (FaC (mkF fz0)) 33)) = .ok () w'/\DiBox w' g (mkD m)/\Below w.heap.size w w'/\w'.heap.size=w.heap.size+1:=by
 subst hg;have A:DiBox (w.alloc (.cells (FaC (mkF fz0)) 33)) w.heap.size (mkD dz0):=DiBox_new w (mkD dz0);exact ⟨_,run_stDi A,A.setRow,below_setRow (below_new w _) (Nat.le_refl _),by simp [World.setRow]⟩
theorem dk_heard {f:Fc} (h1:f.es=[dk1,dk2]) (h2:f.p.P=dkP):HeardOf f dkH:=⟨⟨by decide,trivial⟩,fun r hr n=>by
 rw [h1,h2]
 match r,hr with
 | 0,_ =>
  show mem [⟨1,2⟩] n↔mem [⟨1,1⟩,⟨2,2⟩] n∨mem [⟨1,1⟩] n
  unfold mem;simp;omega
 | 1,_ =>
  show mem [⟨1,1⟩] n↔mem [] n∨mem [⟨1,1⟩] n
  simp [mem]
 | 2,_ | 3,_ | 4,_ | 5,_ | 6,_ | 7,_ | 8,_ | 9,_ | 10,_ | 11,_ | 12,_ | 13,_ | 14,_ | 15,_ =>
  show mem [] n↔mem [] n∨mem [] n
  simp
 | n+16,h=>exact absurd h (by omega)⟩
theorem dk_lform:InForm dkL:=⟨by decide,⟨⟨by decide,by decide,by decide,by decide,by decide,by decide⟩,trivial⟩⟩
theorem dk_lruns:∀ r,r < 16 -> runsAt dkL r=dotsG ([dk2].map dotOf) r:=fun r hr=>match r,hr with
 | 0,_=>rfl | 1,_=>rfl | 2,_=>rfl | 3,_=>rfl | 4,_=>rfl | 5,_=>rfl | 6,_=>rfl | 7,_=>rfl | 8,_=>rfl | 9,_=>rfl | 10,_=>rfl | 11,_=>rfl | 12,_=>rfl | 13,_=>rfl | 14,_=>rfl | 15,_=>rfl
 | n+16,h=>absurd h (by omega)
theorem dk_live {f:Fc} (h1:f.es=[dk1,dk2]) (h2:f.p.P=dkP) (h3:f.rs=[]):CanonOf (dotsG ((liveF f).map dotOf)) dkL:=by
 have e:liveF f=[dk2]:=by
  unfold liveF;rw [h1,h2,h3,List.filter_cons_of_neg (by decide +kernel),List.filter_cons_of_pos (by decide +kernel)];rfl
 rw [e];obtain ⟨N,hN,hp⟩:=(canon_iff.2 dk_lform:CanonOf (runsAt dkL) dkL);exact ⟨N,fun r hr=>by rw [<- dk_lruns r hr];exact hN r hr,hp⟩
theorem dk_form {f:Fc} (h1:f.es=[dk1,dk2]) (h2:f.p.P=dkP) (h3:f.rs=[]) (h4:f.an=2) (h5:f.rn=0):FormF f:=
 ⟨by rw [h1,h4];decide +kernel,by rw [h2];exact ⟨by decide,trivial⟩,by rw [h3,h5];intro j hj;omega⟩
attribute [local go_sem ↓] ldP_eq stP_eq ldFa_eq stFa_eq ldDi_eq stDi_eq bldF_eq bsE2_eq bldE_eq bldP_eq bldD_eq
attribute [local go_sem] cells_PV PC_size cells_FaV FaC_size zero_FaZ cells_DiV DiC_size run_bldF01 run_bsE2 run_bldE run_bldD run_bldP1
theorem known14_any (w:World):Calls Tryz.prog 9 #[] w fun e w'=>e = .returned (.bool true)/\Below w.heap.size w w':=by
 obtain ⟨g4,hg4⟩:∃ g,w.heap.size=g:=⟨_,rfl⟩;have lb:=run_bsE2 w;have S4:=dkC_src w g4 hg4;have b4:=below_new w (.cells dkC 57)
 have z4:(w.alloc (.cells dkC 57)).heap.size=g4+1:=by simp [hg4]
 obtain ⟨w4,hw4⟩:∃ w4,w.alloc (.cells dkC 57)=w4:=⟨_,rfl⟩;rw [hw4] at lb S4 b4 z4;rw [hg4] at lb;have V5:=vsrc_lit w4 3 #[.int .i64 1,.int .i64 1] [1,1] rfl (g4+1) 2 z4 rfl;have b5:=below_new w4 (.cells #[.int .i64 1,.int .i64 1] 3)
 have z5:(w4.alloc (.cells #[.int .i64 1,.int .i64 1] 3)).heap.size=g4+2:=by simp [z4]
 obtain ⟨w5,hw5⟩:∃ w5,w4.alloc (.cells #[.int .i64 1,.int .i64 1] 3)=w5:=⟨_,rfl⟩;rw [hw5] at V5 b5 z5;have F5:FcOk w5 ⟨some ⟨g4,0,none⟩,2,2,[dk1,dk2],⟨some ⟨g4+1,0,none⟩,2,2,none,0,0,dkP⟩,none,0,0,[]⟩:=⟨S4.below b5,⟨V5,SSrc.empty _,(show (2:Nat) <= 17592186044415 by decide)⟩,RcS.empty _⟩;obtain ⟨w6,hst,X6,B6,-⟩:=madeFx w5 ⟨some ⟨g4,0,none⟩,2,2,[dk1,dk2],⟨some ⟨g4+1,0,none⟩,2,2,none,0,0,dkP⟩,none,0,0,[]⟩ (g4+2) z5;obtain ⟨f,hf,h1,h2,h3,h4,h5,h6⟩:∃ f:Fc,f=⟨some ⟨g4,0,none⟩,2,2,[dk1,dk2],⟨some ⟨g4+1,0,none⟩,2,2,none,0,0,dkP⟩,none,0,0,[]⟩/\f.es=[dk1,dk2]/\f.p.P=dkP/\f.rs=[]/\f.an=2/\f.rn=0/\f.rc=0:=⟨_,rfl,rfl,rfl,rfl,rfl,rfl,rfl⟩;have hst2:(stFa (.pointer (some ⟨g4+2,0,none⟩)) (.agg #[.slice (some ⟨g4,0,none⟩) 2 2,.slice (some ⟨g4+1,0,none⟩) 2 2,.slice none 0 0,.slice none 0 0])).run Tryz.prog (w5.alloc (.cells (FaC (mkF fz0)) 29)) = .ok () w6:=hst
 have lf:(ldFa (.pointer (some ⟨g4+2,0,none⟩))).run Tryz.prog w6 = .ok (FaV (mkF f)) w6:=by rw [hf];exact run_ldFa X6
 have HB6:=hide ((b4.trans (b5.mono b4.size)).trans (B6.mono (Nat.le_trans b4.size b5.size)));have HU:Hid (SwB 1 w6 f):=⟨by rw [hf];exact F5.below B6,⟨by omega,fun _=>h6⟩,by omega,by omega,by rw [h3];intro r hr;cases hr⟩;have HP:Hid (FormF f/\HeardOf f dkH/\CanonOf (dotsG ((liveF f).map dotOf)) dkL):=⟨dk_form h1 h2 h3 h4 h5,dk_heard h1 h2,dk_live h1 h2 h3⟩;clear S4 b4 V5 b5 F5 X6 B6 hst hf h1 h2 h3 h4 h5 h6;go_enter Tryz.func9,Tryz.ntmps9;go_wp2_with fail;clear lb hw4 hw5 z4 z5 hst2 lf hg4;refine (ofFacts_any f _ (HU.out.u (by decide))).mono ?_;rintro e v7 ⟨d,er,rfl,Sd,b7,hd⟩
 obtain ⟨rfl,hD⟩:er=0/\DoF f d:=by
  rcases hd with ⟨h,-⟩ | ⟨-,h,k⟩
  ·exact absurd HP.out.1 h
  ·exact ⟨h,k⟩
 have eh:d.h.P=dkH:=hD.1.one HP.out.2.1;have el:d.l.P=dkL:=hD.2.unique HP.out.2.2 fun _ _ _=>Iff.rfl;obtain ⟨g8,hg8⟩:∃ g,v7.heap.size=g:=⟨_,rfl⟩;obtain ⟨w8,hst,X8,B8,-⟩:=madeDx14 v7 d g8 hg8;have HE:=hide (HB6.out.trans ((b7.trans (B8.mono b7.size)).mono HB6.out.size));have Sd8:=Sd.below B8
 have hvn:d.h.vn=2:=by rw [<- Sd8.1.vec.1,eh];rfl
 have hcn:d.l.cn=1:=by rw [<- Sd8.2.cloud.len,el];rfl
 obtain ⟨av,hav⟩:∃ a,d.h.vo=some a:=by
  cases h:d.h.vo with
  | none=>have:=Sd8.1.vec.2.1 h;omega
  | some a=>exact ⟨a,rfl⟩
 have hv0:=Sd8.1.vec.2.2 av hav 0 (by omega)
 obtain ⟨b1,o1,rfl⟩:∃ b1 o1,av=⟨b1,o1,none⟩:=by
  have h1:=World.cell?_spot hv0;obtain ⟨b,o,sp⟩:=av;obtain rfl:sp=none:=h1;exact ⟨b,o,rfl⟩
 obtain ⟨ac,hac,hc0⟩:=Sd8.2.cloud.at 0 (by omega)
 obtain ⟨b2,o2,rfl⟩:∃ b2 o2,ac=⟨b2,o2,none⟩:=by
  have h:=Sd8.2.cloud;rw [hac] at h;exact h.spot (by omega)
 have hl0:=hc0.c1;rw [el] at hl0
 have hl:w8.cell? ⟨b2,o2+1,none⟩=some (.int .i64 2):=by
  rw [Addr.add_lit,Addr.add_lit] at hl0;have h2:w8.cell? ⟨b2,o2+0 * 3+1,none⟩=some (.int .i64 2):=hl0;simpa using h2
 rw [eh] at hv0;have c0:=X8.c0;have c3:w8.cell? ⟨g8,2+1,none⟩=some (.slice d.l.co d.l.cn d.l.cc):=X8.c3
 have c0':w8.cell? ⟨g8,0,none⟩=some (.slice (some ⟨b1,o1,none⟩) 2 d.h.vc):=by rw [<- hav,<- hvn];exact c0
 rw [hac,hcn] at c3
 have hv:w8.cell? ⟨b1,o1,none⟩=some (.int .i64 2):=by
  have h2:w8.cell? ⟨b1,o1+0,none⟩=some (.int .i64 2):=hv0;simpa using h2
 clear hvn hcn hav hac hv0 hc0 hl0 Sd b7 hd hD eh el X8 B8 Sd8 c0;go_wp2_with fail;go_ret;exact ⟨rfl,HE.out⟩
end
section
open Go.RowKit
def sx1:K.En:=⟨0,1,⟨#[65]⟩,5⟩
def sxP:Pst:=⟨[1],[]⟩
def A1D (s:Fc):Prop:=s.es=[sx1]/\s.an=1/\s.p.P=sxP/\s.rs=[]/\s.rn=0/\s.rc=0
def sxC:Array Value:=#[.int .i64 0,.int .i64 1,.string ⟨#[65]⟩,.int .i64 5]
def bsX1 (a:Array (Nat × Value)):Sem Value:=Instr.buildSlice 22 1 a
theorem bsX1_eq (a:Array (Nat × Value)):Instr.buildSlice 22 1 a=bsX1 a:=rfl
theorem run_bsX1 (w:World):(bsX1 #[(0,.agg #[.int .i64 0,.int .i64 1,.string ⟨#[65]⟩,.int .i64 5])]).run Tryz.prog w = .ok (.slice (some ⟨w.heap.size,0,none⟩) 1 1) (w.alloc (.cells sxC 57)):=by kernel_rfl
theorem run_bldS01 (a v:Option Addr) (n c m d:Nat) (w:World):(bldS #[(0,.slice a n c),(1,.agg #[.slice v m d,.slice none 0 0])]).run Tryz.prog w = .ok (.agg #[.slice a n c,.slice v m d,.slice none 0 0,.slice none 0 0]) w:=by kernel_rfl
theorem madeSx (w:World) (m:Fc) (g:Nat) (hg:w.heap.size=g):∃ w':World,(stSw (.pointer (some ⟨g,0,none⟩)) (.agg (FaC (mkF m)))).run Tryz.prog (w.alloc (.cells (FaC (mkF fz0)) 31)) = .ok () w'/\SwBox w' g (mkF m)/\Below w.heap.size w w'/\w'.heap.size=w.heap.size+1:=by
 subst hg;exact ⟨_,run_stSw (SwBox_new w _),(SwBox_new w _).setRow,below_setRow (below_new w _) (Nat.le_refl _),by simp [World.setRow]⟩
attribute [local go_sem ↓] ldP_eq stP_eq ldSw_eq stSw_eq bldS_eq bsX1_eq bldE_eq bldP_eq bldD_eq
attribute [local go_sem] cells_PV PC_size cells_FaV FaC_size zero_FaZ run_bldS01 run_bsX1 run_bldE run_bldD run_bldP1
end
section
open Go.ChangeShapes Go.WideShapes Go.ChangeAt Go.RowKit Go.Joins

theorem own:ownKnob Tryz.prog.godebug=none:=by kernel_rfl
theorem laidOut:laidOutB Tryz.prog=true:=by kernel_rfl
theorem cellsS:Tryz.prog.cellsOf 65=3:=by kernel_rfl
theorem cellsI:Tryz.prog.cellsOf 3=1:=by kernel_rfl
theorem cellsP:Tryz.prog.cellsOf 26=2:=by kernel_rfl
theorem cellsV:Tryz.prog.cellsOf 23=1:=by kernel_rfl
theorem cellsC:Tryz.prog.cellsOf 24=1:=by kernel_rfl
theorem bulk_pos {H:Type} (d:DataW H):1 <= Rows.uptoBulk d:=by
 cases d with
 | lit l=>cases l <;> simp only [Rows.uptoBulk] <;> omega
 | _=>simp only [Rows.uptoBulk] <;> omega
theorem bulk_len {H:Type}:∀ (l:List (DataW H)),l.length <= Rows.uptoBulkAll l
 | []=>by simp
 | d :: l=>by have:=bulk_len l;have:=bulk_pos d;simp only [Rows.uptoBulkAll,List.length_cons];omega
theorem list2 {α : Type} {l:List α} (h:l.length=2):∃ a b,l=[a,b]:=by
 match l,h with
 | [a,b],_=>exact ⟨a,b,rfl⟩
theorem list3 {α : Type} {l:List α} (h:l.length=3):∃ a b c,l=[a,b,c]:=by
 match l,h with
 | [a,b,c],_=>exact ⟨a,b,c,rfl⟩
theorem open_span {H:Type} {enc:TypeId × Value -> H} {w:World} {base:Nat} {spare:Nat -> Bool} {held:Bool} {fuel:Nat} {cs:List Value} {x:DataW H × List MemPlace}
  (h:DataW.trod enc Tryz.prog w base spare held fuel 65 cs=some x):∃ e:Sn,cs=(SC e).toList:=by
 obtain ⟨xs,m,_,hx,hcl,hxl,hf⟩:=DataW.trod_struct Tryz.underlying65 h;obtain ⟨v0,v1,v2,rfl⟩:=list3 (hcl.trans cellsS);obtain ⟨y0,y1,y2,rfl⟩:=list3 hxl;have t0:=hf 0 _ rfl;have t1:=hf 1 _ rfl;have t2:=hf 2 _ rfl;simp [cellsI] at t0 t1 t2;obtain ⟨r,e0,-,_⟩:=DataW.trod_int Tryz.underlying3 t0;obtain ⟨n,e1,-,_⟩:=DataW.trod_int Tryz.underlying3 t1;obtain ⟨m',e2,-,_⟩:=DataW.trod_int Tryz.underlying3 t2;simp only [List.cons.injEq,and_true] at e0 e1 e2;subst e0 e1 e2;exact ⟨⟨r,n,m'⟩,rfl⟩
theorem viewI {H:Type} {enc:TypeId × Value -> H} {W:World} {fuel:Nat} {v:Value} {x:DataW H × List MemPlace}
  (h:DataW.trod enc Tryz.prog W 0 (fun _=>true) true fuel 23 [v]=some x) (hw:Rows.uptoBulk x.1 <= 1048576):∃ (ao:Option Addr) (n cap:Nat) (Z:List Int),v = .slice ao n cap/\V.Src W ao n cap Z/\n <= 1048576:=by
 rcases DataW.trod_slice Tryz.underlying23 h with h0 | ⟨a,len,cap,elems,rest,n,_,hcs,hx,hb,hl,hm,hlen,hel,hsp,hns⟩
 ·have e:v = .slice none 0 0:=by simpa using h0.1
  exact ⟨none,0,0,[],e,⟨rfl,fun _=>⟨rfl,rfl⟩,fun ad h=>(by cases h)⟩,Nat.zero_le _⟩
 ·subst hx
  have e:v = .slice (some a) len cap:=by simpa using hcs
  simp only [Rows.uptoBulk] at hw;have h1:=bulk_len (elems.map (·.1));simp only [List.length_map] at h1
  have key:∀ i,i < len -> ∃ z:Int,W.cell? (a.add i)=some (.int .i64 z):=by
   intro i hi;have he:=hel i hi;obtain ⟨y,hy⟩:∃ y,elems[i]? = some y:=⟨_,List.getElem?_eq_getElem (by omega)⟩;rw [hy,cellsI,Option.bind_eq_some_iff] at he;obtain ⟨cs',hcs,hy'⟩:=he;obtain ⟨hl',-,hce⟩:=World.cells?_some hcs;obtain ⟨z,rfl,-,_⟩:=DataW.trod_int Tryz.underlying3 hy';have g0:=hce 0 (by omega);rw [add_zero,Nat.mul_one] at g0;exact ⟨z,g0⟩
  refine ⟨some a,len,cap,(List.range len).map fun i=>if h:i < len then Classical.choose (key i h) else 0,e,⟨by simp,fun h=>(by cases h),fun ad h t ht=>?_⟩,by omega⟩;obtain rfl:=Option.some.inj h
  have:((List.range len).map fun i=>if h:i < len then Classical.choose (key i h) else 0).getD t 0=Classical.choose (key t ht):=by simp [List.getD,ht]
  rw [this];exact Classical.choose_spec (key t ht)
theorem viewC {H:Type} {enc:TypeId × Value -> H} {W:World} {fuel:Nat} {v:Value} {x:DataW H × List MemPlace}
  (h:DataW.trod enc Tryz.prog W 0 (fun _=>true) true fuel 24 [v]=some x) (hw:Rows.uptoBulk x.1 <= 1048576):∃ (ao:Option Addr) (n cap:Nat) (L:List Sn),v = .slice ao n cap/\SSrc W ao n cap L/\n <= 1048576:=by
 rcases DataW.trod_slice Tryz.underlying24 h with h0 | ⟨a,len,cap,elems,rest,n,_,hcs,hx,hb,hl,hm,hlen,hel,hsp,hns⟩
 ·have e:v = .slice none 0 0:=by simpa using h0.1
  exact ⟨none,0,0,[],e,SSrc.empty _,Nat.zero_le _⟩
 ·subst hx
  have e:v = .slice (some a) len cap:=by simpa using hcs
  simp only [Rows.uptoBulk] at hw;have h1:=bulk_len (elems.map (·.1));simp only [List.length_map] at h1
  have key:∀ i,i < len -> ∃ e:Sn,SnAt W (a.add (i * 3)) e:=by
   intro i hi;have he:=hel i hi;obtain ⟨y,hy⟩:∃ y,elems[i]? = some y:=⟨_,List.getElem?_eq_getElem (by omega)⟩;rw [hy,cellsS,Option.bind_eq_some_iff] at he;obtain ⟨cs',hcs,hy'⟩:=he;obtain ⟨_,-,hce⟩:=World.cells?_some hcs;obtain ⟨e,rfl⟩:=open_span hy';have g0:=hce 0 (by omega);rw [add_zero] at g0;exact ⟨e,⟨g0,hce 1 (by omega),hce 2 (by omega)⟩⟩
  refine ⟨some a,len,cap,(List.range len).map fun i=>if h:i < len then Classical.choose (key i h) else sn0,e,⟨by simp,fun h=>(by cases h),fun ad h t ht=>?_,by omega,hl⟩,by omega⟩;obtain rfl:=Option.some.inj h
  have:((List.range len).map fun i=>if h:i < len then Classical.choose (key i h) else sn0).getD t sn0=Classical.choose (key t ht):=by simp [List.getD,ht]
  rw [this];exact Classical.choose_spec (key t ht)
theorem viewP {H:Type} {enc:TypeId × Value -> H} {W:World} {fuel:Nat} {cs:List Value} {x:DataW H × List MemPlace}
  (h:DataW.trod enc Tryz.prog W 0 (fun _=>true) true fuel 26 cs=some x) (hw:Rows.uptoBulk x.1 <= 1048576):∃ p:Pv,cs=[.slice p.vo p.vn p.vc,.slice p.co p.cn p.cc]/\PSrc W p/\p.P.cloud.length <= 1048576:=by
 obtain ⟨xs,m,_,hx,hcl,hxl,hf⟩:=DataW.trod_struct Tryz.underlying26 h;obtain ⟨v0,v1,rfl⟩:=list2 (hcl.trans cellsP);obtain ⟨y0,y1,rfl⟩:=list2 hxl;have t0:=hf 0 _ rfl;have t1:=hf 1 _ rfl;simp [cellsV,cellsC] at t0 t1;subst hx;simp only [Rows.uptoBulk,List.map_cons,List.map_nil,Rows.uptoBulkAll] at hw;obtain ⟨a0,l0,c0,Z,rfl,S0,g0⟩:=viewI t0 (by omega);obtain ⟨a1,l1,c1,L,rfl,S1,g1⟩:=viewC t1 (by omega);exact ⟨⟨a0,l0,c0,a1,l1,c1,⟨Z,L⟩⟩,rfl,⟨S0,S1,by show l0 <= _;omega⟩,by show L.length <= _;rw [S1.len];exact g1⟩
end
end Go.Proofs.YtjeilkenjdnafaaGreat
namespace Go.Proofs.YtjeilkenjdnafaaGreat.K
open Go.ChangeShapes Go.WideShapes Go.ChangeAt Go.RowKit Go.Joins

theorem own:ownKnob Tryz.prog.godebug=none:=by kernel_rfl
theorem cells28:Tryz.prog.cellsOf 57=4:=by kernel_rfl
theorem cells26:Tryz.prog.cellsOf 55=2:=by kernel_rfl
theorem cells3:Tryz.prog.cellsOf 3=1:=by kernel_rfl
theorem cells9:Tryz.prog.cellsOf 9=1:=by kernel_rfl
theorem list2 {α : Type} {l:List α} (h:l.length=2):∃ a b,l=[a,b]:=by
 match l,h with
 | [a,b],_=>exact ⟨a,b,rfl⟩
theorem list3 {α : Type} {l:List α} (h:l.length=3):∃ a b c,l=[a,b,c]:=by
 match l,h with
 | [a,b,c],_=>exact ⟨a,b,c,rfl⟩
theorem list4 {α : Type} {l:List α} (h:l.length=4):∃ a b c d,l=[a,b,c,d]:=by
 match l,h with
 | [a,b,c,d],_=>exact ⟨a,b,c,d,rfl⟩
theorem open_entry {H:Type} {enc:TypeId × Value -> H} {w:World} {base:Nat} {spare:Nat -> Bool} {held:Bool} {fuel:Nat} {cs:List Value} {x:DataW H × List MemPlace}
  (h:DataW.trod enc Tryz.prog w base spare held fuel 57 cs=some x):∃ e:En,cs=(EC e).toList/\e.sku.size <= maxLen:=by
 obtain ⟨xs,m,_,hx,hcl,hxl,hf⟩:=DataW.trod_struct Tryz.underlying57 h;obtain ⟨v0,v1,v2,v3,rfl⟩:=list4 (hcl.trans cells28);obtain ⟨y0,y1,y2,rfl⟩:=list3 hxl;have t0:=hf 0 _ rfl;have t1:=hf 1 _ rfl;have t2:=hf 2 _ rfl;simp [cells3,cells9,cells26] at t0 t1 t2;obtain ⟨xs',m',_,hx',hcl',hxl',hf'⟩:=DataW.trod_struct Tryz.underlying55 t0;obtain ⟨z0,z1,rfl⟩:=list2 hxl';have s0:=hf' 0 _ rfl;have s1:=hf' 1 _ rfl;simp [cells3] at s0 s1;obtain ⟨r,e0,-,_⟩:=DataW.trod_int Tryz.underlying3 s0;obtain ⟨n,e1,-,_⟩:=DataW.trod_int Tryz.underlying3 s1;obtain ⟨s,e2,-,w2⟩:=DataW.trod_string Tryz.underlying9 t1;obtain ⟨q,e3,-,_⟩:=DataW.trod_int Tryz.underlying3 t2;simp only [List.cons.injEq,and_true] at e0 e1 e2 e3;subst e0 e1 e2 e3;exact ⟨⟨r,n,s,q⟩,rfl,w2⟩
end Go.Proofs.YtjeilkenjdnafaaGreat.K
namespace Go.Proofs.YtjeilkenjdnafaaGreat
section
open Go.ChangeShapes Go.WideShapes Go.ChangeAt Go.RowKit Go.Joins

def RSmT (L:List Rc):Prop:=L.length <= 209715/\∀ r∈L,r.p.P.cloud.length <= 1048576
structure FcU (w:World) (f:Fc):Prop where
 ok:FcOk w f
 row:FcR f
 sm:RSmT f.rs
 an:f.an <= 1048576
theorem FcU.rn {w:World} {f:Fc} (h:FcU w f):f.rn <= 209715:=by rw [<- h.ok.rs.len];exact h.sm.1
theorem cellsRe:Tryz.prog.cellsOf 83=3:=by kernel_rfl
theorem cellsSk:Tryz.prog.cellsOf 9=1:=by kernel_rfl
theorem cellsEs:Tryz.prog.cellsOf 22=1:=by kernel_rfl
theorem cellsRs:Tryz.prog.cellsOf 27=1:=by kernel_rfl
theorem bulk_at {H:Type}:∀ (l:List (DataW H)) (d:DataW H),d∈l -> Rows.uptoBulk d <= Rows.uptoBulkAll l
 | e :: l,d,h=>by
  simp only [Rows.uptoBulkAll];rcases List.mem_cons.1 h with rfl | h
  ·omega
  ·have:=bulk_at l d h;omega
theorem bulk_five {H:Type}:∀ (l:List (DataW H)),(∀ d∈l,5 <= Rows.uptoBulk d) -> 5 * l.length <= Rows.uptoBulkAll l
 | [],_=>by simp
 | d :: l,h=>by
  have h1:=bulk_five l (fun e he=>h e (List.mem_cons_of_mem _ he));have h2:=h d List.mem_cons_self;simp only [Rows.uptoBulkAll,List.length_cons];omega
theorem viewEu {H:Type} {enc:TypeId × Value -> H} {W:World} {fuel:Nat} {v:Value} {x:DataW H × List MemPlace}
  (h:DataW.trod enc Tryz.prog W 0 (fun _=>true) true fuel 22 [v]=some x) (hw:Rows.uptoBulk x.1 <= 1048576):∃ (ao:Option Addr) (n cap:Nat) (L:List K.En),v = .slice ao n cap/\K.ESrc W ao n cap L/\n <= 1048576:=by
 rcases DataW.trod_slice Tryz.underlying22 h with h0 | ⟨a,len,cap,elems,rest,n,_,hcs,hx,hb,hl,hm,hlen,hel,hsp,hns⟩
 ·have e:v = .slice none 0 0:=by simpa using h0.1
  exact ⟨none,0,0,[],e,⟨rfl,fun _=>⟨rfl,rfl⟩,fun ad h=>(by cases h),fun e he=>(by cases he),Nat.zero_le _⟩,Nat.zero_le _⟩
 ·subst hx
  have e:v = .slice (some a) len cap:=by simpa using hcs
  simp only [Rows.uptoBulk] at hw;have h1:=bulk_len (elems.map (·.1));simp only [List.length_map] at h1
  have key:∀ i,i < len -> ∃ e:K.En,K.EnAt W (a.add (i * 4)) e/\e.sku.size <= maxLen:=by
   intro i hi;have he:=hel i hi;obtain ⟨y,hy⟩:∃ y,elems[i]? = some y:=⟨_,List.getElem?_eq_getElem (by omega)⟩;rw [hy,K.cells28,Option.bind_eq_some_iff] at he;obtain ⟨cs',hcs,hy'⟩:=he;obtain ⟨_,-,hce⟩:=World.cells?_some hcs;obtain ⟨e,rfl,hs⟩:=K.open_entry hy';have g0:=hce 0 (by omega);rw [add_zero] at g0;exact ⟨e,⟨g0,hce 1 (by omega),hce 2 (by omega),hce 3 (by omega)⟩,hs⟩
  refine ⟨some a,len,cap,(List.range len).map fun i=>if h:i < len then Classical.choose (key i h) else K.en0,e,⟨by simp,fun h=>(by cases h),fun ad h t ht=>?_,fun e he=>?_,by omega⟩,by omega⟩
  ·obtain rfl:=Option.some.inj h
   have:((List.range len).map fun i=>if h:i < len then Classical.choose (key i h) else K.en0).getD t K.en0=Classical.choose (key t ht):=by simp [List.getD,ht]
   rw [this];exact (Classical.choose_spec (key t ht)).1
  ·simp only [List.mem_map,List.mem_range] at he;obtain ⟨i,hi,rfl⟩:=he;rw [dif_pos hi];exact (Classical.choose_spec (key i hi)).2
theorem past_bulk {H:Type} {enc:TypeId × Value -> H} {W:World} {fuel:Nat} {cs:List Value} {x:DataW H × List MemPlace}
  (h:DataW.trod enc Tryz.prog W 0 (fun _=>true) true fuel 26 cs=some x):3 <= Rows.uptoBulk x.1:=by
 obtain ⟨xs,m,_,hx,hcl,hxl,hf⟩:=DataW.trod_struct Tryz.underlying26 h;obtain ⟨y0,y1,rfl⟩:=list2 hxl;subst hx;have h0:=bulk_pos y0.1;have h1:=bulk_pos y1.1;simp only [Rows.uptoBulk,List.map_cons,List.map_nil,Rows.uptoBulkAll];omega
theorem open_recordU {H:Type} {enc:TypeId × Value -> H} {W:World} {fuel:Nat} {cs:List Value} {x:DataW H × List MemPlace}
  (h:DataW.trod enc Tryz.prog W 0 (fun _=>true) true fuel 83 cs=some x):5 <= Rows.uptoBulk x.1/\(Rows.uptoBulk x.1 <= 1048576 -> ∃ r:Rc,cs=(ReC (mkR r)).toList/\RcOk W r/\r.p.P.cloud.length <= 1048576):=by
 obtain ⟨xs,m,_,hx,hcl,hxl,hf⟩:=DataW.trod_struct Tryz.underlying83 h;obtain ⟨v0,v1,v2,rfl⟩:=list3 (hcl.trans cellsRe);obtain ⟨y0,y1,rfl⟩:=list2 hxl;have t0:=hf 0 _ rfl;have t1:=hf 1 _ rfl;simp [cellsP,cellsSk] at t0 t1;subst hx;simp only [Rows.uptoBulk,List.map_cons,List.map_nil,Rows.uptoBulkAll];have b0:=bulk_pos y0.1;have b1:=past_bulk t1;refine ⟨by omega,fun hw=>?_⟩;obtain ⟨s,e0,-,hs⟩:=DataW.trod_string Tryz.underlying9 t0;obtain ⟨p,ep,Sp,hl⟩:=viewP t1 (by omega);simp only [List.cons.injEq,and_true] at e0 ep;obtain ⟨rfl,rfl⟩:=ep;subst e0;exact ⟨⟨s,p⟩,rfl,⟨Sp,hs⟩,hl⟩
theorem viewRT {H:Type} {enc:TypeId × Value -> H} {W:World} {fuel:Nat} {v:Value} {x:DataW H × List MemPlace}
  (h:DataW.trod enc Tryz.prog W 0 (fun _=>true) true fuel 27 [v]=some x) (hw:Rows.uptoBulk x.1 <= 1048576):∃ (ao:Option Addr) (n cap:Nat) (L:List Rc),v = .slice ao n cap/\RcT W ao n cap L/\RSmT L:=by
 rcases DataW.trod_slice Tryz.underlying27 h with h0 | ⟨a,len,cap,elems,rest,n,_,hcs,hx,hb,hl,hm,hlen,hel,hsp,hns⟩
 ·have e:v = .slice none 0 0:=by simpa using h0.1
  exact ⟨none,0,0,[],e,⟨RcS.empty _,Nat.le_refl _,fun _=>rfl⟩,Nat.zero_le _,fun r hr=>by cases hr⟩
 ·subst hx
  have e:v = .slice (some a) len cap:=by simpa using hcs
  simp only [Rows.uptoBulk] at hw
  have op:∀ i (hi:i < elems.length),i < len/\∃ cs',(5 <= Rows.uptoBulk elems[i].1/\(Rows.uptoBulk elems[i].1 <= 1048576 -> ∃ r:Rc,cs'=(ReC (mkR r)).toList/\RcOk W r/\r.p.P.cloud.length <= 1048576))/\(∀ j,j < 3 -> W.cell? ((a.add (i * 3)).add j)=cs'[j]?):=by
   intro i hi
   have hi':i < len:=by omega
   have he:=hel i hi';rw [List.getElem?_eq_getElem hi,cellsRe,Option.bind_eq_some_iff] at he;obtain ⟨cs',hcs,hy'⟩:=he;obtain ⟨_,-,hce⟩:=World.cells?_some hcs;exact ⟨hi',cs',open_recordU hy',fun j hj=>hce j hj⟩
  have h5:=bulk_five (elems.map (·.1)) (fun d hd=>by
   obtain ⟨y,hy,rfl⟩:=List.mem_map.1 hd;obtain ⟨i,hi,rfl⟩:=List.getElem_of_mem hy;obtain ⟨-,_,h,-⟩:=op i hi
   exact h.1)
  simp only [List.length_map] at h5
  have key:∀ i,i < len -> ∃ r:Rc,ReAt W (a.add (i * 3)) (mkR r)/\RcOk W r/\r.p.P.cloud.length <= 1048576:=by
   intro i hi
   have hi':i < elems.length:=by omega
   obtain ⟨-,cs',h,hce⟩:=op i hi';obtain ⟨r,rfl,hr,hl2⟩:=h.2 (by have:=bulk_at (elems.map (·.1)) elems[i].1 (List.mem_map_of_mem (f:=(·.1)) (List.getElem_mem hi'));omega);have g0:=hce 0 (by omega);rw [add_zero] at g0;exact ⟨r,⟨g0,hce 1 (by omega),hce 2 (by omega)⟩,hr,hl2⟩
  refine ⟨some a,len,cap,(List.range len).map fun i=>if h:i < len then Classical.choose (key i h) else rc0,e,⟨⟨by simp,(fun h=>by cases h),fun ad h t ht=>?_,fun r hr=>?_,by omega⟩,hl,fun h=>by cases h⟩,by simp;omega,fun r hr=>?_⟩
  ·obtain rfl:=Option.some.inj h
   have:((List.range len).map fun i=>if h:i < len then Classical.choose (key i h) else rc0).getD t rc0=Classical.choose (key t ht):=by simp [List.getD,ht]
   rw [this];exact (Classical.choose_spec (key t ht)).1
  ·simp only [List.mem_map,List.mem_range] at hr;obtain ⟨i,hi,rfl⟩:=hr;rw [dif_pos hi];exact (Classical.choose_spec (key i hi)).2.1
  ·simp only [List.mem_map,List.mem_range] at hr;obtain ⟨i,hi,rfl⟩:=hr;rw [dif_pos hi];exact (Classical.choose_spec (key i hi)).2.2
end
section
open Go.ChangeShapes Go.WideShapes Go.ChangeAt Go.RowKit Go.Joins
theorem cellsSw:Tryz.prog.cellsOf 31=4:=by kernel_rfl
theorem open_swotU {H:Type} {enc:TypeId × Value -> H} {W:World} {fuel:Nat} {cs:List Value} {x:DataW H × List MemPlace}
  (h:DataW.trod enc Tryz.prog W 0 (fun _=>true) true fuel 31 cs=some x) (hw:Rows.uptoBulk x.1 <= 1048576):∃ f:Fc,cs=(FaC (mkF f)).toList/\FcU W f:=by
 obtain ⟨xs,m,_,hx,hcl,hxl,hf⟩:=DataW.trod_struct Tryz.underlying31 h;obtain ⟨v0,v1,v2,v3,rfl⟩:=K.list4 (hcl.trans cellsSw);obtain ⟨y0,y1,y2,rfl⟩:=list3 hxl;have t0:=hf 0 _ rfl;have t1:=hf 1 _ rfl;have t2:=hf 2 _ rfl;simp [cellsP,cellsEs,cellsRs] at t0 t1 t2;subst hx;simp only [Rows.uptoBulk,List.map_cons,List.map_nil,Rows.uptoBulkAll] at hw;obtain ⟨ro,rn,rc,R,rfl,Sr,r1⟩:=viewRT t2 (by omega);obtain ⟨ao,an,ac,A,rfl,Sa,a1⟩:=viewEu t0 (by omega);obtain ⟨p,ep,Sp,-⟩:=viewP t1 (by omega);simp only [List.cons.injEq,and_true] at ep;obtain ⟨rfl,rfl⟩:=ep;exact ⟨⟨ao,an,ac,A,p,ro,rn,rc,R⟩,rfl,⟨Sa,Sp,Sr.src⟩,⟨Sr.room,Sr.nil⟩,r1,a1⟩
theorem FcU.b {w:World} {s:Fc} (h:FcU w s):SwB 1 w s:=⟨h.ok,h.row,by have:=h.rn;omega,by have:=h.an;omega,h.sm.2⟩
end
section
open Go.RowKit
theorem ls_recs {s l:Fc} {d:Dg} (fs:FormS s) (h:LsD s d l):plR l.rs=plR s.rs:=by
 rw [h.2.2.2.2];refine List.filter_eq_self.2 fun y hy=>?_;obtain ⟨r,hr,rfl⟩:=List.mem_map.1 hy;exact waitB_yes (fs.2.2.1 r hr)
theorem ls_sub {s l:Fc} {d:Dg} (h:LsD s d l) {e:K.En} (he:e∈l.es):e∈s.es/\inB d.h.P e=false:=by
 rw [h.1,List.mem_filter] at he;refine ⟨he.1,?_⟩;have h2:=he.2;unfold pkB at h2;simpa using h2
theorem ls_back {s l:Fc} {d:Dg} (h:LsD s d l) {e:K.En} (he:e∈s.es) (hn:inB d.h.P e=false):e∈l.es:=by
 rw [h.1,List.mem_filter];refine ⟨he,?_⟩;unfold pkB;rw [hn];rfl
theorem ls_past {s l:Fc} {d:Dg} (fs:FormS s) (h:LsD s d l) {e:K.En} (he:inB l.p.P e=true):inB s.p.P e=true:=by
 rcases (h.2.2.1 e).1 he with ⟨-,x,hx,hd⟩ | ⟨⟨h1,-⟩,-⟩
 ·rw [<- dot_inB hd];exact fs.2.1 x (ls_sub h hx).1
 ·exact h1
theorem ls_form {ws wl:World} {s l:Fc} {d:Dg} (hS:FcOk ws s) (hL:FcOk wl l) (fs:FormS s) (h:LsD s d l):FormS l:=by
 refine (fm_iff hL).2 ⟨?_,h.2.1,?_,fun e he=>?_,fun y hy hw=>?_,fun e he=>?_⟩
 ·show K.chk l.es=0
  rw [h.1];exact chk_filter (chk_of hS fs) _
 ·have:=((fm_iff hS).1 fs).r
  show (∀ y∈plR l.rs,RpOk y)/\Srt ck (plR l.rs)
  rw [ls_recs fs h];exact this
 ·have h1:=ls_sub h he;exact (h.2.2.1 e).2 (.inl ⟨ce_dot (chk_ce (chk_of hS fs) e h1.1),e,he,rfl⟩)
 ·have hy2:y∈plR s.rs:=by rw [<- ls_recs fs h];exact hy
  obtain ⟨r,hr,rfl⟩:=List.mem_map.1 hy2;exact fs.2.2.1 r hr (wi_inB.2 fun e he=>ls_past fs h (wi_inB.1 hw e he))
 ·show freeA (plR l.rs) e
  rw [ls_recs fs h];exact ((fm_iff hS).1 fs).f e (ls_sub h he).1
theorem ls_noc {o s l:Fc} {d:Dg} (h:LsD s d l) (hc:¬ K.Clash (o.es++s.es)):¬ K.Clash (o.es++l.es):=by
 rintro ⟨x,hx,y,hy,hs,hne⟩;refine hc ⟨x,?_,y,?_,hs,hne⟩
 ·rw [List.mem_append] at hx ⊢;exact hx.imp id fun k=>(ls_sub h k).1
 ·rw [List.mem_append] at hy ⊢;exact hy.imp id fun k=>(ls_sub h k).1
theorem ls_heals {o s l:Fc} {d:Dg} {z:Ab} (_:FormS o) (fs:FormS s) (hd:DoS o d) (hl:LsD s d l) (hc:¬ K.Clash (o.es++s.es)) (h:JnA (ab o) (ab s) z):JnA (ab o) (ab l) z:=by
 have eh:d.h.P=o.p.P:=hd.1;have hnb:NoC (ab o) (ab s):=hc
 have nol:∀ {x:K.En},x∈l.es -> inB o.p.P x=false:=fun hx=>by rw [<- eh];exact (ls_sub hl hx).2
 have hp:∀ e,inB o.p.P e=true∨inB s.p.P e=true↔inB o.p.P e=true∨inB l.p.P e=true:=fun e=>by
  constructor
  ·rintro (k | k)
   ·exact .inl k
   ·by_cases ko:inB o.p.P e=true
    ·exact .inl ko
    ·refine .inr ((hl.2.2.1 e).2 ?_);by_cases kx:∃ x∈s.es,dotOf x=dotOf e
     ·obtain ⟨x,hx,hde⟩:=kx;exact .inl ⟨inB_okDS k,x,ls_back hl hx (by rw [eh,dot_inB hde];exact Bool.eq_false_iff.2 ko),hde⟩
     ·exact .inr ⟨⟨k,kx⟩,fun q=>ko (by rw [<- eh];exact q.1)⟩
  ·rintro (k | k)
   ·exact .inl k
   ·exact .inr (ls_past fs hl k)
 refine ⟨h.a,fun e=>?_,h.p,fun e=>(h.d e).trans (hp e),h.s,fun q=>?_⟩
 ·show e∈z.L↔KeptM o.es l.es o.p.P l.p.P e/\freeA (plR o.rs) e/\freeA (plR l.rs) e
  rw [ls_recs fs hl,h.l e];refine and_congr_left fun _=>?_
  show KeptM o.es s.es o.p.P s.p.P e↔_
  rw [kept_iff hc,kept_iff (ls_noc hl hc)];constructor
  ·rintro ⟨h1,h2,h3⟩;refine ⟨?_,h2,fun k=>?_⟩
   ·rcases h1 with k | k
    ·exact .inl k
    ·by_cases ko:inB o.p.P e=true
     ·exact .inl (h2 ko)
     ·exact .inr (ls_back hl k (by rw [eh];exact Bool.eq_false_iff.2 ko))
   ·have ks:=h3 (ls_past fs hl k);rcases (hl.2.2.1 e).1 k with ⟨-,x,hx,hde⟩ | ⟨⟨-,g⟩,-⟩
    ·exact ls_back hl ks (by rw [eh,<- dot_inB hde];exact nol hx)
    ·exact absurd ⟨e,ks,rfl⟩ g
  ·rintro ⟨h1,h2,h3⟩;refine ⟨h1.imp id fun k=>(ls_sub hl k).1,h2,fun k=>?_⟩;refine Classical.byContradiction fun kn=>?_;have ko:e∈o.es:=h1.resolve_right fun q=>kn (ls_sub hl q).1;have kl:¬ inB l.p.P e=true:=fun q=>kn (ls_sub hl (h3 q)).1;refine kl ((hl.2.2.1 e).2 (.inr ⟨⟨k,fun ⟨x,hx,hde⟩=>kn ?_⟩,fun q=>q.2 ?_⟩))
   ·rw [hnb.at (show e∈(ab o).L from ko) (show x∈(ab s).L from hx) (dot_sd hde.symm)];exact hx
   ·exact (ds_inB hd.2 e).2 ⟨inB_okDS k,e,ko,rfl⟩
 ·show q∈z.R↔(q∈plR o.rs∨q∈plR l.rs)/\¬ wiP q.2 z.P
  rw [ls_recs fs hl];exact h.r q
theorem eqs_ab14 {s t:Fc} (h:ab s=ab t):EqS s t:=⟨congrArg Ab.L h,congrArg Ab.P h,congrArg Ab.R h⟩
theorem dos_form {o:Fc} {d:Dg} (fo:FormS o) (hc:K.chk o.es=0) (h:DoS o d):FormD d.h.P d.l.P:=by
 refine ⟨by rw [h.1];exact fo.1.2.1,canon_iff.1 h.2.canon,?_⟩;rw [h.1];exact (within_sx hc h.2).2 fo.2.1
attribute [local go_sem ↓] ldSw_eq stSw_eq ldDi_eq stDi_eq
attribute [local go_sem] cells_FaV FaC_size zero_FaZ cells_DiV DiC_size
theorem digestHeals_law (o s:Fc) (w:World) (hA:FcU w o) (hB:FcU w s):Calls Tryz.prog 7 #[FaV (mkF o),FaV (mkF s)] w fun e w'=>e = .returned (.bool true)/\Below w.heap.size w w':=by
 obtain ⟨wk,hwk,HX,HY,HBK,-⟩:=box2J w o s;obtain ⟨G,hG0⟩:∃ G,w.heap.size=G:=⟨_,rfl⟩;rw [hG0] at HX HY;have HOo:=hide (hA.b.below HBK.out);have HOs:=hide (hB.b.below HBK.out);clear hA hB;go_enter Tryz.func7,Tryz.ntmps7;go_wp2_with fail;clear hwk hG0;refine (known14_any _).mono ?_;rintro e w2 ⟨rfl,b2⟩;have HB2:=hide b2;clear b2;have l0:=run_ldSw (HX.out.below HB2.out);go_wp2_with fail;clear l0;refine (ofSwot_any o _ ((HOo.out.below HB2.out).u (by decide))).mono ?_;rintro e v3 ⟨d,e1,rfl,Sd,b3,hd⟩;obtain ⟨gd,hgd⟩:∃ g,v3.heap.size=g:=⟨_,rfl⟩;obtain ⟨w3,hst,X3,B3,-⟩:=madeDx14 v3 d gd hgd;have b33:=b3.trans (B3.mono b3.size);have HB3:=wTr HB2 b33;have HXd:=hide X3;have HSd:=hide (Sd.below B3);have Hd:=hide hd;clear Sd b3 hd X3 B3 b33;have l0:=run_ldSw (HY.out.below HB3.out);have l1:=run_ldDi HXd.out;go_wp2_with fail
 clear l0 l1 hst hgd;refine (lackSwot_any 1 (by decide) s d _ (HOs.out.below HB3.out) HSd.out).mono ?_;rintro e v4 ⟨l,e2,rfl,Sl,b4,hl⟩;obtain ⟨gl,hgl⟩:∃ g,v4.heap.size=g:=⟨_,rfl⟩;obtain ⟨w4,hst,X4,B4,-⟩:=madeSx v4 l gl hgl;have b44:=b4.trans (B4.mono b4.size);have HB4:=wTr HB3 b44;have HXl:=hide X4;have HSl:=hide (Sl.below B4);have Hl:=hide hl;clear Sl b4 hl X4 B4 b44;have l0:=run_ldSw (HX.out.below HB4.out);have l1:=run_ldSw HXl.out;go_wp2_with fail;clear l0 l1 hst hgl;refine (swJoin_any 1 1 (by decide) o l _ (HOo.out.below HB4.out) HSl.out).mono ?_;rintro e v5 ⟨j,e3,rfl,Sj,b5,hj⟩;obtain ⟨gj,hgj⟩:∃ g,v5.heap.size=g:=⟨_,rfl⟩;obtain ⟨w5,hst,X5,B5,-⟩:=madeSx v5 j gj hgj;have b55:=b5.trans (B5.mono b5.size);have HB5:=wTr HB4 b55;have HXj:=hide X5;have HSj:=hide (Sj.below B5);have Hj:=hide hj;clear Sj b5 hj X5 B5 b55
 have l0:=run_ldSw (HX.out.below HB5.out);have l1:=run_ldSw (HY.out.below HB5.out);go_wp2_with fail;clear l0 l1 hst hgj;refine (swJoin_any 1 1 (by decide) o s _ (HOo.out.below HB5.out) (HOs.out.below HB5.out)).mono ?_;rintro e v6 ⟨z,e4,rfl,Sz,b6,hz⟩;obtain ⟨gz,hgz⟩:∃ g,v6.heap.size=g:=⟨_,rfl⟩;obtain ⟨w6,hst,X6,B6,-⟩:=madeSx v6 z gz hgz;have b66:=b6.trans (B6.mono b6.size);have HB6:=wTr HB5 b66;have HXz:=hide X6;have HSz:=hide (Sz.below B6);have HXj6:=hide (HXj.out.below b66);have HSj6:=hide (HSj.out.below b66);have Hz:=hide (sj_cases HOo.out.ok HOs.out.ok hz);clear Sz b6 hz X6 B6 b66 HXj HSj;have l0:=run_ldSw (HX.out.below HB6.out);go_wp2_with fail;clear l0 hst hgz;refine (refInForm_any o _ (HOo.out.ok.below HB6.out)).mono ?_;rintro e w7 ⟨v,rfl,hv,b7⟩;have HB7:=wTr HB6 b7;have HXj7:=hide (HXj6.out.below b7);have HXz7:=hide (HXz.out.below b7)
 have HSj7:=hide (HSj6.out.below b7);have HSz7:=hide (HSz.out.below b7);clear b7 HXj6 HSj6 HXz HSz
 cases v with
 | false =>
  obtain rfl:e4=1:=by
   have hn:¬ FormS o:=fun h=>by have:=hv.2 h;cases this
   rcases Hz.out with ⟨-,k,-⟩ | ⟨k,-⟩ | ⟨k,-⟩
   ·exact k
   ·exact absurd k.1 hn
   ·exact absurd k.1 hn
  have HE:=wTr HBK HB7.out;clear hv;go_wp2_with fail;go_ret;exact ⟨rfl,HE.out⟩
 | true =>
 have HFo:=hide (hv.1 rfl);clear hv;have l0:=run_ldSw (HY.out.below HB7.out);go_wp2_with fail;clear l0;refine (refInForm_any s _ (HOs.out.ok.below HB7.out)).mono ?_;rintro e w8 ⟨v,rfl,hv,b8⟩;have HB8:=wTr HB7 b8;have HXj8:=hide (HXj7.out.below b8);have HXz8:=hide (HXz7.out.below b8);have HSj8:=hide (HSj7.out.below b8);have HSz8:=hide (HSz7.out.below b8);clear b8 HXj7 HSj7 HXz7 HSz7
 cases v with
 | false =>
  obtain rfl:e4=1:=by
   have hn:¬ FormS s:=fun h=>by have:=hv.2 h;cases this
   rcases Hz.out with ⟨-,k,-⟩ | ⟨k,-⟩ | ⟨k,-⟩
   ·exact k
   ·exact absurd k.2 hn
   ·exact absurd k.2 hn
  have HE:=wTr HBK HB8.out;clear hv;go_wp2_with fail;go_ret;exact ⟨rfl,HE.out⟩
 | true =>
 have HFs:=hide (hv.1 rfl);clear hv
 obtain ⟨rfl,hD⟩:e1=0/\DoS o d:=by
  rcases Hd.out with ⟨k,-⟩ | ⟨-,k,q⟩
  ·exact absurd HFo.out k
  ·exact ⟨k,q⟩
 obtain ⟨rfl,hL⟩:e2=0/\LsD s d l:=by
  rcases Hl.out with ⟨k,-⟩ | ⟨-,k,q⟩
  ·exact absurd ⟨HFs.out,dos_form HFo.out (chk_of HOo.out.ok HFo.out) hD⟩ k
  ·exact ⟨k,q⟩
 have HDo:=hide hD;have HLs:=hide hL;clear hD hL Hd Hl;rcases Hz.out with ⟨k,-⟩ | ⟨-,-,rfl,-⟩ | ⟨-,hnc,rfl,hJ⟩
 ·exact absurd ⟨HFo.out,HFs.out⟩ k
 ·have HE:=wTr HBK HB8.out;clear Hz;go_wp2_with fail;go_ret;exact ⟨rfl,HE.out⟩
 obtain ⟨rfl,heq⟩:e3=0/\EqS j z:=by
  have hJ2:=ls_heals HFo.out HFs.out HDo.out HLs.out hnc hJ;rcases sj_cases HOo.out.ok HSl.out.ok Hj.out with ⟨k,-⟩ | ⟨-,k,-⟩ | ⟨-,-,k,q⟩
  ·exact absurd ⟨HFo.out,ls_form HOs.out.ok HSl.out.ok HFs.out HLs.out⟩ k
  ·exact absurd k (ls_noc HLs.out hnc)
  ·exact ⟨k,eqs_ab14 (q.uniq hJ2)⟩
 have HEq:=hide heq;have l0:=run_ldSw HXj8.out;have l1:=run_ldSw HXz8.out;clear hnc hJ heq Hz Hj;go_wp2_with fail;clear l0 l1;refine (equal11_true j z _ HSj8.out.ok HSz8.out.ok HEq.out).mono ?_;rintro e w9 ⟨rfl,b9⟩;have HE:=hide (HBK.out.trans ((HB8.out.trans (b9.mono HB8.out.size)).mono HBK.out.size));clear b9;go_wp2_with fail;go_ret;exact ⟨rfl,HE.out⟩
theorem digestHeals_u (o s:Fc) (w:World) (hA:FcU w o) (hB:FcU w s):Calls Tryz.prog 7 #[FaV (mkF o),FaV (mkF s)] w fun e w'=>e = .returned (.bool true)/\Below w.heap.size w w':=digestHeals_law o s w hA hB
end
end Go.Proofs.YtjeilkenjdnafaaGreat
