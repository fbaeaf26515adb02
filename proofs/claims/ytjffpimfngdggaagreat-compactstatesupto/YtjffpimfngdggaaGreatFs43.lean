/- YEf YEg -/
import Derived.Test.YtjffpimfngdggaaGreatTk
import Derived.Test.YtjffpimfngdggaaGreatFs40
import Derived.Test.YtjffpimfngdggaaGreatFs38
import Derived.Test.YtjffpimfngdggaaGreatFs42
import Derived.Test.YtjffpimfngdggaaGreatFs21
import Derived.Test.YtjffpimfngdggaaGreatFs37
set_option maxRecDepth 100000
set_option maxHeartbeats 6400000
namespace Go.Proofs.YtjffpimfngdggaaGreat
section
open Go.RowKit
theorem SwB.offWc {N:Nat} {W:World} {g:Nat} {m:FacV} {f:Fc} (h:SwB N W f) (A:SwBox W g m) (c:Array Value):SwB N (W.setRow g c) f:=⟨h.ok.offW A c,h.row,h.rn,h.an,h.cl⟩
theorem vD (p:Pv) (w:World):(bldF #[(1,.agg (PC p))]).run Tryz.prog w = .ok (.agg (FaC (mkF ⟨none,0,0,[],p,none,0,0,[]⟩))) w:=by kernel_rfl
theorem vE (a:Option Addr) (n c:Nat) (w:World):(bldF #[(0,.slice a n c)]).run Tryz.prog w = .ok (.agg (FaC (mkF ⟨a,n,c,[],pv0,none,0,0,[]⟩))) w:=by kernel_rfl
theorem vC (a b:Option Addr) (n c m d:Nat) (p:Pv) (w:World):(bldF #[(0,.slice a n c),(1,.agg (PC p)),(2,.slice b m d)]).run Tryz.prog w = .ok (.agg (FaC (mkF ⟨a,n,c,[],p,b,m,d,[]⟩))) w:=by kernel_rfl
def XpD (s h:Fc):Prop:=h.es=s.es/\∃ p,HeardOf ⟨s.ao,s.an,s.ac,s.es,pv0,none,0,0,[]⟩ p/\MnD s.p.P p h.p.P
def ndE (s:Fc):Fc:=⟨s.ao,s.an,s.ac,s.es,pv0,none,0,0,[]⟩
theorem zcL {s:Fc} (hf:FormS s):FormF (ndE s):=⟨hf.1.1,(show InForm pv0.P from ⟨by decide,trivial⟩),fun j hj=>absurd hj (Nat.not_lt_zero _)⟩
attribute [local go_sem ↓] zr zq zD zC zL zK xA
attribute [local go_sem] zi zk zE zl zp zv qW vD vE vC
theorem boxSF (w:World) (f:Fc):∃ wk,(w.alloc (.cells (FaC (mkF f)) 31)).alloc (.cells (FaC (mkF fz0)) 29)=wk/\Hid (SwBox wk w.heap.size (mkF f))/\Hid (FaBox wk (w.heap.size+1) (mkF fz0))/\Hid (Below w.heap.size w wk):=by
 have b1:=ze w (.cells (FaC (mkF f)) 31);have b2:=ze (w.alloc (.cells (FaC (mkF f)) 31)) (.cells (FaC (mkF fz0)) 29);have X2:=zY (w.alloc (.cells (FaC (mkF f)) 31)) (mkF fz0);rw [World.size_alloc] at X2;exact ⟨_,rfl,(qk w (mkF f)).below b2,X2,b1.trans (b2.mono b1.size)⟩
theorem zcj (N:Nat) (hN:N <= 4) (s:Fc) (w:World) (hS:SwB N w s) (hf:FormS s):Calls Tryz.prog 15 #[FaV (mkF s)] w fun e w'=>∃ h,e = .returned (.tuple #[FaV (mkF h),.int .i64 0])/\FcOk w' h/\Below w.heap.size w w'/\XpD s h:=by
 obtain ⟨wk,hwk,HX,HZ,HBK⟩:=boxSF w s;obtain ⟨G,hG0⟩:∃ G,w.heap.size=G:=⟨_,rfl⟩;rw [hG0] at HX HZ;have HGs:Hid (w.heap.size=G):=hG0;have HU:=hide ((hS.below HBK.out).u hN);have HS:=hide (hS.below HBK.out);have HFs:=hide hf;clear hS hf;have l0:=zR HX.out;go_enter Tryz.func15,Tryz.ntmps15;go_wp2_with fail;clear hwk hG0 l0;refine (HU.out.chk).mono ?_;rintro e w3 ⟨z,rfl,hz,b3⟩
 obtain rfl:z=0:=by
  rcases hz with ⟨-,h⟩ | ⟨h,-⟩
  ·exact h
  ·exact absurd HFs.out h
 have HB3:=hide b3;clear b3 hz;have c0:=(HX.out.below HB3.out).cs.1;go_wp2_with fail;clear c0;have HNd:Hid (FcOk w3 (ndE s)):=⟨(HS.out.ok.below HB3.out).es,PSrc.zero _,RcS.empty _⟩;refine (wQ (ndE s) _ HNd.out).mono ?_;rintro e v4 ⟨p,er,rfl,Sp,-,b4,hp⟩
 obtain ⟨rfl,hH⟩:er=0/\HeardOf (ndE s) p.P:=by
  rcases bY hp with ⟨h,-⟩ | ⟨-,h,k⟩
  ·exact absurd (zcL HFs.out) h
  ·exact ⟨h,k⟩
 obtain ⟨g4,hg4⟩:∃ g,v4.heap.size=g:=⟨_,rfl⟩;obtain ⟨w4,hst,X4,B4,-⟩:=madeP v4 p g4 hg4;have b44:=b4.trans (B4.mono b4.size);have HB4:=wTr HB3 b44;have HX4:=hide X4;have HSp:=hide (Sp.below B4);have HH:=hide hH;clear Sp b4 hp hH X4 B4 b44;have c0:=(HX.out.below HB4.out).cs.1;have c3:=(HX.out.below HB4.out).cs.2;have lp:=zj (HX.out.below HB4.out).past
 have lq:=zj HX4.out.at
 go_wp2_with fail;clear c0 c3 lp lq hst hg4;have HL:Hid (FcOk w4 ⟨none,0,0,[],p,none,0,0,[]⟩):=⟨(zcZ _).es,HSp.out,RcS.empty _⟩;refine (zaP s ⟨none,0,0,[],p,none,0,0,[]⟩ _ (HS.out.ok.below HB4.out) HL.out (by have:=HS.out.rn;omega)).mono ?_;rintro e w5 ⟨h,er,rfl,Fh,-,-,b5,hh⟩
 obtain ⟨rfl,hL⟩:er=0/\LeOf s ⟨none,0,0,[],p,none,0,0,[]⟩ h:=by
  rcases hh with ⟨k,-⟩ | ⟨-,-,k,q⟩
  ·exact absurd ⟨⟨HFs.out.1.1,HFs.out.1.2.1,HFs.out.1.2.2⟩,⟨rfl,HH.out.1,fun j hj=>absurd hj (Nat.not_lt_zero _)⟩⟩ k
  ·exact ⟨k,q⟩
 have HB5:=wTr HB4 b5;have A5:=HZ.out.below HB5.out;have st:=qG (m':=mkF h) A5;have HE1:Hid (FaBox (w5.setRow (G+1) (FaC (mkF h))) (G+1) (mkF h)):=A5.setRow
 have HE:Hid (∃ h',Ending.returned (.tuple #[FaV (mkF h),.int .i64 0]) = .returned (.tuple #[FaV (mkF h'),.int .i64 0])/\FcOk (w5.setRow (G+1) (FaC (mkF h))) h'/\Below w.heap.size w (w5.setRow (G+1) (FaC (mkF h)))/\XpD s h'):=by
  refine ⟨h,rfl,Fh.offF A5 _,zh (HBK.out.trans (HB5.out.mono HBK.out.size)) (by rw [HGs.out];omega),?_,p.P,HH.out,hL.2.1⟩;rw [hL.1];refine List.filter_eq_self.2 fun e _=>x4.2 (fun k=>by cases k)
 clear Fh b5 hh hL A5;go_wp2_with fail;clear st;refine bodyPost_ret (res2Fb rfl rfl rfl HE1.out) rfl ?_;exact HE.out
/-! ### the chapter's facts -/
def ck1:K.En:=⟨0,1,⟨#[65]⟩,5⟩
def ck2:K.En:=⟨1,1,⟨#[66]⟩,7⟩
def ckP1:Pst:=⟨[1],[]⟩
def ckP2:Pst:=⟨[1,1],[]⟩
def ckQ:Pst:=⟨[2],[]⟩
def ckR (gq:Nat):Rc:=⟨⟨#[65]⟩,⟨some ⟨gq,0,none⟩,1,1,none,0,0,ckQ⟩⟩
def ckC:Array Value:=#[.int .i64 0,.int .i64 1,.string ⟨#[65]⟩,.int .i64 5,.int .i64 1,.int .i64 1,.string ⟨#[66]⟩,.int .i64 7]
theorem zaX (w:World):(bsE2 #[(0,.agg #[.int .i64 0,.int .i64 1,.string ⟨#[65]⟩,.int .i64 5]),(1,.agg #[.int .i64 1,.int .i64 1,.string ⟨#[66]⟩,.int .i64 7])]).run Tryz.prog w = .ok (.slice (some ⟨w.heap.size,0,none⟩) 2 2) (w.alloc (.cells ckC 50)):=by kernel_rfl
def bsR1c (a:Array (Nat × Value)):Sem Value:=Instr.buildSlice 27 1 a
theorem zhh (a:Array (Nat × Value)):Instr.buildSlice 27 1 a=bsR1c a:=rfl
theorem zaW (s:ByteArray) (a:Option Addr) (n c:Nat) (w:World):(bsR1c #[(0,.agg #[.string s,.slice a n c,.slice none 0 0])]).run Tryz.prog w = .ok (.slice (some ⟨w.heap.size,0,none⟩) 1 1) (w.alloc (.cells #[.string s,.slice a n c,.slice none 0 0] 78)):=by kernel_rfl
theorem zbQ (a v b:Option Addr) (n c m d k l:Nat) (w:World):(bldF #[(0,.slice a n c),(1,.agg #[.slice v m d,.slice none 0 0]),(2,.slice b k l)]).run Tryz.prog w = .ok (.agg #[.slice a n c,.slice v m d,.slice none 0 0,.slice b k l]) w:=by kernel_rfl
theorem zbP (a v b:Option Addr) (n c m d k l:Nat) (w:World):(bldS #[(0,.slice a n c),(1,.agg #[.slice v m d,.slice none 0 0]),(2,.slice b k l)]).run Tryz.prog w = .ok (.agg #[.slice a n c,.slice v m d,.slice none 0 0,.slice b k l]) w:=by kernel_rfl
theorem ziq (w:World) (g:Nat) (hg:w.heap.size=g):K.ESrc (w.alloc (.cells ckC 50)) (some ⟨g,0,none⟩) 2 2 [ck1,ck2]:=by
 subst hg;refine ⟨rfl,(fun h=>by cases h),fun ad h t ht=>?_,?_,(show (2:Nat) <= 3518437208883 by decide)⟩
 ·obtain rfl:=Option.some.inj h;have h1:=heap_alloc_new w (.cells ckC 50);have ht2:t < 2:=ht;generalize w.alloc (.cells ckC 50)=W at h1 ⊢;generalize w.heap.size=g at h1 ⊢;clear h ht
  obtain rfl | rfl:t=0∨t=1:=by omega
  ·refine ⟨?_,?_,?_,?_⟩ <;> simp [Addr.add,World.cell?,h1,ckC,ck1]
  ·refine ⟨?_,?_,?_,?_⟩ <;> simp [Addr.add,World.cell?,h1,ckC,ck2]
 ·intro e he;rcases List.mem_cons.1 he with rfl | he
  ·exact (show (1:Nat) <= maxLen by decide)
  ·obtain rfl:=List.mem_singleton.1 he;exact (show (1:Nat) <= maxLen by decide)
theorem zfp {w:World} {g:Nat} (h:K.ESrc w (some ⟨g,0,none⟩) 2 2 [ck1,ck2]):K.ESrc w (some ⟨g,4,none⟩) 1 1 [ck2]:=by
 refine ⟨rfl,(fun h=>by cases h),fun ad e t ht=>?_,fun e he=>h.2.2.2.1 e (List.mem_cons_of_mem _ he),(show (1:Nat) <= 3518437208883 by decide)⟩;obtain rfl:=Option.some.inj e;have ht1:t < 1:=ht
 obtain rfl:t=0:=by omega
 have h1:=h.2.2.1 ⟨g,0,none⟩ rfl 1 (by decide);exact h1
theorem zg8 {f:Fc} (h1:f.es=[ck1,ck2]) (h2:f.p.P=ckP1):HeardOf f ckP2:=⟨⟨by decide,trivial⟩,fun r hr n=>by
 rw [h1,h2]
 match r,hr with
 | 0,_ =>
  show mem [⟨1,1⟩] n↔mem [⟨1,1⟩] n∨mem [⟨1,1⟩] n
  simp
 | 1,_ =>
  show mem [⟨1,1⟩] n↔mem [⟨1,1⟩] n∨mem [] n
  simp [mem]
 | 2,_ | 3,_ | 4,_ | 5,_ | 6,_ | 7,_ | 8,_ | 9,_ | 10,_ | 11,_ | 12,_ | 13,_ | 14,_ | 15,_ =>
  show mem [] n↔mem [] n∨mem [] n
  simp
 | n+16,h=>exact absurd h (by omega)⟩
theorem zg9:¬ EmptyP ckQ:=fun h=>h 0 (by decide) 1 ((xM ckQ 0 (by decide) 1).2 ⟨by decide,by decide,.inl (by decide)⟩)
theorem zhJ (gq:Nat):RecOk (ckR gq):=⟨(show skuR ⟨#[65]⟩=true by decide),(show FormP ckQ from ⟨⟨by decide,trivial⟩,zg9⟩)⟩
theorem zio {f:Fc} (gq:Nat) (h1:f.es=[ck1,ck2]) (h2:f.p.P=ckP1) (h3:f.rs=[ckR gq]) (h4:f.an=2) (h5:f.rn=1):FormF f:=
 ⟨by rw [h1,h4];decide +kernel,by rw [h2];exact ⟨by decide,trivial⟩,by
  rw [h3,h5]
  exact (xH (L:=[ckR gq])).2 ⟨fun r hr=>by obtain rfl:=List.mem_singleton.1 hr;exact zhJ gq,List.pairwise_singleton _ _⟩⟩
theorem zg7 {f s:Fc} (gq:Nat) (h1:f.es=[ck1,ck2]) (h2:f.p.P=ckP1) (h3:f.rs=[ckR gq]) (hs:s.es=[ck2]/\s.p.P=ckP2/\s.rs=[ckR gq]):StD f s:=by
 refine ⟨?_,by rw [hs.2.1];exact zg8 h1 h2,fun r hr=>?_,?_⟩
 ·rw [hs.1,h1,h2,h3];have e1:¬ lvB ckP1 [ckR gq] ck1=true:=(show ¬ lvB ckP1 [ckR 0] ck1=true by decide +kernel);have e2:lvB ckP1 [ckR gq] ck2=true:=(show lvB ckP1 [ckR 0] ck2=true by decide +kernel);rw [List.filter_cons_of_neg e1,List.filter_cons_of_pos e2];rfl
 ·rw [hs.2.2] at hr;obtain rfl:=List.mem_singleton.1 hr;exact zhJ gq
 ·rw [hs.2.1,hs.2.2,h3];refine (List.filter_eq_self.2 fun y hy=>?_).symm;obtain rfl:=List.mem_singleton.1 hy;refine wM fun k=>?_;have:=zct.1 k ⟨0,2,⟨#[]⟩,0⟩ (show inB ckQ ⟨0,2,⟨#[]⟩,0⟩=true by decide +kernel)
  revert this
  decide +kernel
theorem zin {s h:Fc} (h1:s.es=[ck2]) (h2:s.p.P=ckP2) (hx:XpD s h):h.p.P=ckP1:=by
 obtain ⟨-,p,hp,C,hC,hq⟩:=hx;refine hq.unique (zP.2 (show InForm ckP1 from ⟨by decide,trivial⟩):CanonOf (runsAt ckP1) ckP1) fun r hr n=>?_;rw [(hC r hr).2 n,hp.2 r hr n,h2]
 show (mem (runsAt ckP2 r) n/\¬ (mem (dotsG (s.es.map dotOf) r) n∨mem (runsAt pv0.P r) n))↔mem (runsAt ckP1 r) n
 rw [h1]
 match r,hr with
 | 0,_ =>
  show (mem [⟨1,1⟩] n/\¬ (mem [] n∨mem [] n))↔mem [⟨1,1⟩] n
  simp [mem]
 | 1,_ =>
  show (mem [⟨1,1⟩] n/\¬ (mem [⟨1,1⟩] n∨mem [] n))↔mem [] n
  simp [mem]
 | 2,_ | 3,_ | 4,_ | 5,_ | 6,_ | 7,_ | 8,_ | 9,_ | 10,_ | 11,_ | 12,_ | 13,_ | 14,_ | 15,_ =>
  show (mem [] n/\¬ (mem [] n∨mem [] n))↔mem [] n
  simp [mem]
 | n+16,h=>exact absurd h (by omega)
attribute [local go_sem ↓] zfz zco yC zcp zcn zhh xd
attribute [local go_sem] zaX bT bU kH zet zaW zbQ zbP
theorem zb9 (w:World):Calls Tryz.prog 6 #[] w fun e w'=>e = .returned (.bool true)/\Below w.heap.size w w':=by
 obtain ⟨ge,hge⟩:∃ g,w.heap.size=g:=⟨_,rfl⟩;have lb:=zaX w;have S4:=ziq w ge hge;have b4:=ze w (.cells ckC 50)
 have z4:(w.alloc (.cells ckC 50)).heap.size=ge+1:=by simp [hge]
 obtain ⟨w4,hw4⟩:∃ w4,w.alloc (.cells ckC 50)=w4:=⟨_,rfl⟩;rw [hw4] at lb S4 b4 z4;rw [hge] at lb;have V5:=kC w4 3 #[.int .i64 1] [1] rfl (ge+1) 1 z4 rfl;have b5:=ze w4 (.cells #[.int .i64 1] 3)
 have z5:(w4.alloc (.cells #[.int .i64 1] 3)).heap.size=ge+2:=by simp [z4]
 obtain ⟨w5,hw5⟩:∃ w5,w4.alloc (.cells #[.int .i64 1] 3)=w5:=⟨_,rfl⟩;rw [hw5] at V5 b5 z5;have V6:=kC w5 3 #[.int .i64 2] [2] rfl (ge+2) 1 z5 rfl;have b6:=ze w5 (.cells #[.int .i64 2] 3)
 have z6:(w5.alloc (.cells #[.int .i64 2] 3)).heap.size=ge+3:=by simp [z5]
 obtain ⟨w6,hw6⟩:∃ w6,w5.alloc (.cells #[.int .i64 2] 3)=w6:=⟨_,rfl⟩;rw [hw6] at V6 b6 z6
 have R7:=zh1 w6 78 #[.string ⟨#[65]⟩,.slice (some ⟨ge+2,0,none⟩) 1 1,.slice none 0 0] [ckR (ge+2)] rfl (ge+3) 1 z6 rfl (by decide) (fun r hr=>by
  obtain rfl:=List.mem_singleton.1 hr
  exact ⟨⟨V6,SSrc.empty _,(show (1:Nat) <= 17592186044415 by decide)⟩,(show (1:Nat) <= maxLen by decide)⟩)
 have b7:=ze w6 (.cells #[.string ⟨#[65]⟩,.slice (some ⟨ge+2,0,none⟩) 1 1,.slice none 0 0] 78);have lc:=zaW ⟨#[65]⟩ (some ⟨ge+2,0,none⟩) 1 1 w6;rw [z6] at lc
 have z7:(w6.alloc (.cells #[.string ⟨#[65]⟩,.slice (some ⟨ge+2,0,none⟩) 1 1,.slice none 0 0] 78)).heap.size=ge+4:=by simp [z6]
 obtain ⟨w7,hw7⟩:∃ w7,w6.alloc (.cells #[.string ⟨#[65]⟩,.slice (some ⟨ge+2,0,none⟩) 1 1,.slice none 0 0] 78)=w7:=⟨_,rfl⟩;rw [hw7] at R7 b7 z7 lc;have b57:=b5.trans ((b6.trans (b7.mono b6.size)).mono b5.size);have b67:=b6.trans (b7.mono b6.size);obtain ⟨f,hf⟩:∃ f:Fc,f=⟨some ⟨ge,0,none⟩,2,2,[ck1,ck2],⟨some ⟨ge+1,0,none⟩,1,1,none,0,0,ckP1⟩,some ⟨ge+3,0,none⟩,1,1,[ckR (ge+2)]⟩:=⟨_,rfl⟩
 have F7:FcOk w7 f:=by rw [hf];exact ⟨S4.below b57,⟨V5.below b67,SSrc.empty _,(show (1:Nat) <= 17592186044415 by decide)⟩,R7⟩
 obtain ⟨w8,hst,X8,B8,-⟩:=madeFx w7 f (ge+4) z7
 have hst2:(stFa (.pointer (some ⟨ge+4,0,none⟩)) (.agg #[.slice (some ⟨ge,0,none⟩) 2 2,.slice (some ⟨ge+1,0,none⟩) 1 1,.slice none 0 0,.slice (some ⟨ge+3,0,none⟩) 1 1])).run Tryz.prog (w7.alloc (.cells (FaC (mkF fz0)) 29)) = .ok () w8:=by rw [hf] at hst;exact hst
 have lf:=zT X8;have HX8:=hide X8;have HB8:=hide ((b4.trans (b57.mono b4.size)).trans (B8.mono (Nat.le_trans b4.size b57.size)));have HU:Hid (SwB 1 w8 f):=⟨F7.below B8,by rw [hf];exact ⟨Nat.le_refl _,fun h=>(by cases h)⟩,by rw [hf];exact (show (1:Nat) <= 1 * 209716 by decide),by rw [hf];exact (show (2:Nat) <= 1 * 1048576 by decide),by rw [hf];intro r hr;obtain rfl:=List.mem_singleton.1 hr;exact (show (0:Nat) <= 1048576 by decide)⟩;have HP:Hid (f.es=[ck1,ck2]/\f.p.P=ckP1/\f.rs=[ckR (ge+2)]/\FormF f):=⟨by rw [hf],by rw [hf],by rw [hf],zio (ge+2) (by rw [hf]) (by rw [hf]) (by rw [hf]) (by rw [hf]) (by rw [hf])⟩;have HF8:Hid (f=⟨some ⟨ge,0,none⟩,2,2,[ck1,ck2],⟨some ⟨ge+1,0,none⟩,1,1,none,0,0,ckP1⟩,some ⟨ge+3,0,none⟩,1,1,[ckR (ge+2)]⟩):=hf;clear S4 b4 V5 b5 V6 b6 R7 b7 b57 b67 F7 X8 B8 hst hf;go_enter Tryz.func6,Tryz.ntmps6
 go_wp2_with fail;clear lb lc hw4 hw5 hw6 hw7 z4 z5 z6 z7 hst2 lf hge;refine (jT 1 (by decide) f _ HU.out).mono ?_;rintro e v3 ⟨s,er,rfl,Ss,b3,hs⟩
 obtain ⟨rfl,hS⟩:er=0/\StD f s:=by
  rcases hs with ⟨h,-⟩ | ⟨-,h,k⟩
  ·exact absurd HP.out.2.2.2 h
  ·exact ⟨h,k⟩
 obtain ⟨gs,hgs⟩:∃ g,v3.heap.size=g:=⟨_,rfl⟩;obtain ⟨w3,hst,X3,B3,-⟩:=madeSx v3 s gs hgs;have b33:=b3.trans (B3.mono b3.size);have HB3:=wTr HB8 b33;have HX3:=hide (HX8.out.below b33);have HXs:=hide X3;have HSs:=hide (Ss.below B3);have HDs:=hide hS;have HU3:=hide (HU.out.below b33);clear Ss b3 hs hS X3 B3 b33;obtain ⟨g,hg⟩:∃ g,ge+4=g:=⟨_,rfl⟩;obtain ⟨gr,hgr⟩:∃ g,ge+3=g:=⟨_,rfl⟩;obtain ⟨gq,hgq⟩:∃ g,ge+2=g:=⟨_,rfl⟩;rw [hgr,hgq] at HF8;rw [hg] at HX3;rw [hgq] at HP
 have HF3:Hid (SwB 1 w3 ⟨some ⟨ge,0,none⟩,2,2,[ck1,ck2],⟨some ⟨ge+1,0,none⟩,1,1,none,0,0,ckP1⟩,some ⟨gr,0,none⟩,1,1,[ckR gq]⟩):=by have:=HU3.out;rw [HF8.out] at this;exact this
 have HSt:Hid (∀ W,Below w3.heap.size w3 W -> W.cell? ⟨g,0,none⟩=some (.slice (some ⟨ge,0,none⟩) 2 2)/\W.cell? ⟨g,3,none⟩=some (.slice (some ⟨gr,0,none⟩) 1 1)):=fun W h=>by
  have h1:=(HX3.out.below h).cs;rw [HF8.out] at h1;exact h1
 rw [hg];clear hg hgr hgq HX8 HU;go_upto_region 3 with fail;clear hst hgs
 go_cut [4] from 6 to 64 (fun u wx=>∃ (gw:Nat) (S:Fc),u = .pointer (some ⟨gw,0,none⟩)/\Hid (SwBox wx gw (mkF S)/\SwB 1 wx S/\Below w3.heap.size w3 wx)/\Hid (S.es=[ck2]/\S.p.P=ckP2/\S.rs=[ckR gq]))
 case first =>
  obtain ⟨v0,hv0⟩:∃ v,w3.drew=v:=⟨_,rfl⟩
  have H0:Hid (Below w3.heap.size w3 v0):=by rw [<- hv0];exact zf w3
  refine wp_region_held_drew (S:=fun W=>W.cell? ⟨g,0,none⟩=some (.slice (some ⟨ge,0,none⟩) 2 2)/\W.cell? ⟨g,3,none⟩=some (.slice (some ⟨gr,0,none⟩) 1 1)) (by kernel_rfl) (HSt.out _ (zf w3)) (fun hHeld=>?_);rw [hv0] at hHeld ⊢;clear hv0;refine wU 0 ?_;refine wU 1 ?_;refine wU 2 ?_;refine wU 5 ?_;refine wU 6 ?_;refine wpAnyH_ready (rs:=[3,8]) (by kernel_rfl) (by simp) ?_;refine AllReadyH.cons rfl (fun K hK=>?_) (AllReadyH.cons rfl (fun K hK=>?_) AllReadyH.nil)
  ·have bI:=ze v0 (.cells #[.int .i64 1,.int .i64 1] 3);obtain ⟨gi,hgi⟩:∃ g,v0.heap.size=g:=⟨_,rfl⟩;have VI:=kC v0 3 #[.int .i64 1,.int .i64 1] [1,1] rfl gi 2 hgi rfl;obtain ⟨v1,hv1⟩:∃ v,v0.alloc (.cells #[.int .i64 1,.int .i64 1] 3)=v:=⟨_,rfl⟩;go_simp;rw [hv1] at bI VI;have H1:Hid (Below w3.heap.size w3 v1):=H0.out.trans (bI.mono H0.out.size);have VS1:=hide VI
   try rw [hv1]
   try rw [hgi]
   refine hK.out _ _ (HSt.out _ H1.out) (fun hHeld=>?_);clear hK K;clear bI VI hv1 hgi;refine wU 4 ?_;refine wU 7 ?_;refine wpAnyH_ready (rs:=[8]) (by kernel_rfl) (by simp) (.cons rfl (fun K hK=>?_) .nil);have bW:=ze v1 (.cells (FaC (mkF fz0)) 31);obtain ⟨gw,hgw⟩:∃ g,v1.heap.size=g:=⟨_,rfl⟩;have XB:=qk v1 (mkF fz0)
   have HGw:Hid (w3.heap.size <= gw):=by rw [<- hgw];exact H1.out.size
   obtain ⟨v2,hv2⟩:∃ v,v1.alloc (.cells (FaC (mkF fz0)) 31)=v:=⟨_,rfl⟩;go_simp;rw [hv2] at bW XB;rw [hgw] at XB;have H2:Hid (Below w3.heap.size w3 v2):=H1.out.trans (bW.mono H1.out.size);have XW:=hide XB;have VS2:Hid (V.Src v2 (some ⟨gi,0,none⟩) 2 2 [1,1]):=VS1.out.below bW
   try rw [hv2]
   try rw [hgw]
   refine hK.out _ _ (HSt.out _ H2.out) (fun hHeld=>?_);clear hK K;clear bW XB hv2 hgw;obtain ⟨S,hS⟩:∃ S:Fc,S=⟨some ⟨ge,4,none⟩,1,1,[ck2],⟨some ⟨gi,0,none⟩,2,2,none,0,0,ckP2⟩,some ⟨gr,0,none⟩,1,1,[ckR gq]⟩:=⟨_,rfl⟩;have st:=xj (m':=mkF S) XW.out
   have HJ:Hid (SwBox (v2.setRow gw (FaC (mkF S))) gw (mkF S)/\SwB 1 (v2.setRow gw (FaC (mkF S))) S/\Below w3.heap.size w3 (v2.setRow gw (FaC (mkF S)))):=by
    have h0:=HF3.out.below H2.out;have h1:K.ESrc v2 (some ⟨ge,4,none⟩) 1 1 [ck2]:=zfp h0.ok.es
    have h2:FcOk v2 S:=by rw [hS];exact ⟨h1,⟨VS2.out,SSrc.empty _,(show (2:Nat) <= 17592186044415 by decide)⟩,h0.ok.rs⟩
    refine ⟨XW.out.setRow,(show SwB 1 v2 S from ⟨h2,?_,?_,?_,?_⟩).offWc XW.out _,zh H2.out HGw.out⟩
    ·rw [hS];exact ⟨Nat.le_refl _,fun h=>(by cases h)⟩
    ·rw [hS];exact (show (1:Nat) <= 1 * 209716 by decide)
    ·rw [hS];exact (show (1:Nat) <= 1 * 1048576 by decide)
    ·rw [hS];intro r hr;obtain rfl:=List.mem_singleton.1 hr;exact (show (0:Nat) <= 1048576 by decide)
   have HSp:Hid (S.es=[ck2]/\S.p.P=ckP2/\S.rs=[ckR gq]):=by rw [hS];exact ⟨rfl,rfl,rfl⟩
   replace st:(stSw (.pointer (some ⟨gw,0,none⟩)) (.agg #[.slice (some ⟨ge,4,none⟩) 1 1,.slice (some ⟨gi,0,none⟩) 2 2,.slice none 0 0,.slice (some ⟨gr,0,none⟩) 1 1])).run Tryz.prog v2 = .ok () (v2.setRow gw (FaC (mkF S))):=by rw [hS] at st ⊢;exact st
   clear hS;refine wpAnyH_ready (rs:=[9]) (by kernel_rfl) (by simp) (.cons rfl (fun K hK=>?_) .nil);go_simp;refine hK.out _ _ (HSt.out _ HJ.out.2.2) (fun hHeld=>?_);clear hK K;clear st;refine wpAnyH_done (by kernel_rfl) ?_ _;clear hHeld;go_wp2_with fail;go_meet;exact ⟨gw,S,rfl,HJ,HSp⟩
  ·have bW:=ze v0 (.cells (FaC (mkF fz0)) 31);obtain ⟨gw,hgw⟩:∃ g,v0.heap.size=g:=⟨_,rfl⟩;have XB:=qk v0 (mkF fz0)
   have HGw:Hid (w3.heap.size <= gw):=by rw [<- hgw];exact H0.out.size
   obtain ⟨v1,hv1⟩:∃ v,v0.alloc (.cells (FaC (mkF fz0)) 31)=v:=⟨_,rfl⟩;go_simp;rw [hv1] at bW XB;rw [hgw] at XB;have H1:Hid (Below w3.heap.size w3 v1):=H0.out.trans (bW.mono H0.out.size);have XW0:=hide XB
   try rw [hv1]
   try rw [hgw]
   refine hK.out _ _ (HSt.out _ H1.out) (fun hHeld=>?_);clear hK K;clear bW XB hv1 hgw;refine wpAnyH_ready (rs:=[3]) (by kernel_rfl) (by simp) (.cons rfl (fun K hK=>?_) .nil);have bI:=ze v1 (.cells #[.int .i64 1,.int .i64 1] 3);obtain ⟨gi,hgi⟩:∃ g,v1.heap.size=g:=⟨_,rfl⟩;have VI:=kC v1 3 #[.int .i64 1,.int .i64 1] [1,1] rfl gi 2 hgi rfl;obtain ⟨v2,hv2⟩:∃ v,v1.alloc (.cells #[.int .i64 1,.int .i64 1] 3)=v:=⟨_,rfl⟩;go_simp;rw [hv2] at bI VI;have H2:Hid (Below w3.heap.size w3 v2):=H1.out.trans (bI.mono H1.out.size);have VS2:=hide VI;have XW:Hid (SwBox v2 gw (mkF fz0)):=XW0.out.below bI
   try rw [hv2]
   try rw [hgi]
   refine hK.out _ _ (HSt.out _ H2.out) (fun hHeld=>?_);clear hK K;clear bI VI hv2 hgi;refine wU 4 ?_;refine wU 7 ?_;obtain ⟨S,hS⟩:∃ S:Fc,S=⟨some ⟨ge,4,none⟩,1,1,[ck2],⟨some ⟨gi,0,none⟩,2,2,none,0,0,ckP2⟩,some ⟨gr,0,none⟩,1,1,[ckR gq]⟩:=⟨_,rfl⟩;have st:=xj (m':=mkF S) XW.out
   have HJ:Hid (SwBox (v2.setRow gw (FaC (mkF S))) gw (mkF S)/\SwB 1 (v2.setRow gw (FaC (mkF S))) S/\Below w3.heap.size w3 (v2.setRow gw (FaC (mkF S)))):=by
    have h0:=HF3.out.below H2.out;have h1:K.ESrc v2 (some ⟨ge,4,none⟩) 1 1 [ck2]:=zfp h0.ok.es
    have h2:FcOk v2 S:=by rw [hS];exact ⟨h1,⟨VS2.out,SSrc.empty _,(show (2:Nat) <= 17592186044415 by decide)⟩,h0.ok.rs⟩
    refine ⟨XW.out.setRow,(show SwB 1 v2 S from ⟨h2,?_,?_,?_,?_⟩).offWc XW.out _,zh H2.out HGw.out⟩
    ·rw [hS];exact ⟨Nat.le_refl _,fun h=>(by cases h)⟩
    ·rw [hS];exact (show (1:Nat) <= 1 * 209716 by decide)
    ·rw [hS];exact (show (1:Nat) <= 1 * 1048576 by decide)
    ·rw [hS];intro r hr;obtain rfl:=List.mem_singleton.1 hr;exact (show (0:Nat) <= 1048576 by decide)
   have HSp:Hid (S.es=[ck2]/\S.p.P=ckP2/\S.rs=[ckR gq]):=by rw [hS];exact ⟨rfl,rfl,rfl⟩
   replace st:(stSw (.pointer (some ⟨gw,0,none⟩)) (.agg #[.slice (some ⟨ge,4,none⟩) 1 1,.slice (some ⟨gi,0,none⟩) 2 2,.slice none 0 0,.slice (some ⟨gr,0,none⟩) 1 1])).run Tryz.prog v2 = .ok () (v2.setRow gw (FaC (mkF S))):=by rw [hS] at st ⊢;exact st
   clear hS;refine wpAnyH_ready (rs:=[9]) (by kernel_rfl) (by simp) (.cons rfl (fun K hK=>?_) .nil);go_simp;refine hK.out _ _ (HSt.out _ HJ.out.2.2) (fun hHeld=>?_);clear hK K;clear st;refine wpAnyH_done (by kernel_rfl) ?_ _;clear hHeld;go_wp2_with fail;go_meet;exact ⟨gw,S,rfl,HJ,HSp⟩
 case rest =>
  obtain ⟨gw,S,rfl,HJ,HSp⟩:=hcut
  rename World=>wa
  have HDS:Hid (StD f S):=zg7 gq HP.out.1 HP.out.2.1 HP.out.2.2.1 HSp.out;have HFS:Hid (FormS S):=zbK HJ.out.2.1.ok HU3.out.ok.es.1 HU3.out.ok.rs.len HP.out.2.2.2 HDS.out;have l0:=zR (HXs.out.below HJ.out.2.2);have l1:=zR HJ.out.1;go_wp2_with fail;clear l0 l1;refine (kG s S _ (HSs.out.below HJ.out.2.2).ok HJ.out.2.1.ok (kl HDs.out HDS.out)).mono ?_;rintro e wb ⟨rfl,bb⟩;have HBb:=hide (HJ.out.2.2.trans (bb.mono HJ.out.2.2.size));have HXw:=hide (HJ.out.1.below bb);have HSw:=hide (HJ.out.2.1.below bb);clear bb;have l0:=zT (HX3.out.below HBb.out);have l1:=zR HXw.out;go_wp2_with fail;clear l0 l1;refine (zd0 1 1 (by decide) f S _ (HU3.out.below HBb.out) HSw.out HP.out.2.2.2 HFS.out HDS.out).mono ?_;rintro e wc ⟨rfl,bc⟩;have HBc:=wTr HBb bc;have l1:=zR (HXw.out.below bc);have HSc:=hide (HSw.out.below bc)
  clear bc;go_wp2_with fail;clear l1;refine (zcj 1 (by decide) S _ HSc.out HFS.out).mono ?_;rintro e vd ⟨h,rfl,Fh,bd,hx⟩;obtain ⟨gh,hgh⟩:∃ g,vd.heap.size=g:=⟨_,rfl⟩;obtain ⟨wd,hst,Xd,Bd,-⟩:=madeFx vd h gh hgh;have bdd:=bd.trans (Bd.mono bd.size);have HBd:=wTr HBc bdd;have HFh:=hide (Fh.below Bd);have HXd:=hide Xd
  have han:h.an=1:=by rw [<- Fh.es.1,hx.1,HSp.out.1];rfl
  have HPh:Hid (h.p.P=ckP1):=zin HSp.out.1 HSp.out.2.1 hx;have c0:=Xd.cs.1;rw [han] at c0;have lp:=zj HXd.out.past;have zd:wd.heap.size=wd.heap.size:=rfl;have VI:=kC wd 3 #[.int .i64 1] [1] rfl wd.heap.size 1 rfl rfl;have bI:=ze wd (.cells #[.int .i64 1] 3);obtain ⟨gi,hgi⟩:∃ g,wd.heap.size=g:=⟨_,rfl⟩;rw [hgi] at VI;obtain ⟨wi,hwi⟩:∃ v,wd.alloc (.cells #[.int .i64 1] 3)=v:=⟨_,rfl⟩;rw [hwi] at VI bI;have HQ:Hid (PSrc wi ⟨some ⟨gi,0,none⟩,1,1,none,0,0,ckP1⟩):=⟨VI,SSrc.empty _,(show (1:Nat) <= 17592186044415 by decide)⟩;have HFi:=hide (HFh.out.below bI);have HBi:=wTr HBd bI;clear Fh bd hx Xd Bd bdd VI bI zd;go_wp2_with fail;clear c0 lp hst hgh hwi hgi;refine (xe h.p ⟨some ⟨gi,0,none⟩,1,1,none,0,0,ckP1⟩ _ HFi.out.p HQ.out).mono ?_;rintro e we ⟨x,rfl,hx,be⟩;obtain rfl:x=true:=hx.2 HPh.out
  have HE:=hide (HB3.out.trans ((HBi.out.trans (be.mono HBi.out.size)).mono HB3.out.size));clear hx be;go_wp2_with fail;go_ret;exact ⟨rfl,HE.out⟩
end
section
open Go.RowKit
attribute [local go_sem ↓] zr zq zL zK qh qg K.zy K.zx qd zZ
attribute [local go_sem] zi zk zl zp zv zF zQ zW qp K.zJ K.zu K.zH K.xz zI zU qi
theorem zgH (R:List Rc) (e:K.En):(R.filter fun r=>covB r e).length=0↔freeB R e=true:=by
 unfold freeB;rw [Bool.not_eq_true',List.length_eq_zero_iff,List.filter_eq_nil_iff,List.any_eq_false]
theorem zd1 (ao:Option Addr) (n c:Nat) (R:List Rc) (e:K.En) (w:World) (hR:RcS w ao n c R):Calls Tryz.prog 80 #[.slice ao n c,K.EV e] w fun x w'=>∃ m:Nat,x = .returned (.int .i64 (m:Int))/\(m=0↔freeB R e=true)/\m <= n/\Below w.heap.size w w':=by
 have b1:=ze w (.cells (K.EC e) 50);have X1:=K.qe w 50 e;obtain ⟨wk,hwk⟩:∃ w1,w.alloc (.cells (K.EC e) 50)=w1:=⟨_,rfl⟩;rw [hwk] at b1 X1;obtain ⟨G,hG0⟩:∃ G,w.heap.size=G:=⟨_,rfl⟩;rw [hG0] at X1;have HX:=hide X1;have HBK:=hide b1;have HR:=hide (hR.below b1);have HLr:Hid (R.length=n):=HR.out.len;have hnb:=HR.out.big;clear hR b1 X1;go_enter Tryz.func80,Tryz.ntmps80;go_wp2_with fail;clear hwk hG0;go_loopw [5,6] (fun v i wr=>∃ k:Nat,k <= n/\v = .int .i64 ((((R.take k).filter fun r=>covB r e).length:Nat):Int)/\i = .int .i64 (k:Int)/\Hid (Below wk.heap.size wk wr)) (fun _ i _=>n - (intOf i).toNat)
 case atStart=>exact ⟨0,Nat.zero_le _,rfl,rfl,Below.refl _ _⟩
 case round =>
  obtain ⟨k,hk,rfl,rfl,HI⟩:=hrel
  rename World=>wr
  by_cases hlt:k < n
  ·have hlti:(k:Int) < (n:Int):=by omega
   obtain ⟨bd,hbo,-⟩:=HR.out.at k hlt;obtain ⟨r,Hr⟩:∃ r,Hid (R.getD k rc0=r):=⟨_,rfl⟩;have HTr:=hide (takeR3 R k (by rw [HLr.out];exact hlt));rw [Hr.out] at HTr
   have HRk:Hid (RcOk wk r):=by rw [<- Hr.out];exact HR.out.okAt k hlt
   have Hlt:=hide hlt;subst hbo
   have HS5:Hid (∀ W,Below wk.heap.size wk W -> (ldRe (.pointer (some (bd.add (k * 3))))).run Tryz.prog W = .ok (.agg (ReC (mkR r))) W/\(K.ld28 (.pointer (some ⟨G,0,none⟩))).run Tryz.prog W = .ok (K.EV e) W):=fun W hW=>by
    obtain ⟨bd',eb,B⟩:=(HR.out.below hW).at k Hlt.out;obtain rfl:=Option.some.inj eb;rw [Hr.out] at B;exact ⟨zz B,K.zN (HX.out.below hW).at⟩
   obtain ⟨q,hq⟩:∃ q,((R.take k).filter fun r=>covB r e).length=q:=⟨_,rfl⟩;have Hq:=hide hq
   have hqk:q <= k:=by rw [<- hq];exact Nat.le_trans (List.length_filter_le _ _) (by rw [List.length_take];omega)
   have Hqk:=hide hqk;rw [hq];clear hlt hk hq hqk;go_upto_region 5 with fail;refine wp_region_held_drew (S:=fun W=>(ldRe (.pointer (some (bd.add (k * 3))))).run Tryz.prog W = .ok (.agg (ReC (mkR r))) W/\(K.ld28 (.pointer (some ⟨G,0,none⟩))).run Tryz.prog W = .ok (K.EV e) W) (by kernel_rfl) (HS5.out _ (HI.out.trans ((zf wr).mono HI.out.size))) (fun hHeld=>?_);refine wU 0 ?_;refine wU 1 ?_;refine wU 2 ?_;refine wU 3 ?_;refine wU 4 ?_;refine wpAnyH_ready (rs:=[5]) (by kernel_rfl) (by simp) (.cons rfl (fun K hK=>?_) .nil);go_simp;go_wp2_with fail;refine (kO r e _ (HRk.out.below (HI.out.trans ((zf wr).mono HI.out.size)))).mono ?_;rintro x w7 ⟨rfl,b7⟩;have HI7:=hide ((HI.out.trans ((zf wr).mono HI.out.size)).trans (b7.mono (HI.out.trans ((zf wr).mono HI.out.size)).size));clear b7;refine hK.out _ _ (HS5.out _ HI7.out) (fun hHeld=>?_)
   clear hK K;refine wpAnyH_done (by kernel_rfl) ?_ _;clear hHeld
   have hlti:(k:Int) < (n:Int):=by have:=Hlt.out;omega
   have hqk:=Hqk.out;obtain ⟨b,hb⟩:∃ b,covB r e=b:=⟨_,rfl⟩
   have HN:Hid (((R.take (k+1)).filter fun r=>covB r e).length=q+(if b then 1 else 0)):=by
    show _=_
    rw [HTr.out,List.filter_append,List.length_append,Hq.out,List.filter_cons,hb]
    cases b <;> rfl
   rw [hb];clear hb
   cases b with
   | true =>
    go_wp2_with fail;go_roundw
    case rel=>exact ⟨k+1,Hlt.out,by rw [HN.out];simp,by simp,HI7.out⟩
    case measure=>simp [intOf];have:=Hlt.out;omega
   | false =>
    go_wp2_with fail;go_roundw
    case rel=>exact ⟨k+1,Hlt.out,by rw [HN.out];simp,by simp,HI7.out⟩
    case measure=>simp [intOf];have:=Hlt.out;omega
  ·have hlti:¬ (k:Int) < (n:Int):=by omega
   have ht:R.take k=R:=List.take_of_length_le (by rw [HLr.out];omega);rw [ht];have HE:Hid ((((R.filter fun r=>covB r e).length=0↔freeB R e=true)/\(R.filter fun r=>covB r e).length <= n)/\Below w.heap.size w wr):=⟨⟨zgH R e,by rw [<- HLr.out];exact List.length_filter_le _ _⟩,HBK.out.trans (HI.out.mono HBK.out.size)⟩;clear HI ht;go_wp2_with fail;go_ret;exact ⟨_,rfl,HE.out.1.1,HE.out.1.2,HE.out.2⟩
theorem zgF {L:List Rc} {k:Nat} (h:k < L.length):L.getD k rc0∈L:=by
 rw [List.getD_eq_getElem?_getD,List.getElem?_eq_getElem h];exact List.getElem_mem h
theorem vG (s:Fc) (w:World) (hF:FcOk w s):Calls Tryz.prog 40 #[FaV (mkF s)] w fun e w'=>GivB w w' e (FormS s):=by
 have b1:=ze w (.cells (FaC (mkF s)) 31);have X1:=qk w (mkF s);obtain ⟨wk,hwk⟩:∃ w1,w.alloc (.cells (FaC (mkF s)) 31)=w1:=⟨_,rfl⟩;rw [hwk] at b1 X1;obtain ⟨G,hG0⟩:∃ G,w.heap.size=G:=⟨_,rfl⟩;rw [hG0] at X1;have HX:=hide X1;have HBK:=hide b1;have HF:=hide (hF.below b1);clear hF b1 X1;have c0:=HX.out.cs.1;go_enter Tryz.func40,Tryz.ntmps40;go_wp2_with fail;clear hwk hG0 c0;refine (K.kM s.ao s.an s.ac s.es _ HF.out.es).mono ?_;rintro e w2 ⟨rfl,b2⟩;have HB2:=hide b2;clear b2
 cases hc:K.okN s.es s.an with
 | false =>
  have HN:Hid (¬ FormS s):=fun h=>by have h1:=h.1.1;rw [hc] at h1;cases h1
  clear hc;go_wp2_with fail;go_ret;exact ⟨_,rfl,BIf.no HN.out,HBK.out.trans (HB2.out.mono HBK.out.size)⟩
 | true =>
 have HC:=hide hc;have lp:=zj (HX.out.below HB2.out).past;clear hc;go_wp2_with fail;clear lp;refine (xk s.p _ (HF.out.below HB2.out).p).mono ?_;rintro e w3 ⟨b,rfl,hb,b3⟩;have HB3:=wTr HB2 b3;clear b3
 cases b with
 | false =>
  have HN:Hid (¬ FormS s):=fun h=>(by have:=hb.out.2 h.1.2.1;cases this);clear hb;go_wp2_with fail;go_ret;exact ⟨_,rfl,BIf.no HN.out,HBK.out.trans (HB3.out.mono HBK.out.size)⟩
 | true =>
 have HI:Hid (InForm s.p.P):=hb.out.1 rfl;have c3:=(HX.out.below HB3.out).cs.2;clear hb;go_wp2_with fail;clear c3;refine (kP s.ro s.rn s.rc s.rs _ (HF.out.below HB3.out).rs).mono ?_;rintro e w4 ⟨z,rfl,hz,b4⟩;have HB4:=wTr HB3 b4;clear b4;rcases hz with ⟨rfl,hz⟩ | ⟨rfl,hz⟩;rotate_left
 ·have HN:Hid (¬ FormS s):=fun h=>hz h.1.2.2;clear hz;go_wp2_with fail;go_ret;exact ⟨_,rfl,BIf.no HN.out,HBK.out.trans (HB4.out.mono HBK.out.size)⟩
 have HFf:Hid (K.okN s.es s.an=true/\InForm s.p.P/\OkR s.rs s.rn):=⟨HC.out,HI.out,hz⟩;clear hz;obtain ⟨n,hn⟩:∃ n,s.an=n:=⟨_,rfl⟩;obtain ⟨ao,hao⟩:∃ a,s.ao=a:=⟨_,rfl⟩;obtain ⟨ac,hac⟩:∃ a,s.ac=a:=⟨_,rfl⟩;obtain ⟨m,hm⟩:∃ n,s.rn=n:=⟨_,rfl⟩
 have HS:Hid (K.ESrc wk ao n ac s.es):=by rw [<- hn,<- hao,<- hac];exact HF.out.es
 have HR:Hid (RcS wk s.ro m s.rc s.rs):=by rw [<- hm];exact HF.out.rs
 have HCs:Hid (∀ W,Below wk.heap.size wk W -> W.cell? ⟨G,0,none⟩=some (.slice ao n ac)):=fun W h=>by rw [<- hn,<- hao,<- hac];exact (HX.out.below h).cs.1
 have HC3:Hid (∀ W,Below wk.heap.size wk W -> W.cell? ⟨G,3,none⟩=some (.slice s.ro m s.rc)):=fun W h=>by rw [<- hm];exact (HX.out.below h).cs.2
 have HC3':Hid (∀ W,Below wk.heap.size wk W -> W.cell? ⟨G,3,none⟩=some (.slice s.ro s.rn s.rc)):=fun W h=>(HX.out.below h).cs.2;have HLn:Hid (s.es.length=n):=HS.out.1;have HLr:Hid (s.rs.length=m):=HR.out.len;have hnb:=HS.out.2.2.2.2;have hmb:=HR.out.big;have Hnb:=hide hnb;have Hmb:=hide hmb;clear hn hao hac hm;go_wp2_with fail;go_loopw [3] (fun i wr=>∃ k:Nat,k <= n/\i = .int .i64 (k:Int)/\Hid (Below wk.heap.size wk wr)/\Hid (∀ x∈s.es.take k,inB s.p.P x=true/\freeB s.rs x=true)) (fun i _=>n - (intOf i).toNat)
 case atStart=>exact ⟨0,Nat.zero_le _,rfl,HB4.out,fun x hx=>by simp at hx⟩
 case round =>
  obtain ⟨k,hk,rfl,HW,HA⟩:=hrel
  rename World=>wr
  have c0:=HCs.out _ HW.out;by_cases hlt:k < n
  ·have hlti:(k:Int) < (n:Int):=by omega
   obtain ⟨ad,hao,-⟩:=HS.out.at k hlt;subst hao;obtain ⟨e,He⟩:∃ e,Hid (s.es.getD k K.en0=e):=⟨_,rfl⟩;have HT:=hide (takeE3 s.es k (by rw [HLn.out];exact hlt));rw [He.out] at HT;have Hlt:=hide hlt
   have HS6:Hid (∀ W,Below wk.heap.size wk W -> ((W.cell? ⟨G,0,none⟩=some (.slice (some ad) n ac)/\W.cell? ⟨G,3,none⟩=some (.slice s.ro s.rn s.rc))/\(ldP (.pointer (some ⟨G,1,none⟩))).run Tryz.prog W = .ok (PV s.p) W)/\(ldD (.pointer (some (ad.add (k * 4))))).run Tryz.prog W = .ok (RV (dotOf e)) W/\(K.ld28 (.pointer (some (ad.add (k * 4))))).run Tryz.prog W = .ok (K.EV e) W):=fun W hW=>by
    obtain ⟨ad',he',A⟩:=(HS.out.below hW).at k Hlt.out;obtain rfl:=Option.some.inj he';rw [He.out] at A;exact ⟨⟨⟨HCs.out _ hW,HC3'.out _ hW⟩,zj (HX.out.below hW).past⟩,qm (r:=dotOf e) ⟨A.c0,A.c1⟩,K.zN A⟩
   clear hlt hk;go_upto_region 6 with fail;clear c0;obtain ⟨v0,hv0⟩:∃ v,wr.drew=v:=⟨_,rfl⟩
   have H0:Hid (Below wk.heap.size wk v0):=by rw [<- hv0];exact HW.out.trans ((zf wr).mono HW.out.size)
   refine wp_region_held_drew (S:=fun W=>((W.cell? ⟨G,0,none⟩=some (.slice (some ad) n ac)/\W.cell? ⟨G,3,none⟩=some (.slice s.ro s.rn s.rc))/\(ldP (.pointer (some ⟨G,1,none⟩))).run Tryz.prog W = .ok (PV s.p) W)/\(ldD (.pointer (some (ad.add (k * 4))))).run Tryz.prog W = .ok (RV (dotOf e)) W/\(K.ld28 (.pointer (some (ad.add (k * 4))))).run Tryz.prog W = .ok (K.EV e) W) (by kernel_rfl) (HS6.out _ (HW.out.trans ((zf wr).mono HW.out.size))) (fun hHeld=>?_);rw [hv0] at hHeld ⊢;clear hv0;refine wU 0 ?_;refine wU 1 ?_;refine wU 2 ?_;refine wU 3 ?_;refine wU 4 ?_;refine wU 5 ?_;refine wU 6 ?_;refine wU 7 ?_;refine wpAnyH_ready (rs:=[8]) (by kernel_rfl) (by simp) (.cons rfl (fun K hK=>?_) .nil);go_simp;go_wp2_with fail;refine (vH s.p (dotOf e) _ (HF.out.p.below H0.out)).mono ?_;rintro x w5 ⟨y,rfl,hy,b5⟩
   obtain rfl:y=inB s.p.P e:=by rw [Bool.eq_iff_iff,qs];exact hy.out
   have H5:=wTr H0 b5;clear hy b5;refine hK.out _ _ (HS6.out _ H5.out) (fun hHeld=>?_);clear hK K;obtain ⟨b,hb⟩:∃ b,inB s.p.P e=b:=⟨_,rfl⟩;have Hb:=hide hb;rw [hb];clear hb
   cases b with
   | false =>
    refine wU 9 ?_;refine wU 10 ?_;refine wV 11 ?_;refine wV 12 ?_;refine wV 13 ?_;refine wV 14 ?_;refine wV 15 ?_;refine wV 16 ?_;refine wV 17 ?_;refine wV 18 ?_;refine wV 19 ?_;refine wU 20 ?_;refine wpAnyH_done (by kernel_rfl) ?_ _;clear hHeld;have HN:Hid (¬ FormS s):=fun h=>(by have:=h.2.1 e (by rw [<- He.out];exact zao (by rw [HLn.out];exact Hlt.out));rw [Hb.out] at this;cases this);go_wp2_with fail;go_ret;exact ⟨_,rfl,BIf.no HN.out,HBK.out.trans (H5.out.mono HBK.out.size)⟩
   | true =>
    refine wU 9 ?_;refine wU 10 ?_;refine wU 11 ?_;refine wU 12 ?_;refine wU 13 ?_;refine wU 14 ?_;refine wU 15 ?_;refine wU 16 ?_;refine wU 17 ?_;refine wpAnyH_ready (rs:=[18]) (by kernel_rfl) (by simp) (.cons rfl (fun K hK=>?_) .nil);go_simp;go_wp2_with fail;refine (zd1 s.ro s.rn s.rc s.rs e _ (HF.out.rs.below H5.out)).mono ?_;rintro x w6 ⟨m,rfl,hm,hle,b6⟩;have H6:=wTr H5 b6;have Hm:=hide hm;have Hle:=hide hle;clear b6 hm hle;refine hK.out _ _ (HS6.out _ H6.out) (fun hHeld=>?_);clear hK K;by_cases h0:m=0
    ·subst h0;refine wU 19 ?_;refine wU 20 ?_;refine wpAnyH_done (by kernel_rfl) ?_ _;clear hHeld
     have HOk:Hid (∀ x∈s.es.take (k+1),inB s.p.P x=true/\freeB s.rs x=true):=fun x hx=>by
      rw [HT.out,List.mem_append] at hx;rcases hx with hx | hx
      ·exact HA.out x hx
      ·obtain rfl:=List.mem_singleton.1 hx;exact ⟨Hb.out,Hm.out.1 rfl⟩
     have hlti:(k:Int) < (n:Int):=by have:=Hlt.out;omega
     go_wp2_with fail;go_roundw
     case rel=>exact ⟨k+1,Hlt.out,by simp,H6.out,HOk.out⟩
     case measure=>simp [intOf];have:=Hlt.out;omega
    ·have hm1:(0:Int) < (m:Int):=by omega
     refine wU 19 ?_;refine wU 20 ?_;refine wpAnyH_done (by kernel_rfl) ?_ _;clear hHeld;have HN:Hid (¬ FormS s):=fun h=>h0 (Hm.out.2 (h.2.2.2 e (by rw [<- He.out];exact zao (by rw [HLn.out];exact Hlt.out))));clear h0;go_wp2_with fail;go_ret;exact ⟨_,rfl,BIf.no HN.out,HBK.out.trans (H6.out.mono HBK.out.size)⟩
  ·have hlti:¬ (k:Int) < (n:Int):=by omega
   have HAll:Hid (∀ x∈s.es,inB s.p.P x=true/\freeB s.rs x=true):=fun x hx=>HA.out x (by rw [List.take_of_length_le (by rw [HLn.out];omega)];exact hx);have HW0:=hide HW.out;clear HA HW;go_wp2_with fail;clear c0;go_loopw [4] (fun i wq=>∃ k:Nat,k <= m/\i = .int .i64 (k:Int)/\Hid (Below wk.heap.size wk wq)/\Hid (∀ x∈s.rs.take k,¬ wiP x.p.P s.p.P)) (fun i _=>m - (intOf i).toNat)
   case atStart=>exact ⟨0,Nat.zero_le _,rfl,HW0.out,fun x hx=>by simp at hx⟩
   case round =>
    obtain ⟨k,hk,rfl,HW,HA⟩:=hrel
    rename World=>wq
    have c3:=HC3.out _ HW.out;by_cases hlj:k < m
    ·have hlji:(k:Int) < (m:Int):=by omega
     obtain ⟨bd0,hbo,-⟩:=HR.out.at k hlj
     obtain ⟨b1,o1,rfl⟩:∃ b1 o1,bd0=⟨b1,o1,none⟩:=by
      have h:=HR.out;rw [hbo] at h;exact h.spot (by omega)
     obtain ⟨r,Hr⟩:∃ r,Hid (s.rs.getD k rc0=r):=⟨_,rfl⟩;have HTr:=hide (takeR3 s.rs k (by rw [HLr.out];exact hlj));rw [Hr.out] at HTr
     have HRk:Hid (RcOk wk r):=by rw [<- Hr.out];exact HR.out.okAt k hlj
     have Hlj:=hide hlj;rw [hbo] at c3;have Hbo:=hide hbo
     have HS9:Hid (∀ W,Below wk.heap.size wk W -> (W.cell? ⟨G,3,none⟩=some (.slice (some ⟨b1,o1,none⟩) m s.rc)/\(ldP (.pointer (some ⟨G,1,none⟩))).run Tryz.prog W = .ok (PV s.p) W)/\(ldP (.pointer (some ⟨b1,o1+k * 3+1,none⟩))).run Tryz.prog W = .ok (PV r.p) W):=fun W hW=>by
      have B:=(HR.out.below hW).at_ _ Hbo.out k Hlj.out;rw [Hr.out,Addr.add_lit] at B;have h3:=HC3.out _ hW;rw [Hbo.out] at h3;exact ⟨⟨h3,zj (HX.out.below hW).past⟩,zj B.flat.2⟩
     clear hlj hk hbo;go_upto_region 11 with fail;clear c3;obtain ⟨v0,hv0⟩:∃ v,wq.drew=v:=⟨_,rfl⟩
     have H0:Hid (Below wk.heap.size wk v0):=by rw [<- hv0];exact HW.out.trans ((zf wq).mono HW.out.size)
     refine wp_region_held_drew (S:=fun W=>(W.cell? ⟨G,3,none⟩=some (.slice (some ⟨b1,o1,none⟩) m s.rc)/\(ldP (.pointer (some ⟨G,1,none⟩))).run Tryz.prog W = .ok (PV s.p) W)/\(ldP (.pointer (some ⟨b1,o1+k * 3+1,none⟩))).run Tryz.prog W = .ok (PV r.p) W) (by kernel_rfl) (HS9.out _ (HW.out.trans ((zf wq).mono HW.out.size))) (fun hHeld=>?_);rw [hv0] at hHeld ⊢;clear hv0;refine wU 0 ?_;refine wU 1 ?_;refine wU 2 ?_;refine wU 3 ?_;refine wU 4 ?_;refine wU 5 ?_;refine wU 6 ?_;refine wU 7 ?_;refine wpAnyH_ready (rs:=[8]) (by kernel_rfl) (by simp) (.cons rfl (fun K hK=>?_) .nil);go_simp;go_wp2_with fail;refine (kJ r.p s.p _ (HRk.out.1.below H0.out) (HF.out.p.below H0.out)).mono ?_;rintro x w5 ⟨y,rfl,hy,b5⟩;have H5:=wTr H0 b5;have Hy:=hide hy;clear hy b5;refine hK.out _ _ (HS9.out _ H5.out) (fun hHeld=>?_);clear hK K;refine wpAnyH_done (by kernel_rfl) ?_ _
     clear hHeld
     cases y with
     | true =>
      have HN:Hid (¬ FormS s):=fun h=>h.2.2.1 r (by rw [<- Hr.out];exact zgF (by rw [HLr.out];exact Hlj.out)) (Hy.out.1 rfl);go_wp2_with fail;go_ret;exact ⟨_,rfl,BIf.no HN.out,HBK.out.trans (H5.out.mono HBK.out.size)⟩
     | false =>
      have HOk:Hid (∀ x∈s.rs.take (k+1),¬ wiP x.p.P s.p.P):=fun x hx=>by
       rw [HTr.out,List.mem_append] at hx;rcases hx with hx | hx
       ·exact HA.out x hx
       ·obtain rfl:=List.mem_singleton.1 hx;exact fun k=>(by have:=Hy.out.2 k;cases this)
      have hlji:(k:Int) < (m:Int):=by have:=Hlj.out;omega
      go_wp2_with fail;go_roundw
      case rel=>exact ⟨k+1,Hlj.out,by simp,H5.out,HOk.out⟩
      case measure=>simp [intOf];have:=Hlj.out;omega
    ·have hlji:¬ (k:Int) < (m:Int):=by omega
     have HFm:Hid (FormS s):=⟨HFf.out,fun e he=>(HAll.out e he).1,fun r hr=>HA.out r (by rw [List.take_of_length_le (by rw [HLr.out];omega)];exact hr),fun e he=>(HAll.out e he).2⟩;have HE:=wTr HBK HW.out;clear HA HW;go_wp2_with fail;go_ret;exact ⟨_,rfl,⟨fun _=>HFm.out,fun _=>rfl⟩,HE.out⟩
end
end Go.Proofs.YtjffpimfngdggaaGreat
