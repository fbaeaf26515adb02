/- YEf YEg -/
import Derived.Test.YtjffpimfngdggaaGreatTk
import Derived.Test.YtjffpimfngdggaaGreatFe40
import Derived.Test.YtjffpimfngdggaaGreatFe38
import Derived.Test.YtjffpimfngdggaaGreatFe42
import Derived.Test.YtjffpimfngdggaaGreatFe21
import Derived.Test.YtjffpimfngdggaaGreatFe37
set_option maxRecDepth 100000
set_option maxHeartbeats 6400000
namespace Go.Proofs.YtjffpimfngdggaaGreat
section
open Go.RowKit
theorem SwB.offWc {N:Nat} {W:World} {g:Nat} {m:cq} {f:Fc} (h:SwB N W f) (A:aE W g m) (c:Array Value):SwB N (W.setRow g c) f:=⟨h.ok.offW A c,h.row,h.rn,h.an,h.cl⟩
theorem vz (p:Pv) (w:World):(lu #[(1,.agg (PC p))]).run Tryz.prog w = .ok (.agg (FaC (mkF ⟨none,0,0,[],p,none,0,0,[]⟩))) w:=by kernel_rfl
theorem vA (a:Option Addr) (n c:Nat) (w:World):(lu #[(0,.slice a n c)]).run Tryz.prog w = .ok (.agg (FaC (mkF ⟨a,n,c,[],pv0,none,0,0,[]⟩))) w:=by kernel_rfl
theorem vy (a b:Option Addr) (n c m d:Nat) (p:Pv) (w:World):(lu #[(0,.slice a n c),(1,.agg (PC p)),(2,.slice b m d)]).run Tryz.prog w = .ok (.agg (FaC (mkF ⟨a,n,c,[],p,b,m,d,[]⟩))) w:=by kernel_rfl
def XpD (s h:Fc):Prop:=h.es=s.es/\∃ p,dj ⟨s.ao,s.an,s.ac,s.es,pv0,none,0,0,[]⟩ p/\MnD s.p.P p h.p.P
def ndE (s:Fc):Fc:=⟨s.ao,s.an,s.ac,s.es,pv0,none,0,0,[]⟩
theorem zgd {s:Fc} (hf:aK s):av (ndE s):=⟨hf.1.1,(show aj pv0.P from ⟨by decide,trivial⟩),fun j hj=>absurd hj (Nat.not_lt_zero _)⟩
attribute [local go_sem ↓] zq zp zB zz zL zK xw
attribute [local go_sem] zi zj zE zk zm zv qR vz vA vy
theorem Ev (w:World) (f:Fc):∃ wk,(w.alloc (.cells (FaC (mkF f)) 31)).alloc (.cells (FaC (mkF fz0)) 29)=wk/\Hid (aE wk w.heap.size (mkF f))/\Hid (aF wk (w.heap.size+1) (mkF fz0))/\Hid (Below w.heap.size w wk):=by
 have b1:=ze w (.cells (FaC (mkF f)) 31);have b2:=ze (w.alloc (.cells (FaC (mkF f)) 31)) (.cells (FaC (mkF fz0)) 29);have X2:=qi (w.alloc (.cells (FaC (mkF f)) 31)) (mkF fz0);rw [World.size_alloc] at X2;exact ⟨_,rfl,(qr w (mkF f)).below b2,X2,b1.trans (b2.mono b1.size)⟩
theorem zce (N:Nat) (hN:N <= 4) (s:Fc) (w:World) (hS:SwB N w s) (hf:aK s):Calls Tryz.prog 15 #[FaV (mkF s)] w fun e w'=>∃ h,e = .returned (.tuple #[FaV (mkF h),.int .i64 0])/\aV w' h/\Below w.heap.size w w'/\XpD s h:=by
 obtain ⟨wk,aY,HX,HZ,aq⟩:=Ev w s;obtain ⟨G,dF⟩:∃ G,w.heap.size=G:=⟨_,rfl⟩;rw [dF] at HX HZ;have fU:Hid (w.heap.size=G):=dF;have HU:=hide ((hS.below aq.out).u hN);have HS:=hide (hS.below aq.out);have ms:=hide hf;clear hS hf;have l0:=qj HX.out;go_enter Tryz.func15,Tryz.ntmps15;go_wp2_with fail;clear aY dF l0;refine (HU.out.chk).mono ?_;rintro e w3 ⟨z,rfl,hz,b3⟩
 obtain rfl:z=0:=by
  rcases hz with ⟨-,h⟩ | ⟨h,-⟩
  ·exact h
  ·exact absurd ms.out h
 have aB:=hide b3;clear b3 hz;have c0:=(HX.out.below aB.out).cs.1;go_wp2_with fail;clear c0;have ML:Hid (aV w3 (ndE s)):=⟨(HS.out.ok.below aB.out).es,am.zero _,RcS.empty _⟩;refine (wI (ndE s) _ ML.out).mono ?_;rintro e v4 ⟨p,er,rfl,Sp,-,b4,hp⟩
 obtain ⟨rfl,hH⟩:er=0/\dj (ndE s) p.P:=by
  rcases bU hp with ⟨h,-⟩ | ⟨-,h,k⟩
  ·exact absurd (zgd ms.out) h
  ·exact ⟨h,k⟩
 obtain ⟨g4,Cw⟩:∃ g,v4.heap.size=g:=⟨_,rfl⟩;obtain ⟨w4,a8,X4,B4,-⟩:=it v4 p g4 Cw;have b44:=b4.trans (B4.mono b4.size);have aQ:=wTr aB b44;have iv:=hide X4;have mp:=hide (Sp.below B4);have HH:=hide hH;clear Sp b4 hp hH X4 B4 b44;have c0:=(HX.out.below aQ.out).cs.1;have c3:=(HX.out.below aQ.out).cs.2;have lp:=zl (HX.out.below aQ.out).past
 have lq:=zl iv.out.at
 go_wp2_with fail;clear c0 c3 lp lq a8 Cw;have HL:Hid (aV w4 ⟨none,0,0,[],p,none,0,0,[]⟩):=⟨(zeV _).es,mp.out,RcS.empty _⟩;refine (zd3 s ⟨none,0,0,[],p,none,0,0,[]⟩ _ (HS.out.ok.below aQ.out) HL.out (by have:=HS.out.rn;omega)).mono ?_;rintro e w5 ⟨h,er,rfl,Fh,-,-,b5,hh⟩
 obtain ⟨rfl,hL⟩:er=0/\o4 s ⟨none,0,0,[],p,none,0,0,[]⟩ h:=by
  rcases hh with ⟨k,-⟩ | ⟨-,-,k,q⟩
  ·exact absurd ⟨⟨ms.out.1.1,ms.out.1.2.1,ms.out.1.2.2⟩,⟨rfl,HH.out.1,fun j hj=>absurd hj (Nat.not_lt_zero _)⟩⟩ k
  ·exact ⟨k,q⟩
 have dO:=wTr aQ b5;have A5:=HZ.out.below dO.out;have st:=kA (m':=mkF h) A5;have dW:Hid (aF (w5.setRow (G+1) (FaC (mkF h))) (G+1) (mkF h)):=A5.setRow
 have HE:Hid (∃ h',Ending.returned (.tuple #[FaV (mkF h),.int .i64 0]) = .returned (.tuple #[FaV (mkF h'),.int .i64 0])/\aV (w5.setRow (G+1) (FaC (mkF h))) h'/\Below w.heap.size w (w5.setRow (G+1) (FaC (mkF h)))/\XpD s h'):=by
  refine ⟨h,rfl,Fh.offF A5 _,zh (aq.out.trans (dO.out.mono aq.out.size)) (by rw [fU.out];omega),?_,p.P,HH.out,hL.2.1⟩;rw [hL.1];refine List.filter_eq_self.2 fun e _=>js.2 (fun k=>by cases k)
 clear Fh b5 hh hL A5;go_wp2_with fail;clear st;refine bodyPost_ret (nK rfl rfl rfl dW.out) rfl ?_;exact HE.out
/-! ### the chapter's facts -/
def ck1:K.En:=⟨0,1,⟨#[65]⟩,5⟩
def ck2:K.En:=⟨1,1,⟨#[66]⟩,7⟩
def fH:Pst:=⟨[1],[]⟩
def ml:Pst:=⟨[1,1],[]⟩
def ckQ:Pst:=⟨[2],[]⟩
def ckR (gq:Nat):Rc:=⟨⟨#[65]⟩,⟨some ⟨gq,0,none⟩,1,1,none,0,0,ckQ⟩⟩
def ckC:Array Value:=#[.int .i64 0,.int .i64 1,.string ⟨#[65]⟩,.int .i64 5,.int .i64 1,.int .i64 1,.string ⟨#[66]⟩,.int .i64 7]
theorem zaU (w:World):(BD #[(0,.agg #[.int .i64 0,.int .i64 1,.string ⟨#[65]⟩,.int .i64 5]),(1,.agg #[.int .i64 1,.int .i64 1,.string ⟨#[66]⟩,.int .i64 7])]).run Tryz.prog w = .ok (.slice (some ⟨w.heap.size,0,none⟩) 2 2) (w.alloc (.cells ckC 50)):=by kernel_rfl
def uJ (a:Array (Nat × Value)):Sem Value:=Instr.buildSlice 27 1 a
theorem zha (a:Array (Nat × Value)):Instr.buildSlice 27 1 a=uJ a:=rfl
theorem zaT (s:ByteArray) (a:Option Addr) (n c:Nat) (w:World):(uJ #[(0,.agg #[.string s,.slice a n c,.slice none 0 0])]).run Tryz.prog w = .ok (.slice (some ⟨w.heap.size,0,none⟩) 1 1) (w.alloc (.cells #[.string s,.slice a n c,.slice none 0 0] 78)):=by kernel_rfl
theorem zbQ (a v b:Option Addr) (n c m d k l:Nat) (w:World):(lu #[(0,.slice a n c),(1,.agg #[.slice v m d,.slice none 0 0]),(2,.slice b k l)]).run Tryz.prog w = .ok (.agg #[.slice a n c,.slice v m d,.slice none 0 0,.slice b k l]) w:=by kernel_rfl
theorem zbM (a v b:Option Addr) (n c m d k l:Nat) (w:World):(o8 #[(0,.slice a n c),(1,.agg #[.slice v m d,.slice none 0 0]),(2,.slice b k l)]).run Tryz.prog w = .ok (.agg #[.slice a n c,.slice v m d,.slice none 0 0,.slice b k l]) w:=by kernel_rfl
theorem ziq (w:World) (g:Nat) (hg:w.heap.size=g):K.aD (w.alloc (.cells ckC 50)) (some ⟨g,0,none⟩) 2 2 [ck1,ck2]:=by
 subst hg;refine ⟨rfl,(fun h=>by cases h),fun ad h t ht=>?_,?_,(show (2:Nat) <= 3518437208883 by decide)⟩
 ·obtain rfl:=Option.some.inj h;have h1:=heap_alloc_new w (.cells ckC 50);have FL:t < 2:=ht;generalize w.alloc (.cells ckC 50)=W at h1 ⊢;generalize w.heap.size=g at h1 ⊢;clear h ht
  obtain rfl | rfl:t=0∨t=1:=by omega
  ·refine ⟨?_,?_,?_,?_⟩ <;> simp [Addr.add,World.cell?,h1,ckC,ck1]
  ·refine ⟨?_,?_,?_,?_⟩ <;> simp [Addr.add,World.cell?,h1,ckC,ck2]
 ·intro e he;rcases List.mem_cons.1 he with rfl | he
  ·exact (show (1:Nat) <= maxLen by decide)
  ·obtain rfl:=List.mem_singleton.1 he;exact (show (1:Nat) <= maxLen by decide)
theorem zfg {w:World} {g:Nat} (h:K.aD w (some ⟨g,0,none⟩) 2 2 [ck1,ck2]):K.aD w (some ⟨g,4,none⟩) 1 1 [ck2]:=by
 refine ⟨rfl,(fun h=>by cases h),fun ad e t ht=>?_,fun e he=>h.2.2.2.1 e (List.mem_cons_of_mem _ he),(show (1:Nat) <= 3518437208883 by decide)⟩;obtain rfl:=Option.some.inj e;have FE:t < 1:=ht
 obtain rfl:t=0:=by omega
 have h1:=h.2.2.1 ⟨g,0,none⟩ rfl 1 (by decide);exact h1
theorem zg0 {f:Fc} (h1:f.es=[ck1,ck2]) (h2:f.p.P=fH):dj f ml:=⟨⟨by decide,trivial⟩,fun r hr n=>by
 rw [h1,h2]
 match r,hr with
 | 0,_ =>
  show mem [⟨1,1⟩] n↔mem [⟨1,1⟩] n∨mem [⟨1,1⟩] n
  simp
 | 1,_ =>
  show mem [⟨1,1⟩] n↔mem [⟨1,1⟩] n∨mem [] n
  simp [mem]
 | 2,_ | 3,_ | 4,_ | 5,_ | 6,_ | 7,_ | 8,_ | 9,_ | 10,_ | 11,_ | 12,_ | 13,_ | 14,_ | 15,_ =>
  show mem [] n↔mem [] n∨mem [] n
  simp
 | n+16,h=>exact absurd h (by omega)⟩
theorem zg1:¬ gD ckQ:=fun h=>h 0 (by decide) 1 ((jd ckQ 0 (by decide) 1).2 ⟨by decide,by decide,.inl (by decide)⟩)
theorem zhC (gq:Nat):cj (ckR gq):=⟨(show fP ⟨#[65]⟩=true by decide),(show lH ckQ from ⟨⟨by decide,trivial⟩,zg1⟩)⟩
theorem zio {f:Fc} (gq:Nat) (h1:f.es=[ck1,ck2]) (h2:f.p.P=fH) (h3:f.rs=[ckR gq]) (h4:f.an=2) (h5:f.rn=1):av f:=
 ⟨by rw [h1,h4];decide +kernel,by rw [h2];exact ⟨by decide,trivial⟩,by
  rw [h3,h5]
  exact (xS (L:=[ckR gq])).2 ⟨fun r hr=>by obtain rfl:=List.mem_singleton.1 hr;exact zhC gq,List.pairwise_singleton _ _⟩⟩
theorem zgZ {f s:Fc} (gq:Nat) (h1:f.es=[ck1,ck2]) (h2:f.p.P=fH) (h3:f.rs=[ckR gq]) (hs:s.es=[ck2]/\s.p.P=ml/\s.rs=[ckR gq]):StD f s:=by
 refine ⟨?_,by rw [hs.2.1];exact zg0 h1 h2,fun r hr=>?_,?_⟩
 ·rw [hs.1,h1,h2,h3];have e1:¬ lvB fH [ckR gq] ck1=true:=(show ¬ lvB fH [ckR 0] ck1=true by decide +kernel);have e2:lvB fH [ckR gq] ck2=true:=(show lvB fH [ckR 0] ck2=true by decide +kernel);rw [List.filter_cons_of_neg e1,List.filter_cons_of_pos e2];rfl
 ·rw [hs.2.2] at hr;obtain rfl:=List.mem_singleton.1 hr;exact zhC gq
 ·rw [hs.2.1,hs.2.2,h3];refine (List.filter_eq_self.2 fun y hy=>?_).symm;obtain rfl:=List.mem_singleton.1 hy;refine wDq fun k=>?_;have:=zcl.1 k ⟨0,2,⟨#[]⟩,0⟩ (show inB ckQ ⟨0,2,⟨#[]⟩,0⟩=true by decide +kernel)
  revert this
  decide +kernel
theorem zin {s h:Fc} (h1:s.es=[ck2]) (h2:s.p.P=ml) (hx:XpD s h):h.p.P=fH:=by
 obtain ⟨-,p,hp,C,hC,hq⟩:=hx;refine hq.unique (zW.2 (show aj fH from ⟨by decide,trivial⟩):af (ae fH) fH) fun r hr n=>?_;rw [(hC r hr).2 n,hp.2 r hr n,h2]
 show (mem (ae ml r) n/\¬ (mem (cr (s.es.map aa) r) n∨mem (ae pv0.P r) n))↔mem (ae fH r) n
 rw [h1]
 match r,hr with
 | 0,_ =>
  show (mem [⟨1,1⟩] n/\¬ (mem [] n∨mem [] n))↔mem [⟨1,1⟩] n
  simp [mem]
 | 1,_ =>
  show (mem [⟨1,1⟩] n/\¬ (mem [⟨1,1⟩] n∨mem [] n))↔mem [] n
  simp [mem]
 | 2,_ | 3,_ | 4,_ | 5,_ | 6,_ | 7,_ | 8,_ | 9,_ | 10,_ | 11,_ | 12,_ | 13,_ | 14,_ | 15,_ =>
  show (mem [] n/\¬ (mem [] n∨mem [] n))↔mem [] n
  simp [mem]
 | n+16,h=>exact absurd h (by omega)
attribute [local go_sem ↓] zfr zch yw zci zaG zha qX
attribute [local go_sem] zaU bN bO kC zei zaT zbQ zbM
theorem zb6 (w:World):Calls Tryz.prog 6 #[] w fun e w'=>e = .returned (.bool true)/\Below w.heap.size w w':=by
 obtain ⟨ge,sl⟩:∃ g,w.heap.size=g:=⟨_,rfl⟩;have lb:=zaU w;have S4:=ziq w ge sl;have b4:=ze w (.cells ckC 50)
 have z4:(w.alloc (.cells ckC 50)).heap.size=ge+1:=by simp [sl]
 obtain ⟨w4,uw⟩:∃ w4,w.alloc (.cells ckC 50)=w4:=⟨_,rfl⟩;rw [uw] at lb S4 b4 z4;rw [sl] at lb;have V5:=kw w4 3 #[.int .i64 1] [1] rfl (ge+1) 1 z4 rfl;have b5:=ze w4 (.cells #[.int .i64 1] 3)
 have z5:(w4.alloc (.cells #[.int .i64 1] 3)).heap.size=ge+2:=by simp [z4]
 obtain ⟨w5,pe⟩:∃ w5,w4.alloc (.cells #[.int .i64 1] 3)=w5:=⟨_,rfl⟩;rw [pe] at V5 b5 z5;have V6:=kw w5 3 #[.int .i64 2] [2] rfl (ge+2) 1 z5 rfl;have b6:=ze w5 (.cells #[.int .i64 2] 3)
 have z6:(w5.alloc (.cells #[.int .i64 2] 3)).heap.size=ge+3:=by simp [z5]
 obtain ⟨w6,Ee⟩:∃ w6,w5.alloc (.cells #[.int .i64 2] 3)=w6:=⟨_,rfl⟩;rw [Ee] at V6 b6 z6
 have R7:=zhW w6 78 #[.string ⟨#[65]⟩,.slice (some ⟨ge+2,0,none⟩) 1 1,.slice none 0 0] [ckR (ge+2)] rfl (ge+3) 1 z6 rfl (by decide) (fun r hr=>by
  obtain rfl:=List.mem_singleton.1 hr
  exact ⟨⟨V6,cN.empty _,(show (1:Nat) <= 17592186044415 by decide)⟩,(show (1:Nat) <= maxLen by decide)⟩)
 have b7:=ze w6 (.cells #[.string ⟨#[65]⟩,.slice (some ⟨ge+2,0,none⟩) 1 1,.slice none 0 0] 78);have lc:=zaT ⟨#[65]⟩ (some ⟨ge+2,0,none⟩) 1 1 w6;rw [z6] at lc
 have z7:(w6.alloc (.cells #[.string ⟨#[65]⟩,.slice (some ⟨ge+2,0,none⟩) 1 1,.slice none 0 0] 78)).heap.size=ge+4:=by simp [z6]
 obtain ⟨w7,ut⟩:∃ w7,w6.alloc (.cells #[.string ⟨#[65]⟩,.slice (some ⟨ge+2,0,none⟩) 1 1,.slice none 0 0] 78)=w7:=⟨_,rfl⟩;rw [ut] at R7 b7 z7 lc;have b57:=b5.trans ((b6.trans (b7.mono b6.size)).mono b5.size);have b67:=b6.trans (b7.mono b6.size);obtain ⟨f,hf⟩:∃ f:Fc,f=⟨some ⟨ge,0,none⟩,2,2,[ck1,ck2],⟨some ⟨ge+1,0,none⟩,1,1,none,0,0,fH⟩,some ⟨ge+3,0,none⟩,1,1,[ckR (ge+2)]⟩:=⟨_,rfl⟩
 have F7:aV w7 f:=by rw [hf];exact ⟨S4.below b57,⟨V5.below b67,cN.empty _,(show (1:Nat) <= 17592186044415 by decide)⟩,R7⟩
 obtain ⟨w8,a8,X8,B8,-⟩:=rO w7 f (ge+4) z7
 have oY:(nN (.pointer (some ⟨ge+4,0,none⟩)) (.agg #[.slice (some ⟨ge,0,none⟩) 2 2,.slice (some ⟨ge+1,0,none⟩) 1 1,.slice none 0 0,.slice (some ⟨ge+3,0,none⟩) 1 1])).run Tryz.prog (w7.alloc (.cells (FaC (mkF fz0)) 29)) = .ok () w8:=by rw [hf] at a8;exact a8
 have lf:=qy X8;have fM:=hide X8;have ia:=hide ((b4.trans (b57.mono b4.size)).trans (B8.mono (Nat.le_trans b4.size b57.size)));have HU:Hid (SwB 1 w8 f):=⟨F7.below B8,by rw [hf];exact ⟨Nat.le_refl _,fun h=>(by cases h)⟩,by rw [hf];exact (show (1:Nat) <= 1 * 209716 by decide),by rw [hf];exact (show (2:Nat) <= 1 * 1048576 by decide),by rw [hf];intro r hr;obtain rfl:=List.mem_singleton.1 hr;exact (show (0:Nat) <= 1048576 by decide)⟩;have HP:Hid (f.es=[ck1,ck2]/\f.p.P=fH/\f.rs=[ckR (ge+2)]/\av f):=⟨by rw [hf],by rw [hf],by rw [hf],zio (ge+2) (by rw [hf]) (by rw [hf]) (by rw [hf]) (by rw [hf]) (by rw [hf])⟩;have G9:Hid (f=⟨some ⟨ge,0,none⟩,2,2,[ck1,ck2],⟨some ⟨ge+1,0,none⟩,1,1,none,0,0,fH⟩,some ⟨ge+3,0,none⟩,1,1,[ckR (ge+2)]⟩):=hf;clear S4 b4 V5 b5 V6 b6 R7 b7 b57 b67 F7 X8 B8 a8 hf;go_enter Tryz.func6,Tryz.ntmps6
 go_wp2_with fail;clear lb lc uw pe Ee ut z4 z5 z6 z7 oY lf sl;refine (kY 1 (by decide) f _ HU.out).mono ?_;rintro e v3 ⟨s,er,rfl,Ss,b3,hs⟩
 obtain ⟨rfl,hS⟩:er=0/\StD f s:=by
  rcases hs with ⟨h,-⟩ | ⟨-,h,k⟩
  ·exact absurd HP.out.2.2.2 h
  ·exact ⟨h,k⟩
 obtain ⟨gs,ot⟩:∃ g,v3.heap.size=g:=⟨_,rfl⟩;obtain ⟨w3,a8,X3,B3,-⟩:=iL v3 s gs ot;have b33:=b3.trans (B3.mono b3.size);have aB:=wTr ia b33;have fL:=hide (fM.out.below b33);have th:=hide X3;have o9:=hide (Ss.below B3);have Mn:=hide hS;have FK:=hide (HU.out.below b33);clear Ss b3 hs hS X3 B3 b33;obtain ⟨g,hg⟩:∃ g,ge+4=g:=⟨_,rfl⟩;obtain ⟨gr,u0⟩:∃ g,ge+3=g:=⟨_,rfl⟩;obtain ⟨gq,F8⟩:∃ g,ge+2=g:=⟨_,rfl⟩;rw [u0,F8] at G9;rw [hg] at fL;rw [F8] at HP
 have rh:Hid (SwB 1 w3 ⟨some ⟨ge,0,none⟩,2,2,[ck1,ck2],⟨some ⟨ge+1,0,none⟩,1,1,none,0,0,fH⟩,some ⟨gr,0,none⟩,1,1,[ckR gq]⟩):=by have:=FK.out;rw [G9.out] at this;exact this
 have aG:Hid (∀ W,Below w3.heap.size w3 W -> W.cell? ⟨g,0,none⟩=some (.slice (some ⟨ge,0,none⟩) 2 2)/\W.cell? ⟨g,3,none⟩=some (.slice (some ⟨gr,0,none⟩) 1 1)):=fun W h=>by
  have h1:=(fL.out.below h).cs;rw [G9.out] at h1;exact h1
 rw [hg];clear hg u0 F8 fM HU;go_upto_region 3 with fail;clear a8 ot
 go_cut [4] from 6 to 64 (fun u wx=>∃ (gw:Nat) (S:Fc),u = .pointer (some ⟨gw,0,none⟩)/\Hid (aE wx gw (mkF S)/\SwB 1 wx S/\Below w3.heap.size w3 wx)/\Hid (S.es=[ck2]/\S.p.P=ml/\S.rs=[ckR gq]))
 case first =>
  obtain ⟨v0,Ae⟩:∃ v,w3.drew=v:=⟨_,rfl⟩
  have H0:Hid (Below w3.heap.size w3 v0):=by rw [<- Ae];exact zg w3
  refine wp_region_held_drew (S:=fun W=>W.cell? ⟨g,0,none⟩=some (.slice (some ⟨ge,0,none⟩) 2 2)/\W.cell? ⟨g,3,none⟩=some (.slice (some ⟨gr,0,none⟩) 1 1)) (by kernel_rfl) (aG.out _ (zg w3)) (fun hHeld=>?_);rw [Ae] at hHeld ⊢;clear Ae;refine wU 0 ?_;refine wU 1 ?_;refine wU 2 ?_;refine wU 5 ?_;refine wU 6 ?_;refine wpAnyH_ready (rs:=[3,8]) (by kernel_rfl) (by simp) ?_;refine AllReadyH.cons rfl (fun K hK=>?_) (AllReadyH.cons rfl (fun K hK=>?_) AllReadyH.nil)
  ·have bI:=ze v0 (.cells #[.int .i64 1,.int .i64 1] 3);obtain ⟨gi,r5⟩:∃ g,v0.heap.size=g:=⟨_,rfl⟩;have VI:=kw v0 3 #[.int .i64 1,.int .i64 1] [1,1] rfl gi 2 r5 rfl;obtain ⟨v1,A4⟩:∃ v,v0.alloc (.cells #[.int .i64 1,.int .i64 1] 3)=v:=⟨_,rfl⟩;go_simp;rw [A4] at bI VI;have H1:Hid (Below w3.heap.size w3 v1):=H0.out.trans (bI.mono H0.out.size);have VS1:=hide VI
   try rw [A4]
   try rw [r5]
   refine hK.out _ _ (aG.out _ H1.out) (fun hHeld=>?_);clear hK K;clear bI VI A4 r5;refine wU 4 ?_;refine wU 7 ?_;refine wpAnyH_ready (rs:=[8]) (by kernel_rfl) (by simp) (.cons rfl (fun K hK=>?_) .nil);have bW:=ze v1 (.cells (FaC (mkF fz0)) 31);obtain ⟨gw,sI⟩:∃ g,v1.heap.size=g:=⟨_,rfl⟩;have XB:=qr v1 (mkF fz0)
   have Ih:Hid (w3.heap.size <= gw):=by rw [<- sI];exact H1.out.size
   obtain ⟨v2,sg⟩:∃ v,v1.alloc (.cells (FaC (mkF fz0)) 31)=v:=⟨_,rfl⟩;go_simp;rw [sg] at bW XB;rw [sI] at XB;have H2:Hid (Below w3.heap.size w3 v2):=H1.out.trans (bW.mono H1.out.size);have XW:=hide XB;have VS2:Hid (V.Src v2 (some ⟨gi,0,none⟩) 2 2 [1,1]):=VS1.out.below bW
   try rw [sg]
   try rw [sI]
   refine hK.out _ _ (aG.out _ H2.out) (fun hHeld=>?_);clear hK K;clear bW XB sg sI;obtain ⟨S,hS⟩:∃ S:Fc,S=⟨some ⟨ge,4,none⟩,1,1,[ck2],⟨some ⟨gi,0,none⟩,2,2,none,0,0,ml⟩,some ⟨gr,0,none⟩,1,1,[ckR gq]⟩:=⟨_,rfl⟩;have st:=x9 (m':=mkF S) XW.out
   have HJ:Hid (aE (v2.setRow gw (FaC (mkF S))) gw (mkF S)/\SwB 1 (v2.setRow gw (FaC (mkF S))) S/\Below w3.heap.size w3 (v2.setRow gw (FaC (mkF S)))):=by
    have h0:=rh.out.below H2.out;have h1:K.aD v2 (some ⟨ge,4,none⟩) 1 1 [ck2]:=zfg h0.ok.es
    have h2:aV v2 S:=by rw [hS];exact ⟨h1,⟨VS2.out,cN.empty _,(show (2:Nat) <= 17592186044415 by decide)⟩,h0.ok.rs⟩
    refine ⟨XW.out.setRow,(show SwB 1 v2 S from ⟨h2,?_,?_,?_,?_⟩).offWc XW.out _,zh H2.out Ih.out⟩
    ·rw [hS];exact ⟨Nat.le_refl _,fun h=>(by cases h)⟩
    ·rw [hS];exact (show (1:Nat) <= 1 * 209716 by decide)
    ·rw [hS];exact (show (1:Nat) <= 1 * 1048576 by decide)
    ·rw [hS];intro r hr;obtain rfl:=List.mem_singleton.1 hr;exact (show (0:Nat) <= 1048576 by decide)
   have mp:Hid (S.es=[ck2]/\S.p.P=ml/\S.rs=[ckR gq]):=by rw [hS];exact ⟨rfl,rfl,rfl⟩
   replace st:(nR (.pointer (some ⟨gw,0,none⟩)) (.agg #[.slice (some ⟨ge,4,none⟩) 1 1,.slice (some ⟨gi,0,none⟩) 2 2,.slice none 0 0,.slice (some ⟨gr,0,none⟩) 1 1])).run Tryz.prog v2 = .ok () (v2.setRow gw (FaC (mkF S))):=by rw [hS] at st ⊢;exact st
   clear hS;refine wpAnyH_ready (rs:=[9]) (by kernel_rfl) (by simp) (.cons rfl (fun K hK=>?_) .nil);go_simp;refine hK.out _ _ (aG.out _ HJ.out.2.2) (fun hHeld=>?_);clear hK K;clear st;refine wpAnyH_done (by kernel_rfl) ?_ _;clear hHeld;go_wp2_with fail;go_meet;exact ⟨gw,S,rfl,HJ,mp⟩
  ·have bW:=ze v0 (.cells (FaC (mkF fz0)) 31);obtain ⟨gw,sI⟩:∃ g,v0.heap.size=g:=⟨_,rfl⟩;have XB:=qr v0 (mkF fz0)
   have Ih:Hid (w3.heap.size <= gw):=by rw [<- sI];exact H0.out.size
   obtain ⟨v1,A4⟩:∃ v,v0.alloc (.cells (FaC (mkF fz0)) 31)=v:=⟨_,rfl⟩;go_simp;rw [A4] at bW XB;rw [sI] at XB;have H1:Hid (Below w3.heap.size w3 v1):=H0.out.trans (bW.mono H0.out.size);have XW0:=hide XB
   try rw [A4]
   try rw [sI]
   refine hK.out _ _ (aG.out _ H1.out) (fun hHeld=>?_);clear hK K;clear bW XB A4 sI;refine wpAnyH_ready (rs:=[3]) (by kernel_rfl) (by simp) (.cons rfl (fun K hK=>?_) .nil);have bI:=ze v1 (.cells #[.int .i64 1,.int .i64 1] 3);obtain ⟨gi,r5⟩:∃ g,v1.heap.size=g:=⟨_,rfl⟩;have VI:=kw v1 3 #[.int .i64 1,.int .i64 1] [1,1] rfl gi 2 r5 rfl;obtain ⟨v2,sg⟩:∃ v,v1.alloc (.cells #[.int .i64 1,.int .i64 1] 3)=v:=⟨_,rfl⟩;go_simp;rw [sg] at bI VI;have H2:Hid (Below w3.heap.size w3 v2):=H1.out.trans (bI.mono H1.out.size);have VS2:=hide VI;have XW:Hid (aE v2 gw (mkF fz0)):=XW0.out.below bI
   try rw [sg]
   try rw [r5]
   refine hK.out _ _ (aG.out _ H2.out) (fun hHeld=>?_);clear hK K;clear bI VI sg r5;refine wU 4 ?_;refine wU 7 ?_;obtain ⟨S,hS⟩:∃ S:Fc,S=⟨some ⟨ge,4,none⟩,1,1,[ck2],⟨some ⟨gi,0,none⟩,2,2,none,0,0,ml⟩,some ⟨gr,0,none⟩,1,1,[ckR gq]⟩:=⟨_,rfl⟩;have st:=x9 (m':=mkF S) XW.out
   have HJ:Hid (aE (v2.setRow gw (FaC (mkF S))) gw (mkF S)/\SwB 1 (v2.setRow gw (FaC (mkF S))) S/\Below w3.heap.size w3 (v2.setRow gw (FaC (mkF S)))):=by
    have h0:=rh.out.below H2.out;have h1:K.aD v2 (some ⟨ge,4,none⟩) 1 1 [ck2]:=zfg h0.ok.es
    have h2:aV v2 S:=by rw [hS];exact ⟨h1,⟨VS2.out,cN.empty _,(show (2:Nat) <= 17592186044415 by decide)⟩,h0.ok.rs⟩
    refine ⟨XW.out.setRow,(show SwB 1 v2 S from ⟨h2,?_,?_,?_,?_⟩).offWc XW.out _,zh H2.out Ih.out⟩
    ·rw [hS];exact ⟨Nat.le_refl _,fun h=>(by cases h)⟩
    ·rw [hS];exact (show (1:Nat) <= 1 * 209716 by decide)
    ·rw [hS];exact (show (1:Nat) <= 1 * 1048576 by decide)
    ·rw [hS];intro r hr;obtain rfl:=List.mem_singleton.1 hr;exact (show (0:Nat) <= 1048576 by decide)
   have mp:Hid (S.es=[ck2]/\S.p.P=ml/\S.rs=[ckR gq]):=by rw [hS];exact ⟨rfl,rfl,rfl⟩
   replace st:(nR (.pointer (some ⟨gw,0,none⟩)) (.agg #[.slice (some ⟨ge,4,none⟩) 1 1,.slice (some ⟨gi,0,none⟩) 2 2,.slice none 0 0,.slice (some ⟨gr,0,none⟩) 1 1])).run Tryz.prog v2 = .ok () (v2.setRow gw (FaC (mkF S))):=by rw [hS] at st ⊢;exact st
   clear hS;refine wpAnyH_ready (rs:=[9]) (by kernel_rfl) (by simp) (.cons rfl (fun K hK=>?_) .nil);go_simp;refine hK.out _ _ (aG.out _ HJ.out.2.2) (fun hHeld=>?_);clear hK K;clear st;refine wpAnyH_done (by kernel_rfl) ?_ _;clear hHeld;go_wp2_with fail;go_meet;exact ⟨gw,S,rfl,HJ,mp⟩
 case rest =>
  obtain ⟨gw,S,rfl,HJ,mp⟩:=hcut
  rename World=>wa
  have GV:Hid (StD f S):=zgZ gq HP.out.1 HP.out.2.1 HP.out.2.2.1 mp.out;have Bf:Hid (aK S):=zd6 HJ.out.2.1.ok FK.out.ok.es.1 FK.out.ok.rs.len HP.out.2.2.2 GV.out;have l0:=qj (th.out.below HJ.out.2.2);have l1:=qj HJ.out.1;go_wp2_with fail;clear l0 l1;refine (bD s S _ (o9.out.below HJ.out.2.2).ok HJ.out.2.1.ok (wJ Mn.out GV.out)).mono ?_;rintro e wb ⟨rfl,bb⟩;have sX:=hide (HJ.out.2.2.trans (bb.mono HJ.out.2.2.size));have JV:=hide (HJ.out.1.below bb);have BT:=hide (HJ.out.2.1.below bb);clear bb;have l0:=qy (fL.out.below sX.out);have l1:=qj JV.out;go_wp2_with fail;clear l0 l1;refine (zdR 1 1 (by decide) f S _ (FK.out.below sX.out) BT.out HP.out.2.2.2 Bf.out GV.out).mono ?_;rintro e wc ⟨rfl,bc⟩;have In:=wTr sX bc;have l1:=qj (JV.out.below bc);have BW:=hide (BT.out.below bc)
  clear bc;go_wp2_with fail;clear l1;refine (zce 1 (by decide) S _ BW.out Bf.out).mono ?_;rintro e vd ⟨h,rfl,Fh,bd,hx⟩;obtain ⟨gh,Ka⟩:∃ g,vd.heap.size=g:=⟨_,rfl⟩;obtain ⟨wd,a8,Xd,Bd,-⟩:=rO vd h gh Ka;have bdd:=bd.trans (Bd.mono bd.size);have gO:=wTr In bdd;have LK:=hide (Fh.below Bd);have MG:=hide Xd
  have MT:h.an=1:=by rw [<- Fh.es.1,hx.1,mp.out.1];rfl
  have LT:Hid (h.p.P=fH):=zin mp.out.1 mp.out.2.1 hx;have c0:=Xd.cs.1;rw [MT] at c0;have lp:=zl MG.out.past;have zd:wd.heap.size=wd.heap.size:=rfl;have VI:=kw wd 3 #[.int .i64 1] [1] rfl wd.heap.size 1 rfl rfl;have bI:=ze wd (.cells #[.int .i64 1] 3);obtain ⟨gi,r5⟩:∃ g,wd.heap.size=g:=⟨_,rfl⟩;rw [r5] at VI;obtain ⟨wi,Jw⟩:∃ v,wd.alloc (.cells #[.int .i64 1] 3)=v:=⟨_,rfl⟩;rw [Jw] at VI bI;have HQ:Hid (am wi ⟨some ⟨gi,0,none⟩,1,1,none,0,0,fH⟩):=⟨VI,cN.empty _,(show (1:Nat) <= 17592186044415 by decide)⟩;have LY:=hide (LK.out.below bI);have KQ:=wTr gO bI;clear Fh bd hx Xd Bd bdd VI bI zd;go_wp2_with fail;clear c0 lp a8 Ka Jw r5;refine (xy h.p ⟨some ⟨gi,0,none⟩,1,1,none,0,0,fH⟩ _ LY.out.p HQ.out).mono ?_;rintro e we ⟨x,rfl,hx,be⟩;obtain rfl:x=true:=hx.2 LT.out
  have HE:=hide (aB.out.trans ((KQ.out.trans (be.mono KQ.out.size)).mono aB.out.size));clear hx be;go_wp2_with fail;go_ret;exact ⟨rfl,HE.out⟩
end
section
open Go.RowKit
attribute [local go_sem ↓] zq zp zL zK zV zU K.zx K.zw zZ zY
attribute [local go_sem] zi zj zk zm zv zC zN zS ql K.zI K.zt K.zF K.xu zJ zQ qe
end
end Go.Proofs.YtjffpimfngdggaaGreat
