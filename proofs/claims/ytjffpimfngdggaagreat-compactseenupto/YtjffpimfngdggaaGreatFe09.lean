/- PNm QRn -/
import Derived.Test.YtjffpimfngdggaaGreatTk
import Derived.Test.YtjffpimfngdggaaGreatFe08
import Derived.Test.YtjffpimfngdggaaGreatFe04
import Derived.Test.YtjffpimfngdggaaGreatFe07
set_option maxRecDepth 100000
set_option maxHeartbeats 1000000
namespace Go.Proofs.YtjffpimfngdggaaGreat
section
open Go.RowKit
attribute [local go_sem ↓] zq zp vM vJ
attribute [local go_sem] x6 xj zE zi qm zj
theorem qJ (a:Pv):Array.foldl (fun cs x=>cs.setIfInBounds x.snd x.fst) #[(PC pv0)[0]!,(PC pv0)[1]!] (PC a).zipIdx 0 2=PC a:=rfl
attribute [local go_sem] qJ
theorem kI (W:World) (a:Pv) (hS:am W a):fq (W.alloc (.cells (PC a) 26)) (some ⟨W.heap.size,0,none⟩) 1 [a]:=
 zcB _ _ [a] (PC a) (by simp [pcs]) _ 1 rfl (heap_alloc_new W _) (fun p h=>by obtain rfl:=List.mem_singleton.1 h;exact hS.below (ze _ _))
theorem wB {W:World} {a:Pv} (hS:am W a):wt [a] <= 8796093022207:=by have h1:=hS.cloud.big;have h2:=hS.cloud.len;simp only [wt];omega
theorem q9 (ao:Option Addr) (q cap:Nat) (X:List Pv) (w:World) (hS:fq w ao q X) (hN:wt X <= 8796093022207) (hq:q <= 8796093022207) :
  Calls Tryz.prog 56 #[.slice ao q cap] w fun e w'=>cV w w' e (af (aw X)):=by
 have HS:=hide hS;have HN:=hide hN;clear hS hN;have b0:=ze w (.cells (PC pv0) 26);have gI:=hide b0;have ua:=hide (zr w pv0);clear b0;go_enter Tryz.func56,Tryz.ntmps56;go_wp2_with fail;refine (xq ao q cap X _ (HS.out.below gI.out) HN.out hq).mono ?_;rintro e w1 ⟨F,rfl,⟨S1,hF,_,_⟩,b1⟩;have HF:=hide hF;have aN:=hide b1;have dm:=hide S1;clear b1 S1 hF;go_wp2_with fail;refine (qP F _ dm.out).mono ?_;rintro e w2 ⟨p,rfl,S2,n2,b2,c2⟩;obtain ⟨s1,e1,e2,e3,e4⟩:=qU (w:=w) ((ua.out.below aN.out).below b2) S2 (n2.mono (by have:=aN.out.size;simp at this;omega)) (gI.out.trans ((aN.out.trans (b2.mono aN.out.size)).mono gI.out.size)) (Nat.le_refl _);have dW:=hide e1;have lO:Hid (cV w (w2.setRow w.heap.size (PC p)) (.returned (PV p)) (af (aw X))):=⟨p,rfl,e2,e3,e4,c2.congr HF.out⟩
 clear S2 n2 b2 c2 e1 e2 e3 e4;go_wp2_with fail;exact bodyPost_ret (v:=PV p) (eS Tryz.results56 rfl dW.out) rfl lO.out
theorem jN (a:Pv) (w:World) (hS:am w a) :
  Calls Tryz.prog 116 #[PV a] w fun e w'=>cV w w' e (af (ae a.P)):=by
 have b0:=ze w (.cells (PC a) 26);have b1:=ze (w.alloc (.cells (PC a) 26)) (.cells (PC pv0) 26);have Ap:=zr (w.alloc (.cells (PC a) 26)) pv0
 have l1:=zl ((zr w a).below b1).at
 rw [World.size_alloc] at Ap;have aN:=hide (b0.trans (b1.mono b0.size));have HS:=hide (hS.below aN.out);have fA:=hide Ap;have HW:=hide (wB hS);clear hS b0 b1 Ap;go_enter Tryz.func116,Tryz.ntmps116;go_wp2_with fail;have R:=kI _ a HS.out;have bl:=ze ((w.alloc (.cells (PC a) 26)).alloc (.cells (PC pv0) 26)) (.cells (PC a) 26);simp only [World.size_alloc] at R;refine (xq _ 1 1 [a] _ R HW.out (by omega)).mono ?_;rintro e w1 ⟨F,rfl,⟨S1,hF,_,_⟩,b2⟩;have HF:=hide hF;have cg:=hide (bl.trans (b2.mono bl.size));have dm:=hide S1;clear b2 S1 hF R bl;go_wp2_with fail;refine (qP F _ dm.out).mono ?_;rintro e w2 ⟨p,rfl,S2,n2,b2,c2⟩;obtain ⟨s1,e1,e2,e3,e4⟩:=qU (w:=w) ((fA.out.below cg.out).below b2) S2 (n2.mono (by have:=cg.out.size;simp at this;omega)) (aN.out.trans ((cg.out.trans (b2.mono cg.out.size)).mono aN.out.size)) (by omega)
 have dW:=hide e1;have lO:Hid (cV w (w2.setRow (w.heap.size+1) (PC p)) (.returned (PV p)) (af (ae a.P))):=⟨p,rfl,e2,e3,e4,c2.congr (fun r hr=>by rw [HF.out r hr,qZ])⟩;clear S2 n2 b2 c2 e1 e2 e3 e4;go_wp2_with fail;exact bodyPost_ret (v:=PV p) (eS Tryz.results116 rfl dW.out) rfl lO.out
def eK (N:Nat -> List Rn):Nat -> Int
 | 0=>0
 | k+1=>eK N k+sz (N k)
def lG (G:Nat -> List Rn) (z:Int):Prop:=∃ N,(∀ r,r < 16 -> aT (G r) (N r))/\z=eK N 16
theorem zbD {N:Nat -> List Rn}:∀ k,(∀ r,r < k -> form 1 (N r)) -> 0 <= eK N k/\eK N k <= k * 1000000000
 | 0,_=>by simp [eK]
 | k+1,h=>by
  have h1:=zbD k (fun r hr=>h r (by omega));have h2:=zbz (h k (by omega))
  have h3:sz (N k) <= 1000000000:=by
   rcases h2.2.1 with e | e
   ·rw [e];simp [sz]
   ·omega
  rw [eK]
  push_cast
  omega
theorem yJ {N N':Nat -> List Rn}:∀ k,(∀ r,r < k -> N r=N' r) -> eK N k=eK N' k
 | 0,_=>rfl
 | k+1,h=>by rw [eK,eK,yJ k (fun r hr=>h r (by omega)),h k (by omega)]
theorem zfY (F:Nat -> Sl) (k:Nat) (hk:k < 16) (w:World):(Instr.index 136 (SAv F) (.int .i64 (k:Int))).run Tryz.prog w = .ok (.slice (F k).ao (F k).n (F k).cap) w:=by
 have h1:0 <= (k:Int)/\(k:Int) < 16:=by omega
 have h2:=ziE F k hk
 have dR:(isAgg 134).run Tryz.prog w = .ok false w:=by
  unfold isAgg;rw [Sem.run_bind,run_underlying Tryz.underlying134 w];rfl
 simp [Instr.index,run_underlying Tryz.underlying136,SAv,asIntOf,Result.andThen,part,dR,h2,slv];omega
def ixA (x i:Value):Sem Value:=Instr.index 136 x i
theorem zhz (x i:Value):Instr.index 136 x i=ixA x i:=rfl
attribute [local go_sem ↓] zhz
theorem vL (a:Pv) (w:World) (hS:am w a) :
  Calls Tryz.prog 49 #[PV a] w fun e w'=>∃ z,e = .returned (.int .i64 z)/\lG (ae a.P) z/\Below w.heap.size w w':=by
 have b0:=ze w (.cells (PC a) 26)
 have l1:=zl (zr w a).at
 have aN:=hide b0;have HS:=hide (hS.below aN.out);have HW:=hide (wB hS);clear hS b0;go_enter Tryz.func49,Tryz.ntmps49;go_wp2_with fail;have R:=kI _ a HS.out;have bl:=ze (w.alloc (.cells (PC a) 26)) (.cells (PC a) 26);simp only [World.size_alloc] at R;refine (xq _ 1 1 [a] _ R HW.out (by omega)).mono ?_;rintro e w1 ⟨F,rfl,⟨S1,hF,_,_⟩,b2⟩;have HF:=hide hF;have cg:=hide (aN.out.trans ((bl.trans (b2.mono bl.size)).mono aN.out.size));have dm:=hide S1;clear b2 S1 hF R bl;go_wp2_with fail;go_loopw [3,9] (fun s i wr=>∃ (k:Nat) (N:Nat -> List Rn),k <= 16/\s = .int .i64 (eK N k)/\i = .int .i64 k/\Hid (∀ r,r < k -> aT (F r).L (N r))/\Hid (Below w1.heap.size w1 wr)) (fun _ i _=>16 - (intOf i).toNat)
 case atStart=>exact ⟨0,fun _=>[],Nat.zero_le _,rfl,rfl,fun r h=>by omega,Below.refl _ _⟩
 case round =>
  obtain ⟨k,N,hk,rfl,rfl,HN,HB⟩:=hrel
  rename World=>w3
  have FD:=zbD (N:=N) k (fun r hr=>(HN.out r hr).1);by_cases ak:k < 16
  ·have c1:(ixA (SAv F) (.int .i64 (k:Int))).run Tryz.prog w3=_:=zfY F k ak w3;have Ce:=hide ((dm.out k ak).below HB.out);obtain ⟨sa,sn,sc,hf⟩:∃ sa sn sc,(F k).ao=sa/\(F k).n=sn/\(F k).cap=sc:=⟨_,_,_,rfl,rfl,rfl⟩;rw [hf.1,hf.2.1,hf.2.2] at c1 Ce;clear hf;go_wp2_with fail;refine (zfT sa sn sc (F k).L _ Ce.out).mono ?_;rintro e w4 ⟨z,rfl,hz,b4⟩;obtain ⟨R,hR,Io⟩:=hz;have h2:=zbz hR.1
   have h3:0 <= z/\z <= 1000000000:=by
    rw [Io];refine ⟨h2.1,?_⟩;rcases h2.2.1 with e | e
    ·rw [e];simp [sz]
    ·omega
   have px:Hid (∀ r,r < k+1 -> aT (F r).L ((fun r=>if r=k then R else N r) r)):=fun r hr=>by
    dsimp only;by_cases e:r=k
    ·subst e;rw [if_pos rfl];exact hR
    ·rw [if_neg e];exact HN.out r (by omega)
   have Co:Hid (eK N k+z=eK (fun r=>if r=k then R else N r) (k+1)):=by
    have h:eK (fun r=>if r=k then R else N r) k=eK N k:=yJ k (fun r hr=>by simp;omega)
    show _=_
    rw [eK,h,Io];simp
   have aQ:=wTr HB b4;obtain ⟨y,Hy⟩:∃ y,Hid (eK N k=y):=⟨_,rfl⟩;rw [Hy.out] at FD Co ⊢;clear hR Io h2 b4;go_wp2_with fail;go_roundw
   case rel=>exact ⟨k+1,fun r=>if r=k then R else N r,by omega,by rw [<- Co.out],by go_num,px.out,aQ.out⟩
   case measure=>simp [intOf];omega
  ·obtain rfl:k=16:=by omega
   have HR:Hid (lG (ae a.P) (eK N 16)/\Below w.heap.size w w3):=⟨⟨N,fun r hr=>by rw [<- qZ,<- HF.out r hr];exact HN.out r hr,rfl⟩,cg.out.trans (HB.out.mono cg.out.size)⟩;go_wp2_with fail;go_ret;exact ⟨_,rfl,HR.out⟩
theorem lG.zero {G:Nat -> List Rn} {z:Int} (h:lG G z):z=0↔∀ r,r < 16 -> ∀ n,¬ mem (G r) n:=by
 obtain ⟨N,hN,rfl⟩:=h
 have key:∀ k,k <= 16 -> (eK N k=0↔∀ r,r < k -> N r=[]):=by
  intro k
  induction k with
  | zero=>intro _;exact ⟨fun _ r h=>by omega,fun _=>rfl⟩
  | succ k ih =>
   intro hk;have h1:=zbD (N:=N) k (fun r hr=>(hN r (by omega)).1);have h2:=zbz (hN k (by omega)).1;rw [eK];constructor
   ·intro h r hr;by_cases e:r=k
    ·subst e;exact h2.2.2 (by omega)
    ·exact (ih (by omega)).1 (by omega) r (by omega)
   ·intro h;rw [(ih (by omega)).2 (fun r hr=>h r (by omega)),h k (by omega)];rfl
 rw [key 16 (by omega)];constructor
 ·intro h r hr n hm;have:=((hN r hr).2 n).2 hm;rw [h r hr] at this;exact qV n this
 ·intro h r hr;exact zdD (Int.le_refl _) (hN r hr).1 (fun n hm=>h r hr n (((hN r hr).2 n).1 hm))
theorem jA (a:Pv) (w:World) (hS:am w a) :
  Calls Tryz.prog 148 #[PV a] w fun e w'=>∃ b,e = .returned (.bool b)/\(b=true↔∀ r,r < 16 -> ∀ n,¬ mem (ae a.P r) n)/\Below w.heap.size w w':=by
 have b0:=ze w (.cells (PC a) 26)
 have l1:=zl (zr w a).at
 have aN:=hide b0;have HS:=hide (hS.below aN.out);clear hS b0;go_enter Tryz.func148,Tryz.ntmps148;go_wp2_with fail;refine (vL a _ HS.out).mono ?_;rintro e w2 ⟨z,rfl,hz,b2⟩
 have HZ:Hid ((z == 0)=true↔∀ r,r < 16 -> ∀ n,¬ mem (ae a.P r) n):=by rw [<- hz.zero];simp [Hid]
 have cg:=wTr aN b2;clear hz b2;go_wp2_with fail;go_ret;exact ⟨_,rfl,HZ.out,cg.out⟩
end
section
open Go.RowKit
attribute [local go_sem ↓] zq zp kN kz
attribute [local go_sem] xF qT zE zi qm zj qJ
theorem zeu (a:Pv) (w:World) (hS:am w a):Calls Tryz.prog 92 #[PV a] w fun e w'=>gX w w' e (ae a.P):=by
 have b1:=ze w (.cells (PC a) 26);have b2:=ze (w.alloc (.cells (PC a) 26)) (.cells (JA fun _=>si0) 141);have X2:=xA (w.alloc (.cells (PC a) 26)) 141 (fun _=>si0);rw [World.size_alloc] at X2;have eo:=hide ((zr w a).below b2);have fB:=hide X2;have aq:=hide (b1.trans (b2.mono b1.size));have HS:=hide (hS.below aq.out);clear b1 b2 X2 hS;obtain ⟨wk,aY⟩:∃ wk,(w.alloc (.cells (PC a) 26)).alloc (.cells (JA fun _=>si0) 141)=wk:=⟨_,rfl⟩
 have sJ:Hid (wk.heap.size=w.heap.size+1+1):=by show _=_;rw [<- aY];simp
 rw [aY] at eo fB aq HS
 have l1:=zl eo.out.at
 have b3:=ze wk (.cells (PC a) 26);have HR:=hide (kI wk a HS.out);have Ml:=hide (wB HS.out);have aB:=wTr aq b3;have fL:=hide (fB.out.below b3);clear b3;go_enter Tryz.func92,Tryz.ntmps92;go_wp2_with fail;clear aY;refine (zgh _ 1 1 [a] _ HR.out Ml.out (by omega)).mono ?_;rintro e w2 ⟨T,N,rfl,hT,b4⟩;have iv:=fL.out.below b4;have a8:=zbH (F':=T) iv;have nj:=hide (aS.setRow (F':=T) iv)
 have gz:Hid (gX w (w2.setRow (w.heap.size+1) (JA T)) (.returned (JAv T)) (ae a.P)):=by
  refine ⟨T,N,rfl,fun r hr=>?_,zh (aB.out.trans (b4.mono aB.out.size)) (by omega)⟩;obtain ⟨h1,h2,h3⟩:=hT r hr;rw [qZ] at h3;simp only [World.size_alloc] at h2;have DU:=sJ.out;exact ⟨bv h1 (fun ad h=>setRow_other _ _ _ _ (fun e=>by have:=h2 ad h;omega)),fun ad h=>by have:=h2 ad h;omega,h3⟩
 clear hT b4 iv l1;go_wp2_with fail;exact bodyPost_ret (v:=JAv T) (EI Tryz.results92 rfl nj.out) rfl gz.out
theorem zg5 {G N:Nat -> List Rn} (h:∀ r,r < 16 -> aT (G r) (N r)) {P:Pst} (hP:P=dM N):af G P:=⟨N,h,hP⟩
theorem kg (a:Pv) (w:World) (hS:am w a):Calls Tryz.prog 93 #[PV a] w fun e w'=>cV w w' e (af (ae a.P)):=by
 have b1:=ze w (.cells (PC a) 26);have b2:=ze (w.alloc (.cells (PC a) 26)) (.cells (PC pv0) 26);have X2:=zr (w.alloc (.cells (PC a) 26)) pv0;rw [World.size_alloc] at X2;have eo:=hide ((zr w a).below b2);have fB:=hide X2;have aq:=hide (b1.trans (b2.mono b1.size));have HS:=hide (hS.below aq.out);clear b1 b2 X2 hS;obtain ⟨wk,aY⟩:∃ wk,(w.alloc (.cells (PC a) 26)).alloc (.cells (PC pv0) 26)=wk:=⟨_,rfl⟩
 have sJ:Hid (wk.heap.size=w.heap.size+1+1):=by show _=_;rw [<- aY];simp
 rw [aY] at eo fB aq HS
 have l1:=zl eo.out.at
 go_enter Tryz.func93,Tryz.ntmps93;go_wp2_with fail;clear aY;refine (zeu a _ HS.out).mono ?_;rintro e w2 ⟨T,N,rfl,hT,b4⟩;have HT:=hide hT;have aQ:=hide b4;have iv:=hide (fB.out.below b4);clear hT b4 l1;go_wp2_with fail;refine (zbV T N _ (fun r hr=>⟨(HT.out r hr).1,(HT.out r hr).2.2.1⟩)).mono ?_;rintro e w3 ⟨p,rfl,S3,n3,b5,c5⟩;have DU:=sJ.out;have dP:=aQ.out.size;obtain ⟨e1,e2,e3,e4,e5⟩:=qU (w:=w) (iv.out.below b5) S3 (n3.mono (by omega)) (aq.out.trans ((aQ.out.mono aq.out.size).trans (b5.mono (Nat.le_trans aq.out.size dP)))) (by omega);have nj:=hide e2;have gz:Hid (cV w _ (.returned (PV p)) (af (ae a.P))):=⟨p,rfl,e3,e4,e5,zg5 (fun r hr=>(HT.out r hr).2.2) c5⟩;clear S3 n3 b5 c5 e2 e3 e4 e5 DU dP;go_wp2_with fail;exact bodyPost_ret (v:=PV p) (eS Tryz.results93 rfl nj.out) rfl gz.out
end
end Go.Proofs.YtjffpimfngdggaaGreat
