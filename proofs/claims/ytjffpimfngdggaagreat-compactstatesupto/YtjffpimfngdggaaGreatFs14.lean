/- PCt SNe PCf LBase LSku -/
import Derived.Test.YtjffpimfngdggaaGreatTk
import Derived.Test.YtjffpimfngdggaaGreatFs13
import Derived.Test.YtjffpimfngdggaaGreatFs00
import Derived.Test.YtjffpimfngdggaaGreatRows
import Derived.WalkKit
import Derived.WalkSpells
import Derived.Deep.QuietTactic
import Derived.BigQuiet
set_option maxRecDepth 100000
set_option maxHeartbeats 4000000
namespace Go.Proofs.YtjffpimfngdggaaGreat
section
open Go.RowKit
theorem vlit3 (w:World) (x y z:Int) (C:Array Value) (hC:C=#[.int .i64 x,.int .i64 y,.int .i64 z]) (T:TypeId):V.Src (w.alloc (.cells C T)) (some ⟨w.heap.size,0,none⟩) 3 3 [x,y,z]:=by
 subst hC;refine ⟨rfl,fun h=>(by cases h),fun ad h t ht=>?_⟩;obtain rfl:=Option.some.inj h;rw [Addr.add_lit,Nat.zero_add,World.cell?_alloc_new]
 have:t=0∨t=1∨t=2:=by omega
 rcases this with rfl | rfl | rfl <;> rfl
attribute [local go_sem ↓] ji jG
attribute [local go_sem] jj qJ kw xw
theorem zi0 (x y:Sn):orL [cmpI x.rep y.rep,cmpI x.lo y.lo,cmpI x.hi y.hi]=cmp3 x y:=by
 unfold cmp3;simp only [orL];by_cases e:cmpI x.hi y.hi=0
 ·rw [if_pos e,e]
 ·rw [if_neg e]
theorem zh3 (x y:Sn) (ao:Option Addr) (w:World) (hS:V.Src w ao 3 3 [cmpI x.rep y.rep,cmpI x.lo y.lo,cmpI x.hi y.hi]) :
  Calls Tryz.prog 137 #[.slice ao 3 3] w fun e w'=>e = .returned (.int .i64 (cmp3 x y))/\Below w.heap.size w w':=by
 rw [<- zi0];exact zeE ao 3 3 _ w hS (by omega)
def PhC (sx sy:Sn) (w:World) (_:World):Nat -> Value -> World -> Prop
 | 0,x,_=>x = .pointer (some ⟨w.heap.size,0,none⟩)
 | 1,x,_=>x = .int .i64 sx.rep
 | 2,x,_=>x = .pointer (some ⟨w.heap.size+1,0,none⟩)
 | 3,x,_=>x = .int .i64 sy.rep
 | 4,x,_=>x = .int .i64 (cmpI sx.rep sy.rep)
 | 5,x,_=>x = .pointer (some ⟨w.heap.size,1,none⟩)
 | 6,x,_=>x = .int .i64 sx.lo
 | 7,x,_=>x = .pointer (some ⟨w.heap.size+1,1,none⟩)
 | 8,x,_=>x = .int .i64 sy.lo
 | 9,x,_=>x = .int .i64 (cmpI sx.lo sy.lo)
 | 10,x,_=>x = .pointer (some ⟨w.heap.size,2,none⟩)
 | 11,x,_=>x = .int .i64 sx.hi
 | 12,x,_=>x = .pointer (some ⟨w.heap.size+1,2,none⟩)
 | 13,x,_=>x = .int .i64 sy.hi
 | 14,x,_=>x = .int .i64 (cmpI sx.hi sy.hi)
 | 15,x,W=>∃ g,x = .slice (some ⟨g,0,none⟩) 3 3/\V.Src W (some ⟨g,0,none⟩) 3 3 [cmpI sx.rep sy.rep,cmpI sx.lo sy.lo,cmpI sx.hi sy.hi]
 | 16,x,_=>x = .int .i64 (cmp3 sx sy)
 | 17,x,_=>x = .int .i64 (cmp3 sx sy)
 | _,_,_=>True
theorem qr (sx sy:Sn) (w:World) (W0:World):Mono (PhC sx sy w W0):=fun i x W W' h hb=>match i with
 | 0=>h
 | 1=>h
 | 2=>h
 | 3=>h
 | 4=>h
 | 5=>h
 | 6=>h
 | 7=>h
 | 8=>h
 | 9=>h
 | 10=>h
 | 11=>h
 | 12=>h
 | 13=>h
 | 14=>h
 | 15=>by obtain ⟨g,e,R⟩:=h;exact ⟨g,e,R.below hb⟩
 | 16=>h
 | 17=>h
 | _+18=>trivial
theorem stC {sx sy:Sn} {w wk:World} (HX:Hid (SBox wk w.heap.size sx)) (HY:Hid (SBox wk (w.heap.size+1) sy)) {Q:Exit -> Act -> World -> Prop} :
  ∀ (l:Array Bool) (x:Act) (W:World),(∃ v1x0 v1x1 v1x2 v1x3 v1x4 v1x5 v1x6 v1x7 v1x8 v1x9 v1x10 v1x11 v1x12 v1x13 v1x14 v1x15 v1x16 v1x17,x={ tmps:=#[SV sx,SV sy,ptr w.heap.size,ptr (w.heap.size+1),v1x17,v1x0,v1x1,v1x2,v1x3,v1x4,v1x5,v1x6,v1x7,v1x8,v1x9,v1x10,v1x11,v1x12,v1x13,v1x14,v1x15,v1x16],defers:=[] }/\BI 18 25 wk (PhC sx sy w wk) [] [] [] l W [v1x0,v1x1,v1x2,v1x3,v1x4,v1x5,v1x6,v1x7,v1x8,v1x9,v1x10,v1x11,v1x12,v1x13,v1x14,v1x15,v1x16,v1x17]) -> ∀ i,i∈Region.ready .any #[⟨some 5,.fieldAddr 104 (.tmp 2) 0,0, "sets.go:70",#[],none⟩,⟨some 6,.load 3 (.tmp 5),3, "sets.go:70",#[⟨0,.data⟩],none⟩,⟨some 7,.fieldAddr 104 (.tmp 3) 0,0, "sets.go:70",#[],none⟩,⟨some 8,.load 3 (.tmp 7),3, "sets.go:70",#[⟨2,.data⟩],none⟩,⟨some 9,.call ⟨.value (.func 138),#[.tmp 6,.tmp 8],#[3,3]⟩,3, "sets.go:70",#[⟨1,.data⟩,⟨3,.data⟩],none⟩,⟨some 10,.fieldAddr 104 (.tmp 2) 1,0, "sets.go:70",#[],none⟩,⟨some 11,.load 3 (.tmp 10),3, "sets.go:70",#[⟨5,.data⟩],none⟩,⟨some 12,.fieldAddr 104 (.tmp 3) 1,0, "sets.go:70",#[],none⟩,⟨some 13,.load 3 (.tmp 12),3, "sets.go:70",#[⟨7,.data⟩],none⟩,⟨some 14,.call ⟨.value (.func 138),#[.tmp 11,.tmp 13],#[3,3]⟩,3, "sets.go:70",#[⟨6,.data⟩,⟨8,.data⟩,⟨4,.chain⟩],none⟩,⟨some 15,.fieldAddr 104 (.tmp 2) 2,0, "sets.go:70",#[],none⟩,⟨some 16,.load 3 (.tmp 15),3, "sets.go:70",#[⟨10,.data⟩],none⟩,⟨some 17,.fieldAddr 104 (.tmp 3) 2,0, "sets.go:70",#[],none⟩,⟨some 18,.load 3 (.tmp 17),3, "sets.go:70",#[⟨12,.data⟩],none⟩,⟨some 19,.call ⟨.value (.func 138),#[.tmp 16,.tmp 18],#[3,3]⟩,3, "sets.go:70",#[⟨11,.data⟩,⟨13,.data⟩,⟨9,.chain⟩],none⟩,⟨some 20,.buildSlice 23 3 #[(0,.tmp 9),(1,.tmp 14),(2,.tmp 19)],23, "sets.go:70",#[⟨4,.data⟩,⟨9,.data⟩,⟨14,.data⟩],none⟩,⟨some 21,.call ⟨.value (.func 137),#[.tmp 20],#[23]⟩,3, "sets.go:70",#[⟨15,.data⟩,⟨14,.chain⟩],none⟩,⟨some 4,.assign (.tmp 21),3, "sets.go:70",#[⟨16,.data⟩,⟨16,.chain⟩,⟨0,.phase⟩,⟨1,.phase⟩,⟨2,.phase⟩,⟨3,.phase⟩,⟨4,.phase⟩,⟨5,.phase⟩,⟨6,.phase⟩,⟨7,.phase⟩,⟨8,.phase⟩,⟨9,.phase⟩,⟨10,.phase⟩,⟨11,.phase⟩,⟨12,.phase⟩,⟨13,.phase⟩,⟨14,.phase⟩,⟨15,.phase⟩,⟨16,.phase⟩],none⟩] l -> wpOp Tryz.prog #[⟨some 5,.fieldAddr 104 (.tmp 2) 0,0, "sets.go:70",#[],none⟩,⟨some 6,.load 3 (.tmp 5),3, "sets.go:70",#[⟨0,.data⟩],none⟩,⟨some 7,.fieldAddr 104 (.tmp 3) 0,0, "sets.go:70",#[],none⟩,⟨some 8,.load 3 (.tmp 7),3, "sets.go:70",#[⟨2,.data⟩],none⟩,⟨some 9,.call ⟨.value (.func 138),#[.tmp 6,.tmp 8],#[3,3]⟩,3, "sets.go:70",#[⟨1,.data⟩,⟨3,.data⟩],none⟩,⟨some 10,.fieldAddr 104 (.tmp 2) 1,0, "sets.go:70",#[],none⟩,⟨some 11,.load 3 (.tmp 10),3, "sets.go:70",#[⟨5,.data⟩],none⟩,⟨some 12,.fieldAddr 104 (.tmp 3) 1,0, "sets.go:70",#[],none⟩,⟨some 13,.load 3 (.tmp 12),3, "sets.go:70",#[⟨7,.data⟩],none⟩,⟨some 14,.call ⟨.value (.func 138),#[.tmp 11,.tmp 13],#[3,3]⟩,3, "sets.go:70",#[⟨6,.data⟩,⟨8,.data⟩,⟨4,.chain⟩],none⟩,⟨some 15,.fieldAddr 104 (.tmp 2) 2,0, "sets.go:70",#[],none⟩,⟨some 16,.load 3 (.tmp 15),3, "sets.go:70",#[⟨10,.data⟩],none⟩,⟨some 17,.fieldAddr 104 (.tmp 3) 2,0, "sets.go:70",#[],none⟩,⟨some 18,.load 3 (.tmp 17),3, "sets.go:70",#[⟨12,.data⟩],none⟩,⟨some 19,.call ⟨.value (.func 138),#[.tmp 16,.tmp 18],#[3,3]⟩,3, "sets.go:70",#[⟨11,.data⟩,⟨13,.data⟩,⟨9,.chain⟩],none⟩,⟨some 20,.buildSlice 23 3 #[(0,.tmp 9),(1,.tmp 14),(2,.tmp 19)],23, "sets.go:70",#[⟨4,.data⟩,⟨9,.data⟩,⟨14,.data⟩],none⟩,⟨some 21,.call ⟨.value (.func 137),#[.tmp 20],#[23]⟩,3, "sets.go:70",#[⟨15,.data⟩,⟨14,.chain⟩],none⟩,⟨some 4,.assign (.tmp 21),3, "sets.go:70",#[⟨16,.data⟩,⟨16,.chain⟩,⟨0,.phase⟩,⟨1,.phase⟩,⟨2,.phase⟩,⟨3,.phase⟩,⟨4,.phase⟩,⟨5,.phase⟩,⟨6,.phase⟩,⟨7,.phase⟩,⟨8,.phase⟩,⟨9,.phase⟩,⟨10,.phase⟩,⟨11,.phase⟩,⟨12,.phase⟩,⟨13,.phase⟩,⟨14,.phase⟩,⟨15,.phase⟩,⟨16,.phase⟩],none⟩] Q i (fun a' w'=>∃ v1x0 v1x1 v1x2 v1x3 v1x4 v1x5 v1x6 v1x7 v1x8 v1x9 v1x10 v1x11 v1x12 v1x13 v1x14 v1x15 v1x16 v1x17,a'={ tmps:=#[SV sx,SV sy,ptr w.heap.size,ptr (w.heap.size+1),v1x17,v1x0,v1x1,v1x2,v1x3,v1x4,v1x5,v1x6,v1x7,v1x8,v1x9,v1x10,v1x11,v1x12,v1x13,v1x14,v1x15,v1x16],defers:=[] }/\BI 18 25 wk (PhC sx sy w wk) [] [] [] (l.setIfInBounds i true) w' [v1x0,v1x1,v1x2,v1x3,v1x4,v1x5,v1x6,v1x7,v1x8,v1x9,v1x10,v1x11,v1x12,v1x13,v1x14,v1x15,v1x16,v1x17]) x W:=by
 rintro l x W ⟨v1x0,v1x1,v1x2,v1x3,v1x4,v1x5,v1x6,v1x7,v1x8,v1x9,v1x10,v1x11,v1x12,v1x13,v1x14,v1x15,v1x16,v1x17,rfl,T⟩ i hi;obtain ⟨hi1,hi2,hi3⟩:=xY hi;have hi4:=vJ hi2
 have hc:i=0∨i=1∨i=2∨i=3∨i=4∨i=5∨i=6∨i=7∨i=8∨i=9∨i=10∨i=11∨i=12∨i=13∨i=14∨i=15∨i=16∨i=17:=by have h:i < 18:=hi1;omega
 have HT:=hide T;clear T;rcases hc with rfl | rfl | rfl | rfl | rfl | rfl | rfl | rfl | rfl | rfl | rfl | rfl | rfl | rfl | rfl | rfl | rfl | rfl
 ·have HL:=hide hi4;clear hi hi1 hi2 hi3 hi4;refine wpOp_step (o:=⟨some 5,.fieldAddr 104 (.tmp 2) 0,0, "sets.go:70",#[],none⟩) rfl (fun K hK=>?_);go_simp;exact hK _ _ ⟨.pointer (some ⟨w.heap.size,0,none⟩),v1x1,v1x2,v1x3,v1x4,v1x5,v1x6,v1x7,v1x8,v1x9,v1x10,v1x11,v1x12,v1x13,v1x14,v1x15,v1x16,v1x17,rfl,HT.out.plain (qr sx sy w wk) (Below.refl _ _) 0 (by decide) HL.out _ rfl (by simp) (by simp) (by decide)⟩
 ·have d0:=hi3 _ rfl { on:=0,ground:=Ground.data } (by simp) rfl;have e0:v1x0 = .pointer (some ⟨w.heap.size,0,none⟩):=HT.out.h 0 (by decide) d0 (fun hm=>absurd hm (by decide));subst e0;have HL:=hide hi4;clear hi hi1 hi2 hi3 hi4 d0;have c1:=(HX.out.below HT.out.b).at.1;refine wpOp_step (o:=⟨some 6,.load 3 (.tmp 5),3, "sets.go:70",#[⟨0,.data⟩],none⟩) rfl (fun K hK=>?_);go_simp;exact hK _ _ ⟨_,.int .i64 sx.rep,v1x2,v1x3,v1x4,v1x5,v1x6,v1x7,v1x8,v1x9,v1x10,v1x11,v1x12,v1x13,v1x14,v1x15,v1x16,v1x17,rfl,HT.out.plain (qr sx sy w wk) (Below.refl _ _) 1 (by decide) HL.out _ rfl (by simp) (by simp) (by decide)⟩
 ·have HL:=hide hi4;clear hi hi1 hi2 hi3 hi4;refine wpOp_step (o:=⟨some 7,.fieldAddr 104 (.tmp 3) 0,0, "sets.go:70",#[],none⟩) rfl (fun K hK=>?_);go_simp;exact hK _ _ ⟨v1x0,v1x1,.pointer (some ⟨w.heap.size+1,0,none⟩),v1x3,v1x4,v1x5,v1x6,v1x7,v1x8,v1x9,v1x10,v1x11,v1x12,v1x13,v1x14,v1x15,v1x16,v1x17,rfl,HT.out.plain (qr sx sy w wk) (Below.refl _ _) 2 (by decide) HL.out _ rfl (by simp) (by simp) (by decide)⟩
 ·have d2:=hi3 _ rfl { on:=2,ground:=Ground.data } (by simp) rfl;have e2:v1x2 = .pointer (some ⟨w.heap.size+1,0,none⟩):=HT.out.h 2 (by decide) d2 (fun hm=>absurd hm (by decide));subst e2;have HL:=hide hi4;clear hi hi1 hi2 hi3 hi4 d2;have c1:=(HY.out.below HT.out.b).at.1;refine wpOp_step (o:=⟨some 8,.load 3 (.tmp 7),3, "sets.go:70",#[⟨2,.data⟩],none⟩) rfl (fun K hK=>?_);go_simp;exact hK _ _ ⟨v1x0,v1x1,_,.int .i64 sy.rep,v1x4,v1x5,v1x6,v1x7,v1x8,v1x9,v1x10,v1x11,v1x12,v1x13,v1x14,v1x15,v1x16,v1x17,rfl,HT.out.plain (qr sx sy w wk) (Below.refl _ _) 3 (by decide) HL.out _ rfl (by simp) (by simp) (by decide)⟩
 ·have d1:=hi3 _ rfl { on:=1,ground:=Ground.data } (by simp) rfl;have d3:=hi3 _ rfl { on:=3,ground:=Ground.data } (by simp) rfl;have e1:v1x1 = .int .i64 sx.rep:=HT.out.h 1 (by decide) d1 (fun hm=>absurd hm (by decide));subst e1;have e3:v1x3 = .int .i64 sy.rep:=HT.out.h 3 (by decide) d3 (fun hm=>absurd hm (by decide));subst e3;have HL:=hide hi4;clear hi hi1 hi2 hi3 hi4 d1 d3;refine wpOp_step (o:=⟨some 9,.call ⟨.value (.func 138),#[.tmp 6,.tmp 8],#[3,3]⟩,3, "sets.go:70",#[⟨1,.data⟩,⟨3,.data⟩],none⟩) rfl (fun K hK=>?_);go_simp;go_wp2_with fail;refine (yv sx.rep sy.rep _).mono ?_;rintro e w' ⟨rfl,pb⟩;exact hK _ _ ⟨v1x0,_,v1x2,_,.int .i64 (cmpI sx.rep sy.rep),v1x5,v1x6,v1x7,v1x8,v1x9,v1x10,v1x11,v1x12,v1x13,v1x14,v1x15,v1x16,v1x17,rfl,HT.out.plain (qr sx sy w wk) pb 4 (by decide) HL.out _ rfl (by simp) (by simp) (by decide)⟩
 ·have HL:=hide hi4;clear hi hi1 hi2 hi3 hi4;refine wpOp_step (o:=⟨some 10,.fieldAddr 104 (.tmp 2) 1,0, "sets.go:70",#[],none⟩) rfl (fun K hK=>?_);go_simp;exact hK _ _ ⟨v1x0,v1x1,v1x2,v1x3,v1x4,.pointer (some ⟨w.heap.size,1,none⟩),v1x6,v1x7,v1x8,v1x9,v1x10,v1x11,v1x12,v1x13,v1x14,v1x15,v1x16,v1x17,rfl,HT.out.plain (qr sx sy w wk) (Below.refl _ _) 5 (by decide) HL.out _ rfl (by simp) (by simp) (by decide)⟩
 ·have d5:=hi3 _ rfl { on:=5,ground:=Ground.data } (by simp) rfl;have e5:v1x5 = .pointer (some ⟨w.heap.size,1,none⟩):=HT.out.h 5 (by decide) d5 (fun hm=>absurd hm (by decide));subst e5;have HL:=hide hi4;clear hi hi1 hi2 hi3 hi4 d5;have c1:=(HX.out.below HT.out.b).at.2.1;refine wpOp_step (o:=⟨some 11,.load 3 (.tmp 10),3, "sets.go:70",#[⟨5,.data⟩],none⟩) rfl (fun K hK=>?_);go_simp;exact hK _ _ ⟨v1x0,v1x1,v1x2,v1x3,v1x4,_,.int .i64 sx.lo,v1x7,v1x8,v1x9,v1x10,v1x11,v1x12,v1x13,v1x14,v1x15,v1x16,v1x17,rfl,HT.out.plain (qr sx sy w wk) (Below.refl _ _) 6 (by decide) HL.out _ rfl (by simp) (by simp) (by decide)⟩
 ·have HL:=hide hi4;clear hi hi1 hi2 hi3 hi4;refine wpOp_step (o:=⟨some 12,.fieldAddr 104 (.tmp 3) 1,0, "sets.go:70",#[],none⟩) rfl (fun K hK=>?_);go_simp;exact hK _ _ ⟨v1x0,v1x1,v1x2,v1x3,v1x4,v1x5,v1x6,.pointer (some ⟨w.heap.size+1,1,none⟩),v1x8,v1x9,v1x10,v1x11,v1x12,v1x13,v1x14,v1x15,v1x16,v1x17,rfl,HT.out.plain (qr sx sy w wk) (Below.refl _ _) 7 (by decide) HL.out _ rfl (by simp) (by simp) (by decide)⟩
 ·have d7:=hi3 _ rfl { on:=7,ground:=Ground.data } (by simp) rfl;have e7:v1x7 = .pointer (some ⟨w.heap.size+1,1,none⟩):=HT.out.h 7 (by decide) d7 (fun hm=>absurd hm (by decide));subst e7;have HL:=hide hi4;clear hi hi1 hi2 hi3 hi4 d7;have c1:=(HY.out.below HT.out.b).at.2.1;refine wpOp_step (o:=⟨some 13,.load 3 (.tmp 12),3, "sets.go:70",#[⟨7,.data⟩],none⟩) rfl (fun K hK=>?_);go_simp;exact hK _ _ ⟨v1x0,v1x1,v1x2,v1x3,v1x4,v1x5,v1x6,_,.int .i64 sy.lo,v1x9,v1x10,v1x11,v1x12,v1x13,v1x14,v1x15,v1x16,v1x17,rfl,HT.out.plain (qr sx sy w wk) (Below.refl _ _) 8 (by decide) HL.out _ rfl (by simp) (by simp) (by decide)⟩
 ·have d6:=hi3 _ rfl { on:=6,ground:=Ground.data } (by simp) rfl;have d8:=hi3 _ rfl { on:=8,ground:=Ground.data } (by simp) rfl;have e6:v1x6 = .int .i64 sx.lo:=HT.out.h 6 (by decide) d6 (fun hm=>absurd hm (by decide));subst e6;have e8:v1x8 = .int .i64 sy.lo:=HT.out.h 8 (by decide) d8 (fun hm=>absurd hm (by decide));subst e8;have HL:=hide hi4;clear hi hi1 hi2 hi3 hi4 d6 d8;refine wpOp_step (o:=⟨some 14,.call ⟨.value (.func 138),#[.tmp 11,.tmp 13],#[3,3]⟩,3, "sets.go:70",#[⟨6,.data⟩,⟨8,.data⟩,⟨4,.chain⟩],none⟩) rfl (fun K hK=>?_);go_simp;go_wp2_with fail;refine (yv sx.lo sy.lo _).mono ?_;rintro e w' ⟨rfl,pb⟩;exact hK _ _ ⟨v1x0,v1x1,v1x2,v1x3,v1x4,v1x5,_,v1x7,_,.int .i64 (cmpI sx.lo sy.lo),v1x10,v1x11,v1x12,v1x13,v1x14,v1x15,v1x16,v1x17,rfl,HT.out.plain (qr sx sy w wk) pb 9 (by decide) HL.out _ rfl (by simp) (by simp) (by decide)⟩
 ·have HL:=hide hi4;clear hi hi1 hi2 hi3 hi4;refine wpOp_step (o:=⟨some 15,.fieldAddr 104 (.tmp 2) 2,0, "sets.go:70",#[],none⟩) rfl (fun K hK=>?_);go_simp;exact hK _ _ ⟨v1x0,v1x1,v1x2,v1x3,v1x4,v1x5,v1x6,v1x7,v1x8,v1x9,.pointer (some ⟨w.heap.size,2,none⟩),v1x11,v1x12,v1x13,v1x14,v1x15,v1x16,v1x17,rfl,HT.out.plain (qr sx sy w wk) (Below.refl _ _) 10 (by decide) HL.out _ rfl (by simp) (by simp) (by decide)⟩
 ·have d10:=hi3 _ rfl { on:=10,ground:=Ground.data } (by simp) rfl;have e10:v1x10 = .pointer (some ⟨w.heap.size,2,none⟩):=HT.out.h 10 (by decide) d10 (fun hm=>absurd hm (by decide));subst e10;have HL:=hide hi4;clear hi hi1 hi2 hi3 hi4 d10;have c1:=(HX.out.below HT.out.b).at.2.2;refine wpOp_step (o:=⟨some 16,.load 3 (.tmp 15),3, "sets.go:70",#[⟨10,.data⟩],none⟩) rfl (fun K hK=>?_);go_simp;exact hK _ _ ⟨v1x0,v1x1,v1x2,v1x3,v1x4,v1x5,v1x6,v1x7,v1x8,v1x9,_,.int .i64 sx.hi,v1x12,v1x13,v1x14,v1x15,v1x16,v1x17,rfl,HT.out.plain (qr sx sy w wk) (Below.refl _ _) 11 (by decide) HL.out _ rfl (by simp) (by simp) (by decide)⟩
 ·have HL:=hide hi4;clear hi hi1 hi2 hi3 hi4;refine wpOp_step (o:=⟨some 17,.fieldAddr 104 (.tmp 3) 2,0, "sets.go:70",#[],none⟩) rfl (fun K hK=>?_);go_simp;exact hK _ _ ⟨v1x0,v1x1,v1x2,v1x3,v1x4,v1x5,v1x6,v1x7,v1x8,v1x9,v1x10,v1x11,.pointer (some ⟨w.heap.size+1,2,none⟩),v1x13,v1x14,v1x15,v1x16,v1x17,rfl,HT.out.plain (qr sx sy w wk) (Below.refl _ _) 12 (by decide) HL.out _ rfl (by simp) (by simp) (by decide)⟩
 ·have d12:=hi3 _ rfl { on:=12,ground:=Ground.data } (by simp) rfl;have e12:v1x12 = .pointer (some ⟨w.heap.size+1,2,none⟩):=HT.out.h 12 (by decide) d12 (fun hm=>absurd hm (by decide));subst e12;have HL:=hide hi4;clear hi hi1 hi2 hi3 hi4 d12;have c1:=(HY.out.below HT.out.b).at.2.2;refine wpOp_step (o:=⟨some 18,.load 3 (.tmp 17),3, "sets.go:70",#[⟨12,.data⟩],none⟩) rfl (fun K hK=>?_);go_simp;exact hK _ _ ⟨v1x0,v1x1,v1x2,v1x3,v1x4,v1x5,v1x6,v1x7,v1x8,v1x9,v1x10,v1x11,_,.int .i64 sy.hi,v1x14,v1x15,v1x16,v1x17,rfl,HT.out.plain (qr sx sy w wk) (Below.refl _ _) 13 (by decide) HL.out _ rfl (by simp) (by simp) (by decide)⟩
 ·have d11:=hi3 _ rfl { on:=11,ground:=Ground.data } (by simp) rfl;have d13:=hi3 _ rfl { on:=13,ground:=Ground.data } (by simp) rfl;have e11:v1x11 = .int .i64 sx.hi:=HT.out.h 11 (by decide) d11 (fun hm=>absurd hm (by decide));subst e11;have e13:v1x13 = .int .i64 sy.hi:=HT.out.h 13 (by decide) d13 (fun hm=>absurd hm (by decide));subst e13;have HL:=hide hi4;clear hi hi1 hi2 hi3 hi4 d11 d13;refine wpOp_step (o:=⟨some 19,.call ⟨.value (.func 138),#[.tmp 16,.tmp 18],#[3,3]⟩,3, "sets.go:70",#[⟨11,.data⟩,⟨13,.data⟩,⟨9,.chain⟩],none⟩) rfl (fun K hK=>?_);go_simp;go_wp2_with fail;refine (yv sx.hi sy.hi _).mono ?_;rintro e w' ⟨rfl,pb⟩;exact hK _ _ ⟨v1x0,v1x1,v1x2,v1x3,v1x4,v1x5,v1x6,v1x7,v1x8,v1x9,v1x10,_,v1x12,_,.int .i64 (cmpI sx.hi sy.hi),v1x15,v1x16,v1x17,rfl,HT.out.plain (qr sx sy w wk) pb 14 (by decide) HL.out _ rfl (by simp) (by simp) (by decide)⟩
 ·have d4:=hi3 _ rfl { on:=4,ground:=Ground.data } (by simp) rfl;have d9:=hi3 _ rfl { on:=9,ground:=Ground.data } (by simp) rfl;have d14:=hi3 _ rfl { on:=14,ground:=Ground.data } (by simp) rfl;have e4:v1x4 = .int .i64 (cmpI sx.rep sy.rep):=HT.out.h 4 (by decide) d4 (fun hm=>absurd hm (by decide));subst e4;have e9:v1x9 = .int .i64 (cmpI sx.lo sy.lo):=HT.out.h 9 (by decide) d9 (fun hm=>absurd hm (by decide));subst e9;have e14:v1x14 = .int .i64 (cmpI sx.hi sy.hi):=HT.out.h 14 (by decide) d14 (fun hm=>absurd hm (by decide));subst e14;have HL:=hide hi4;clear hi hi1 hi2 hi3 hi4 d4 d9 d14;refine wpOp_step (o:=⟨some 20,.buildSlice 23 3 #[(0,.tmp 9),(1,.tmp 14),(2,.tmp 19)],23, "sets.go:70",#[⟨4,.data⟩,⟨9,.data⟩,⟨14,.data⟩],none⟩) rfl (fun K hK=>?_);go_simp;exact hK _ _ ⟨v1x0,v1x1,v1x2,v1x3,_,v1x5,v1x6,v1x7,v1x8,_,v1x10,v1x11,v1x12,v1x13,_,.slice (some ⟨W.heap.size,0,none⟩) 3 3,v1x16,v1x17,rfl,HT.out.plain (qr sx sy w wk) (ze _ _) 15 (by decide) HL.out _ ⟨_,rfl,vlit3 W _ _ _ _ rfl _⟩ (by simp) (by simp) (by decide)⟩
 ·have d15:=hi3 _ rfl { on:=15,ground:=Ground.data } (by simp) rfl;obtain ⟨g15,e15,R15⟩:∃ g,v1x15 = .slice (some ⟨g,0,none⟩) 3 3/\V.Src W (some ⟨g,0,none⟩) 3 3 [cmpI sx.rep sy.rep,cmpI sx.lo sy.lo,cmpI sx.hi sy.hi]:=HT.out.h 15 (by decide) d15 (fun hm=>absurd hm (by decide));subst e15;have HR15:=hide R15;clear R15;have HL:=hide hi4;clear hi hi1 hi2 hi3 hi4 d15;refine wpOp_step (o:=⟨some 21,.call ⟨.value (.func 137),#[.tmp 20],#[23]⟩,3, "sets.go:70",#[⟨15,.data⟩,⟨14,.chain⟩],none⟩) rfl (fun K hK=>?_);go_simp;go_wp2_with fail;refine (zh3 sx sy _ _ HR15.out).mono ?_;rintro e w' ⟨rfl,pb⟩;exact hK _ _ ⟨v1x0,v1x1,v1x2,v1x3,v1x4,v1x5,v1x6,v1x7,v1x8,v1x9,v1x10,v1x11,v1x12,v1x13,v1x14,_,.int .i64 (cmp3 sx sy),v1x17,rfl,HT.out.plain (qr sx sy w wk) pb 16 (by decide) HL.out _ rfl (by simp) (by simp) (by decide)⟩
 ·have d16:=hi3 _ rfl { on:=16,ground:=Ground.data } (by simp) rfl;have e16:v1x16 = .int .i64 (cmp3 sx sy):=HT.out.h 16 (by decide) d16 (fun hm=>absurd hm (by decide));subst e16;have HL:=hide hi4;clear hi hi1 hi2 hi3 hi4 d16;refine wpOp_step (o:=⟨some 4,.assign (.tmp 21),3, "sets.go:70",#[⟨16,.data⟩,⟨16,.chain⟩,⟨0,.phase⟩,⟨1,.phase⟩,⟨2,.phase⟩,⟨3,.phase⟩,⟨4,.phase⟩,⟨5,.phase⟩,⟨6,.phase⟩,⟨7,.phase⟩,⟨8,.phase⟩,⟨9,.phase⟩,⟨10,.phase⟩,⟨11,.phase⟩,⟨12,.phase⟩,⟨13,.phase⟩,⟨14,.phase⟩,⟨15,.phase⟩,⟨16,.phase⟩],none⟩) rfl (fun K hK=>?_);go_simp;exact hK _ _ ⟨v1x0,v1x1,v1x2,v1x3,v1x4,v1x5,v1x6,v1x7,v1x8,v1x9,v1x10,v1x11,v1x12,v1x13,v1x14,v1x15,_,.int .i64 (cmp3 sx sy),rfl,HT.out.plain (qr sx sy w wk) (Below.refl _ _) 17 (by decide) HL.out _ rfl (by simp) (by simp) (by decide)⟩
theorem wl (sx sy:Sn) (w:World):Calls Tryz.prog 207 #[SV sx,SV sy] w fun e w'=>e = .returned (.int .i64 (cmp3 sx sy))/\Below w.heap.size w w':=by
 have b1:=ze w (.cells (SC sx) 104);have b2:=ze (w.alloc (.cells (SC sx) 104)) (.cells (SC sy) 104);have X1:=(qP w sx).below b2;have X2:=qP (w.alloc (.cells (SC sx) 104)) sy;rw [World.size_alloc] at X2;have HX:=hide X1;have HY:=hide X2;have HBWwk:=hide (b1.trans (b2.mono b1.size));clear b1 b2 X1 X2;obtain ⟨wk,hwk⟩:∃ wk,(w.alloc (.cells (SC sx) 104)).alloc (.cells (SC sy) 104)=wk:=⟨_,rfl⟩;rw [hwk] at HX HY HBWwk;go_enter Tryz.func207,Tryz.ntmps207;go_wp2_with fail;clear hwk;refine qN (by kernel_rfl) (fun l x W=>∃ v1x0 v1x1 v1x2 v1x3 v1x4 v1x5 v1x6 v1x7 v1x8 v1x9 v1x10 v1x11 v1x12 v1x13 v1x14 v1x15 v1x16 v1x17,x={ tmps:=#[SV sx,SV sy,ptr w.heap.size,ptr (w.heap.size+1),v1x17,v1x0,v1x1,v1x2,v1x3,v1x4,v1x5,v1x6,v1x7,v1x8,v1x9,v1x10,v1x11,v1x12,v1x13,v1x14,v1x15,v1x16],defers:=[] }/\BI 18 25 wk (PhC sx sy w wk) [] [] [] l W [v1x0,v1x1,v1x2,v1x3,v1x4,v1x5,v1x6,v1x7,v1x8,v1x9,v1x10,v1x11,v1x12,v1x13,v1x14,v1x15,v1x16,v1x17]) ⟨undef,undef,undef,undef,undef,undef,undef,undef,undef,undef,undef,undef,undef,undef,undef,undef,undef,.int .i64 0,rfl,BI.start _ _ _ _ _ _ _ _ rfl⟩ ?_ ?_ ?_
 ·rintro l x W ⟨v1x0,v1x1,v1x2,v1x3,v1x4,v1x5,v1x6,v1x7,v1x8,v1x9,v1x10,v1x11,v1x12,v1x13,v1x14,v1x15,v1x16,v1x17,rfl,T⟩;exact T.sz
 ·exact stC HX HY
 ·rintro l x W ⟨v1x0,v1x1,v1x2,v1x3,v1x4,v1x5,v1x6,v1x7,v1x8,v1x9,v1x10,v1x11,v1x12,v1x13,v1x14,v1x15,v1x16,v1x17,rfl,T⟩ hnil;have hall:=fun i (hi:i < 18)=>xR (by kernel_rfl) T.sz hnil i hi;have HT:=hide T;clear T hnil;have e0:v1x0 = .pointer (some ⟨w.heap.size,0,none⟩):=HT.out.h 0 (by decide) (hall 0 (by decide)) (fun hm=>absurd hm (by decide));subst e0;have e1:v1x1 = .int .i64 sx.rep:=HT.out.h 1 (by decide) (hall 1 (by decide)) (fun hm=>absurd hm (by decide));subst e1;have e2:v1x2 = .pointer (some ⟨w.heap.size+1,0,none⟩):=HT.out.h 2 (by decide) (hall 2 (by decide)) (fun hm=>absurd hm (by decide));subst e2;have e3:v1x3 = .int .i64 sy.rep:=HT.out.h 3 (by decide) (hall 3 (by decide)) (fun hm=>absurd hm (by decide));subst e3;have e4:v1x4 = .int .i64 (cmpI sx.rep sy.rep):=HT.out.h 4 (by decide) (hall 4 (by decide)) (fun hm=>absurd hm (by decide))
  subst e4;have e5:v1x5 = .pointer (some ⟨w.heap.size,1,none⟩):=HT.out.h 5 (by decide) (hall 5 (by decide)) (fun hm=>absurd hm (by decide));subst e5;have e6:v1x6 = .int .i64 sx.lo:=HT.out.h 6 (by decide) (hall 6 (by decide)) (fun hm=>absurd hm (by decide));subst e6;have e7:v1x7 = .pointer (some ⟨w.heap.size+1,1,none⟩):=HT.out.h 7 (by decide) (hall 7 (by decide)) (fun hm=>absurd hm (by decide));subst e7;have e8:v1x8 = .int .i64 sy.lo:=HT.out.h 8 (by decide) (hall 8 (by decide)) (fun hm=>absurd hm (by decide));subst e8;have e9:v1x9 = .int .i64 (cmpI sx.lo sy.lo):=HT.out.h 9 (by decide) (hall 9 (by decide)) (fun hm=>absurd hm (by decide));subst e9;have e10:v1x10 = .pointer (some ⟨w.heap.size,2,none⟩):=HT.out.h 10 (by decide) (hall 10 (by decide)) (fun hm=>absurd hm (by decide));subst e10;have e11:v1x11 = .int .i64 sx.hi:=HT.out.h 11 (by decide) (hall 11 (by decide)) (fun hm=>absurd hm (by decide))
  subst e11;have e12:v1x12 = .pointer (some ⟨w.heap.size+1,2,none⟩):=HT.out.h 12 (by decide) (hall 12 (by decide)) (fun hm=>absurd hm (by decide));subst e12;have e13:v1x13 = .int .i64 sy.hi:=HT.out.h 13 (by decide) (hall 13 (by decide)) (fun hm=>absurd hm (by decide));subst e13;have e14:v1x14 = .int .i64 (cmpI sx.hi sy.hi):=HT.out.h 14 (by decide) (hall 14 (by decide)) (fun hm=>absurd hm (by decide));subst e14;have e16:v1x16 = .int .i64 (cmp3 sx sy):=HT.out.h 16 (by decide) (hall 16 (by decide)) (fun hm=>absurd hm (by decide));subst e16;have e17:v1x17 = .int .i64 (cmp3 sx sy):=HT.out.h 17 (by decide) (hall 17 (by decide)) (fun hm=>absurd hm (by decide));subst e17;have by1:=HT.out.b
  rename World=>y1
  clear hall HT l;replace HX:=hide (HX.out.below by1);replace HY:=hide (HY.out.below by1);have HBWy1:=wTr HBWwk by1;clear by1;go_wp2_with fail;go_ret;exact ⟨rfl,HBWy1.out⟩
theorem yH (ao bo:Option Addr) (n cn m cm:Nat) (A B:List Sn) (w:World) (hA:SSrc w ao n cn A) (hB:SSrc w bo m cm B) :
  Calls Tryz.prog 206 #[.slice ao n cn,.slice bo m cm,.func (.func 207) #[] #[]] w fun e w'=>e = .returned (.int .i64 (lex cmp3 A B))/\Below w.heap.size w w':=by
 have HA:=hide hA;have HB:=hide hB;have HLA:=hide hA.len;have HLB:=hide hB.len;have gn:=hA.big;have gm:=hB.big;clear hA hB;go_enter Tryz.func206,Tryz.ntmps206;go_wp2_with fail;go_loopw [13] (fun i wr=>∃ k:Nat,k <= n/\i = .int .i64 k/\Hid ((A.take k=B.take k/\k <= m)/\Below w.heap.size w wr)) (fun i _=>n - (intOf i).toNat)
 case atStart=>exact ⟨0,Nat.zero_le _,rfl,⟨rfl,Nat.zero_le _⟩,Below.refl _ _⟩
 case round =>
  obtain ⟨k,hk,rfl,HO⟩:=hrel
  rename World=>w6
  have hkm:=HO.out.1.2;by_cases hlt:k < n
  ·obtain ⟨ad,hao,ca⟩:=(HA.out.below HO.out.2).at k hlt;subst hao;obtain ⟨x,Hx⟩:∃ x,Hid (A.getD k sn0=x):=⟨_,rfl⟩;rw [Hx.out] at ca;have l1:=ql ca;obtain ⟨w7,hst,X7,b7,z7⟩:=madeS w6 x w6.heap.size rfl;have HX7:=hide X7;have HB7:=hide (HO.out.2.trans (b7.mono HO.out.2.size));clear X7 ca;by_cases hm:k < m
   ·obtain ⟨bd,hbo,cb⟩:=((HB.out.below HO.out.2).below b7).at k hm;subst hbo;obtain ⟨y,Hy⟩:∃ y,Hid (B.getD k sn0=y):=⟨_,rfl⟩;rw [Hy.out] at cb;have l2:=ql cb;obtain ⟨w8,hst8,X8,b8,z8⟩:=madeS w7 y w7.heap.size rfl;have HX8:=hide X8;have HX78:=hide (HX7.out.below b8)
    obtain ⟨x0,x1,x2⟩:=HX78.out.at
    obtain ⟨y0,y1,y2⟩:=X8.at
    have l3:=ql (⟨x0,x1,x2⟩:SnAt w8 ⟨w6.heap.size,0,none⟩ x);have l4:=ql (⟨y0,y1,y2⟩:SnAt w8 ⟨w7.heap.size,0,none⟩ y);have HB8:=wTr HB7 b8
    have HAL:Hid (k < A.length):=by rw [HLA.out];exact hlt
    have HBL:Hid (k < B.length):=by rw [HLB.out];exact hm
    have hm':¬ (m:Int) <= (k:Int):=by omega
    clear X8 cb b7 b8 z7 z8 x0 x1 x2 y0 y1 y2;have HTO:Hid (cmp3 x y=0 -> A.take (k+1)=B.take (k+1)):=fun h=>zec xO sn0 HO.out.1.1 HAL.out HBL.out (by rw [Hx.out,Hy.out];exact h)
    have HDF:Hid (¬ cmp3 x y=0 -> lex cmp3 A B=cmp3 x y):=fun h=>by
     have:=zcS xO sn0 HO.out.1.1 HAL.out HBL.out (by rw [Hx.out,Hy.out];exact h);rw [Hx.out,Hy.out] at this;exact this
    go_wp2_with fail;refine (wl x y _).mono ?_;rintro e w9 ⟨rfl,b9⟩;have HB9:=wTr HB8 b9;clear b9 l1 l2 l3 l4 hst hst8;by_cases h0:cmp3 x y=0
    ·have HN:=hide (HTO.out h0);rw [h0];clear h0;go_wp2_with fail;go_roundw
     case rel=>exact ⟨k+1,by omega,by go_num,⟨HN.out,by omega⟩,HB9.out⟩
     case measure=>simp [intOf];omega
    ·have HN:=hide (HDF.out h0)
     have h0':(cmp3 x y != 0)=true:=by simpa using h0
     clear h0;obtain ⟨z,hz⟩:∃ z,cmp3 x y=z:=⟨_,rfl⟩;rw [hz] at h0' HN ⊢;clear hz;go_wp2_with fail;go_ret;exact ⟨zG HN.out.symm,HB9.out⟩
   ·have hm':(m:Int) <= (k:Int):=by omega
    have HN:=hide (zcQ xO HO.out.1.1 (by rw [HLA.out];exact hlt) (by rw [HLB.out];omega));clear b7 z7;go_wp2_with fail;go_ret;exact ⟨zG HN.out.symm,HB7.out⟩
  ·obtain rfl:k=n:=by omega
   by_cases hm:k < m
   ·have hm':(k:Int) < (m:Int):=by omega
    have HN:=hide (zcR xO HO.out.1.1 HLA.out (by rw [HLB.out];exact hm));go_wp2_with fail;go_ret;exact ⟨zG HN.out.symm,HO.out.2⟩
   ·have hm':¬ (k:Int) < (m:Int):=by omega
    have HN:=hide (zcP xO HO.out.1.1 HLA.out (by rw [HLB.out];omega));go_wp2_with fail;go_ret;exact ⟨zG HN.out.symm,HO.out.2⟩
end
section

end
section
open Go.RowKit
attribute [local go_sem ↓] zr zq
attribute [local go_sem] zE zi qq zk qI
def GivesK (w w':World) (e:Ending) (P:Int -> Prop):Prop:=∃ k,e = .returned (.int .i64 k)/\P k/\Below w.heap.size w w'
def CmpOf (P Q:Pst) (z:Int):Prop:=∃ X Y,CanonOf (runsAt P) X/\CanonOf (runsAt Q) Y/\z=cmpP X Y
theorem CmpOf.unique {P Q:Pst} {z z':Int} (h:CmpOf P Q z) (h':CmpOf P Q z'):z=z':=by
 obtain ⟨X,Y,hX,hY,rfl⟩:=h;obtain ⟨X',Y',hX',hY',rfl⟩:=h';rw [hX.unique hX' (fun _ _ _=>Iff.rfl),hY.unique hY' (fun _ _ _=>Iff.rfl)]
def PhE (a b:Pv) (_:World) (_:World):Nat -> Value -> World -> Prop
 | 0,x,_=>x=PV a
 | 2,x,_=>x=PV b
 | _,_,_=>True
theorem ke (a b:Pv) (w:World) (W0:World):Mono (PhE a b w W0):=fun i _ _ _ h _=>match i with
 | 0=>h
 | 2=>h
 | 1=>trivial
 | 3=>trivial
 | 4=>trivial
 | 5=>trivial
 | 6=>trivial
 | 7=>trivial
 | _+8=>trivial
theorem zfH (a b:Pv) (w:World) (W0:World):∀ j x U U',j ∉ [] -> PhE a b w W0 j x U -> PhE a b w W0 j x U':=fun j _ _ _ _ h=>match j with
 | 0=>h
 | 2=>h
 | 1=>trivial
 | 3=>trivial
 | 4=>trivial
 | 5=>trivial
 | 6=>trivial
 | 7=>trivial
 | _+8=>trivial
theorem stE {a b:Pv} {w wk:World} (HXA:Hid (PBox wk w.heap.size a)) (HXB:Hid (PBox wk (w.heap.size+1) b)) (HA:Hid (PSrc wk a)) (HB:Hid (PSrc wk b)) {Q:Exit -> Act -> World -> Prop} :
  ∀ (l:Array Bool) (x:Act) (W:World),(∃ v1x0 v1x1 v1x2 v1x3 v1x4 v1x5,x={ tmps:=#[PV a,PV b,ptr w.heap.size,ptr (w.heap.size+1),.int .i64 0,v1x4,v1x5,undef,v1x0,v1x1,v1x2,v1x3,undef,undef,undef,undef,undef,undef,undef,undef,undef,undef,undef,undef,undef],defers:=[] }/\BI 8 6 wk (PhE a b w wk) [] [(1,CanonOf (runsAt a.P)),(3,CanonOf (runsAt b.P))] [(4,6,1),(5,7,3)] l W [v1x0,v1x1,v1x2,v1x3,v1x4,v1x5,undef,undef]) -> ∀ i,i∈Region.ready .any #[⟨some 8,.load 26 (.tmp 2),26, "sets.go:53",#[],none⟩,⟨some 9,.call ⟨.value (.func 204),#[.tmp 8],#[26]⟩,26, "sets.go:53",#[⟨0,.data⟩],none⟩,⟨some 10,.load 26 (.tmp 3),26, "sets.go:53",#[],none⟩,⟨some 11,.call ⟨.value (.func 204),#[.tmp 10],#[26]⟩,26, "sets.go:53",#[⟨2,.data⟩,⟨1,.chain⟩],none⟩,⟨some 5,.alloc 26,0, "sets.go:53",#[],none⟩,⟨some 6,.alloc 26,0, "sets.go:53",#[],none⟩,⟨none,.store 26 (.tmp 5) (.tmp 9),0, "sets.go:53",#[⟨4,.data⟩,⟨1,.data⟩,⟨3,.chain⟩,⟨0,.phase⟩,⟨1,.phase⟩,⟨2,.textOnly .lateStores⟩,⟨3,.textOnly .lateStoresUnsure⟩,⟨4,.phase⟩,⟨5,.phase⟩],none⟩,⟨none,.store 26 (.tmp 6) (.tmp 11),0, "sets.go:53",#[⟨5,.data⟩,⟨3,.data⟩,⟨6,.chain⟩,⟨0,.phase⟩,⟨1,.phase⟩,⟨2,.phase⟩,⟨3,.phase⟩,⟨4,.phase⟩,⟨5,.phase⟩,⟨6,.phase⟩],none⟩] l -> wpOp Tryz.prog #[⟨some 8,.load 26 (.tmp 2),26, "sets.go:53",#[],none⟩,⟨some 9,.call ⟨.value (.func 204),#[.tmp 8],#[26]⟩,26, "sets.go:53",#[⟨0,.data⟩],none⟩,⟨some 10,.load 26 (.tmp 3),26, "sets.go:53",#[],none⟩,⟨some 11,.call ⟨.value (.func 204),#[.tmp 10],#[26]⟩,26, "sets.go:53",#[⟨2,.data⟩,⟨1,.chain⟩],none⟩,⟨some 5,.alloc 26,0, "sets.go:53",#[],none⟩,⟨some 6,.alloc 26,0, "sets.go:53",#[],none⟩,⟨none,.store 26 (.tmp 5) (.tmp 9),0, "sets.go:53",#[⟨4,.data⟩,⟨1,.data⟩,⟨3,.chain⟩,⟨0,.phase⟩,⟨1,.phase⟩,⟨2,.textOnly .lateStores⟩,⟨3,.textOnly .lateStoresUnsure⟩,⟨4,.phase⟩,⟨5,.phase⟩],none⟩,⟨none,.store 26 (.tmp 6) (.tmp 11),0, "sets.go:53",#[⟨5,.data⟩,⟨3,.data⟩,⟨6,.chain⟩,⟨0,.phase⟩,⟨1,.phase⟩,⟨2,.phase⟩,⟨3,.phase⟩,⟨4,.phase⟩,⟨5,.phase⟩,⟨6,.phase⟩],none⟩] Q i (fun a' w'=>∃ v1x0 v1x1 v1x2 v1x3 v1x4 v1x5,a'={ tmps:=#[PV a,PV b,ptr w.heap.size,ptr (w.heap.size+1),.int .i64 0,v1x4,v1x5,undef,v1x0,v1x1,v1x2,v1x3,undef,undef,undef,undef,undef,undef,undef,undef,undef,undef,undef,undef,undef],defers:=[] }/\BI 8 6 wk (PhE a b w wk) [] [(1,CanonOf (runsAt a.P)),(3,CanonOf (runsAt b.P))] [(4,6,1),(5,7,3)] (l.setIfInBounds i true) w' [v1x0,v1x1,v1x2,v1x3,v1x4,v1x5,undef,undef]) x W:=by
 rintro l x W ⟨v1x0,v1x1,v1x2,v1x3,v1x4,v1x5,rfl,T⟩ i hi;obtain ⟨hi1,hi2,hi3⟩:=xY hi;have hi4:=vJ hi2
 have hc:i=0∨i=1∨i=2∨i=3∨i=4∨i=5∨i=6∨i=7:=by have h:i < 8:=hi1;omega
 have HT:=hide T;clear T;rcases hc with rfl | rfl | rfl | rfl | rfl | rfl | rfl | rfl
 ·have HL:=hide hi4;clear hi hi1 hi2 hi3 hi4
  have l1:=zj (HXA.out.below HT.out.b).at
  refine wpOp_step (o:=⟨some 8,.load 26 (.tmp 2),26, "sets.go:53",#[],none⟩) rfl (fun K hK=>?_);go_simp;exact hK _ _ ⟨PV a,v1x1,v1x2,v1x3,v1x4,v1x5,rfl,HT.out.plain (ke a b w wk) (Below.refl _ _) 0 (by decide) HL.out _ rfl (by simp) (by simp) (by decide)⟩
 ·have d0:=hi3 _ rfl { on:=0,ground:=Ground.data } (by simp) rfl;have e0:v1x0=PV a:=HT.out.h 0 (by decide) d0 (fun hm=>absurd hm (by decide));subst e0;have HL:=hide hi4;clear hi hi1 hi2 hi3 hi4 d0;refine wpOp_step (o:=⟨some 9,.call ⟨.value (.func 204),#[.tmp 8],#[26]⟩,26, "sets.go:53",#[⟨0,.data⟩],none⟩) rfl (fun K hK=>?_);go_simp;go_wp2_with fail;refine (y7 a _ (HA.out.below HT.out.b)).mono ?_;rintro e w' ⟨pp,rfl,pS,pN,pb,pq⟩;exact hK _ _ ⟨_,PV pp,v1x2,v1x3,v1x4,v1x5,rfl,HT.out.callF (ke a b w wk) pb 1 (CanonOf (runsAt a.P)) (by decide) HL.out (by simp) (by simp) pp pS (fun g h1 h2=>pN.elim (fun e=>by rw [e];exact PFar.old HA.out h1) (fun h=>PFar.new h h2)) (pq) (fun _ _=>trivial) (by simp) (by decide)⟩
 ·have HL:=hide hi4;clear hi hi1 hi2 hi3 hi4
  have l1:=zj (HXB.out.below HT.out.b).at
  refine wpOp_step (o:=⟨some 10,.load 26 (.tmp 3),26, "sets.go:53",#[],none⟩) rfl (fun K hK=>?_);go_simp;exact hK _ _ ⟨v1x0,v1x1,PV b,v1x3,v1x4,v1x5,rfl,HT.out.plain (ke a b w wk) (Below.refl _ _) 2 (by decide) HL.out _ rfl (by simp) (by simp) (by decide)⟩
 ·have d2:=hi3 _ rfl { on:=2,ground:=Ground.data } (by simp) rfl;have e2:v1x2=PV b:=HT.out.h 2 (by decide) d2 (fun hm=>absurd hm (by decide));subst e2;have HL:=hide hi4;clear hi hi1 hi2 hi3 hi4 d2;refine wpOp_step (o:=⟨some 11,.call ⟨.value (.func 204),#[.tmp 10],#[26]⟩,26, "sets.go:53",#[⟨2,.data⟩,⟨1,.chain⟩],none⟩) rfl (fun K hK=>?_);go_simp;go_wp2_with fail;refine (y7 b _ (HB.out.below HT.out.b)).mono ?_;rintro e w' ⟨pp,rfl,pS,pN,pb,pq⟩;exact hK _ _ ⟨v1x0,v1x1,_,PV pp,v1x4,v1x5,rfl,HT.out.callF (ke a b w wk) pb 3 (CanonOf (runsAt b.P)) (by decide) HL.out (by simp) (by simp) pp pS (fun g h1 h2=>pN.elim (fun e=>by rw [e];exact PFar.old HB.out h1) (fun h=>PFar.new h h2)) (pq) (fun _ _=>trivial) (by simp) (by decide)⟩
 ·have HL:=hide hi4;clear hi hi1 hi2 hi3 hi4;refine wpOp_step (o:=⟨some 5,.alloc 26,0, "sets.go:53",#[],none⟩) rfl (fun K hK=>?_);go_simp;exact hK _ _ ⟨v1x0,v1x1,v1x2,v1x3,ptr W.heap.size,v1x5,rfl,HT.out.make (ke a b w wk) 4 6 1 (by decide) HL.out (by simp) (by simp) (by simp) (by simp) (fun _ _=>trivial) (by decide)⟩
 ·have HL:=hide hi4;clear hi hi1 hi2 hi3 hi4;refine wpOp_step (o:=⟨some 6,.alloc 26,0, "sets.go:53",#[],none⟩) rfl (fun K hK=>?_);go_simp;exact hK _ _ ⟨v1x0,v1x1,v1x2,v1x3,v1x4,ptr W.heap.size,rfl,HT.out.make (ke a b w wk) 5 7 3 (by decide) HL.out (by simp) (by simp) (by simp) (by simp) (fun _ _=>trivial) (by decide)⟩
 ·have da:=hi3 _ rfl { on:=4,ground:=Ground.data } (by simp) rfl;have dc:=hi3 _ rfl { on:=1,ground:=Ground.data } (by simp) rfl;obtain ⟨pc,ec,-,-,-⟩:=HT.out.r (1,CanonOf (runsAt a.P)) (by simp) dc;obtain ⟨g,eg,PB,T2⟩:=HT.out.fill 4 6 1 pc (by decide) hi4 (by simp) (by simp) (by simp) da dc (Or.inl rfl) ec (by simp) (by simp) (zfH a b w wk) (fun _ _=>trivial) undef;have fg:v1x4=ptr g:=eg;have fc:v1x1=PV pc:=ec;subst fg fc;have s1:=qV (p':=pc) PB;have HT2:=hide T2;clear T2 PB eg ec da dc HT hi hi1 hi2 hi3 hi4;refine wpOp_step (o:=⟨none,.store 26 (.tmp 5) (.tmp 9),0, "sets.go:53",#[⟨4,.data⟩,⟨1,.data⟩,⟨3,.chain⟩,⟨0,.phase⟩,⟨1,.phase⟩,⟨2,.textOnly .lateStores⟩,⟨3,.textOnly .lateStoresUnsure⟩,⟨4,.phase⟩,⟨5,.phase⟩],none⟩) rfl (fun K hK=>?_);go_simp;exact hK _ _ ⟨v1x0,_,v1x2,v1x3,_,v1x5,rfl,HT2.out⟩
 ·have da:=hi3 _ rfl { on:=5,ground:=Ground.data } (by simp) rfl;have dc:=hi3 _ rfl { on:=3,ground:=Ground.data } (by simp) rfl;have dt:=hi3 _ rfl { on:=6,ground:=Ground.chain } (by simp) rfl;obtain ⟨pc,ec,-,-,-⟩:=HT.out.r (3,CanonOf (runsAt b.P)) (by simp) dc;obtain ⟨g,eg,PB,T2⟩:=HT.out.fill 5 7 3 pc (by decide) hi4 (by simp) (by simp) (by simp) da dc (Or.inr dt) ec (by simp) (by simp) (zfH a b w wk) (fun _ _=>trivial) undef;have fg:v1x5=ptr g:=eg;have fc:v1x3=PV pc:=ec;subst fg fc;have s1:=qV (p':=pc) PB;have HT2:=hide T2;clear T2 PB eg ec da dc dt HT hi hi1 hi2 hi3 hi4;refine wpOp_step (o:=⟨none,.store 26 (.tmp 6) (.tmp 11),0, "sets.go:53",#[⟨5,.data⟩,⟨3,.data⟩,⟨6,.chain⟩,⟨0,.phase⟩,⟨1,.phase⟩,⟨2,.phase⟩,⟨3,.phase⟩,⟨4,.phase⟩,⟨5,.phase⟩,⟨6,.phase⟩],none⟩) rfl (fun K hK=>?_);go_simp;exact hK _ _ ⟨v1x0,v1x1,v1x2,_,v1x4,_,rfl,HT2.out⟩
theorem yk (a b:Pv) (w:World) (hA:PSrc w a) (hB:PSrc w b):Calls Tryz.prog 164 #[PV a,PV b] w fun e w'=>GivesK w w' e (CmpOf a.P b.P):=by
 have b1:=ze w (.cells (PC a) 26);have b2:=ze (w.alloc (.cells (PC a) 26)) (.cells (PC b) 26);have p2:=zm (w.alloc (.cells (PC a) 26)) b;rw [World.size_alloc] at p2;have HXA:=hide ((zm w a).below b2);have HXB:=hide p2;have HBWwk:=hide (b1.trans (b2.mono b1.size));have HA:=hide (hA.below HBWwk.out);have HB:=hide (hB.below HBWwk.out);clear b1 b2 p2 hA hB;obtain ⟨wk,hwk⟩:∃ wk,(w.alloc (.cells (PC a) 26)).alloc (.cells (PC b) 26)=wk:=⟨_,rfl⟩;rw [hwk] at HXA HXB HBWwk HA HB;go_enter Tryz.func164,Tryz.ntmps164;go_wp2_with fail;clear hwk;refine qN (by kernel_rfl) (fun l x W=>∃ v1x0 v1x1 v1x2 v1x3 v1x4 v1x5,x={ tmps:=#[PV a,PV b,ptr w.heap.size,ptr (w.heap.size+1),.int .i64 0,v1x4,v1x5,undef,v1x0,v1x1,v1x2,v1x3,undef,undef,undef,undef,undef,undef,undef,undef,undef,undef,undef,undef,undef],defers:=[] }/\BI 8 6 wk (PhE a b w wk) [] [(1,CanonOf (runsAt a.P)),(3,CanonOf (runsAt b.P))] [(4,6,1),(5,7,3)] l W [v1x0,v1x1,v1x2,v1x3,v1x4,v1x5,undef,undef]) ⟨undef,undef,undef,undef,undef,undef,rfl,BI.start _ _ _ _ _ _ _ _ rfl⟩ ?_ ?_ ?_
 ·rintro l x W ⟨v1x0,v1x1,v1x2,v1x3,v1x4,v1x5,rfl,T⟩;exact T.sz
 ·exact stE HXA HXB HA HB
 ·rintro l x W ⟨v1x0,v1x1,v1x2,v1x3,v1x4,v1x5,rfl,T⟩ hnil;have hall:=fun i (hi:i < 8)=>xR (by kernel_rfl) T.sz hnil i hi;have HT:=hide T;clear T hnil;have e0:v1x0=PV a:=HT.out.h 0 (by decide) (hall 0 (by decide)) (fun hm=>absurd hm (by decide));subst e0;obtain ⟨qa,e1,Sqa,qqa,-⟩:=HT.out.r (1,CanonOf (runsAt a.P)) (by simp) (hall 1 (by decide));have f1:v1x1=PV qa:=e1;subst f1;have HSqa:=hide Sqa;have HQqa:Hid (CanonOf (runsAt a.P) qa.P):=qqa;clear e1 Sqa qqa;have e2:v1x2=PV b:=HT.out.h 2 (by decide) (hall 2 (by decide)) (fun hm=>absurd hm (by decide));subst e2;obtain ⟨qb,e3,Sqb,qqb,-⟩:=HT.out.r (3,CanonOf (runsAt b.P)) (by simp) (hall 3 (by decide));have f3:v1x3=PV qb:=e3;subst f3;have HSqb:=hide Sqb;have HQqb:Hid (CanonOf (runsAt b.P) qb.P):=qqb;clear e3 Sqb qqb;obtain ⟨ga,e4,-,-,-,k4⟩:=HT.out.a (4,6,1) (by simp) (hall 4 (by decide))
  have HXga:Hid (PBox W ga qa):=k4 (hall 6 (by decide)) qa rfl;have f4:v1x4=ptr ga:=e4;subst f4;clear e4 k4;obtain ⟨gb,e5,-,-,-,k5⟩:=HT.out.a (5,7,3) (by simp) (hall 5 (by decide));have HXgb:Hid (PBox W gb qb):=k5 (hall 7 (by decide)) qb rfl;have f5:v1x5=ptr gb:=e5;subst f5;clear e5 k5;have by1:=HT.out.b
  rename World=>y1
  clear hall HT l;replace HXA:=hide (HXA.out.below by1);replace HXB:=hide (HXB.out.below by1);replace HA:=hide (HA.out.below by1);replace HB:=hide (HB.out.below by1);have HBWy1:=wTr HBWwk by1;clear by1;obtain ⟨va,ca⟩:=HXga.out.nums;obtain ⟨vb,cb⟩:=HXgb.out.nums;have HC:Hid (CmpOf a.P b.P (cmpP qa.P qb.P)):=⟨qa.P,qb.P,HQqa.out,HQqb.out,rfl⟩;go_wp2_with fail;refine (bE _ _ _ _ _ _ qa.P.vec qb.P.vec _ HSqa.out.vec HSqb.out.vec HSqa.out.big HSqb.out.big).mono ?_;rintro e z1 ⟨rfl,bz1⟩;have ca':=(bz1.cell (World.block_lt_of_cell? _ _ ca)).trans ca;have cb':=(bz1.cell (World.block_lt_of_cell? _ _ cb)).trans cb;have HBz:=wTr HBWy1 bz1;have HCA:=hide (HSqa.out.below bz1).cloud;have HCC:=hide (HSqb.out.below bz1).cloud;clear va vb ca cb bz1;by_cases h0:lex cmpI qa.P.vec qb.P.vec=0
  ·have HE:Hid (cmpP qa.P qb.P=lex cmp3 qa.P.cloud qb.P.cloud):=by show _=_;unfold cmpP;rw [if_pos h0]
   rw [h0];clear h0;go_wp2_with fail;refine (yH _ _ _ _ _ _ qa.P.cloud qb.P.cloud _ HCA.out HCC.out).mono ?_;rintro e z2 ⟨rfl,bz2⟩;have HBE:=wTr HBz bz2;rw [<- HE.out];generalize cmpP qa.P qb.P=z at HC ⊢;clear HE bz2 ca' cb';go_wp2_with fail;go_ret;exact ⟨z,rfl,HC.out,HBE.out⟩
  ·have HE:Hid (cmpP qa.P qb.P=lex cmpI qa.P.vec qb.P.vec):=by show _=_;unfold cmpP;rw [if_neg h0]
   rw [<- HE.out] at h0 ⊢;generalize cmpP qa.P qb.P=z at HC h0 ⊢
   have h0':(z != 0)=true:=by simpa using h0
   clear HE h0;go_wp2_with fail;go_ret;exact ⟨z,rfl,HC.out,HBz.out⟩
end
end Go.Proofs.YtjffpimfngdggaaGreat
namespace Go.Proofs.YtjffpimfngdggaaGreat.K
section
open Go.RowKit

theorem hide {p:Prop} (h:p):Hid p:=h
def dig (c:UInt8):Bool:=decide (48 <= (c.toNat:Int)) && decide ((c.toNat:Int) <= 57)
theorem zt {a b:Bool} (h:a=b):Ending.returned (.bool a) = .returned (.bool b):=by rw [h]
theorem zG {k:IntKind} {a b:Int} (h:a=b):Ending.returned (.int k a) = .returned (.int k b):=by rw [h]
theorem jL {a a' b b':Int} (h:a=a') (h2:b=b'):Ending.returned (.tuple #[.int .i64 a,.int .i64 b]) = .returned (.tuple #[.int .i64 a',.int .i64 b']):=by rw [h,h2]
theorem jt (s:ByteArray) (h:s.size=0):s.toList.isEmpty=true:=by
 rw [ByteArray.toList_eq,List.isEmpty_iff,<- List.length_eq_zero_iff];simpa using h
theorem j9 (s:ByteArray) (h:¬ s.size=0):s.toList.isEmpty=false:=by
 rw [ByteArray.toList_eq,List.isEmpty_eq_false_iff,<- List.length_pos_iff];have:s.data.size=s.size:=rfl;simp;omega
end
section
open Go.RowKit

def mk (c:UInt8):Bool:=((c.toNat:Int) == 45) || ((c.toNat:Int) == 46)
def lt (c:UInt8):Bool:=decide (65 <= (c.toNat:Int)) && decide ((c.toNat:Int) <= 90)

theorem xS (c:UInt8) (w:World):Calls Tryz.prog 214 #[.int .u8 (c.toNat:Int)] w fun e w'=>e = .returned (.bool (mk c))/\w'=w:=by
 by_cases h:(c.toNat:Int)=45
 ·have h':((c.toNat:Int) == 45)=true:=by simpa using h
  have HM:Hid (mk c=true):=by show _=_;unfold mk;rw [h'];rfl
  clear h;go_enter Tryz.func214,Tryz.ntmps214;go_wp2;go_ret;exact ⟨zt HM.out.symm,rfl⟩
 ·have h':((c.toNat:Int) == 45)=false:=by simpa using h
  have HM:Hid (((c.toNat:Int) == 46)=mk c):=by show _=_;unfold mk;rw [h'];rfl
  clear h;go_enter Tryz.func214,Tryz.ntmps214;go_wp2;go_ret;exact ⟨zt HM.out,rfl⟩
theorem vW (c:UInt8) (w:World):Calls Tryz.prog 215 #[.int .u8 (c.toNat:Int)] w fun e w'=>e = .returned (.bool (lt c))/\w'=w:=by
 by_cases h:65 <= (c.toNat:Int)
 ·have HM:Hid (decide ((c.toNat:Int) <= 90)=lt c):=by show _=_;unfold lt;rw [decide_eq_true h,Bool.true_and]
  go_enter Tryz.func215,Tryz.ntmps215;go_wp2;go_ret;exact ⟨zt HM.out,rfl⟩
 ·have HM:Hid (false=lt c):=by show _=_;unfold lt;rw [decide_eq_false h,Bool.false_and]
  go_enter Tryz.func215,Tryz.ntmps215;go_wp2;go_ret;exact ⟨zt HM.out,rfl⟩
theorem zb6 (c:UInt8) (w:World):Calls Tryz.prog 216 #[.int .u8 (c.toNat:Int)] w fun e w'=>e = .returned (.bool (dig c))/\w'=w:=by
 by_cases h:48 <= (c.toNat:Int)
 ·have HM:Hid (decide ((c.toNat:Int) <= 57)=dig c):=by show _=_;unfold dig;rw [decide_eq_true h,Bool.true_and]
  go_enter Tryz.func216,Tryz.ntmps216;go_wp2;go_ret;exact ⟨zt HM.out,rfl⟩
 ·have HM:Hid (false=dig c):=by show _=_;unfold dig;rw [decide_eq_false h,Bool.false_and]
  go_enter Tryz.func216,Tryz.ntmps216;go_wp2;go_ret;exact ⟨zt HM.out,rfl⟩

def stand (l:List UInt8) (i:Nat):Bool:=
 if mk (l.getD i 0)=true then (decide (0 < i) && decide (i+1 < l.length)) && !mk (l.getD (i - 1) 0) else lt (l.getD i 0) || dig (l.getD i 0)
theorem qF (s:ByteArray) (i:Nat) (h:i < s.size):s.data.toList.getD i 0=s[i]:=by
 rw [List.getD,List.getElem?_eq_getElem (by simpa using h)];rfl
theorem jH (s:ByteArray):s.data.toList.length=s.size:=by simp

theorem vZ (s:ByteArray) (i:Nat) (w:World) (hi:i < s.size) (hs:s.size <= 1000):Calls Tryz.prog 177 #[.string s,.int .i64 i] w fun e w'=>e = .returned (.bool (stand s.data.toList i))/\w'=w:=by
 cases hm:mk s[i] with
 | true =>
  have HM:=hide hm;clear hm;by_cases h0:0 < i
  ·by_cases h1:i+1 < s.size
   ·have HS:Hid ((!mk (s[i - 1]'(by omega)))=stand s.data.toList i):=by
     show _=_
     unfold stand;rw [qF s i hi,qF s (i - 1) (by omega),jH,if_pos HM.out,decide_eq_true h0,decide_eq_true h1];rfl
    have hz:((i:Int) - 1).toNat=i - 1:=by omega
    have h1':(i:Int) < (s.size:Int) - 1:=by omega
    have hK:=hide (xS (s[i - 1]'(by omega)));obtain ⟨x,hx⟩:∃ x:Int,((s[i - 1]'(by omega)).toNat:Int)=x:=⟨_,rfl⟩;rw [hx] at hK;go_enter Tryz.func177,Tryz.ntmps177;go_wp2_with fail;refine (xS s[i] _).mono ?_;rintro e w' ⟨rfl,rfl⟩;rw [HM.out];go_wp2_with fail;refine (hK.out _).mono ?_;rintro e w' ⟨rfl,rfl⟩;go_wp2;go_ret;exact ⟨zt HS.out,rfl⟩
   ·have HS:Hid (false=stand s.data.toList i):=by
     show _=_
     unfold stand;rw [qF s i hi,jH,if_pos HM.out,decide_eq_true h0,decide_eq_false h1];rfl
    have h1':¬ (i:Int) < (s.size:Int) - 1:=by omega
    go_enter Tryz.func177,Tryz.ntmps177;go_wp2_with fail;refine (xS s[i] _).mono ?_;rintro e w' ⟨rfl,rfl⟩;rw [HM.out];go_wp2;go_ret;exact ⟨zt HS.out,rfl⟩
  ·have HS:Hid (false=stand s.data.toList i):=by
    show _=_
    unfold stand;rw [qF s i hi,jH,if_pos HM.out,decide_eq_false h0];rfl
   obtain rfl:i=0:=by omega
   go_enter Tryz.func177,Tryz.ntmps177;go_wp2_with fail;refine (xS s[0] _).mono ?_;rintro e w' ⟨rfl,rfl⟩;rw [HM.out];go_wp2;go_ret;exact ⟨zt HS.out,rfl⟩
 | false =>
  have HM:=hide hm;clear hm
  cases hl:lt s[i] with
  | true =>
   have HLt:=hide hl;clear hl
   have HS:Hid (true=stand s.data.toList i):=by
    show _=_
    unfold stand;rw [qF s i hi,if_neg (by rw [HM.out];simp),HLt.out];rfl
   go_enter Tryz.func177,Tryz.ntmps177;go_wp2_with (first | (go_at_call 214;refine (xS s[i] _).mono ?_;rintro e w' ⟨rfl,rfl⟩;rw [HM.out]) | (go_at_call 215;refine (vW s[i] _).mono ?_;rintro e w' ⟨rfl,rfl⟩;rw [HLt.out]));go_ret;exact ⟨zt HS.out,rfl⟩
  | false =>
   have HLt:=hide hl;clear hl
   have HS:Hid (dig s[i]=stand s.data.toList i):=by
    show _=_
    unfold stand;rw [qF s i hi,if_neg (by rw [HM.out];simp),HLt.out];rfl
   go_enter Tryz.func177,Tryz.ntmps177;go_wp2_with (first | (go_at_call 214;refine (xS s[i] _).mono ?_;rintro e w' ⟨rfl,rfl⟩;rw [HM.out]) | (go_at_call 215;refine (vW s[i] _).mono ?_;rintro e w' ⟨rfl,rfl⟩;rw [HLt.out]) | (go_at_call 216;refine (zb6 s[i] _).mono ?_;rintro e w' ⟨rfl,rfl⟩));go_ret;exact ⟨zt HS.out,rfl⟩

def stands (l:List UInt8) (k:Nat):Bool:=(List.range k).all (stand l)
def ckE (l:List UInt8):Int:=if l.length=0 then 20 else if 24 < l.length then 21 else if stands l l.length=true then 0 else 22
theorem wS (l:List UInt8) (k:Nat):stands l (k+1)=(stands l k && stand l k):=by
 unfold stands;rw [List.range_succ,List.all_append];simp
theorem zaR (l:List UInt8) (k n:Nat) (h:k < n) (hs:stand l k=false):stands l n=false:=by
 unfold stands;rw [List.all_eq_false];exact ⟨k,by simpa using h,by rw [hs];simp⟩

theorem zfr (s:ByteArray) (w:World) (hs:s.size <= maxLen):Calls Tryz.prog 139 #[.string s] w fun e w'=>(∃ p:Int,e = .returned (.tuple #[.int .i64 p,.int .i64 (ckE s.data.toList)]))/\w'=w:=by
 unfold maxLen at hs;by_cases h0:s.size=0
 ·have he:=jt s h0
  have HE:Hid (ckE s.data.toList=20):=by show _=_;unfold ckE;rw [jH,if_pos h0]
  go_enter Tryz.func139,Tryz.ntmps139;go_wp2;go_ret2;exact ⟨⟨0,jL rfl HE.out.symm⟩,rfl⟩
 have he:=j9 s h0;by_cases h24:24 < s.size
 ·have HE:Hid (ckE s.data.toList=21):=by show _=_;unfold ckE;rw [jH,if_neg h0,if_pos h24]
  have h24':(24:Int) < s.size:=by omega
  go_enter Tryz.func139,Tryz.ntmps139;go_wp2;go_ret2;exact ⟨⟨0,jL rfl HE.out.symm⟩,rfl⟩
 have h24':¬ (24:Int) < s.size:=by omega
 have HE:Hid (ckE s.data.toList=if stands s.data.toList s.size=true then 0 else 22):=by show _=_;unfold ckE;rw [jH,if_neg h0,if_neg h24]
 go_enter Tryz.func139,Tryz.ntmps139;go_wp2;go_loop [12] (fun i=>∃ k:Nat,k <= s.size/\i = .int .i64 k/\Hid (stands s.data.toList k=true)) (fun i=>s.size - (intOf i).toNat)
 case atStart=>exact ⟨0,Nat.zero_le _,rfl,rfl⟩
 case round =>
  obtain ⟨k,hk,rfl,HK⟩:=hrel;by_cases hlt:k < s.size
  ·cases hst:stand s.data.toList k with
   | true =>
    have HST:=hide hst;clear hst;go_wp2_with (go_at_call 177;refine (vZ s k _ hlt (by omega)).mono ?_;rintro e w' ⟨rfl,rfl⟩;rw [HST.out]);go_round
    case rel=>exact ⟨k+1,by omega,by go_num,by show _=_;rw [wS,HK.out,HST.out];rfl⟩
    case measure=>simp [intOf];omega
   | false =>
    have HST:=hide hst;clear hst
    have HF:Hid (ckE s.data.toList=22):=by show _=_;rw [HE.out,zaR _ k _ hlt HST.out];rfl
    go_wp2_with (go_at_call 177;refine (vZ s k _ hlt (by omega)).mono ?_;rintro e w' ⟨rfl,rfl⟩;rw [HST.out]);go_ret2;exact ⟨⟨k,jL rfl HF.out.symm⟩,rfl⟩
  ·obtain rfl:k=s.size:=by omega
   have HF:Hid (ckE s.data.toList=0):=by show _=_;rw [HE.out,if_pos HK.out]
   go_wp2;go_ret2;exact ⟨⟨0,jL rfl HF.out.symm⟩,rfl⟩

def good (l:List UInt8):Bool:=ckE l == 0
theorem kY (s:ByteArray) (w:World) (hs:s.size <= maxLen):Calls Tryz.prog 86 #[.string s] w fun e w'=>e = .returned (.bool (good s.data.toList))/\w'=w:=by
 have HS:=hide hs;clear hs;go_enter Tryz.func86,Tryz.ntmps86;go_wp2_with (go_at_call 139;refine (zfr s _ HS.out).mono ?_;rintro e w' ⟨⟨p,rfl⟩,rfl⟩);go_ret;exact ⟨rfl,rfl⟩
end
end Go.Proofs.YtjffpimfngdggaaGreat.K
