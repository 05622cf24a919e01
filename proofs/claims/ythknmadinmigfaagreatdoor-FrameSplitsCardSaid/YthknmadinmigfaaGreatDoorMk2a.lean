/- DecAllow, Dec, DecLevel, CpuRef4, PixSp, PixW, Plane, PlaneScr, PlaneComb, PlaneRows, PlaneEq, PlaneDraw, PlaneSpr, PlaneStep, ScrBox. -/
import Derived.Test.YthknmadinmigfaaGreatDoorMDecFind
import Derived.Test.YthknmadinmigfaaGreatDoorMDecFin2
import Derived.Test.YthknmadinmigfaaGreatDoorMPix4
set_option maxRecDepth 400000
set_option maxHeartbeats 64000000
set_option linter.unusedVariables false
set_option linter.unusedSimpArgs false
namespace Go.Proofs.YthknmadinmigfaaGreatDoor
section
open Go.RowKit Num Dec
theorem nK(w:World)(o:Obj):Below w.heap.size w (w.alloc o):=(zB _ _).alloc (zH _) o
theorem YS{r:Rl}{l x:Int}(h:(r.op:Int)=43∨(r.op:Int)=44):alw r l x=i9 l x:=by
 unfold alw;rw[show(r.op==43||r.op==44)=true by simp;omega];rfl
theorem IL{r:Rl}{l x:Int}(h:¬(r.op:Int)=43)(h':¬(r.op:Int)=44):alw r l x=(decide ((r.level:Int)≤l)&&decide (l≤3)):=by
 unfold alw;rw[show(r.op==43||r.op==44)=false by simp;omega];rfl
theorem TU(r:Rl)(l x:Int)(w:World)(hl:(Lit.int .i64 l).wf=true):Calls Tryz.prog 81 #[.agg (rcs r),.int .i64 l,.int .i64 x] w fun e w'=>e=.returned (.bool (alw r l x))∧Below w.heap.size w w':=by
 have HL:=zW hl;clear hl;obtain⟨m,c,o,lv,p⟩:=r;unfold rcs;simp only;by_cases h1:(o:Int)=43
 ·have F:=zW (YS (r:=⟨m,c,o,lv,p⟩) (l:=l) (x:=x) (.inl h1));have h1':((o:Int)==43)=true:=by simpa using h1
  exact zNM
 ·have h1':((o:Int)==43)=false:=by simpa using h1
  by_cases h2:(o:Int)=44
  ·have F:=zW (YS (r:=⟨m,c,o,lv,p⟩) (l:=l) (x:=x) (.inr h2));have h2':((o:Int)==44)=true:=by simpa using h2
   exact zNM
  ·have F:=zW (IL (r:=⟨m,c,o,lv,p⟩) (l:=l) (x:=x) h1 h2);have h2':((o:Int)==44)=false:=by simpa using h2
   by_cases h3:(lv:Int)≤l
   ·have h3':decide ((lv:Int)≤l)=true:=by simpa using h3
    go_enter Tryz.func81,Tryz.ntmps81;go_wp2;go_ret;exact⟨by rw[F.out,h3'];rfl,nK _ _⟩
   ·have h3':decide ((lv:Int)≤l)=false:=by simpa using h3
    go_enter Tryz.func81,Tryz.ntmps81;go_wp2;go_ret;exact⟨by rw[F.out,h3'];rfl,nK _ _⟩
def bcs(b0 b1 b2 b3:Nat):Array Value:=#[.int .u8 (b0:Int),.int .u8 (b1:Int),.int .u8 (b2:Int),.int .u8 (b3:Int)]
structure DB(w0:World)(b0 b1 b2 b3:Nat)(cs:Array Value)(w:World):Prop where
 arg:Blk w0.heap.size 161 (bcs b0 b1 b2 b3) w
 res:Blk (w0.heap.size+1) 89 nZ w
 var:Blk (w0.heap.size+1+1) 89 cs w
 low:Below w0.heap.size w0 w
section
variable {w0 w w':World} {b0 b1 b2 b3:Nat} {cs:Array Value}
theorem DB.lt(H:DB w0 b0 b1 b2 b3 cs w):w0.heap.size+2<w.heap.size:=H.var.lt
theorem DB.step(H:DB w0 b0 b1 b2 b3 cs w)(hb:Below w.heap.size w w'):DB w0 b0 b1 b2 b3 cs w':=
 ⟨H.arg.step hb,H.res.step hb,H.var.step hb,H.low.trans (hb.mono (by have:=H.lt;omega))⟩
theorem DB.alloc(H:DB w0 b0 b1 b2 b3 cs w)(o:Obj):DB w0 b0 b1 b2 b3 cs (w.alloc o):=H.step (nK _ _)
theorem DB.put(H:DB w0 b0 b1 b2 b3 cs w)(j:Nat)(v:Value):DB w0 b0 b1 b2 b3 (cs.setIfInBounds j v) (w.setCell ⟨w0.heap.size+1+1,j,none⟩ v):=
 ⟨H.arg.other zLS _ _,H.res.other zLS _ _,H.var.put _ _,H.low.setCell zL2 _⟩
theorem DB.store(H:DB w0 b0 b1 b2 b3 cs w)(ds:Array Value):DB w0 b0 b1 b2 b3 ds (w.setRow (w0.heap.size+1+1) ds):=
 ⟨H.arg.otherRow zLS _,H.res.otherRow zLS _,H.var.store _,lC H.low zLS _⟩
theorem DB.new(w:World)(b0 b1 b2 b3:Nat):DB w b0 b1 b2 b3 nZ (((w.alloc (.cells (bcs b0 b1 b2 b3) 161)).alloc (.cells nZ 89)).alloc (.cells nZ 89)):=
 ⟨((Blk.new _ _ _).alloc _).alloc _,(by have:=(Blk.new (w.alloc (.cells (bcs b0 b1 b2 b3) 161)) 89 nZ).alloc (.cells nZ 89);simpa using this),(by have:=Blk.new ((w.alloc (.cells (bcs b0 b1 b2 b3) 161)).alloc (.cells nZ 89)) 89 nZ;simpa using this),
  (((zB _ _).alloc (zH _) _).alloc zLO _).alloc zL2 _⟩
end
def fcs(b0 b1:Nat):Array Value:=#[.int .i64 ((b0/16:Nat):Int),.int .i64 ((b0%16:Nat):Int),.int .i64 ((b1/16:Nat):Int),.int .i64 ((b1%16:Nat):Int),.int .i64 (b1:Int),.int .i64 ((b0%16*256+b1:Nat):Int)]
theorem ET(b0 b1:Nat)(h0:b0<256)(h1:b1<256)(w:World):Calls Tryz.prog 78 #[.int .u8 (b0:Int),.int .u8 (b1:Int)] w fun e w'=>e=.returned (.agg (fcs b0 b1))∧Below w.heap.size w w':=
 (ED b0 b1 w zLS zLS zLS zLS).mono fun _ _ ⟨he,hb⟩=>⟨he.trans rfl,hb⟩
theorem iX(b0 b1:Nat)(h0:b0<256)(h1:b1<256)(w:World):Calls Tryz.prog 80 #[.int .u8 (b0:Int),.int .u8 (b1:Int)] w fun e w'=>e=.returned (.int .i64 ((b0*256+b1:Nat):Int))∧w=w':=
 (iK b0 b1 w zLS zLS zLS zLS).mono fun _ _ ⟨he,hb⟩=>⟨he.trans rfl,hb⟩
theorem DB.cells{w0 w:World}{b0 b1 b2 b3:Nat}{cs:Array Value}(H:DB w0 b0 b1 b2 b3 cs w):w.cell? ⟨w0.heap.size,0,none⟩=some (.int .u8 (b0:Int))∧w.cell? ⟨w0.heap.size,1,none⟩=some (.int .u8 (b1:Int))∧w.cell? ⟨w0.heap.size,2,none⟩=some (.int .u8 (b2:Int))∧w.cell? ⟨w0.heap.size,3,none⟩=some (.int .u8 (b3:Int)):=
 ⟨H.arg.cell 0,H.arg.cell 1,H.arg.cell 2,H.arg.cell 3⟩
theorem zZ3{b0 b1 b2 b3:Nat}{l:Int}(h:ok b0 b1 l=false):dec b0 b1 b2 b3 l=⟨0,0,0,0,0,0,skl b0 b1 l⟩:=by
 unfold dec;rw[h];rfl
theorem zW3{b0 b1 b2 b3:Nat}{l:Int}(h:ok b0 b1 l=true){r:Rl}(hr:top (b0*256+b1)=r):dec b0 b1 b2 b3 l=⟨r.op,pX r.pk (dx b0:Nat),pY r.pk (b1/16:Nat),pN r.pk (dx b0:Nat) (b1%16:Nat),pNN r.pk (b1:Nat),pA r.pk (dx b0*256+b1:Nat) (b2*256+b3:Nat),skl b0 b1 l⟩:=by
 unfold dec;rw[h,hr];rfl
structure DX(b g gr:Nat)(bc fc rc:Array Value)(w:World):Prop where
 arg:Blk b 161 bc w
 fl:Blk g 194 fc w
 rl:Blk gr 198 rc w
def PW(X:World→Prop):Type:={w:World//X w}
def PW.w{X:World→Prop}(u:PW X):World:=u.1
theorem PV(p:Pk):∀args w,(callFunc (pf p) args).run Tryz.prog w=.ok (.enter (pf p) args) w:=by
 cases p
 ·exact enters_of Tryz.func147 zLE rfl
 ·exact enters_of Tryz.func153 zLE rfl
 ·exact enters_of Tryz.func154 zLE rfl
 ·exact enters_of Tryz.func150 zLE rfl
 ·exact enters_of Tryz.func152 zLE rfl
 ·exact enters_of Tryz.func149 zLE rfl
 ·exact enters_of Tryz.func148 zLE rfl
 ·exact enters_of Tryz.func151 zLE rfl
 ·exact enters_of Tryz.func156 zLE rfl
 ·exact enters_of Tryz.func155 zLE rfl
theorem IH:nI Tryz.prog 194 6:=⟨⟨_,Tryz.underlying194,rfl⟩,by kernel_rfl⟩
theorem RT(b0 b1 b2 b3:Nat)(l:Int)(w:World)(h0:b0<256)(h1:b1<256)(h2:b2<256)(h3:b3<256)(hl:(Lit.int .i64 l).wf=true):
  Calls Tryz.prog 69 #[.agg (bcs b0 b1 b2 b3),.int .i64 l] w fun e w'=>e=.returned (.agg (lX (dec b0 b1 b2 b3 l)))∧Below w.heap.size w w':=by
 have HL:=zW hl;have D0:=zW (DB.new w b0 b1 b2 b3);have SP:=fun w=>ET b0 b1 h0 h1 w;unfold fcs at SP;have NB:=fun w=>iX b0 b1 h0 h1 w;have FD:=fun w=>zZE (b0*256+b1) zLS w;have N2:=fun w=>iX b2 b3 h2 h3 w;generalize e0:b0/16=hd at SP;generalize e1:b0%16=x at SP;generalize e2:b1/16=y at SP;generalize e3:b1%16=n at SP;generalize e4:x*256+b1=nnn at SP;generalize e5:b0*256+b1=op at NB FD;generalize e6:b2*256+b3=nx at N2;have SPH:=zW SP;have NBH:=zW NB;have FDH:=zW FD;have N2H:=zW N2;have E:=zW (zM e0 (zM e1 (zM e2 (zM e3 (zM e4 (zM e5 e6))))));clear SP NB FD N2 e0 e1 e2 e3 e4 e5 e6 h0 h1 h2 h3 hl;unfold bcs;go_enter Tryz.func69,Tryz.ntmps69;go_wp2_with fail;refine(SPH.out _).mono ?_;rintro e w1 ⟨rfl,b1⟩;have D1:=zW (D0.out.step b1);obtain⟨c0,c1,c2,c3⟩:=D1.out.cells;have hw1:w.heap.size<w1.heap.size:=D1.out.arg.lt;clear b1 D0 SPH;have D2:=zW (D1.out.alloc (.cells #[.int .i64 (hd:Int),.int .i64 (x:Int),.int .i64 (y:Int),.int .i64 (n:Int),.int .i64 (b1:Int),.int .i64 (nnn:Int)] 194));have G2:=zW (Blk.new w1 194 #[.int .i64 (hd:Int),.int .i64 (x:Int),.int .i64 (y:Int),.int .i64 (n:Int),.int .i64 (b1:Int),.int .i64 (nnn:Int)]);have GD:=zW D1.out.lt;go_wp2_with fail;refine(NBH.out _).mono ?_;rintro e w2 ⟨rfl,rfl⟩;go_wp2_with fail;refine(FDH.out _).mono ?_;rintro e w3 ⟨rfl,b3⟩;have D3:=zW (D2.out.step b3);have G3:=zW (G2.out.step b3);clear b3 c0 c1 c2 c3 D2 G2 NBH FDH D1;obtain⟨g,hg⟩:∃g,w1.heap.size=g:=⟨_,rfl⟩;rw[hg]at G3 GD⊢;have hw3:w.heap.size<w3.heap.size:=D3.out.arg.lt;by_cases ho:(top op).op=0
 ·rw[show p8 (top op)=.tuple #[.agg vN,.bool false] by unfold p8;rw[ho];rfl];have F:=zW (zZ3 (b0:=b0) (b1:=b1) (b2:=b2) (b3:=b3) (l:=l) (show ok b0 b1 l=false by unfold ok;rw[E.out.2.2.2.2.2.1,ho];rfl));clear ho;have D4:=zW (D3.out.alloc (.cells vN 198));unfold vN at D4⊢;clear D3 G3;obtain⟨c0,c1,c2,c3⟩:=D4.out.cells;have v6:=D4.out.var.cell 6;have f6:=D4.out.var.frozen 6;simp only[nZ,lX,zX,zK,zV]at v6;go_wp2_with fail;refine(eJ b0 b1 l _).mono ?_;rintro e w9 ⟨rfl,rfl⟩;have Z:=zW (D4.out.put 6 (.int .i64 (skl b0 b1 l)));exact zM4
 ·rw[show p8 (top op)=.tuple #[.agg (rcs (top op)),.bool true] by unfold p8;rw[show((top op).op !=0)=true by simpa using ho];rfl];obtain⟨R,hR⟩:∃R,top op=R:=⟨_,rfl⟩;rw[hR]at ho⊢;have D4:=zW (D3.out.alloc (.cells (rcs R) 198));have G4:=zW (G3.out.alloc (.cells (rcs R) 198));have R4:=zW (Blk.new w3 198 (rcs R));have OK:=zW (show ok b0 b1 l=alw R l (x:Int) by unfold ok dx;rw[E.out.2.2.2.2.2.1,hR,E.out.2.1,show(R.op !=0)=true by simpa using ho];rfl);have HR:=zW (show top (b0*256+b1)=R by rw[E.out.2.2.2.2.2.1,hR]);have AL:=zW (fun w=>TU R l (x:Int) w HL.out);have PK:=zW (fun w=>O7 R.pk (hd:Int) (x:Int) (y:Int) (n:Int) (b1:Int) (nnn:Int) (nx:Int) w);have LT3:=zW D3.out.lt;clear ho hR D3 G3;obtain⟨rm,rc,ro,rl,rp⟩:=R;unfold rcs at*;simp only at*;have x0:=G4.out.cell 1;simp only[zX,zK,zV]at x0;go_wp2_with fail;refine(AL.out _).mono ?_;rintro e w5 ⟨rfl,b5⟩;have D5:=zW (D4.out.step b5);have G5:=zW (G4.out.step b5);have R5:=zW (R4.out.step b5);have GR:=zW (show w3.heap.size<w5.heap.size from R5.out.lt);clear b5 D4 G4 R4 AL x0;obtain⟨gr,hgr⟩:∃gr,w3.heap.size=gr:=⟨_,rfl⟩;rw[hgr]at R5 GR LT3⊢;clear hgr hw3;cases ha:alw ⟨rm,rc,ro,rl,rp⟩ l (x:Int)
  ·have F:=zW (zZ3 (b0:=b0) (b1:=b1) (b2:=b2) (b3:=b3) (l:=l) (OK.out.trans ha));clear ha;obtain⟨c0,c1,c2,c3⟩:=D5.out.cells;have v6:=D5.out.var.cell 6;have f6:=D5.out.var.frozen 6;simp only[nZ,lX,zX,zK,zV]at v6;go_wp2_with fail;refine(eJ b0 b1 l _).mono ?_;rintro e w9 ⟨rfl,rfl⟩;have Z:=zW (D5.out.put 6 (.int .i64 (skl b0 b1 l)));exact zM4
  ·have F:=zW (zW3 (b0:=b0) (b1:=b1) (b2:=b2) (b3:=b3) (l:=l) (OK.out.trans ha) HR.out);clear ha;have P5:=zW (show DX w.heap.size g gr (bcs b0 b1 b2 b3) #[.int .i64 (hd:Int),.int .i64 (x:Int),.int .i64 (y:Int),.int .i64 (n:Int),.int .i64 (b1:Int),.int .i64 (nnn:Int)] #[.int .i64 (rm:Int),.int .i64 (rc:Int),.int .i64 (ro:Int),.int .i64 (rl:Int),.func (.func (pf rp)) #[] #[]] w5 from⟨D5.out.arg,G5.out,R5.out⟩);generalize hX:DX w.heap.size g gr (bcs b0 b1 b2 b3) #[.int .i64 (hd:Int),.int .i64 (x:Int),.int .i64 (y:Int),.int .i64 (n:Int),.int .i64 (b1:Int),.int .i64 (nnn:Int)] #[.int .i64 (rm:Int),.int .i64 (rc:Int),.int .i64 (ro:Int),.int .i64 (rl:Int),.func (.func (pf rp)) #[] #[]]=X at P5;have XO:=zW (show∀w',X w'→DX w.heap.size g gr (bcs b0 b1 b2 b3) #[.int .i64 (hd:Int),.int .i64 (x:Int),.int .i64 (y:Int),.int .i64 (n:Int),.int .i64 (b1:Int),.int .i64 (nnn:Int)] #[.int .i64 (rm:Int),.int .i64 (rc:Int),.int .i64 (ro:Int),.int .i64 (rl:Int),.func (.func (pf rp)) #[] #[]] w' by rw[←hX];exact fun _ h=>h);have XI:=zW (show∀w',DX w.heap.size g gr (bcs b0 b1 b2 b3) #[.int .i64 (hd:Int),.int .i64 (x:Int),.int .i64 (y:Int),.int .i64 (n:Int),.int .i64 (b1:Int),.int .i64 (nnn:Int)] #[.int .i64 (rm:Int),.int .i64 (rc:Int),.int .i64 (ro:Int),.int .i64 (rl:Int),.func (.func (pf rp)) #[] #[]] w'→X w' by rw[←hX];exact fun _ h=>h);clear hX;haveI:Nonempty (PW X):=⟨⟨w5,P5.out⟩⟩;have k2:∀u:PW X,u.w.cell? ⟨w.heap.size,2,none⟩=some (.int .u8 (b2:Int)):=fun u=>(XO.out _ u.2).arg.cell 2;have k3:∀u:PW X,u.w.cell? ⟨w.heap.size,3,none⟩=some (.int .u8 (b3:Int)):=fun u=>(XO.out _ u.2).arg.cell 3;have kf:∀u:PW X,u.w.cell? ⟨gr,4,none⟩=some (.func (.func (pf rp)) #[] #[]):=fun u=>(XO.out _ u.2).rl.cell 4;go_upto_region 5 with fail;refine mJ (C:=fun w'=>∃u:PW X,w'=u.w) [([0,1,2,3,4,5,6],7),([],8),([],9)] [] zLE zLE (fun _ _ d _ _ h=>by cases d<;>exact h) ⟨⟨w5.drew,XI.out _ ⟨(XO.out _ P5.out).arg.drew,(XO.out _ P5.out).fl.drew,(XO.out _ P5.out).rl.drew⟩⟩,rfl⟩ ?_;intro wd hwd;have Dd:=zW (show DB w b0 b1 b2 b3 nZ wd by rw[hwd];exact D5.out.step ((zB _ _).drew));have Xd:=zW (show X wd by rw[hwd];exact XI.out _ ⟨(XO.out _ P5.out).arg.drew,(XO.out _ P5.out).fl.drew,(XO.out _ P5.out).rl.drew⟩);have GG:=zW (show w.heap.size+1+1<g∧g<w5.heap.size∧gr<w5.heap.size∧w.heap.size+1+1<gr from⟨GD.out,G5.out.lt,GR.out,by have:=LT3.out;omega⟩);clear hwd D5 G5 R5 P5 GD GR;refine mV zLC zLI ?_;iterate 2 (go_big_quiet_step (rfl))
   refine mX IH (fun w9 hw9=>by obtain⟨u,rfl⟩:=hw9;exact(XO.out _ u.2).fl) rfl ?_ (.tmp 6) ?_ ?_ ?_
   ·rfl
   ·rfl
   ·rfl
   simp only[Act.put,zQ,zZ,zJ];repeat(go_big_quiet_step (rfl))
   refine zY ?_;refine lA zLI ?_;intro K hK;go_wp2_with fail;refine(N2H.out _).mono ?_;rintro e w6 ⟨rfl,rfl⟩;simp only[];refine hK _ _ ⟨⟨wd,Xd.out⟩,rfl⟩ ?_;clear hK K;refine mV zLC zLI ?_;refine zY ?_;refine lA zLI ?_;intro K hK;refine lE (g:=pf rp) (caps:=#[]) (args:=#[.agg #[.int .i64 (hd:Int),.int .i64 (x:Int),.int .i64 (y:Int),.int .i64 (n:Int),.int .i64 (b1:Int),.int .i64 (nnn:Int)],.int .i64 (nx:Int)]) (.tmp 32) #[.tmp 33,.tmp 38] #[194,3] rfl (PV rp) rfl zL0 ?_;refine(PK.out _).mono ?_;rintro e w7 ⟨rfl,b7⟩;refine⟨_,rfl,?_⟩;have D7:=zW (Dd.out.step b7);have X7:=zW (show X w7 from XI.out _ ⟨(XO.out _ Xd.out).arg.step b7,(XO.out _ Xd.out).fl.step b7,(XO.out _ Xd.out).rl.step b7⟩);have L7:=zW (show wd.heap.size≤w7.heap.size from b7.size);clear b7;simp only[Act.put,zQ,zZ,zJ];refine hK _ _ ⟨⟨w7,X7.out⟩,rfl⟩ ?_;clear hK K;refine mV zLC zLI ?_;refine zY ?_;refine lA zLI ?_;intro K hK;refine nM mY D7.out.var rfl rfl zL9 (.tmp 5) (.tmp 39) rfl rfl rfl ?_;have D8:=zW (D7.out.store (lX ⟨0,pX rp (x:Int),pY rp (y:Int),pN rp (x:Int) (n:Int),pNN rp (b1:Int),pA rp (nnn:Int) (nx:Int),0⟩));have X8:=zW (show X (w7.setRow (w.heap.size+1+1) (lX ⟨0,pX rp (x:Int),pY rp (y:Int),pN rp (x:Int) (n:Int),pNN rp (b1:Int),pA rp (nnn:Int) (nx:Int),0⟩))from XI.out _ ⟨(XO.out _ X7.out).arg.otherRow zLS _,(XO.out _ X7.out).fl.otherRow (by have:=GG.out;omega) _,(XO.out _ X7.out).rl.otherRow (by have:=GG.out;omega) _⟩);simp only[Act.put,zQ,zZ,zJ];refine hK _ _ ⟨⟨_,X8.out⟩,rfl⟩ ?_;clear hK K;generalize World.setRow _ _ _=v8 at D8 X8⊢;refine nF zLI ?_;refine zY ?_;clear k2 k3 kf;have r2:=(XO.out _ X8.out).rl.cell 2;have v0:=D8.out.var.cell 0;have f0:=D8.out.var.frozen 0;simp only[lX,zX,zK,zV]at r2 v0;have D9:=zW (D8.out.put 0 (.int .i64 (ro:Int)));go_upto_region 7 with fail;generalize World.setCell _ _ _=v9 at D9⊢;have D10:=zW (show DB w b0 b1 b2 b3 (lX ⟨(ro:Int),pX rp (x:Int),pY rp (y:Int),pN rp (x:Int) (n:Int),pNN rp (b1:Int),pA rp (nnn:Int) (nx:Int),0⟩) v9 from D9.out);clear D9 D8 X8 r2 v0 f0 Dd Xd D7 X7;obtain⟨c0,c1,c2,c3⟩:=D10.out.cells;have v6:=D10.out.var.cell 6;have f6:=D10.out.var.frozen 6;simp only[nZ,lX,zX,zK,zV]at v6;go_wp2_with fail;refine(eJ b0 b1 l _).mono ?_;rintro e w9 ⟨rfl,rfl⟩;have Z:=zW (D10.out.put 6 (.int .i64 (skl b0 b1 l)));go_upto_region 8 with fail;generalize World.setCell _ _ _=V at Z⊢;refine zG ?_;refine kO mY Z.out.var zMP rfl (.tmp 5) rfl rfl ?_;simp only[Act.put,zQ,zZ,zJ];refine kU mY Z.out.res rfl zMP zL9 rfl (.tmp 4) (.tmp 50) rfl rfl rfl ?_;simp only[Act.put,zQ,zZ,zJ];have R:=Z.out.res.store (lX ⟨(ro:Int),pX rp (x:Int),pY rp (y:Int),pN rp (x:Int) (n:Int),pNN rp (b1:Int),pA rp (nnn:Int) (nx:Int),skl b0 b1 l⟩);have B:=lC Z.out.low (by omega:w.heap.size≤w.heap.size+1) (lX ⟨(ro:Int),pX rp (x:Int),pY rp (y:Int),pN rp (x:Int) (n:Int),pNN rp (b1:Int),pA rp (nnn:Int) (nx:Int),skl b0 b1 l⟩);iterate 4 go_step
   exact zS (zE rfl _ _ (w.heap.size+1) _ _ _ _ rfl R Tryz.underlying89 rfl mY.i) rfl ⟨by rw[F.out];unfold dx;rw[←E.out.2.1,←E.out.2.2.1,←E.out.2.2.2.1,←E.out.2.2.2.2.1,←E.out.2.1,←E.out.2.2.2.2.2.2],B⟩

end
section
open Go.RowKit Num Dec Cpu
def Rm(ad:Addr)(M:List Int)(w:World):Prop:=ad.block<w.heap.size∧∀j (h:j<M.length),w.cell? (ad.add j)=some (.int .u8 M[j])
theorem Rm.step{ad:Addr}{M:List Int}{w w':World}(h:Rm ad M w)(hb:Below w.heap.size w w'):Rm ad M w':=
 ⟨zF h.1 hb.size,fun j hj=>(hb.cell (p:=ad.add j) (by rw[yV];exact h.1)).trans (h.2 j hj)⟩
end
section
open Go.RowKit Num
theorem VG(b c x m:Nat)(clip:Bool)(w:World)(hc:c=8∨c=16)(b1:b≤65535)(x1:x≤128)(m1:m≤128):
  Calls Tryz.prog 200 #[.int .u16 (b:Int),.int .i64 (c:Int),.int .i64 (x:Int),.int .i64 (m:Int),.bool clip] w fun e w'=>e=.returned (rv (u7 b c x m clip))∧Below w.heap.size w w':=by
 obtain⟨m1',m2',em⟩:=xW (uZ m);obtain⟨i1,i2,ei⟩:=xW (yI (sp0 b c) x m);obtain⟨j1,j2,ej⟩:=xW (mv (sp0 b c) ((x:Int)-m));have hp:∀k:Nat,IntKind.u64.wrap ((b:Int)*2^min k 64)=((BitVec.ofNat 64 b<<<k).toNat:Int):=fun k=>by
  have h:=U0 (BitVec.ofNat 64 b) k;rw[BitVec.toNat_ofNat,kV zLS]at h;rw[IntKind.wrap_u64];exact h
 unfold u7;cases clip
 ·rw[zL zLO,ei,ej,KA,lP];rcases hc with rfl|rfl
  ·exact aR b x m _ m1' m2' i1 i2 j1 j2 _ _ ej rfl rfl w (hp 56) zLS zLS zLS zLS zLS zLS em ei
  ·exact fY b x m _ m1' m2' i1 i2 j1 j2 _ _ ej rfl rfl w (hp 48) zLS zLS zLS zLS zLS zLS em ei
 ·rw[zN rfl,ei,lP];rcases hc with rfl|rfl
  ·exact oL b x m _ m1' m2' i1 i2 w (hp 56) zLS zLS zLS zLS zLS zLS em ei
  ·exact aT b x m _ m1' m2' i1 i2 w (hp 48) zLS zLS zLS zLS zLS zLS em ei
theorem zXP{b c x m:Nat}{bi ci xi mi:Int}{clip:Bool}{h l:BitVec 64}(e:u7 b c x m clip=h++l)(hb:bi=(b:Int))(hci:ci=(c:Int))(hxi:xi=(x:Int))(hmi:mi=(m:Int))(hc:c=8∨c=16)(b1:b≤65535)(x1:x≤128)(m1:m≤128)(w:World):
  Calls Tryz.prog 200 #[.int .u16 bi,.int .i64 ci,.int .i64 xi,.int .i64 mi,.bool clip] w fun e w'=>e=.returned (.agg #[.int .u64 (h.toNat:Int),.int .u64 (l.toNat:Int)])∧Below w.heap.size w w':=by
 subst hb hci hxi hmi;rw[←lP,←e];exact VG b c x m clip w hc b1 x1 m1
theorem shiftW{h l h' l':BitVec 64}{n m:Int}(e:yI (h++l) n m=h'++l')(n0: -1000≤n)(n1:n≤1000)(m0:0≤m)(m1:m≤128)(w:World):
  Calls Tryz.prog 201 #[.agg #[.int .u64 (h.toNat:Int),.int .u64 (l.toNat:Int)],.int .i64 n,.int .i64 m] w fun e w'=>e=.returned (.agg #[.int .u64 (h'.toNat:Int),.int .u64 (l'.toNat:Int)])∧Below w.heap.size w w':=by
 rw[←lP,←lP,←e];exact E4 _ n m w zLS zLS m0 m1
theorem andW{h l h' l' v1 v2:BitVec 64}(e:(h++l)&&&(h'++l')=v1++v2)(w:World):Calls Tryz.prog 199 #[.agg #[.int .u64 (h.toNat:Int),.int .u64 (l.toNat:Int)],.agg #[.int .u64 (h'.toNat:Int),.int .u64 (l'.toNat:Int)]] w fun e w'=>
  e=.returned (.agg #[.int .u64 (v1.toNat:Int),.int .u64 (v2.toNat:Int)])∧Below w.heap.size w w':=by
 rw[←lP,←lP,←lP,←e];exact zYN _ _ w
theorem xorW{h l h' l' v1 v2:BitVec 64}(e:(h++l)^^^(h'++l')=v1++v2)(w:World):Calls Tryz.prog 198 #[.agg #[.int .u64 (h.toNat:Int),.int .u64 (l.toNat:Int)],.agg #[.int .u64 (h'.toNat:Int),.int .u64 (l'.toNat:Int)]] w fun e w'=>
  e=.returned (.agg #[.int .u64 (v1.toNat:Int),.int .u64 (v2.toNat:Int)])∧Below w.heap.size w w':=by
 rw[←lP,←lP,←lP,←e];exact H7 _ _ w
theorem aF{b:Bool}{m h:Nat}(hr:Res b m h)(w:World):Calls Tryz.prog 170 #[.bool b] w fun e w'=>e=.returned (.tuple #[.int .i64 (m:Int),.int .i64 (h:Int)])∧w=w':=by
 rcases hr with⟨rfl,rfl,rfl⟩|⟨rfl,rfl,rfl⟩
 all_goals
  go_enter Tryz.func170,Tryz.ntmps170
  go_wp2
  go_ret2
  exact⟨rfl,rfl⟩
def xI(Q:Pl)(k:Nat):Pl:=fun y=>if y<k then Q y else 0#128
theorem NZ(Q:Pl)(y:Nat):xI Q 0 y=0#128:=by simp[xI]
theorem V9(Q:Pl)(k y:Nat)(h:y<k):xI Q k y=Q y:=by rw[xI,zN h]
theorem V5(Q:Pl)(k:Nat)(r:BitVec 128)(hr:Q k=r)(y:Nat):L9 (xI Q k) k r y=xI Q (k+1) y:=by
 by_cases e:y=k
 ·subst e;rw[rH,V9 _ _ _ zLS,hr]
 ·rw[rG _ _ _ _ e];unfold xI;by_cases e2:y<k
  ·rw[zN e2,zN zLS]
  ·rw[zL e2,zL zLS]
theorem pB(Q:Pl)(k:Nat)(hr:Q k=0#128)(y:Nat):xI Q k y=xI Q (k+1) y:=by
 unfold xI;by_cases e2:y<k
 ·rw[zN e2,zN zLS]
 ·rw[zL e2];by_cases e:y=k
  ·subst e;rw[zN zLS,hr]
  ·rw[zL zLS]
theorem V7(Q:Pl)(k:Nat)(hQ:∀y,k≤y→Q y=0#128)(y:Nat):xI Q k y=Q y:=by
 unfold xI;by_cases e2:y<k
 ·rw[zN e2]
 ·rw[zL e2,hQ _ zLS]
theorem fM(P:Pl)(dx dy:Int)(m h y:Nat)(hy:h≤y):mH P dx dy m h y=0#128:=by
 unfold mH;rw[zL zLS]
theorem VU(P:Pl)(dx dy:Int)(b:Bool)(m h:Nat)(hr:Res b m h)(w:World)(d0: -1000≤dx)(d1:dx≤1000)(e0: -1000≤dy)(e1:dy≤1000):
  Calls Tryz.prog 176 #[.agg (kA P),.int .i64 dx,.int .i64 dy,.bool b] w fun e w'=>e=.returned (.agg (kA (mH P dx dy m h)))∧Below w.heap.size w w':=by
 obtain⟨m0,m1,h0,h1⟩:=hr.bounds;have RR:=zW hr;have hz:=yX;clear hr;go_enter Tryz.func176,Tryz.ntmps176;go_wp2_with fail;have N1:=zW (mR.new w P 55);have B1:=zW (nE w (.cells (kA P) 55));have S1:(w.alloc (.cells (kA P) 55)).heap.size=w.heap.size+1:=zLO;have M2:=zW (mR.new (w.alloc (.cells (kA P) 55)) (fun _=>0#128) 55);rw[S1]at M2;have M1:=zW (N1.out.alloc (.cells (kA fun _=>0#128) 55));have B2:=zW (B1.out.alloc (by rw[S1];omega) (.cells (kA fun _=>0#128) 55));have S2:((w.alloc (.cells (kA P) 55)).alloc (.cells (kA fun _=>0#128) 55)).heap.size=w.heap.size+2:=zLO;clear N1 B1 S1;generalize (w.alloc (.cells (kA P) 55)).alloc (.cells (kA fun _=>0#128) 55)=w2 at*;refine(aF RR.out w2).mono ?_;rintro e w' ⟨rfl,rfl⟩;go_wp2;have L3:=zW (mR.new w2 (fun _=>0#128) 55);rw[S2]at L3;have L2:=zW (M2.out.alloc (.cells (kA fun _=>0#128) 55));have L1:=zW (M1.out.alloc (.cells (kA fun _=>0#128) 55));have B3:=zW (B2.out.alloc (by rw[S2];omega) (.cells (kA fun _=>0#128) 55));clear M2 M1 B2 S2 hz;generalize w2.alloc (.cells (kA fun _=>0#128) 55)=w3 at*;go_loopw [20] (fun i wr=>∃k:Nat,k≤h∧i=.int .i64 (k:Int)∧mR w.heap.size 55 P wr∧mR (w.heap.size+1) 55 (fun _=>0#128) wr∧mR (w.heap.size+2) 55 (xI (mH P dx dy m h) k) wr∧Below w.heap.size w wr) (fun i _=>h-(intOf i).toNat)
 case atStart=>exact⟨0,by omega,rfl,L1.out,L2.out,L3.out.congr fun y _=>(NZ _ y).symm,B3.out⟩
 case round=>
  clear L1 L2 L3 B3
  obtain⟨k,hk,rfl,h1',h2',h3',hB⟩:=hrel
  have Q:=zW (zM h1' (zM h2' (zM h3' hB)))
  clear h1' h2' h3' hB
  by_cases hlt:k<h
  ·have ki:(k:Int)<(h:Int):=zLS
   have k6:(k:Int)<64:=zLS
   rcases(show(0≤(k:Int)-dy∧(k:Int)-dy<h)∨¬0≤(k:Int)-dy∨(0≤(k:Int)-dy∧¬(k:Int)-dy<h) by omega)with⟨i1,i2⟩|i1|⟨i1,i2⟩
   ·obtain⟨f,hf⟩:∃f:Nat,(k:Int)-dy=f:=⟨((k:Int)-dy).toNat,by omega⟩
    have f6:f<64:=zLS
    have c1:=Q.out.1.left f f6
    have c2:=Q.out.1.right f f6
    have e3:mH P dx dy m h k=yI (P f) dx m:=by
     unfold mH;rw[zN zLS,hf,Int.toNat_natCast]
    obtain⟨v1,v2,ev⟩:=xW (yI (P f) dx m)
    have SH:=zW fun w=>shiftW (h:=hi (P f)) (l:=lo (P f)) (h':=v1) (l':=v2) (n:=dx) (m:=(m:Int)) (by rw[pO,ev]) d0 d1 zLS zLS w
    have EV:=zW (show mH P dx dy m h k=v1++v2 by rw[e3,ev])
    clear e3 ev
    rw[hf]at i1 i2
    generalize hi (P f)=u1 at*
    generalize lo (P f)=u2 at*
    go_wp2_with fail
    refine(SH.out _).mono ?_
    rintro e w' ⟨rfl,hb⟩
    have Q2:=zW (zM (Q.out.1.step hb) (zM (Q.out.2.1.step hb) (zM (Q.out.2.2.1.step hb) (Q.out.2.2.2.trans (hb.mono Q.out.2.2.2.size)))))
    clear c1 c2 hb
    have k64:k<64:=zLS
    have c1:=Q2.out.2.2.1.left k k64
    have c2:=Q2.out.2.2.1.right k k64
    have c3:=Q2.out.2.2.1.frozen (k*2)
    have c4:=Q2.out.2.2.1.frozen (k*2+1)
    generalize hi (xI (mH P dx dy m h) k k)=u3 at*
    generalize lo (xI (mH P dx dy m h) k k)=u4 at*
    go_wp2
    go_roundw
    case rel=>
     exact⟨k+1,by omega,by go_num,(Q2.out.1.other zLS _ _).other zLS _ _,(Q2.out.2.1.other zLS _ _).other zLS _ _,(Q2.out.2.2.1.row k k64 v1 v2).congr fun y _=>V5 _ _ _ EV.out y,(Q2.out.2.2.2.setCell (p:=⟨w.heap.size+2,k*2,none⟩) zLO _).setCell (p:=⟨w.heap.size+2,k*2+1,none⟩) zLO _⟩
    case measure=>simp[intOf];omega
   ·have HF:=zW (show mH P dx dy m h k=0#128 by unfold mH;rw[zL zLS])
    go_wp2
    go_roundw
    case rel=>exact⟨k+1,by omega,by go_num,Q.out.1,Q.out.2.1,Q.out.2.2.1.congr fun y _=>pB _ _ HF.out y,Q.out.2.2.2⟩
    case measure=>simp[intOf];omega
   ·have HF:=zW (show mH P dx dy m h k=0#128 by unfold mH;rw[zL zLS])
    go_wp2
    go_roundw
    case rel=>exact⟨k+1,by omega,by go_num,Q.out.1,Q.out.2.1,Q.out.2.2.1.congr fun y _=>pB _ _ HF.out y,Q.out.2.2.2⟩
    case measure=>simp[intOf];omega
  ·have ke:=zW (show k=h by omega)
   have ki:¬(k:Int)<(h:Int):=zLS
   have q2:=zW Q.out.2.1
   have q3:=zW (Q.out.2.2.1.congr (Q:=mH P dx dy m h) fun y hy=>V7 _ _ (fun j hj=>fM _ _ _ _ _ _ (by have:=ke.out;omega)) y)
   have hb:=zW Q.out.2.2.2
   clear Q
   go_upto_region 10 with fail
   refine zG ?_
   refine j5 rfl 55 (.tmp 11) rfl (w.heap.size+2) zL0 _ _ _ _ q3.out Tryz.underlying55 rfl zL7 ?_
   refine wpList_store_row rfl 55 (.tmp 8) (.tmp 44) rfl (w.heap.size+1) (kA (mH P dx dy m h)) zLP zLP _ _ q2.out zL7 (by rw[lZ,lZ]) (vY _) ?_
   have q4:=zW (q2.out.store (mH P dx dy m h))
   have hb2:=zW (vS hb.out (show w.heap.size≤w.heap.size+1 by omega) (kA (mH P dx dy m h)))
   generalize wr.setRow (w.heap.size+1) (kA (mH P dx dy m h))=w4 at*
   iterate 4 go_step
   exact zS (zE rfl _ _ (w.heap.size+1) _ _ _ _ rfl q4.out Tryz.underlying55 rfl zL7) rfl ⟨rfl,hb2.out⟩
def sQ(F:FuncId)(op:BitVec 128→BitVec 128→BitVec 128):Prop:=
 ∀(h l h' l' v1 v2:BitVec 64),op (h++l) (h'++l')=v1++v2→∀w:World,Calls Tryz.prog F #[.agg #[.int .u64 (h.toNat:Int),.int .u64 (l.toNat:Int)],.agg #[.int .u64 (h'.toNat:Int),.int .u64 (l'.toNat:Int)]] w fun e w'=>
  e=.returned (.agg #[.int .u64 (v1.toNat:Int),.int .u64 (v2.toNat:Int)])∧Below w.heap.size w w'
def wR(op:BitVec 128→BitVec 128→BitVec 128)(A B:Pl)(k:Nat):Pl:=fun y=>if y<k then op (A y) (B y)else A y
theorem iS(op:BitVec 128→BitVec 128→BitVec 128)(A B:Pl)(k:Nat)(r:BitVec 128)(hr:op (A k) (B k)=r)(y:Nat):L9 (wR op A B k) k r y=wR op A B (k+1) y:=by
 unfold wR;by_cases e:y=k
 ·subst e;rw[rH,zN zLS,hr]
 ·rw[rG _ _ _ _ e];by_cases e2:y<k
  ·rw[zN e2,zN zLS]
  ·rw[zL e2,zL zLS]
theorem Z2(op:BitVec 128→BitVec 128→BitVec 128)(A B:Pl)(k:Nat):wR op A B k k=A k:=by
 rw[wR,zL zLS]
theorem zXM(w:World)(t:TypeId)(A B:Pl):mR w.heap.size t A ((w.alloc (.cells (kA A) t)).alloc (.cells (kA B) t))∧mR (w.heap.size+1) t B ((w.alloc (.cells (kA A) t)).alloc (.cells (kA B) t))∧
  Below w.heap.size w ((w.alloc (.cells (kA A) t)).alloc (.cells (kA B) t))∧((w.alloc (.cells (kA A) t)).alloc (.cells (kA B) t)).heap.size=w.heap.size+1+1:=by
 have S1:(w.alloc (.cells (kA A) t)).heap.size=w.heap.size+1:=zLO;have N2:=mR.new (w.alloc (.cells (kA A) t)) B t;rw[S1]at N2;exact⟨(mR.new w A t).alloc _,N2,(nE w _).alloc (by rw[S1];omega) _,by simp⟩
theorem sV(w:World)(t:TypeId)(A B C:Pl):mR w.heap.size t A (((w.alloc (.cells (kA A) t)).alloc (.cells (kA B) t)).alloc (.cells (kA C) t))∧mR (w.heap.size+1) t B (((w.alloc (.cells (kA A) t)).alloc (.cells (kA B) t)).alloc (.cells (kA C) t))∧
  mR (w.heap.size+1+1) t C (((w.alloc (.cells (kA A) t)).alloc (.cells (kA B) t)).alloc (.cells (kA C) t))∧Below w.heap.size w (((w.alloc (.cells (kA A) t)).alloc (.cells (kA B) t)).alloc (.cells (kA C) t)):=by
 obtain⟨h1,h2,h3,h4⟩:=zXM w t A B;have N3:=mR.new ((w.alloc (.cells (kA A) t)).alloc (.cells (kA B) t)) C t;rw[h4]at N3;exact⟨h1.alloc _,h2.alloc _,N3,h3.alloc (by rw[h4];omega) _⟩
theorem YZ(op:BitVec 128→BitVec 128→BitVec 128)(hF:sQ 198 op)(A B:Pl)(w:World):
  Calls Tryz.prog 197 #[.agg (kA A),.agg (kA B),.func (.func 198) #[] #[]] w fun e w'=>e=.returned (.agg (kA fun y=>op (A y) (B y)))∧Below w.heap.size w w':=by
 have hz:=yX;have FF:=zW hF;obtain⟨Z,hZ⟩:∃Z:Pl,(fun y=>op (A y) (B y))=Z:=⟨_,rfl⟩;rw[hZ];have ZZ:=zW hZ;clear hF hZ;go_enter Tryz.func197,Tryz.ntmps197;go_upto_region 1 with fail;have L:=zW (sV w 55 A B (fun _=>0#128));generalize ((w.alloc (.cells (kA A) 55)).alloc (.cells (kA B) 55)).alloc (.cells (kA fun _=>0#128) 55)=w3 at*;clear hz;go_wp2;go_loopw [8] (fun i wr=>∃k:Nat,k≤64∧i=.int .i64 (k:Int)∧mR w.heap.size 55 (wR op A B k) wr∧mR (w.heap.size+1) 55 B wr∧mR (w.heap.size+1+1) 55 (fun _=>0#128) wr∧Below w.heap.size w wr) (fun i _=>64-(intOf i).toNat)
 case atStart=>exact⟨0,by omega,rfl,L.out.1.congr fun y _=>by simp[wR],L.out.2.1,L.out.2.2.1,L.out.2.2.2⟩
 case round=>
  clear L
  obtain⟨k,hk,rfl,h1',h2',h3',hB⟩:=hrel
  have Q:=zW (zM h1' (zM h2' (zM h3' hB)))
  clear h1' h2' h3' hB
  by_cases hlt:k<64
  ·have ki:(k:Int)<64:=zLS
   obtain⟨v1,v2,ev⟩:=xW (op (A k) (B k))
   have FC:=zW fun w=>FF.out (hi (A k)) (lo (A k)) (hi (B k)) (lo (B k)) v1 v2 (by rw[pO,pO,ev]) w
   have EV:=zW ev
   have KL:=zW hlt
   clear ev
   have a1:=Q.out.1.left k hlt
   have a2:=Q.out.1.right k hlt
   rw[Z2]at a1 a2
   have a3:=Q.out.2.1.left k hlt
   have a4:=Q.out.2.1.right k hlt
   generalize hi (A k)=u1 at*
   generalize lo (A k)=u2 at*
   generalize hi (B k)=u3 at*
   generalize lo (B k)=u4 at*
   go_wp2
   have Q1:=zW (zM Q.out.1.drew (zM Q.out.2.1.drew (zM Q.out.2.2.1.drew Q.out.2.2.2.drew)))
   clear Q
   go_region_with (go_at_call 198;refine(FC.out _).mono ?_;rintro e wc ⟨rfl,b3⟩;have Q:=zW (zM (Q1.out.1.step b3) (zM (Q1.out.2.1.step b3) (zM (Q1.out.2.2.1.step b3) (Q1.out.2.2.2.trans (b3.mono Q1.out.2.2.2.size)))));clear Q1 b3 a1 a2 a3 a4;have a1:=Q.out.1.left k KL.out;have a2:=Q.out.1.right k KL.out;have a3:=Q.out.1.frozen (k*2);have a4:=Q.out.1.frozen (k*2+1))
   all_goals
    go_wp2
    go_roundw
    case rel=>
     exact⟨k+1,by omega,by go_num,(Q.out.1.row k KL.out v1 v2).congr fun y _=>iS op A B k _ EV.out y,(Q.out.2.1.other zLS _ _).other zLS _ _,(Q.out.2.2.1.other zLS _ _).other zLS _ _,(Q.out.2.2.2.setCell (p:=⟨w.heap.size,k*2,none⟩) zLO _).setCell (p:=⟨w.heap.size,k*2+1,none⟩) zLO _⟩
    case measure=>simp[intOf];omega
  ·have ke:=zW (show k=64 by omega)
   have ki:¬(k:Int)<64:=zLS
   have q1:=zW (Q.out.1.congr (Q:=Z) fun y hy=>by rw[wR,zN (by rw[ke.out];exact hy),←ZZ.out])
   have q2:=zW Q.out.2.2.1
   have hb:=zW Q.out.2.2.2
   clear Q
   go_upto_region 6 with fail
   refine zG ?_
   refine j5 rfl 55 (.tmp 3) rfl w.heap.size zL0 _ _ _ _ q1.out Tryz.underlying55 rfl zL7 ?_
   refine wpList_store_row rfl 55 (.tmp 6) (.tmp 25) rfl (w.heap.size+1+1) _ zLP (by simp[Act.eval,Act.put];rfl) _ _ q2.out zL7 (by rw[lZ,lZ]) (vY _) ?_
   have q4:=zW (q2.out.store Z)
   have hb2:=zW (vS hb.out (show w.heap.size≤w.heap.size+1+1 by omega) (kA Z))
   generalize wr.setRow (w.heap.size+1+1) (kA Z)=w4 at*
   iterate 4 go_step
   exact zS (zE rfl _ _ (w.heap.size+1+1) _ _ _ _ rfl q4.out Tryz.underlying55 rfl zL7) rfl ⟨rfl,hb2.out⟩
theorem YJ(op:BitVec 128→BitVec 128→BitVec 128)(hF:sQ 199 op)(A B:Pl)(w:World):
  Calls Tryz.prog 197 #[.agg (kA A),.agg (kA B),.func (.func 199) #[] #[]] w fun e w'=>e=.returned (.agg (kA fun y=>op (A y) (B y)))∧Below w.heap.size w w':=by
 have hz:=yX;have FF:=zW hF;obtain⟨Z,hZ⟩:∃Z:Pl,(fun y=>op (A y) (B y))=Z:=⟨_,rfl⟩;rw[hZ];have ZZ:=zW hZ;clear hF hZ;go_enter Tryz.func197,Tryz.ntmps197;go_upto_region 1 with fail;have L:=zW (sV w 55 A B (fun _=>0#128));generalize ((w.alloc (.cells (kA A) 55)).alloc (.cells (kA B) 55)).alloc (.cells (kA fun _=>0#128) 55)=w3 at*;clear hz;go_wp2;go_loopw [8] (fun i wr=>∃k:Nat,k≤64∧i=.int .i64 (k:Int)∧mR w.heap.size 55 (wR op A B k) wr∧mR (w.heap.size+1) 55 B wr∧mR (w.heap.size+1+1) 55 (fun _=>0#128) wr∧Below w.heap.size w wr) (fun i _=>64-(intOf i).toNat)
 case atStart=>exact⟨0,by omega,rfl,L.out.1.congr fun y _=>by simp[wR],L.out.2.1,L.out.2.2.1,L.out.2.2.2⟩
 case round=>
  clear L
  obtain⟨k,hk,rfl,h1',h2',h3',hB⟩:=hrel
  have Q:=zW (zM h1' (zM h2' (zM h3' hB)))
  clear h1' h2' h3' hB
  by_cases hlt:k<64
  ·have ki:(k:Int)<64:=zLS
   obtain⟨v1,v2,ev⟩:=xW (op (A k) (B k))
   have FC:=zW fun w=>FF.out (hi (A k)) (lo (A k)) (hi (B k)) (lo (B k)) v1 v2 (by rw[pO,pO,ev]) w
   have EV:=zW ev
   have KL:=zW hlt
   clear ev
   have a1:=Q.out.1.left k hlt
   have a2:=Q.out.1.right k hlt
   rw[Z2]at a1 a2
   have a3:=Q.out.2.1.left k hlt
   have a4:=Q.out.2.1.right k hlt
   generalize hi (A k)=u1 at*
   generalize lo (A k)=u2 at*
   generalize hi (B k)=u3 at*
   generalize lo (B k)=u4 at*
   go_wp2
   have Q1:=zW (zM Q.out.1.drew (zM Q.out.2.1.drew (zM Q.out.2.2.1.drew Q.out.2.2.2.drew)))
   clear Q
   go_region_with (go_at_call 199;refine(FC.out _).mono ?_;rintro e wc ⟨rfl,b3⟩;have Q:=zW (zM (Q1.out.1.step b3) (zM (Q1.out.2.1.step b3) (zM (Q1.out.2.2.1.step b3) (Q1.out.2.2.2.trans (b3.mono Q1.out.2.2.2.size)))));clear Q1 b3 a1 a2 a3 a4;have a1:=Q.out.1.left k KL.out;have a2:=Q.out.1.right k KL.out;have a3:=Q.out.1.frozen (k*2);have a4:=Q.out.1.frozen (k*2+1))
   all_goals
    go_wp2
    go_roundw
    case rel=>
     exact⟨k+1,by omega,by go_num,(Q.out.1.row k KL.out v1 v2).congr fun y _=>iS op A B k _ EV.out y,(Q.out.2.1.other zLS _ _).other zLS _ _,(Q.out.2.2.1.other zLS _ _).other zLS _ _,(Q.out.2.2.2.setCell (p:=⟨w.heap.size,k*2,none⟩) zLO _).setCell (p:=⟨w.heap.size,k*2+1,none⟩) zLO _⟩
    case measure=>simp[intOf];omega
  ·have ke:=zW (show k=64 by omega)
   have ki:¬(k:Int)<64:=zLS
   have q1:=zW (Q.out.1.congr (Q:=Z) fun y hy=>by rw[wR,zN (by rw[ke.out];exact hy),←ZZ.out])
   have q2:=zW Q.out.2.2.1
   have hb:=zW Q.out.2.2.2
   clear Q
   go_upto_region 6 with fail
   refine zG ?_
   refine j5 rfl 55 (.tmp 3) rfl w.heap.size zL0 _ _ _ _ q1.out Tryz.underlying55 rfl zL7 ?_
   refine wpList_store_row rfl 55 (.tmp 6) (.tmp 25) rfl (w.heap.size+1+1) _ zLP (by simp[Act.eval,Act.put];rfl) _ _ q2.out zL7 (by rw[lZ,lZ]) (vY _) ?_
   have q4:=zW (q2.out.store Z)
   have hb2:=zW (vS hb.out (show w.heap.size≤w.heap.size+1+1 by omega) (kA Z))
   generalize wr.setRow (w.heap.size+1+1) (kA Z)=w4 at*
   iterate 4 go_step
   exact zS (zE rfl _ _ (w.heap.size+1+1) _ _ _ _ rfl q4.out Tryz.underlying55 rfl zL7) rfl ⟨rfl,hb2.out⟩
theorem UO:(Tryz.prog.info? 53).map (·.size)=some 128:=by kernel_rfl
theorem zXU:(Tryz.prog.info? 52).map (·.size)=some 2:=by kernel_rfl
theorem p9(P:Pl)(k:Nat)(hk:k<64):(kA P).extract (k*2) (k*2+2)=#[.int .u64 ((hi (P k)).toNat:Int),.int .u64 ((lo (P k)).toNat:Int)]:=by
 apply qZ
 intro j
 rw[jD];by_cases hj:j<2
 ·rw[zN zMR,cR _ _ zLS];rcases(show j=0∨j=1 by omega)with rfl|rfl
  ·rw[show k*2+0=2*k by omega,sX];rfl
  ·rw[show k*2+1=2*k+1 by omega,aW];rfl
 ·rw[zL zMR,zD zL2]
section
variable {P:Program}
theorem wZ(d:Nat)(ta tr:TypeId)(dr:TypeDesc)(n sz:Nat)(xs ys:Array Value)(r:Nat→Bool)(hd:(match dr with| .struct _| .array _ _=>true|_=>false)=true)(ht:P.underlying ta=some (.array n tr))(hu:P.underlying tr=some dr)(hi:(P.info? tr).map (·.size)=some sz)
  (h:∀i,i<n→∀w,(Op.equalIn d tr (.agg (xs.extract (i*sz) (i*sz+sz))) (.agg (ys.extract (i*sz) (i*sz+sz)))).run P w=.ok (r i) w) (w:World):
  (Op.equalIn (d+1) ta (.agg xs) (.agg ys)).run P w=.ok ((List.range' 0 n).all r) w:=by
 cases hq:P.info? tr with
 |none=>simp[hq]at hi
 |some i=>
  have hs:i.size=sz:=zMG
  simp only[Op.equalIn,zA,q9 ht,Result.andThen_ok,sizeOf,typeInfo,hq,hs,Sem.run_pure]
  have go:∀l:List Nat,(∀i∈l,i<n)→(forIn (m:=Sem) l ((none:Option Bool),()) (fun i _=>do
      let a←part tr xs (i*sz)
      let b←part tr ys (i*sz)
      let r←Op.equalIn d tr a b
      if r=false then pure (ForInStep.done (some false,()))else pure (ForInStep.yield (none,())))).run P w=.ok ((if l.all r then none else some false),()) w:=by
   intro l;induction l with
   |nil=>intro _;simp
   |cons k l ih=>
    intro hl
    simp only[List.forIn_cons,zA,xJ tr dr xs (k*sz) sz w hd hu hi,xJ tr dr ys (k*sz) sz w hd hu hi,Result.andThen_ok,h k (hl k zLO) w]
    cases hk:r k
    ·simp[hk]
    ·simp[hk]
     have:=ih fun i hi=>hl i (by simp[hi])
     simpa using this
  have hgo:=go (List.range' 0 n) fun i hi=>by have:=jP.1 hi;omega
  simp[zA,hq,hs,Std.Legacy.Range.forIn_eq_forIn_range']at hgo⊢
  rw[hgo]
  have ha:(List.range' 0 n).all r=true↔∀x,x<n→r x=true:=by simp[jN,jP]
  by_cases hall:∀x,x<n→r x=true
  ·rw[ha.2 hall];simp only[Result.andThen_ok,zN hall];simp
  ·cases hb:(List.range' 0 n).all r
   ·simp only[Result.andThen_ok,zL hall];simp
   ·exact absurd (ha.1 hb) hall
end
def wQ(A B:Pl):Bool:=(List.range' 0 64).all fun y=>decide (A y=B y)
theorem dM(A B:Pl):wQ A B=true↔∀y,y<64→A y=B y:=by
 unfold wQ;rw[jN];constructor
 ·intro h y hy;have:=h y (by rw[jP];omega);exact qA this
 ·intro h y hy;rw[jP]at hy;exact qJ (h y zLS)
theorem U8(h l h' l':BitVec 64)(d:Nat)(w:World):(Op.equalIn (d+2) 52 (.agg #[.int .u64 (h.toNat:Int),.int .u64 (l.toNat:Int)]) (.agg #[.int .u64 (h'.toNat:Int),.int .u64 (l'.toNat:Int)])).run Tryz.prog w=.ok (decide (h++l=h'++l')) w:=by
 have ht:Tryz.prog.underlying 52=some (.struct (Tryz.prog.fieldsOf 52)):=zLE;have hp:Tryz.prog.stoodInHeld 52=false:=zLE;rw[run_equalIn_struct (P:=Tryz.prog) w (d+1) 52 _ _ ht hp];simp[Program.fieldsOf,Tryz.underlying52,Op.eqFields,go_sem];have e:h++l=h'++l'↔((h.toNat:Int)=h'.toNat∧(l.toNat:Int)=l'.toNat):=by
  rw[zYY,←BitVec.toNat_inj,←BitVec.toNat_inj];omega
 by_cases e1:(h.toNat:Int)=h'.toNat
 ·by_cases e2:(l.toNat:Int)=l'.toNat
  ·rw[zN e1,zN e2,qJ (e.2 ⟨e1,e2⟩)]
  ·rw[zN e1,zL e2,zU fun q=>e2 (e.1 q).2]
 ·rw[zL e1,zU fun q=>e1 (e.1 q).1]
theorem XG(C:Pl):(kA C).extract 0 (0+128)=kA C:=by
 apply qZ
 intro j
 rw[jD,lZ];by_cases hj:j<128
 ·rw[zN zLS,qY]
 ·rw[zL zLS,zD zMR]
theorem pG(A B:Pl)(d:Nat)(w:World):(Op.equalIn (d+4) 55 (.agg (kA A)) (.agg (kA B))).run Tryz.prog w=.ok (wQ A B) w:=by
 have ht:Tryz.prog.underlying 55=some (.struct (Tryz.prog.fieldsOf 55)):=zLE;have hp:Tryz.prog.stoodInHeld 55=false:=zLE;rw[run_equalIn_struct (P:=Tryz.prog) w (d+3) 55 _ _ ht hp];have hx:∀C:Pl,(part 53 (kA C) 0).run Tryz.prog w=.ok (.agg (kA C)) w:=by
  intro C;rw[xJ (P:=Tryz.prog) 53 _ (kA C) 0 128 w rfl Tryz.underlying53 UO,XG]
 have he:(Op.equalIn (d+3) 53 (.agg (kA A)) (.agg (kA B))).run Tryz.prog w=.ok (wQ A B) w:=wZ (P:=Tryz.prog) (d+2) 53 52 _ 64 2 (kA A) (kA B) (fun y=>decide (A y=B y)) rfl Tryz.underlying53 Tryz.underlying52 zXU (fun y hy w=>by
  rw[p9 A y hy,p9 B y hy,U8,pO,pO]) w
 have hxA:=hx A;have hxB:=hx B;clear hx ht hp;generalize wQ A B=v at*;generalize kA A=CA at*;generalize kA B=CB at*;simp only[Program.fieldsOf,Tryz.underlying55,Op.eqFields];rw[zN zLA,zA,hxA,Result.andThen_ok,zA,hxB,Result.andThen_ok,zA,he,Result.andThen_ok];cases v
 ·rw[zN zLA,Sem.run_pure]
 ·rw[zL zLA,Sem.run_pure]
theorem PA(A B:Pl)(w:World):(binOp .neq 55 (.agg (kA A)) (.agg (kA B))).run Tryz.prog w=.ok (.bool (!wQ A B)) w:=by
 have h:=pG A B 9996 w;have e:(10000:Nat)=9996+4:=zLA;rw[run_neq_struct,e,h];simp only[Result.andThen_ok]
theorem J7:Tryz.prog.eqGuardType Tryz.prog.depth 55=false:=by kernel_rfl
section
variable {P:Program} {ops:Array Oper} {C:World→Prop} {Q:Act→Prop}
theorem vC{o:Oper}{rest:List Oper}{a:Act}(hgd:o.guard=none)(v:Value)(h1:∀w,C w→(execOp a.eval o).run P w=.ok (.value v) w)(h:wpQuiet P ops C Q rest (a.put o.dst v)):wpQuiet P ops C Q (o::rest) a:=by
 have hw:Region.wanted o (yielded ops a.tmps)=true:=by simp[Region.wanted,hgd]
 exact zN6
theorem bX{o:Oper}{ρ:Operand→Value}{w:World}(ty:TypeId)(x:Operand)(ho:o.op=.load ty x)(g:Nat)(hx:ρ x=.pointer (some ⟨g,0,none⟩))(t:TypeId)(cs:Array Value)(fr:Nat×Nat)(d:TypeDesc)(hg:w.heap[g]?=some (.cells cs t fr))
  (hu:P.underlying ty=some d) (hd:(match d with| .struct _| .array _ _=>true|_=>false)=true) (hi:(P.info? ty).map (·.size)=some cs.size):(execOp ρ o).run P w=.ok (.value (.agg cs)) w:=by
 unfold execOp;simp only[ho,hx,Instr.loadAt,Instr.sureAddr,zA,Sem.run_pure,Result.andThen_ok,run_loadVar_row w g t ty cs fr d hg hu hd hi]
theorem iD{o:Oper}{ρ:Operand→Value}{w:World}(ty:TypeId)(ho:o.op=.build ty #[])(r:Value)(hr:(Instr.build ty #[]).run P w=.ok r w):(execOp ρ o).run P w=.ok (.value r) w:=by
 unfold execOp;simp only[ho];rw[show(#[]:Array (Nat×Operand)).map (fun(x:Nat×Operand)=>(x.1,ρ x.2))=#[] by simp,zA,hr];simp[Result.andThen_ok]
end
theorem XD{P:Program}{o:Oper}{ρ:Operand→Value}{w:World}(x:Operand)(ho:o.op=.assign x)(v:Value)(hx:ρ x=v):(execOp ρ o).run P w=.ok (.value v) w:=by
 unfold execOp;simp[ho,hx]
theorem rF{P:Program}{fn:Func}{p q:Tmp}{ty:TypeId}(h:fn.results=#[.cell p ty,.tmp q])(tmps:Array Value)(w:World)(g:Nat)(t:TypeId)(cs:Array Value)(fr:Nat×Nat)(d:TypeDesc)(v:Value)
  (hp:tmps.getD p undef=.pointer (some ⟨g,0,none⟩)) (hq:tmps.getD q undef=v) (hg:w.heap[g]?=some (.cells cs t fr))
  (hu:P.underlying ty=some d) (hd:(match d with| .struct _| .array _ _=>true|_=>false)=true) (hi:(P.info? ty).map (·.size)=some cs.size):
  (results fn tmps).run P w=.ok (.tuple #[.agg cs,v]) w:=by
 exact zNG
theorem iA(w:World):(Instr.build 55 #[]).run Tryz.prog w=.ok (.agg (kA fun _=>0#128)) w:=by
 refine run_build w 55 _ _ ?_;obtain⟨it,hit,hz⟩:=kW.1 ZS;simp only[jU]at hz;have hp:(match Tryz.prog.underlying 55 with|some (.struct fields)=>fields.toList.mapM (fun f=>(Tryz.prog.info? f.type).map fun i=>(f.offset,i.size))|_=>none)=some [(0,128)]:=by kernel_rfl
 rw[Tryz.underlying55]at hp;unfold Program.built;rw[hit,Tryz.underlying55];simp only at hp⊢;rw[hz.1,hp];rfl
theorem zZA{o:Oper}{ρ:Operand→Value}{w:World}(x y:Operand)(z:TypeId)(ho:o.op=.binOp .neq 55 x y z)(A B:Pl)(hx:ρ x=.agg (kA A))(hy:ρ y=.agg (kA B)):(execOp ρ o).run Tryz.prog w=.ok (.value (.bool (!wQ A B))) w:=by
 unfold execOp;simp only[ho,hx,hy];rw[zA,zA,run_eqGuard_agg w .neq 55 x y (kA A) (kA B) J7,Result.andThen_ok,PA,Result.andThen_ok,Sem.run_pure]
theorem E9(A B:Pl):(!wQ (fun y=>A y&&&B y) (fun _=>0#128))=tP A B:=by
 rw[Bool.eq_iff_iff,O9];cases h:wQ (fun y=>A y&&&B y) (fun _=>0#128)
 ·simp only[Bool.not_false,true_iff];rcases Classical.em (∃y,y<64∧A y&&&B y≠0#128)with h2|h2
  ·exact h2
  ·have h3:=(dM (fun y=>A y&&&B y) (fun _=>0#128)).2 fun y hy=>by
    rcases Classical.em (A y&&&B y=0#128)with h4|h4
    ·exact h4
    ·exact absurd ⟨y,hy,h4⟩ h2
   rw[h]at h3;cases h3
 ·simp only[Bool.not_true,Bool.false_eq_true,false_iff];rintro⟨y,hy,h4⟩;exact h4 ((dM _ _).1 h y hy)
theorem KY:sQ 198 (·^^^·):=fun h l h' l' v1 v2 e w=>xorW e w
theorem KM:sQ 199 (·&&&·):=fun h l h' l' v1 v2 e w=>andW e w
structure PB2(s:Nat)(t:TypeId)(A B:Pl) where
 w:World
 a:mR s t A w
 b:mR (s+1) t B w
theorem zZO(A B:Pl)(w:World):
  Calls Tryz.prog 173 #[.agg (kA A),.agg (kA B)] w fun e w'=>e=.returned (.tuple #[.agg (kA (wB A B)),.bool (tP A B)])∧Below w.heap.size w w':=by
 have hz:=yX;obtain⟨Z,hZ⟩:∃Z,wB A B=Z:=⟨_,rfl⟩;obtain⟨X,hX⟩:∃X:Pl,(fun y=>A y&&&B y)=X:=⟨_,rfl⟩;obtain⟨hb,hh⟩:∃hb,tP A B=hb:=⟨_,rfl⟩;have CX:=zW fun w=>YZ (·^^^·) KY A B w;have CA:=zW fun w=>YJ (·&&&·) KM A B w;have SZ:=zW (E9 A B);have DE:(fun y=>A y^^^B y)=wB A B:=rfl;rw[DE,hZ]at CX;rw[hX]at CA SZ;rw[hh]at SZ;rw[hZ,hh];clear hZ hX hh DE;go_enter Tryz.func173,Tryz.ntmps173;go_upto_region 1 with fail;have L:=zW (sV w 55 A B (fun _=>0#128));generalize ((w.alloc (.cells (kA A) 55)).alloc (.cells (kA B) 55)).alloc (.cells (kA fun _=>0#128) 55)=w3 at*;clear hz;refine mJ (C:=fun w'=>∃x:PB2 w.heap.size 55 A B,w'=x.w) [([0,1,3,4,6],2),([],5),([7],8)] [9] zLE zLE (fun _ _ d _ _ h=>by cases d<;>exact h) ⟨⟨w3.drew,L.out.1.drew,L.out.2.1.drew⟩,rfl⟩ ?_;intro wd hwd;have D:=zW (show mR w.heap.size 55 A wd∧mR (w.heap.size+1) 55 B wd∧mR (w.heap.size+1+1) 55 (fun _=>0#128) wd∧Below w.heap.size w wd by rw[hwd];exact⟨L.out.1.drew,L.out.2.1.drew,L.out.2.2.1.drew,L.out.2.2.2.drew⟩);clear hwd L;refine mV zLC zLI ?_;refine vC rfl (.agg (kA A)) (fun w' hC=>by obtain⟨x,rfl⟩:=hC;exact bX 55 (.tmp 2) rfl w.heap.size zLP _ _ _ _ x.a Tryz.underlying55 rfl zL7) ?_;refine vC rfl (.agg (kA B)) (fun w' hC=>by obtain⟨x,rfl⟩:=hC;exact bX 55 (.tmp 3) rfl (w.heap.size+1) zLP _ _ _ _ x.b Tryz.underlying55 rfl zL7) ?_;refine vC rfl (.agg (kA A)) (fun w' hC=>by obtain⟨x,rfl⟩:=hC;exact bX 55 (.tmp 2) rfl w.heap.size zLP _ _ _ _ x.a Tryz.underlying55 rfl zL7) ?_;refine vC rfl (.agg (kA B)) (fun w' hC=>by obtain⟨x,rfl⟩:=hC;exact bX 55 (.tmp 3) rfl (w.heap.size+1) zLP _ _ _ _ x.b Tryz.underlying55 rfl zL7) ?_;refine vC rfl _ (fun w' _=>iD 55 rfl _ (iA w')) ?_;refine zY ?_;refine lA zLI ?_;intro K hK;go_wp2_with fail;refine(CX.out _).mono ?_;rintro e w4 ⟨rfl,b4⟩;have D4:=zW (zM (D.out.1.step b4) (zM (D.out.2.1.step b4) (zM (D.out.2.2.1.step b4) (D.out.2.2.2.trans (b4.mono D.out.2.2.2.size)))));clear D b4;simp only[];refine hK _ _ ⟨⟨w4,D4.out.1,D4.out.2.1⟩,rfl⟩ ?_;clear hK K;refine mV zLC zLI ?_;refine zY ?_;refine lA zLI ?_;intro K hK;go_wp2_with fail;refine(CA.out _).mono ?_;rintro e w5 ⟨rfl,b5⟩;have D5:=zW (zM (D4.out.1.step b5) (zM (D4.out.2.1.step b5) (zM (D4.out.2.2.1.step b5) (D4.out.2.2.2.trans (b5.mono D4.out.2.2.2.size)))));clear D4 b5;simp only[];refine hK _ _ ⟨⟨w5,D5.out.1,D5.out.2.1⟩,rfl⟩ ?_;clear hK K;refine mV zLC zLI ?_;refine vC rfl (.bool hb) (fun w' _=>by rw[←SZ.out];exact zZA (.tmp 11) (.tmp 12) _ rfl X (fun _=>0#128) zLP zLP) ?_;refine zY ?_;refine lA zLI ?_;intro K hK;refine wp_store_row 55 (.tmp 4) (.tmp 8) rfl (w.heap.size+1+1) (kA Z) zLP zLP _ _ D5.out.2.2.1 zL7 (by rw[lZ,lZ]) (vY _) ?_;have q4:=zW (D5.out.2.2.1.store Z);have q5:=zW (zM (D5.out.1.otherRow (g:=w.heap.size+1+1) zLS (kA Z)) (D5.out.2.1.otherRow (g:=w.heap.size+1+1) zLS (kA Z)));have hb2:=zW (vS D5.out.2.2.2 (show w.heap.size≤w.heap.size+1+1 by omega) (kA Z));generalize w5.setRow (w.heap.size+1+1) (kA Z)=w6 at*;refine hK _ _ ⟨⟨w6,q5.out.1,q5.out.2⟩,rfl⟩ ?_;clear hK K;refine nF zLC ?_;refine vC rfl (.bool hb) (fun w' _=>XD (.tmp 13) rfl _ zLP) ?_;refine zY ?_;iterate 3 go_step
 exact zS (rF rfl _ _ (w.heap.size+1+1) _ _ _ _ (.bool hb) rfl rfl q4.out Tryz.underlying55 rfl zL7) rfl ⟨rfl,hb2.out⟩
theorem NT(A:Option Addr)(L:List Nat)(n cap c x y:Nat)(clip b:Bool)(m h:Nat)(hr:Res b m h)(w:World)(H:tQ w A L)(hL:∀x∈L,x≤65535)(hn:L.length=n)(n1:n≤16)(c8:c=8∨c=16)(hx:x<m)(hy:y<h):
  Calls Tryz.prog 174 #[.slice A n cap,.int .i64 (c:Int),.int .i64 (x:Int),.int .i64 (y:Int),.bool b,.bool clip] w fun e w'=>e=.returned (.agg (kA (spr (nth L) n c x y m h clip)))∧Below w.heap.size w w':=by
 obtain⟨m0,m1,h0,h1⟩:=hr.bounds;have HH:=zW (zM H (zM hL hn));have RR:=zW hr;have hz:=yX;have C8:=zW c8;have cc:c≤16:=zLS;clear hr H hL hn c8;go_enter Tryz.func174,Tryz.ntmps174;go_wp2_with fail;have N1:=zW (mR.new w (fun _=>0#128) 55);have B1:=zW (nE w (.cells (kA fun _=>0#128) 55));have S1:(w.alloc (.cells (kA fun _=>0#128) 55)).heap.size=w.heap.size+1:=zLO;generalize w.alloc (.cells (kA fun _=>0#128) 55)=w1 at*;refine(aF RR.out w1).mono ?_;rintro e w' ⟨rfl,rfl⟩;go_wp2;have L2:=zW (mR.new w1 (fun _=>0#128) 55);rw[S1]at L2;have L1:=zW (N1.out.alloc (.cells (kA fun _=>0#128) 55));have B2:=zW (B1.out.alloc (by rw[S1];omega) (.cells (kA fun _=>0#128) 55));clear N1 B1 S1 hz;generalize w1.alloc (.cells (kA fun _=>0#128) 55)=w2 at*;go_loopw [26] (fun t wr=>∃i:Nat,i≤n∧t=.int .i64 (i:Int)∧mR w.heap.size 55 (fun _=>0#128) wr∧mR (w.heap.size+1) 55 (spr (nth L) i c x y m h clip) wr∧Below w.heap.size w wr) (fun t _=>n-(intOf t).toNat)
 case atStart=>exact⟨0,by omega,rfl,L1.out,L2.out.congr fun j _=>(UP _ _ _ _ _ _ _ hy j).symm,B2.out⟩
 case round=>
  clear L1 L2 B2
  obtain⟨i,hi,rfl,h1',h2',hB⟩:=hrel
  have Q:=zW (zM h1' (zM h2' hB))
  clear h1' h2' hB
  by_cases hlt:i<n
  ·have hii:(i:Int)<(n:Int):=zLS
   obtain⟨ad,hA,had,hcell⟩:=(HH.out.1.below Q.out.2.2).at_ (k:=i) (by rw[HH.out.2.2];exact hlt)
   have bl:=nth_le HH.out.2.1 i
   change wr.cell? (ad.add i)=some (.int .u16 (nth L i:Int))at hcell
   obtain⟨v,hv⟩:∃v,nth L i=v:=⟨_,rfl⟩
   rw[hv]at hcell bl
   have HV:=zW hv
   obtain rfl:=hA
   clear hv had
   obtain⟨v1,v2,ev⟩:=xW (u7 v c x m clip)
   have SP:=zW fun w=>zXP (b:=v) (c:=c) (x:=x) (m:=m) (clip:=clip) ev rfl rfl rfl rfl C8.out bl zLS m1 w
   have EV:=zW ev
   clear ev
   have ea:(y:Int)+(i:Int)=((y+i:Nat):Int):=zLS
   obtain⟨a,ha⟩:∃a,a=y+i:=⟨_,rfl⟩
   rw[←ha]at ea
   have a9:(a:Int)≤1000:=zLS
   have HA:=zW ha
   clear ha
   rcases jT a h with hin|hin
   ·have r6:a<64:=by have:=HA.out;omega
    have r7:(a:Int)<(h:Int):=zLS
    go_wp2_with fail
    refine(SP.out _).mono ?_
    rintro e w' ⟨rfl,hb⟩
    have Q2:=zW (zM (Q.out.1.step hb) (zM (Q.out.2.1.step hb) (Q.out.2.2.trans (hb.mono Q.out.2.2.size))))
    clear hb hcell
    have c1:=Q2.out.2.1.left a r6
    have c2:=Q2.out.2.1.right a r6
    have c3:=Q2.out.2.1.frozen (a*2)
    have c4:=Q2.out.2.1.frozen (a*2+1)
    generalize Num.hi (spr (nth L) i c x y m h clip a)=u3 at*
    generalize Num.lo (spr (nth L) i c x y m h clip a)=u4 at*
    go_wp2
    go_roundw
    case rel=>
     refine⟨i+1,by omega,by go_num,(Q2.out.1.other zLS _ _).other zLS _ _,(Q2.out.2.1.row a r6 v1 v2).congr fun j _=>?_,(Q2.out.2.2.setCell (p:=⟨w.heap.size+1,a*2,none⟩) zLO _).setCell (p:=⟨w.heap.size+1,a*2+1,none⟩) zLO _⟩
     rw[spr_in _ _ _ _ _ _ _ _ zLS hy (by have:=HA.out;omega),HV.out,EV.out,←HA.out]
     by_cases e:j=a
     ·rw[e,rH,zN rfl]
     ·rw[rG _ _ _ _ e,zL e]
    case measure=>simp[intOf];omega
   ·have hii2:¬(a:Int)<(h:Int):=zLS
    cases clip
    ·obtain⟨r,hr⟩:∃r,r=a-h:=⟨_,rfl⟩
     have HR:=zW hr
     have HRR:=zW (show r=y+i-h by have:=HA.out;omega)
     have er:(a:Int)-(h:Int)=(r:Int):=zLS
     have er7:r<h:=by have:=HA.out;omega
     clear hr
     have r6:r<64:=by have:=HA.out;omega
     have r7:(r:Int)<(h:Int):=zLS
     go_wp2_with fail
     refine(SP.out _).mono ?_
     rintro e w' ⟨rfl,hb⟩
     have Q2:=zW (zM (Q.out.1.step hb) (zM (Q.out.2.1.step hb) (Q.out.2.2.trans (hb.mono Q.out.2.2.size))))
     clear hb hcell
     have c1:=Q2.out.2.1.left r r6
     have c2:=Q2.out.2.1.right r r6
     have c3:=Q2.out.2.1.frozen (r*2)
     have c4:=Q2.out.2.1.frozen (r*2+1)
     generalize Num.hi (spr (nth L) i c x y m h false r)=u3 at*
     generalize Num.lo (spr (nth L) i c x y m h false r)=u4 at*
     go_wp2
     go_roundw
     case rel=>
      refine⟨i+1,by omega,by go_num,(Q2.out.1.other zLS _ _).other zLS _ _,(Q2.out.2.1.row r r6 v1 v2).congr fun j _=>?_,(Q2.out.2.2.setCell (p:=⟨w.heap.size+1,r*2,none⟩) zLO _).setCell (p:=⟨w.heap.size+1,r*2+1,none⟩) zLO _⟩
      rw[zXC _ _ _ _ _ _ _ zLS hy (by have:=HA.out;omega),HV.out,EV.out,←HRR.out]
      by_cases e:j=r
      ·rw[e,rH,zN rfl]
      ·rw[rG _ _ _ _ e,zL e]
     case measure=>simp[intOf];omega
    ·go_wp2
     go_roundw
     case rel=>
      exact⟨i+1,by omega,by go_num,Q.out.1,Q.out.2.1.congr fun j _=>(UE _ _ _ _ _ _ _ (by have:=HA.out;omega) j).symm,Q.out.2.2⟩
     case measure=>simp[intOf];omega
  ·have ke:=zW (show i=n by omega)
   have ki:¬(i:Int)<(n:Int):=zLS
   have q1:=zW Q.out.1
   have q2:=zW (Q.out.2.1.congr (Q:=spr (nth L) n c x y m h clip) fun j _=>by rw[ke.out])
   have hb:=zW Q.out.2.2
   clear Q
   go_upto_region 12 with fail
   refine zG ?_
   refine j5 rfl 55 (.tmp 15) rfl (w.heap.size+1) zL0 _ _ _ _ q2.out Tryz.underlying55 rfl zL7 ?_
   refine wpList_store_row rfl 55 (.tmp 12) (.tmp 61) rfl w.heap.size (kA (spr (nth L) n c x y m h clip)) zLP zLP _ _ q1.out zL7 (by rw[lZ,lZ]) (vY _) ?_
   have q4:=zW (q1.out.store (spr (nth L) n c x y m h clip))
   have hb2:=zW (vS hb.out (zH _) (kA (spr (nth L) n c x y m h clip)))
   generalize wr.setRow w.heap.size (kA (spr (nth L) n c x y m h clip))=w4 at*
   iterate 4 go_step
   exact zS (zE rfl _ _ w.heap.size _ _ _ _ rfl q4.out Tryz.underlying55 rfl zL7) rfl ⟨rfl,hb2.out⟩
section
variable {P:Program} {ops:Array Oper} {C:World→Prop}
end
section
variable {ops:Array Oper} {W:World}
theorem WH{Q:Exit→Act→World→Prop}{o:Oper}{rest:List Oper}{a:Act}(hgd:o.guard=none)(ho:o.op=.build 55 #[])(h:wpList Tryz.prog ops Q rest (a.put o.dst (.agg (kA fun _=>0#128))) W):wpList Tryz.prog ops Q (o::rest) a W:=by
 refine qH hgd fun K hK=>?_;unfold Oper.wp;rw[iD 55 ho _ (iA W)];exact hK _ _ h
end
theorem spW{A:Option Addr}{L:List Nat}{n cap c x y:Nat}{ci xi yi:Int}{clip b:Bool}{m h:Nat}(hr:Res b m h){w:World}(H:tQ w A L)(hL:∀x∈L,x≤65535)(hn:L.length=n)(n1:n≤16)(c8:c=8∨c=16)(hx:x<m)(hy:y<h)(e1:ci=(c:Int))(e2:xi=(x:Int))(e3:yi=(y:Int)){Z:Pl}(hZ:spr (nth L) n c x y m h clip=Z):
  Calls Tryz.prog 174 #[.slice A n cap,.int .i64 ci,.int .i64 xi,.int .i64 yi,.bool b,.bool clip] w fun e w'=>e=.returned (.agg (kA Z))∧Below w.heap.size w w':=by
 subst e1 e2 e3 hZ;exact NT A L n cap c x y clip b m h hr w H hL hn n1 c8 hx hy
theorem drW{A B Z:Pl}{v:Bool}(e1:wB A B=Z)(e2:tP A B=v)(w:World):Calls Tryz.prog 173 #[.agg (kA A),.agg (kA B)] w fun e w'=>e=.returned (.tuple #[.agg (kA Z),.bool v])∧Below w.heap.size w w':=by
 subst e1 e2;exact zZO A B w
theorem scW{A Z:Pl}{dx dy:Int}{b:Bool}{m h:Nat}(hr:Res b m h)(e:mH A dx dy m h=Z)(d0: -1000≤dx)(d1:dx≤1000)(e0: -1000≤dy)(e1:dy≤1000)(w:World):Calls Tryz.prog 176 #[.agg (kA A),.int .i64 dx,.int .i64 dy,.bool b] w fun e w'=>e=.returned (.agg (kA Z))∧Below w.heap.size w w':=by
 subst e;exact VU A dx dy b m h hr w d0 d1 e0 e1
theorem tQ.step{w w':World}{A:Option Addr}{L:List Nat}(h:tQ w A L)(hb:Below w.heap.size w w'):tQ w' A L:=h.below hb
theorem zX0{A B:Pl}(h:∀y,y<64→A y=B y):wQ A B=true:=(dM A B).2 h
theorem zVN(bits:Nat→Nat)(len c x y m h:Nat)(clip:Bool):fwd (zX2 bits len c x y m h clip)=spr bits len c x y m h clip:=funext fun j=>WO bits len c x y m h clip j
structure Sc where
 P:Nat→Pl
 hi:Bool
 M:Int
def yZ(S:Sc)(j:Nat):Value:=if j<512 then .int .u64 (cV (S.P (j/128)) (j%128))else if j=512 then .bool S.hi else .int .i64 S.M
def kE(S:Sc):Array Value:=((List.range 514).map (yZ S)).toArray
def xK(P:Nat→Pl):Array Value:=((List.range 512).map fun j=>Value.int .u64 (cV (P (j/128)) (j%128))).toArray
theorem lQ(S:Sc):(kE S).size=514:=by simp[kE]
theorem gQ(P:Nat→Pl):(xK P).size=512:=by simp[xK]
theorem mN(S:Sc)(j:Nat)(hj:j<514):(kE S)[j]?=some (yZ S j):=by simp[kE,hj]
theorem WX(P:Nat→Pl)(j:Nat)(hj:j<512):(xK P)[j]?=some (.int .u64 (cV (P (j/128)) (j%128))):=by simp[xK,hj]
theorem nQ(S:Sc):nU (kE S):=by
 unfold nU;rw[qC];intro v hv;simp only[kE,kK,jV,jM]at hv;obtain⟨j,_,rfl⟩:=hv;unfold yZ;split
 ·rfl
 ·split<;>rfl
theorem QE{A B:Pl}(h:∀y,y<64→A y=B y){j:Nat}(hj:j<128):cV A j=cV B j:=by
 unfold cV;rw[h (j/2) zLS]
theorem tJ{S T:Sc}(h:∀i,i<4→∀y,y<64→S.P i y=T.P i y)(hh:S.hi=T.hi)(hM:S.M=T.M):kE S=kE T:=by
 unfold kE;refine congrArg List.toArray (List.map_congr_left fun j hj=>?_);have hj:=jM.1 hj;unfold yZ;by_cases h5:j<512
 ·rw[zN h5,zN h5,QE (h (j/128) zLS) zLS]
 ·rw[zL h5,zL h5,hh,hM]
theorem U4(S:Sc)(i:Nat)(hi:i<4):(kE S).extract (i*128) (i*128+128)=kA (S.P i):=by
 apply qZ
 intro j
 rw[jD,lQ];by_cases hj:j<128
 ·rw[zN zLS,mN _ _ zLS,cR _ _ hj];unfold yZ;rw[zN zLS,show(i*128+j)/128=i by omega,show(i*128+j)%128=j by omega]
 ·rw[zL zLS,zD zMR]
theorem zKW(P:Nat→Pl)(i:Nat)(hi:i<4):(xK P).extract (i*128) (i*128+128)=kA (P i):=by
 apply qZ
 intro j
 rw[jD,gQ];by_cases hj:j<128
 ·rw[zN zLS,WX _ _ zLS,cR _ _ hj,show(i*128+j)/128=i by omega,show(i*128+j)%128=j by omega]
 ·rw[zL zLS,zD zMR]
def Sc.put(S:Sc)(i:Nat)(Q:Pl):Sc:=⟨fun k=>if k=i then Q else S.P k,S.hi,S.M⟩
def Sc.mask(S:Sc)(m:Int):Sc:=⟨S.P,S.hi,m⟩
theorem sc_put(S:Sc)(i:Nat)(hi:i<4)(Q:Pl):lM (kE S) (i*128) (kA Q)=kE (S.put i Q):=by
 unfold lM;apply qZ
 intro j
 have hsz:(kE S).toList.length=514:=by rw[Array.length_toList,lQ]
 have hpz:(kA Q).toList.length=128:=by rw[Array.length_toList,lZ]
 rw[zX,List.getElem?_append,List.getElem?_append,qU,qT,hsz,hpz]
 rw[show min (i*128) 514=i*128 by omega]
 by_cases h1:j<i*128
 ·rw[zN zLS,zN h1,List.getElem?_take,zN h1,jJ,mN _ _ zLS,mN _ _ zLS];unfold yZ Sc.put;rw[zN zLS,zN zLS];simp only;rw[zL zLS]
 ·by_cases h2:j<i*128+128
  ·rw[zN h2,zL h1,jJ,cR _ _ zLS,mN _ _ zLS];unfold yZ Sc.put;rw[zN zLS];simp only;rw[zN zLS,show j%128=j-i*128 by omega]
  ·rw[zL h2,jF,lZ,show i*128+128+(j-(i*128+128))=j by omega,jJ];by_cases h3:j<514
   ·rw[mN _ _ h3,mN _ _ h3];unfold yZ Sc.put;by_cases h5:j<512
    ·rw[zN h5,zN h5];simp only;rw[zL zLS]
    ·rw[zL h5,zL h5]
   ·rw[zD zMV,zD zMV]
theorem JW(S:Sc)(m:Int):(kE S).setIfInBounds 513 (.int .i64 m)=kE (S.mask m):=by
 apply qZ
 intro j
 rw[qX,lQ];by_cases h1:513=j
 ·subst h1;rw[zN rfl,zN zLS,mN _ _ zLS];rfl
 ·rw[zL h1];by_cases h3:j<514
  ·rw[mN _ _ h3,mN _ _ h3];unfold yZ Sc.mask;by_cases h5:j<512
   ·rw[zN h5,zN h5]
   ·rw[zL h5,zL h5,zN zLS,zN zLS]
  ·rw[zD zMV,zD zMV]
def lB(hi:Bool)(M:Int):Sc:=⟨fun _ _=>0#128,hi,M⟩
theorem KT(hires:Bool)(M:Int):kE (lB hires M)=((Array.replicate 512 (.int .u64 0)).push (.bool hires)).push (.int .i64 M):=by
 apply qZ
 intro j
 by_cases h3:j<514
 ·rw[mN _ _ h3,Array.getElem?_push,Array.getElem?_push];unfold yZ lB;by_cases h5:j<512
  ·rw[zN h5,zL zL2,zL zL2];unfold cV;simp[Array.getElem?_replicate,h5,hi,lo]
  ·rw[zL h5];by_cases h6:j=512
   ·rw[zN h6,zL zL2,zN zL2]
   ·rw[zL h6,zN zL2]
 ·rw[zD zMV,zD zL2]
theorem vB:nI Tryz.prog 58 514:=⟨⟨_,Tryz.underlying58,rfl⟩,by kernel_rfl⟩
theorem uP:nI Tryz.prog 55 128:=⟨⟨_,Tryz.underlying55,rfl⟩,by kernel_rfl⟩
theorem zJS:nI Tryz.prog 56 512:=⟨⟨_,Tryz.underlying56,rfl⟩,by kernel_rfl⟩
theorem XJ:(Tryz.prog.info? 58).map (fun i=>(i.zero,i.size))=some (some (.agg (kE (lB false 0))),514):=by
 rw[KT];kernel_rfl
theorem QG:nG Tryz.prog 58 (kE (lB false 0)):=by
 unfold nG;rw[lQ];exact XJ
theorem xE(w:World):(zeroValue 58).run Tryz.prog w=.ok (.agg (kE (lB false 0))) w:=uU QG
def SB(b:Nat)(S:Sc)(w:World):Prop:=Blk b 58 (kE S) w
section
variable {b:Nat} {S T:Sc} {w w':World}
theorem SB.lt(H:SB b S w):b<w.heap.size:=Blk.lt H
theorem SB.below(H:SB b S w){n:Nat}(hb:Below n w w')(hn:b<n):SB b S w':=Blk.below H hb hn
theorem SB.step(H:SB b S w)(hb:Below w.heap.size w w'):SB b S w':=Blk.step H hb
theorem SB.new(w:World)(S:Sc):SB w.heap.size S (w.alloc (.cells (kE S) 58)):=Blk.new _ _ _
theorem SB.alloc(H:SB b S w)(o:Obj):SB b S (w.alloc o):=Blk.alloc H o
theorem SB.drew(H:SB b S w):SB b S w.drew:=H
theorem SB.other(H:SB b S w){g:Nat}(hg:b≠g)(o:Nat)(v:Value):SB b S (w.setCell ⟨g,o,none⟩ v):=Blk.other H hg o v
theorem SB.otherRow(H:SB b S w){g:Nat}(hg:b≠g)(ds:Array Value):SB b S (w.setRow g ds):=Blk.otherRow H hg ds
theorem SB.hires(H:SB b S w):w.cell? ⟨b,512,none⟩=some (.bool S.hi):=by rw[Blk.cell H,mN _ _ zLS];rfl
theorem SB.maskc(H:SB b S w):w.cell? ⟨b,513,none⟩=some (.int .i64 S.M):=by rw[Blk.cell H,mN _ _ zLS];rfl
theorem SB.fz(H:SB b S w)(j:Nat):w.frozen? ⟨b,j,none⟩=false:=Blk.frozen H j
theorem SB.store(H:SB b S w)(T:Sc):SB b T (w.setRow b (kE T)):=Blk.store H _
theorem SB.setMask(H:SB b S w)(m:Int):SB b (S.mask m) (w.setCell ⟨b,513,none⟩ (.int .i64 m)):=(Blk.put H 513 _).eq (JW S m)
theorem SB.congr(H:SB b S w)(e:kE S=kE T):SB b T w:=Blk.eq H e
end
theorem zWO(x y:Bool)(d:Nat)(w:World):(Op.equalIn (d+1) 4 (.bool x) (.bool y)).run Tryz.prog w=.ok (x==y) w:=by
 simp[Op.equalIn,q9 Tryz.underlying4,go_sem]
section
variable {ops:Array Oper} {C:World→Prop}
end
end
end Go.Proofs.YthknmadinmigfaaGreatDoor
