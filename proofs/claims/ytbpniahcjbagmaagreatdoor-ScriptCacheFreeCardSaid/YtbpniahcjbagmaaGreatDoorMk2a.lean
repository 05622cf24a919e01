/- DecAllow, Dec, DecLevel, CpuRef4, CpuRef5, CpuRef6, CpuAS, CpuReal, CpuRef7, CpuRef8, CpuRef8b, CpuRef9, CpuEx, CpuRef11, CpuRef12. -/
import Derived.Test.YtbpniahcjbagmaaGreatDoorMDecFind
import Derived.Test.YtbpniahcjbagmaaGreatDoorMk1b
set_option maxRecDepth 400000
set_option maxHeartbeats 64000000
set_option linter.unusedVariables false
set_option linter.unusedSimpArgs false
namespace Go.Proofs.YtbpniahcjbagmaaGreatDoor
section
open Go.RowKit Num Dec
theorem nS(w:World)(o:Obj):Below w.heap.size w (w.alloc o):=(zB _ _).alloc (zG _) o
theorem TY{r:Rl}{l x:Int}(h:(r.op:Int)=43∨(r.op:Int)=44):alw r l x=Z7 l x:=by
 unfold alw;rw[show(r.op==43||r.op==44)=true by simp;omega];rfl
theorem zZW{r:Rl}{l x:Int}(h:¬(r.op:Int)=43)(h':¬(r.op:Int)=44):alw r l x=(decide ((r.level:Int)≤l)&&decide (l≤3)):=by
 unfold alw;rw[show(r.op==43||r.op==44)=false by simp;omega];rfl
theorem PP(r:Rl)(l x:Int)(w:World)(hl:(Lit.int .i64 l).wf=true):Calls Tryz.prog 86 #[.agg (rcs r),.int .i64 l,.int .i64 x] w fun e w'=>e=.returned (.bool (alw r l x))∧Below w.heap.size w w':=by
 have HL:=zW hl;clear hl;obtain⟨m,c,o,lv,p⟩:=r;unfold rcs;simp only;by_cases h1:(o:Int)=43
 ·have F:=zW (TY (r:=⟨m,c,o,lv,p⟩) (l:=l) (x:=x) (.inl h1));have h1':((o:Int)==43)=true:=by simpa using h1
  exact zB7
 ·have h1':((o:Int)==43)=false:=by simpa using h1
  by_cases h2:(o:Int)=44
  ·have F:=zW (TY (r:=⟨m,c,o,lv,p⟩) (l:=l) (x:=x) (.inr h2));have h2':((o:Int)==44)=true:=by simpa using h2
   exact zB7
  ·have F:=zW (zZW (r:=⟨m,c,o,lv,p⟩) (l:=l) (x:=x) h1 h2);have h2':((o:Int)==44)=false:=by simpa using h2
   by_cases h3:(lv:Int)≤l
   ·have h3':decide ((lv:Int)≤l)=true:=by simpa using h3
    go_enter Tryz.func86,Tryz.ntmps86;go_wp2;go_ret;exact⟨by rw[F.out,h3'];rfl,nS _ _⟩
   ·have h3':decide ((lv:Int)≤l)=false:=by simpa using h3
    go_enter Tryz.func86,Tryz.ntmps86;go_wp2;go_ret;exact⟨by rw[F.out,h3'];rfl,nS _ _⟩
def bcs(b0 b1 b2 b3:Nat):Array Value:=#[.int .u8 (b0:Int),.int .u8 (b1:Int),.int .u8 (b2:Int),.int .u8 (b3:Int)]
structure DB(w0:World)(b0 b1 b2 b3:Nat)(cs:Array Value)(w:World):Prop where
 arg:Blk w0.heap.size 177 (bcs b0 b1 b2 b3) w
 res:Blk (w0.heap.size+1) 128 nD w
 var:Blk (w0.heap.size+1+1) 128 cs w
 low:Below w0.heap.size w0 w
section
variable {w0 w w':World} {b0 b1 b2 b3:Nat} {cs:Array Value}
theorem DB.lt(H:DB w0 b0 b1 b2 b3 cs w):w0.heap.size+2<w.heap.size:=H.var.lt
theorem DB.step(H:DB w0 b0 b1 b2 b3 cs w)(hb:Below w.heap.size w w'):DB w0 b0 b1 b2 b3 cs w':=
 ⟨H.arg.step hb,H.res.step hb,H.var.step hb,H.low.trans (hb.mono (by have:=H.lt;omega))⟩
theorem DB.alloc(H:DB w0 b0 b1 b2 b3 cs w)(o:Obj):DB w0 b0 b1 b2 b3 cs (w.alloc o):=H.step (nS _ _)
theorem DB.put(H:DB w0 b0 b1 b2 b3 cs w)(j:Nat)(v:Value):DB w0 b0 b1 b2 b3 (cs.setIfInBounds j v) (w.setCell ⟨w0.heap.size+1+1,j,none⟩ v):=
 ⟨H.arg.other zGX _ _,H.res.other zGX _ _,H.var.put _ _,H.low.setCell zGH _⟩
theorem DB.store(H:DB w0 b0 b1 b2 b3 cs w)(ds:Array Value):DB w0 b0 b1 b2 b3 ds (w.setRow (w0.heap.size+1+1) ds):=
 ⟨H.arg.otherRow zGX _,H.res.otherRow zGX _,H.var.store _,lU H.low zGX _⟩
theorem DB.new(w:World)(b0 b1 b2 b3:Nat):DB w b0 b1 b2 b3 nD (((w.alloc (.cells (bcs b0 b1 b2 b3) 177)).alloc (.cells nD 128)).alloc (.cells nD 128)):=
 ⟨((Blk.new _ _ _).alloc _).alloc _,(by have:=(Blk.new (w.alloc (.cells (bcs b0 b1 b2 b3) 177)) 128 nD).alloc (.cells nD 128);simpa using this),(by have:=Blk.new ((w.alloc (.cells (bcs b0 b1 b2 b3) 177)).alloc (.cells nD 128)) 128 nD;simpa using this),
  (((zB _ _).alloc (zG _) _).alloc zGN _).alloc zGH _⟩
end
def fcs(b0 b1:Nat):Array Value:=#[.int .i64 ((b0/16:Nat):Int),.int .i64 ((b0%16:Nat):Int),.int .i64 ((b1/16:Nat):Int),.int .i64 ((b1%16:Nat):Int),.int .i64 (b1:Int),.int .i64 ((b0%16*256+b1:Nat):Int)]
theorem I6(b0 b1:Nat)(h0:b0<256)(h1:b1<256)(w:World):Calls Tryz.prog 83 #[.int .u8 (b0:Int),.int .u8 (b1:Int)] w fun e w'=>e=.returned (.agg (fcs b0 b1))∧Below w.heap.size w w':=
 (I8 b0 b1 w zGX zGX zGX zGX).mono fun _ _ ⟨he,hb⟩=>⟨he.trans rfl,hb⟩
theorem o7(b0 b1:Nat)(h0:b0<256)(h1:b1<256)(w:World):Calls Tryz.prog 85 #[.int .u8 (b0:Int),.int .u8 (b1:Int)] w fun e w'=>e=.returned (.int .i64 ((b0*256+b1:Nat):Int))∧w=w':=
 (o8 b0 b1 w zGX zGX zGX zGX).mono fun _ _ ⟨he,hb⟩=>⟨he.trans rfl,hb⟩
theorem DB.cells{w0 w:World}{b0 b1 b2 b3:Nat}{cs:Array Value}(H:DB w0 b0 b1 b2 b3 cs w):w.cell? ⟨w0.heap.size,0,none⟩=some (.int .u8 (b0:Int))∧w.cell? ⟨w0.heap.size,1,none⟩=some (.int .u8 (b1:Int))∧w.cell? ⟨w0.heap.size,2,none⟩=some (.int .u8 (b2:Int))∧w.cell? ⟨w0.heap.size,3,none⟩=some (.int .u8 (b3:Int)):=
 ⟨H.arg.cell 0,H.arg.cell 1,H.arg.cell 2,H.arg.cell 3⟩
theorem zVM{b0 b1 b2 b3:Nat}{l:Int}(h:ok b0 b1 l=false):dec b0 b1 b2 b3 l=⟨0,0,0,0,0,0,skl b0 b1 l⟩:=by
 unfold dec;rw[h];rfl
theorem zND{b0 b1 b2 b3:Nat}{l:Int}(h:ok b0 b1 l=true){r:Rl}(hr:top (b0*256+b1)=r):dec b0 b1 b2 b3 l=⟨r.op,pX r.pk (dx b0:Nat),pY r.pk (b1/16:Nat),pN r.pk (dx b0:Nat) (b1%16:Nat),pNN r.pk (b1:Nat),pA r.pk (dx b0*256+b1:Nat) (b2*256+b3:Nat),skl b0 b1 l⟩:=by
 unfold dec;rw[h,hr];rfl
structure DX(b g gr:Nat)(bc fc rc:Array Value)(w:World):Prop where
 arg:Blk b 177 bc w
 fl:Blk g 206 fc w
 rl:Blk gr 210 rc w
def PW(X:World→Prop):Type:={w:World//X w}
def PW.w{X:World→Prop}(u:PW X):World:=u.1
theorem U1(p:Pk):∀args w,(callFunc (pf p) args).run Tryz.prog w=.ok (.enter (pf p) args) w:=by
 cases p
 ·exact enters_of Tryz.func150 zGV rfl
 ·exact enters_of Tryz.func156 zGV rfl
 ·exact enters_of Tryz.func157 zGV rfl
 ·exact enters_of Tryz.func153 zGV rfl
 ·exact enters_of Tryz.func155 zGV rfl
 ·exact enters_of Tryz.func152 zGV rfl
 ·exact enters_of Tryz.func151 zGV rfl
 ·exact enters_of Tryz.func154 zGV rfl
 ·exact enters_of Tryz.func159 zGV rfl
 ·exact enters_of Tryz.func158 zGV rfl
theorem zZM:vZ Tryz.prog 206 6:=⟨⟨_,Tryz.underlying206,rfl⟩,by kernel_rfl⟩
theorem ER(b0 b1 b2 b3:Nat)(l:Int)(w:World)(h0:b0<256)(h1:b1<256)(h2:b2<256)(h3:b3<256)(hl:(Lit.int .i64 l).wf=true):
  Calls Tryz.prog 74 #[.agg (bcs b0 b1 b2 b3),.int .i64 l] w fun e w'=>e=.returned (.agg (lB (dec b0 b1 b2 b3 l)))∧Below w.heap.size w w':=by
 have HL:=zW hl;have D0:=zW (DB.new w b0 b1 b2 b3);have SP:=fun w=>I6 b0 b1 h0 h1 w;unfold fcs at SP;have NB:=fun w=>o7 b0 b1 h0 h1 w;have FD:=fun w=>zK6 (b0*256+b1) zGX w;have N2:=fun w=>o7 b2 b3 h2 h3 w;generalize e0:b0/16=hd at SP;generalize e1:b0%16=x at SP;generalize e2:b1/16=y at SP;generalize e3:b1%16=n at SP;generalize e4:x*256+b1=nnn at SP;generalize e5:b0*256+b1=op at NB FD;generalize e6:b2*256+b3=nx at N2;have SPH:=zW SP;have NBH:=zW NB;have FDH:=zW FD;have N2H:=zW N2;have E:=zW (zM e0 (zM e1 (zM e2 (zM e3 (zM e4 (zM e5 e6))))));clear SP NB FD N2 e0 e1 e2 e3 e4 e5 e6 h0 h1 h2 h3 hl;unfold bcs;go_enter Tryz.func74,Tryz.ntmps74;go_wp2_with fail;refine(SPH.out _).mono ?_;rintro e w1 ⟨rfl,b1⟩;have D1:=zW (D0.out.step b1);obtain⟨c0,c1,c2,c3⟩:=D1.out.cells;have hw1:w.heap.size<w1.heap.size:=D1.out.arg.lt;clear b1 D0 SPH;have D2:=zW (D1.out.alloc (.cells #[.int .i64 (hd:Int),.int .i64 (x:Int),.int .i64 (y:Int),.int .i64 (n:Int),.int .i64 (b1:Int),.int .i64 (nnn:Int)] 206));have G2:=zW (Blk.new w1 206 #[.int .i64 (hd:Int),.int .i64 (x:Int),.int .i64 (y:Int),.int .i64 (n:Int),.int .i64 (b1:Int),.int .i64 (nnn:Int)]);have GD:=zW D1.out.lt;go_wp2_with fail;refine(NBH.out _).mono ?_;rintro e w2 ⟨rfl,rfl⟩;go_wp2_with fail;refine(FDH.out _).mono ?_;rintro e w3 ⟨rfl,b3⟩;have D3:=zW (D2.out.step b3);have G3:=zW (G2.out.step b3);clear b3 c0 c1 c2 c3 D2 G2 NBH FDH D1;obtain⟨g,hg⟩:∃g,w1.heap.size=g:=⟨_,rfl⟩;rw[hg]at G3 GD⊢;have hw3:w.heap.size<w3.heap.size:=D3.out.arg.lt;by_cases ho:(top op).op=0
 ·rw[show aD (top op)=.tuple #[.agg cX,.bool false] by unfold aD;rw[ho];rfl];have F:=zW (zVM (b0:=b0) (b1:=b1) (b2:=b2) (b3:=b3) (l:=l) (show ok b0 b1 l=false by unfold ok;rw[E.out.2.2.2.2.2.1,ho];rfl));clear ho;have D4:=zW (D3.out.alloc (.cells cX 210));unfold cX at D4⊢;clear D3 G3;obtain⟨c0,c1,c2,c3⟩:=D4.out.cells;have v6:=D4.out.var.cell 6;have f6:=D4.out.var.frozen 6;simp only[nD,lB,zX,zK,zV]at v6;go_wp2_with fail;refine(sD b0 b1 l _).mono ?_;rintro e w9 ⟨rfl,rfl⟩;have Z:=zW (D4.out.put 6 (.int .i64 (skl b0 b1 l)));exact zBS
 ·rw[show aD (top op)=.tuple #[.agg (rcs (top op)),.bool true] by unfold aD;rw[show((top op).op !=0)=true by simpa using ho];rfl];obtain⟨R,hR⟩:∃R,top op=R:=⟨_,rfl⟩;rw[hR]at ho⊢;have D4:=zW (D3.out.alloc (.cells (rcs R) 210));have G4:=zW (G3.out.alloc (.cells (rcs R) 210));have R4:=zW (Blk.new w3 210 (rcs R));have OK:=zW (show ok b0 b1 l=alw R l (x:Int) by unfold ok dx;rw[E.out.2.2.2.2.2.1,hR,E.out.2.1,show(R.op !=0)=true by simpa using ho];rfl);have HR:=zW (show top (b0*256+b1)=R by rw[E.out.2.2.2.2.2.1,hR]);have AL:=zW (fun w=>PP R l (x:Int) w HL.out);have PK:=zW (fun w=>zXL R.pk (hd:Int) (x:Int) (y:Int) (n:Int) (b1:Int) (nnn:Int) (nx:Int) w);have LT3:=zW D3.out.lt;clear ho hR D3 G3;obtain⟨rm,rc,ro,rl,rp⟩:=R;unfold rcs at*;simp only at*;have x0:=G4.out.cell 1;simp only[zX,zK,zV]at x0;go_wp2_with fail;refine(AL.out _).mono ?_;rintro e w5 ⟨rfl,b5⟩;have D5:=zW (D4.out.step b5);have G5:=zW (G4.out.step b5);have R5:=zW (R4.out.step b5);have GR:=zW (show w3.heap.size<w5.heap.size from R5.out.lt);clear b5 D4 G4 R4 AL x0;obtain⟨gr,hgr⟩:∃gr,w3.heap.size=gr:=⟨_,rfl⟩;rw[hgr]at R5 GR LT3⊢;clear hgr hw3;cases ha:alw ⟨rm,rc,ro,rl,rp⟩ l (x:Int)
  ·have F:=zW (zVM (b0:=b0) (b1:=b1) (b2:=b2) (b3:=b3) (l:=l) (OK.out.trans ha));clear ha;obtain⟨c0,c1,c2,c3⟩:=D5.out.cells;have v6:=D5.out.var.cell 6;have f6:=D5.out.var.frozen 6;simp only[nD,lB,zX,zK,zV]at v6;go_wp2_with fail;refine(sD b0 b1 l _).mono ?_;rintro e w9 ⟨rfl,rfl⟩;have Z:=zW (D5.out.put 6 (.int .i64 (skl b0 b1 l)));exact zBS
  ·have F:=zW (zND (b0:=b0) (b1:=b1) (b2:=b2) (b3:=b3) (l:=l) (OK.out.trans ha) HR.out);clear ha;have P5:=zW (show DX w.heap.size g gr (bcs b0 b1 b2 b3) #[.int .i64 (hd:Int),.int .i64 (x:Int),.int .i64 (y:Int),.int .i64 (n:Int),.int .i64 (b1:Int),.int .i64 (nnn:Int)] #[.int .i64 (rm:Int),.int .i64 (rc:Int),.int .i64 (ro:Int),.int .i64 (rl:Int),.func (.func (pf rp)) #[] #[]] w5 from⟨D5.out.arg,G5.out,R5.out⟩);generalize hX:DX w.heap.size g gr (bcs b0 b1 b2 b3) #[.int .i64 (hd:Int),.int .i64 (x:Int),.int .i64 (y:Int),.int .i64 (n:Int),.int .i64 (b1:Int),.int .i64 (nnn:Int)] #[.int .i64 (rm:Int),.int .i64 (rc:Int),.int .i64 (ro:Int),.int .i64 (rl:Int),.func (.func (pf rp)) #[] #[]]=X at P5;have XO:=zW (show∀w',X w'→DX w.heap.size g gr (bcs b0 b1 b2 b3) #[.int .i64 (hd:Int),.int .i64 (x:Int),.int .i64 (y:Int),.int .i64 (n:Int),.int .i64 (b1:Int),.int .i64 (nnn:Int)] #[.int .i64 (rm:Int),.int .i64 (rc:Int),.int .i64 (ro:Int),.int .i64 (rl:Int),.func (.func (pf rp)) #[] #[]] w' by rw[←hX];exact fun _ h=>h);have XI:=zW (show∀w',DX w.heap.size g gr (bcs b0 b1 b2 b3) #[.int .i64 (hd:Int),.int .i64 (x:Int),.int .i64 (y:Int),.int .i64 (n:Int),.int .i64 (b1:Int),.int .i64 (nnn:Int)] #[.int .i64 (rm:Int),.int .i64 (rc:Int),.int .i64 (ro:Int),.int .i64 (rl:Int),.func (.func (pf rp)) #[] #[]] w'→X w' by rw[←hX];exact fun _ h=>h);clear hX;haveI:Nonempty (PW X):=⟨⟨w5,P5.out⟩⟩;have k2:∀u:PW X,u.w.cell? ⟨w.heap.size,2,none⟩=some (.int .u8 (b2:Int)):=fun u=>(XO.out _ u.2).arg.cell 2;have k3:∀u:PW X,u.w.cell? ⟨w.heap.size,3,none⟩=some (.int .u8 (b3:Int)):=fun u=>(XO.out _ u.2).arg.cell 3;have kf:∀u:PW X,u.w.cell? ⟨gr,4,none⟩=some (.func (.func (pf rp)) #[] #[]):=fun u=>(XO.out _ u.2).rl.cell 4;go_upto_region 5 with fail;refine mT (C:=fun w'=>∃u:PW X,w'=u.w) [([0,1,2,3,4,5,6],7),([],8),([],9)] [] zGV zGV (fun _ _ d _ _ h=>by cases d<;>exact h) ⟨⟨w5.drew,XI.out _ ⟨(XO.out _ P5.out).arg.drew,(XO.out _ P5.out).fl.drew,(XO.out _ P5.out).rl.drew⟩⟩,rfl⟩ ?_;intro wd hwd;have Dd:=zW (show DB w b0 b1 b2 b3 nD wd by rw[hwd];exact D5.out.step ((zB _ _).drew));have Xd:=zW (show X wd by rw[hwd];exact XI.out _ ⟨(XO.out _ P5.out).arg.drew,(XO.out _ P5.out).fl.drew,(XO.out _ P5.out).rl.drew⟩);have GG:=zW (show w.heap.size+1+1<g∧g<w5.heap.size∧gr<w5.heap.size∧w.heap.size+1+1<gr from⟨GD.out,G5.out.lt,GR.out,by have:=LT3.out;omega⟩);clear hwd D5 G5 R5 P5 GD GR;refine mD zGW zGM ?_;iterate 2 (go_big_quiet_step (rfl))
   refine mN zZM (fun w9 hw9=>by obtain⟨u,rfl⟩:=hw9;exact(XO.out _ u.2).fl) rfl ?_ (.tmp 6) ?_ ?_ ?_
   ·rfl
   ·rfl
   ·rfl
   simp only[Act.put,zQ,zZ,zJ];repeat(go_big_quiet_step (rfl))
   refine zY ?_;refine mH zGM ?_;intro K hK;go_wp2_with fail;refine(N2H.out _).mono ?_;rintro e w6 ⟨rfl,rfl⟩;simp only[];refine hK _ _ ⟨⟨wd,Xd.out⟩,rfl⟩ ?_;clear hK K;refine mD zGW zGM ?_;refine zY ?_;refine mH zGM ?_;intro K hK;refine mK (g:=pf rp) (caps:=#[]) (args:=#[.agg #[.int .i64 (hd:Int),.int .i64 (x:Int),.int .i64 (y:Int),.int .i64 (n:Int),.int .i64 (b1:Int),.int .i64 (nnn:Int)],.int .i64 (nx:Int)]) (.tmp 32) #[.tmp 33,.tmp 38] #[206,3] rfl (U1 rp) rfl zGB ?_;refine(PK.out _).mono ?_;rintro e w7 ⟨rfl,b7⟩;refine⟨_,rfl,?_⟩;have D7:=zW (Dd.out.step b7);have X7:=zW (show X w7 from XI.out _ ⟨(XO.out _ Xd.out).arg.step b7,(XO.out _ Xd.out).fl.step b7,(XO.out _ Xd.out).rl.step b7⟩);have L7:=zW (show wd.heap.size≤w7.heap.size from b7.size);clear b7;simp only[Act.put,zQ,zZ,zJ];refine hK _ _ ⟨⟨w7,X7.out⟩,rfl⟩ ?_;clear hK K;refine mD zGW zGM ?_;refine zY ?_;refine mH zGM ?_;intro K hK;refine nY mP D7.out.var rfl rfl zGC (.tmp 5) (.tmp 39) rfl rfl rfl ?_;have D8:=zW (D7.out.store (lB ⟨0,pX rp (x:Int),pY rp (y:Int),pN rp (x:Int) (n:Int),pNN rp (b1:Int),pA rp (nnn:Int) (nx:Int),0⟩));have X8:=zW (show X (w7.setRow (w.heap.size+1+1) (lB ⟨0,pX rp (x:Int),pY rp (y:Int),pN rp (x:Int) (n:Int),pNN rp (b1:Int),pA rp (nnn:Int) (nx:Int),0⟩))from XI.out _ ⟨(XO.out _ X7.out).arg.otherRow zGX _,(XO.out _ X7.out).fl.otherRow (by have:=GG.out;omega) _,(XO.out _ X7.out).rl.otherRow (by have:=GG.out;omega) _⟩);simp only[Act.put,zQ,zZ,zJ];refine hK _ _ ⟨⟨_,X8.out⟩,rfl⟩ ?_;clear hK K;generalize World.setRow _ _ _=v8 at D8 X8⊢;refine vW zGM ?_;refine zY ?_;clear k2 k3 kf;have r2:=(XO.out _ X8.out).rl.cell 2;have v0:=D8.out.var.cell 0;have f0:=D8.out.var.frozen 0;simp only[lB,zX,zK,zV]at r2 v0;have D9:=zW (D8.out.put 0 (.int .i64 (ro:Int)));go_upto_region 7 with fail;generalize World.setCell _ _ _=v9 at D9⊢;have D10:=zW (show DB w b0 b1 b2 b3 (lB ⟨(ro:Int),pX rp (x:Int),pY rp (y:Int),pN rp (x:Int) (n:Int),pNN rp (b1:Int),pA rp (nnn:Int) (nx:Int),0⟩) v9 from D9.out);clear D9 D8 X8 r2 v0 f0 Dd Xd D7 X7;obtain⟨c0,c1,c2,c3⟩:=D10.out.cells;have v6:=D10.out.var.cell 6;have f6:=D10.out.var.frozen 6;simp only[nD,lB,zX,zK,zV]at v6;go_wp2_with fail;refine(sD b0 b1 l _).mono ?_;rintro e w9 ⟨rfl,rfl⟩;have Z:=zW (D10.out.put 6 (.int .i64 (skl b0 b1 l)));go_upto_region 8 with fail;generalize World.setCell _ _ _=V at Z⊢;refine zH ?_;refine lL mP Z.out.var zBY rfl (.tmp 5) rfl rfl ?_;simp only[Act.put,zQ,zZ,zJ];refine lM mP Z.out.res rfl zBY zGC rfl (.tmp 4) (.tmp 50) rfl rfl rfl ?_;simp only[Act.put,zQ,zZ,zJ];have R:=Z.out.res.store (lB ⟨(ro:Int),pX rp (x:Int),pY rp (y:Int),pN rp (x:Int) (n:Int),pNN rp (b1:Int),pA rp (nnn:Int) (nx:Int),skl b0 b1 l⟩);have B:=lU Z.out.low (by omega:w.heap.size≤w.heap.size+1) (lB ⟨(ro:Int),pX rp (x:Int),pY rp (y:Int),pN rp (x:Int) (n:Int),pNN rp (b1:Int),pA rp (nnn:Int) (nx:Int),skl b0 b1 l⟩);iterate 4 go_step
   exact zP (zE rfl _ _ (w.heap.size+1) _ _ _ _ rfl R Tryz.underlying128 rfl mP.i) rfl ⟨by rw[F.out];unfold dx;rw[←E.out.2.1,←E.out.2.2.1,←E.out.2.2.2.1,←E.out.2.2.2.2.1,←E.out.2.1,←E.out.2.2.2.2.2.2],B⟩

end
section
open Go.RowKit Num Dec Cpu
def Rm(ad:Addr)(M:List Int)(w:World):Prop:=ad.block<w.heap.size∧∀j (h:j<M.length),w.cell? (ad.add j)=some (.int .u8 M[j])
theorem Rm.step{ad:Addr}{M:List Int}{w w':World}(h:Rm ad M w)(hb:Below w.heap.size w w'):Rm ad M w':=
 ⟨zD h.1 hb.size,fun j hj=>(hb.cell (p:=ad.add j) (by rw[y9];exact h.1)).trans (h.2 j hj)⟩
structure Px4(N:Nat)(A:Option Addr)(gs:List Nat)(F:Nat→Nat→Bool)(w:World):Prop where
 len:gs.length=4
 row:Row (encP N) w A gs
 px:∀i,i<4→Pxs (gs.getD i 0) (F i) w
theorem Px4.step{N:Nat}{A:Option Addr}{gs:List Nat}{F:Nat→Nat→Bool}{w w':World}(h:Px4 N A gs F w)(hb:Below w.heap.size w w'):Px4 N A gs F w':=
 ⟨h.len,h.row.below hb,fun i hi=>(h.px i hi).step hb⟩
def byC(M:List Int)(a:Int)(j:Nat):Nat:=(M.getD ((a+(j:Int))%65536).toNat 0).toNat
def Bts(M:List Int):Prop:=∀k (h:k<M.length),0≤M[k]∧M[k]≤255
theorem EO{M:List Int}(h:Bts M)(a:Int)(j:Nat):byC M a j≤255:=by
 unfold byC;rw[qJ];by_cases hk:((a+(j:Int))%65536).toNat<M.length
 ·rw[zS hk];have:=h _ hk;simp;omega
 ·rw[qR zGX];simp
theorem seg_at{M:List Int}(hB:Bts M)(hM:M.length=65536)(a:Int)(n j:Nat)(hj:j<n):(seg M a n)[j]?=some (byC M a j:Int):=by
 rw[rO M a n j hM hj];have hk:((a+(j:Int))%65536).toNat<M.length:=zGX;unfold byC;rw[qJ,zS hk];have:=hB _ hk;simp;omega
theorem J8{w w':World}{b:Nat}(h:w'.heap[b]?=w.heap[b]?)(o:Nat):w'.cell? ⟨b,o,none⟩=w.cell? ⟨b,o,none⟩:=by
 simp only[World.cell?,h]
theorem WM{w w':World}{b:Nat}(h:w'.heap[b]?=w.heap[b]?)(o:Nat):w'.frozen? ⟨b,o,none⟩=w.frozen? ⟨b,o,none⟩:=by
 simp only[World.frozen?,h]

structure AS where
 v:Nat→Nat
 i:Int
 pc:Int
 sk:List Int
 M:List Int
 F:Nat→Nat→Bool
 hi:Bool
 msk:Nat
 ks:List Ev
 dl:Nat
 sd:Nat
 P:List Int
 pt:Nat
 fl:Nat→Int
 L:List Int
 rd:Nat
structure OkA(a:AS):Prop where
 v:OkV a.v
 i:0≤a.i∧a.i≤65535
 pc:0≤a.pc∧a.pc≤65535
 sk:a.sk.length≤16
 M:a.M.length=65536
 B:Bts a.M
 msk:a.msk≤15
 ks:a.ks.length≤1000
 dl:a.dl<256
 sd:a.sd<256
 P:a.P.length=16
 pt:a.pt<256
 fl:∀j,j<16→0≤a.fl j∧a.fl j≤255
 L:a.L.length≤100000
 LB:Bts a.L
 rd:a.rd≤1000000000
def rwN(hi:Bool):Nat:=if hi=true then 128 else 64
def rhN(hi:Bool):Nat:=if hi=true then 64 else 32
def ldN(v:Nat→Nat)(r:List Int)(B:Nat→Nat):Nat→Nat→Nat
 |0=>v
 |k+1=>Cpu.upd (ldN v r B k) (r.getD k 0).toNat (B k)
def N9(c:Nat):List Int:=[((c/100:Nat):Int),((c/10%10:Nat):Int),((c%10:Nat):Int)]
def QR(a:AS)(op:Int)(x y k:Nat):AS:=
 if op=32 then{a with M:=put a.M a.i (N9 (a.v x))}else if op=33 then{a with M:=put a.M a.i (vY a.v k)}else if op=34 then{a with v:=ldN a.v (upL 0 k) (byC a.M a.i) k}else
 if op=46 then{a with M:=put a.M a.i ((rM x y).map fun r=>(a.v r.toNat:Int))}else if op=47 then{a with v:=ldN a.v (rM x y) (byC a.M a.i) k}else if op=50 then{a with P:=seg a.M a.i k}else a
def ZX(a:AS)(op:Int)(x y k:Nat)(ki:Bool):AS:=
 if(op=33∨op=34)∧ki=false then{QR a op x y k with i:=(a.i+(k:Int))%65536}else QR a op x y k
def zYG(a:AS)(dx dy:Int):Nat→Nat→Bool:=fun i=>if onB a.msk i then sC (a.F i) dx dy (rwN a.hi) (rhN a.hi)else a.F i
def eJ(a:AS)(op:Int)(n:Nat):AS:=
 if op=1 then{a with F:=fun i=>if onB a.msk i then fun _=>false else a.F i}else if op=35 then{a with F:=zYG a 0 (n:Int)}else if op=36 then{a with F:=zYG a 4 0}else
 if op=37 then{a with F:=zYG a (-4) 0}else if op=39 then{a with F:=fun _ _=>false,hi:=false}else if op=40 then{a with F:=fun _ _=>false,hi:=true}else
 if op=45 then{a with F:=zYG a 0 (-(n:Int))}else if op=49 then{a with msk:=n}else a
def WA(a:AS)(op:Int)(x nn:Nat)(addr:Int):AS:=
 if op=20∨op=48 then{a with i:=addr}else if op=22 then{a with v:=Cpu.upd a.v x ((nxt a.L a.rd).toNat&&&nn),rd:=a.rd+1}else if op=26 then{a with v:=Cpu.upd a.v x a.dl}else
 if op=28 then{a with dl:=a.v x}else if op=29 then{a with sd:=a.v x}else if op=30 then{a with i:=(a.i+(a.v x:Int))%65536}else
 if op=31 then{a with i:=80+5*((a.v x%16:Nat):Int)}else if op=42 then{a with i:=160+10*((a.v x%16:Nat):Int)}else
 if op=43 then{a with fl:=ov a.fl (vY a.v (x+1))}else if op=44 then{a with v:=ldN a.v (upL 0 (x+1)) (fun j=>(a.fl j).toNat) (x+1)}else
 if op=51 then{a with pt:=a.v x}else a
def rW(a:AS)(b:Bool)(lv:Int):AS:=if b=true then{a with pc:=(a.pc+skl (byC a.M a.pc 0) (byC a.M a.pc 1) lv)%65536}else a
def drawA(N:Nat)(a:AS)(op:Int)(x y n:Nat)(cl:Bool):AS:=
 {a with F:=drK (byC a.M a.i) a.F a.msk n (op==41) cl (a.v x) (a.v y) (rwN a.hi) (rhN a.hi) 4,v:=Cpu.upd a.v 15 (if hiK (byC a.M a.i) a.F a.msk n (op==41) cl (a.v x) (a.v y) (rwN a.hi) (rhN a.hi) N 4=true then 1 else 0)}
structure Sls where
 sk:Sl
 M:Sl
 G:Sl
 K:Sl
 P:Sl
 fl:Sl
 L:Sl
def zNC(a:AS)(z:Sls):CS:=⟨a.v,a.i,a.pc,z.sk,z.M,z.G,a.hi,(a.msk:Int),z.K,a.dl,a.sd,z.P,a.pt,z.fl,z.L,(a.rd:Int)⟩
structure RS(N:Nat)(w:World)(z:Sls)(a:AS):Prop where
 sk:zZG 0 w z.sk.A z.sk.n z.sk.c a.sk
 M:∃ad c,z.M=⟨some ad,65536,c⟩∧Rm ad a.M w
 G:∃A cap gs,z.G=⟨A,4,cap⟩∧Px4 N A gs a.F w
 K:Evs w z.K.A z.K.n a.ks
 P:Rd w z.P.A a.P∧a.P.length=z.P.n
 fl:z.fl.n=16∧Rd w z.fl.A (xB a.fl)
 L:Rd w z.L.A a.L∧a.L.length=z.L.n
section
variable {N:Nat} {w w':World} {z:Sls} {a:AS}
theorem RS.step(h:RS N w z a)(b:Below w.heap.size w w'):RS N w' z a:=by
 obtain⟨ad,c,e,r⟩:=h.M;obtain⟨A,cap,gs,e2,p⟩:=h.G;exact⟨h.sk.below b,⟨ad,c,e,r.step b⟩,⟨A,cap,gs,e2,p.step b⟩,h.K.step b,⟨h.P.1.below b,h.P.2⟩,⟨h.fl.1,h.fl.2.below b⟩,⟨h.L.1.below b,h.L.2⟩⟩
theorem RS.setM(h:RS N w z a){ad:Addr}{c:Nat}{M:List Int}(p:Rm ad M w):RS N w {z with M:=⟨some ad,65536,c⟩} {a with M:=M}:=
 ⟨h.sk,⟨ad,c,rfl,p⟩,h.G,h.K,h.P,h.fl,h.L⟩
theorem RS.setP(h:RS N w z a){A:Option Addr}{n c:Nat}{L:List Int}(p:Rd w A L)(e:L.length=n):RS N w {z with P:=⟨A,n,c⟩} {a with P:=L}:=
 ⟨h.sk,h.M,h.G,h.K,⟨p,e⟩,h.fl,h.L⟩
theorem RS.nums(h:RS N w z a)(v:Nat→Nat)(i pc:Int)(hi:Bool)(m d s pt rd:Nat):RS N w z {a with v:=v,i:=i,pc:=pc,hi:=hi,msk:=m,dl:=d,sd:=s,pt:=pt,rd:=rd}:=
 ⟨h.sk,h.M,h.G,h.K,h.P,h.fl,h.L⟩
end
def FrS(w:World)(s:Sl):Prop:=∀ad,s.A=some ad→w.heap.size≤ad.block
structure Fr(w:World)(z z':Sls):Prop where
 sk:(z'.sk.A=z.sk.A∧z'.sk.n≤z.sk.n)∨FrS w z'.sk
 K:z'.K=z.K
 L:z'.L=z.L
 M:z'.M=z.M∨FrS w z'.M
 P:z'.P=z.P∨FrS w z'.P
 fl:z'.fl=z.fl∨FrS w z'.fl
 G:FA z.G.A z'.G.A w.heap.size
theorem Fr.refl(w:World)(z:Sls):Fr w z z:=⟨.inl ⟨rfl,zG _⟩,rfl,rfl,.inl rfl,.inl rfl,.inl rfl,.inl rfl⟩
theorem Fr.trans{w w1:World}{z z1 z2:Sls}(h:Fr w z z1)(k:Fr w1 z1 z2)(hs:w.heap.size≤w1.heap.size):Fr w z z2:=by
 have up:∀s,FrS w1 s→FrS w s:=fun s f ad e=>zR hs (f ad e);exact⟨k.sk.elim (fun e=>h.sk.elim (fun e2=> .inl ⟨e.1.trans e2.1,zR e.2 e2.2⟩) (fun f=> .inr (fun ad ea=>f ad (e.1▸ea)))) (fun f=> .inr (up _ f)),k.K.trans h.K,k.L.trans h.L,k.M.elim (fun e=>e▸h.M) (fun f=> .inr (up _ f)),k.P.elim (fun e=>e▸h.P) (fun f=> .inr (up _ f)),k.fl.elim (fun e=>e▸h.fl) (fun f=> .inr (up _ f)),h.G.trans k.G hs⟩
theorem Fr.low{w w1:World}{z z':Sls}(h:Fr w1 z z')(hs:w.heap.size≤w1.heap.size):Fr w z z':=(Fr.refl w z).trans h hs
def zGJ(N:Nat)(z:Sls)(a:AS)(w:World)(e:Ending)(w':World):Prop:=∃z',e=.returned (.agg (cst (zNC a z')))∧RS N w' z' a∧Below w.heap.size w w'∧Fr w z z'
theorem zGJ.mk{N:Nat}{z:Sls}{a:AS}{w:World}{e:Ending}{w':World}(z':Sls)(h:e=.returned (.agg (cst (zNC a z'))))(r:RS N w' z' a)(b:Below w.heap.size w w')(f:Fr w z z'):zGJ N z a w e w':=⟨z',h,r,b,f⟩
section
variable {w w1 w2:World} {g:Nat} {s s' z:CS} {i:Ins}
end
theorem Rm.away{ad:Addr}{M:List Int}{w w':World}(h:Rm ad M w){g:Nat}(hg:ad.block≠g)(hs:w.heap.size≤w'.heap.size)(hk:∀k,k≠g→w'.heap[k]?=w.heap[k]?):Rm ad M w':=
 ⟨zD h.1 hs,fun j hj=>by
  rw[←h.2 j hj];exact qU (by rw[y9];exact hk _ hg)⟩
def uQ(n:Nat)(f:Nat→Value):Array Value:=((List.range n).map f).toArray
section
variable {n:Nat} {f h:Nat→Value}
theorem cG:(uQ n f).size=n:=by simp[uQ]
theorem rL{j:Nat}(hj:j<n):(uQ n f)[j]?=some (f j):=by simp[uQ,hj]
theorem zJ0{j:Nat}(hj:n≤j):(uQ n f)[j]?=none:=by simp[uQ];omega
theorem Y9{c:Array Value}(hs:c.size=n)(hc:∀j,j<n→c[j]?=some (f j)):c=uQ n f:=by
 apply qH
 intro j
 by_cases hj:j<n
 ·rw[hc j hj,rL hj]
 ·rw[zJ0 zGX,zF zGX]
theorem rY(k:Nat)(v:Value)(e:∀j,j<n→h j=if j=k then v else f j):(uQ n f).setIfInBounds k v=uQ n h:=Y9 (by simp[uQ]) fun j hj=>by
 rw[qB,cG,e j hj];by_cases hk:k=j
 ·subst hk;rw[zN rfl,zN hj,zN rfl]
 ·rw[zL hk,zL (fun c=>hk c.symm),rL hj]
theorem xK{o m:Nat}{c:Array Value}(hm:c.size=m)(ho:o+m≤n)(e:∀j,j<m→c[j]?=some (f (o+j))):(uQ n f).extract o (o+m)=c:=by
 apply qH
 intro j
 rw[jS,cG];by_cases hj:j<m
 ·rw[zN zGX,rL zGX,e j hj]
 ·rw[zL zGX,zF zGX]
theorem nI{o:Nat}{c:Array Value}(ho:o+c.size≤n)(e1:∀j,j<c.size→c[j]?=some (h (o+j)))(e2:∀j,j<n→(j<o∨o+c.size≤j)→f j=h j):lP (uQ n f) o c=uQ n h:=by
 refine Y9 ?_ fun j hj=>?_
 ·unfold lP;simp[uQ];omega
 ·unfold lP;rw[zX];by_cases h1:j<o
  ·rw[kJ,qF (by simp[uQ];omega),List.getElem?_take_of_lt h1,qO,rL hj,e2 j hj (.inl h1)]
  ·by_cases h2:j<o+c.size
   ·rw[kJ,qE (by simp[uQ];omega),qF (by simp[uQ];omega)];have hl:((uQ n f).toList.take o).length=o:=by simp[uQ];omega
    rw[hl,qO,e1 (j-o) zGX];congr 2
    omega
   ·rw[qE (by simp[uQ];omega)];have hl:((uQ n f).toList.take o++c.toList).length=o+c.size:=by simp[uQ];omega
    rw[hl,j5,qO,show o+c.size+(j-(o+c.size))=j by omega,rL hj,e2 j hj (.inr zGX)]
end
def dnA(l:List Ev):Nat→Bool:=fun k=>dn l (k:Int)
def scA(a:AS):Sc:=⟨fun i=>fwd (a.F i),a.hi,(a.msk:Int)⟩
def ptA(a:AS):Nat→Int:=fun j=>a.P.getD j 0
def vU(a:AS)(m g j:Nat):Value:=
 if j<16 then .int .u8 (a.v j:Int)else if j=16 then .int .i64 a.i else if j=17 then .int .i64 a.pc else
 if j<34 then .int .i64 (stF a.sk (j-18))else if j=34 then .int .i64 (a.sk.length:Int)else if j=35 then .pointer (some ⟨m,0,none⟩)else
 if j<550 then yC (scA a) (j-36)else if j<566 then .bool (dnA a.ks (j-550))else if j=566 then .int .u8 (a.dl:Int)else if j=567 then .int .u8 (a.sd:Int)else
 if j<584 then .int .u8 (ptA a (j-568))else if j=584 then .int .u8 (a.pt:Int)else if j<601 then .int .u8 (a.fl (j-585))else .pointer (some ⟨g,0,none⟩)
def stC(a:AS)(m g:Nat):Array Value:=uQ 602 (vU a m g)
theorem zWW:vZ Tryz.prog 89 602:=⟨⟨_,Tryz.underlying89,rfl⟩,by kernel_rfl⟩
section
variable (a:AS) (m g:Nat)
theorem lI:(stC a m g).size=602:=cG
theorem mO{j:Nat}(hj:j<602):(stC a m g)[j]?=some (vU a m g j):=rL hj
theorem one_if{p:Prop}[Decidable p]{x y:Value}(hx:x.oneCell'=true)(hy:y.oneCell'=true):(if p then x else y).oneCell'=true:=by split<;>assumption
theorem zYK:n8 (stC a m g):=by
 unfold n8 stC uQ;rw[qC];intro v hv;simp only[kV,jG,jD]at hv;obtain⟨j,_,rfl⟩:=hv;unfold vU yC;repeat' (first|rfl|refine one_if ?_ ?_)
theorem gT{j:Nat}(h:j<16):vU a m g j=.int .u8 (a.v j:Int):=by unfold vU;rw[zN h]
theorem tW:vU a m g 16=.int .i64 a.i:=rfl
theorem zVP:vU a m g 17=.int .i64 a.pc:=rfl
theorem KV:vU a m g 34=.int .i64 (a.sk.length:Int):=rfl
theorem dE:vU a m g 35=.pointer (some ⟨m,0,none⟩):=rfl
theorem RH:vU a m g 566=.int .u8 (a.dl:Int):=rfl
theorem zVS:vU a m g 567=.int .u8 (a.sd:Int):=rfl
theorem ZD:vU a m g 584=.int .u8 (a.pt:Int):=rfl
theorem zQU:vU a m g 601=.pointer (some ⟨g,0,none⟩):=rfl
theorem J9{j:Nat}(h:j<16):vU a m g (18+j)=.int .i64 (stF a.sk j):=by
 unfold vU;rw[zL zGX,zL zGX,zL zGX,zN zGX,show 18+j-18=j by omega]
theorem fS{j:Nat}(h:j<514):vU a m g (36+j)=yC (scA a) j:=by
 unfold vU;rw[zL zGX,zL zGX,zL zGX,zL zGX,zL zGX,zL zGX,zN zGX,show 36+j-36=j by omega]
theorem KQ{j:Nat}(h:j<16):vU a m g (550+j)=.bool (dnA a.ks j):=by
 unfold vU;rw[zL zGX,zL zGX,zL zGX,zL zGX,zL zGX,zL zGX,zL zGX,zN zGX,show 550+j-550=j by omega]
theorem fP{j:Nat}(h:j<16):vU a m g (568+j)=.int .u8 (ptA a j):=by
 unfold vU;rw[zL zGX,zL zGX,zL zGX,zL zGX,zL zGX,zL zGX,zL zGX,zL zGX,zL zGX,zL zGX,zN zGX,show 568+j-568=j by omega]
theorem RM{j:Nat}(h:j<16):vU a m g (585+j)=.int .u8 (a.fl j):=by
 unfold vU;rw[zL zGX,zL zGX,zL zGX,zL zGX,zL zGX,zL zGX,zL zGX,zL zGX,zL zGX,zL zGX,zL zGX,zL zGX,zN zGX,show 585+j-585=j by omega]
theorem zHC:(stC a m g).extract 0 (0+16)=rg a.v:=xK (vE _) zGX fun j hj=>by rw[e8 _ hj,qL,gT a m g hj]
theorem iL:(stC a m g).extract 18 (18+17)=mE a.sk:=xK (mX _) zGX fun j hj=>by
 unfold mE;rw[vP _ _ _ hj];by_cases h:j<16
 ·rw[zN h,J9 a m g h]
 ·rw[zL h,show 18+j=34 by omega,KV]
theorem yN:(stC a m g).extract 36 (36+514)=lK (scA a):=xK (lN _) zGX fun j hj=>by rw[mA _ _ hj,fS a m g hj]
theorem AZ:(stC a m g).extract 550 (550+16)=kc (dnA a.ks):=xK (vB _) zGX fun j hj=>by rw[fN _ _ hj,KQ a m g hj]
theorem F9:(stC a m g).extract 566 (566+2)=#[.int .u8 (a.dl:Int),.int .u8 (a.sd:Int)]:=xK rfl zGX fun j hj=>by
 rcases(show j=0∨j=1 by omega)with rfl|rfl<;>rfl
theorem sR:(stC a m g).extract 568 (568+17)=ac (ptA a) (a.pt:Int):=xK (nP _ _) zGX fun j hj=>by
 by_cases h:j<16
 ·rw[sV _ _ _ h,fP a m g h]
 ·obtain rfl:j=16:=by omega
  simp[ac,ZD]
theorem zJV:(stC a m g).extract 585 (585+16)=pc a.fl:=xK (nF _) zGX fun j hj=>by rw[uL _ _ hj,RM a m g hj]
end
theorem n7(a b:AS)(m g:Nat)(j:Nat)(hv:j<16→a.v j=b.v j)(hi:j=16→a.i=b.i)(hp:j=17→a.pc=b.pc)(hs:18≤j∧j≤34→a.sk=b.sk)(hc:36≤j∧j<550→scA a=scA b)(hk:550≤j∧j<566→dnA a.ks=dnA b.ks)(hd:j=566→a.dl=b.dl)(ht:j=567→a.sd=b.sd)
  (hP:568≤j∧j<584→ptA a=ptA b) (hq:j=584→a.pt=b.pt) (hf:585≤j∧j<601→a.fl=b.fl):vU a m g j=vU b m g j:=by
 unfold vU;by_cases h1:j<16
 ·rw[zN h1,zN h1,hv h1]
 rw[zL h1,zL h1];by_cases h2:j=16
 ·rw[zN h2,zN h2,hi h2]
 rw[zL h2,zL h2];by_cases h3:j=17
 ·rw[zN h3,zN h3,hp h3]
 rw[zL h3,zL h3];by_cases h4:j<34
 ·rw[zN h4,zN h4,hs zGX]
 rw[zL h4,zL h4];by_cases h5:j=34
 ·rw[zN h5,zN h5,hs zGX]
 rw[zL h5,zL h5];by_cases h6:j=35
 ·rw[zN h6,zN h6]
 rw[zL h6,zL h6];by_cases h7:j<550
 ·rw[zN h7,zN h7,hc zGX]
 rw[zL h7,zL h7];by_cases h8:j<566
 ·rw[zN h8,zN h8,hk zGX]
 rw[zL h8,zL h8];by_cases h9:j=566
 ·rw[zN h9,zN h9,hd h9]
 rw[zL h9,zL h9];by_cases h10:j=567
 ·rw[zN h10,zN h10,ht h10]
 rw[zL h10,zL h10];by_cases h11:j<584
 ·rw[zN h11,zN h11,hP zGX]
 rw[zL h11,zL h11];by_cases h12:j=584
 ·rw[zN h12,zN h12,hq h12]
 rw[zL h12,zL h12];by_cases h13:j<601
 ·rw[zN h13,zN h13,hf zGX]
 rw[zL h13,zL h13]
section
variable (a:AS) (m g:Nat)
theorem zJJ(v:Nat→Nat):lP (stC a m g) 0 (rg v)=stC {a with v:=v} m g:=nI (by rw[vE];omega) (fun j hj=>by rw[vE]at hj;rw[e8 _ hj,qL,gT _ m g hj]) fun j hj h=>by
 rw[vE]at h;exact n7 _ _ _ _ _ zGX (fun _=>rfl) (fun _=>rfl) (fun _=>rfl) (fun _=>rfl) (fun _=>rfl) (fun _=>rfl) (fun _=>rfl) (fun _=>rfl) (fun _=>rfl) (fun _=>rfl)
theorem tE(k r:Nat)(hk:k<16):(stC a m g).setIfInBounds k (.int .u8 (r:Int))=stC {a with v:=Cpu.upd a.v k r} m g:=rY _ _ fun j hj=>by
 by_cases e:j=k
 ·subst e;rw[zN rfl,gT _ m g hk];unfold Cpu.upd;simp
 ·rw[zL e];exact n7 _ _ _ _ _ (fun _=>by simp[Cpu.upd,e]) (fun _=>rfl) (fun _=>rfl) (fun _=>rfl) (fun _=>rfl) (fun _=>rfl) (fun _=>rfl) (fun _=>rfl) (fun _=>rfl) (fun _=>rfl) (fun _=>rfl)
theorem sB(i:Int):(stC a m g).setIfInBounds 16 (.int .i64 i)=stC {a with i:=i} m g:=rY _ _ fun j hj=>by
 by_cases e:j=16
 ·subst e;rw[zN rfl,tW]
 ·rw[zL e];exact n7 _ _ _ _ _ (fun _=>rfl) (fun c=>absurd c e) (fun _=>rfl) (fun _=>rfl) (fun _=>rfl) (fun _=>rfl) (fun _=>rfl) (fun _=>rfl) (fun _=>rfl) (fun _=>rfl) (fun _=>rfl)
theorem IA(i:Int):(stC a m g).setIfInBounds 17 (.int .i64 i)=stC {a with pc:=i} m g:=rY _ _ fun j hj=>by
 by_cases e:j=17
 ·subst e;rw[zN rfl,zVP]
 ·rw[zL e];exact n7 _ _ _ _ _ (fun _=>rfl) (fun _=>rfl) (fun c=>absurd c e) (fun _=>rfl) (fun _=>rfl) (fun _=>rfl) (fun _=>rfl) (fun _=>rfl) (fun _=>rfl) (fun _=>rfl) (fun _=>rfl)
theorem IU(d:Nat):(stC a m g).setIfInBounds 566 (.int .u8 (d:Int))=stC {a with dl:=d} m g:=rY _ _ fun j hj=>by
 by_cases e:j=566
 ·subst e;rw[zN rfl,RH]
 ·rw[zL e];exact n7 _ _ _ _ _ (fun _=>rfl) (fun _=>rfl) (fun _=>rfl) (fun _=>rfl) (fun _=>rfl) (fun _=>rfl) (fun c=>absurd c e) (fun _=>rfl) (fun _=>rfl) (fun _=>rfl) (fun _=>rfl)
theorem IC(d:Nat):(stC a m g).setIfInBounds 567 (.int .u8 (d:Int))=stC {a with sd:=d} m g:=rY _ _ fun j hj=>by
 by_cases e:j=567
 ·subst e;rw[zN rfl,zVS]
 ·rw[zL e];exact n7 _ _ _ _ _ (fun _=>rfl) (fun _=>rfl) (fun _=>rfl) (fun _=>rfl) (fun _=>rfl) (fun _=>rfl) (fun _=>rfl) (fun c=>absurd c e) (fun _=>rfl) (fun _=>rfl) (fun _=>rfl)
theorem T6(d s:Nat):lP (stC a m g) 566 #[.int .u8 (d:Int),.int .u8 (s:Int)]=stC {a with dl:=d,sd:=s} m g:=nI (by show 566+2≤602;omega) (fun j hj=>by rcases(show j=0∨j=1 by simp at hj;omega)with rfl|rfl<;>rfl) fun j hj h=>by
 have h:j<566∨568≤j:=h;exact n7 _ _ _ _ _ (fun _=>rfl) (fun _=>rfl) (fun _=>rfl) (fun _=>rfl) (fun _=>rfl) (fun _=>rfl) zGX zGX (fun _=>rfl) (fun _=>rfl) (fun _=>rfl)
theorem i9(L:List Int):lP (stC a m g) 18 (mE L)=stC {a with sk:=L} m g:=nI (by rw[mX];omega) (fun j hj=>by
  rw[mX]at hj;unfold mE;rw[vP _ _ _ hj];by_cases h:j<16
  ·rw[zN h,J9 _ m g h]
  ·rw[zL h,show 18+j=34 by omega,KV]) fun j hj h=>by
 rw[mX]at h;exact n7 _ _ _ _ _ (fun _=>rfl) (fun _=>rfl) (fun _=>rfl) zGX (fun _=>rfl) (fun _=>rfl) (fun _=>rfl) (fun _=>rfl) (fun _=>rfl) (fun _=>rfl) (fun _=>rfl)
theorem xH(F:Nat→Nat→Bool)(hi:Bool)(msk:Nat){c:Array Value}(hc:c=lK ⟨fun i=>fwd (F i),hi,(msk:Int)⟩):lP (stC a m g) 36 c=stC {a with F:=F,hi:=hi,msk:=msk} m g:=by
 subst hc;exact nI zG1 (fun j hj=>by
  rw[lN]at hj;rw[mA _ _ hj,fS _ m g hj];rfl) fun j hj h=>by
  rw[lN]at h;exact n7 _ _ _ _ _ (fun _=>rfl) (fun _=>rfl) (fun _=>rfl) (fun _=>rfl) zGX (fun _=>rfl) (fun _=>rfl) (fun _=>rfl) (fun _=>rfl) (fun _=>rfl) (fun _=>rfl)
theorem T7(ks:List Ev){K:Nat→Bool}(hK:∀j,j<16→K j=dnA ks j):lP (stC a m g) 550 (kc K)=stC {a with ks:=ks} m g:=nI (by rw[vB];omega) (fun j hj=>by
  rw[vB]at hj;rw[fN _ _ hj,KQ _ m g hj,hK j hj]) fun j hj h=>by
 rw[vB]at h;exact n7 _ _ _ _ _ (fun _=>rfl) (fun _=>rfl) (fun _=>rfl) (fun _=>rfl) (fun _=>rfl) zGX (fun _=>rfl) (fun _=>rfl) (fun _=>rfl) (fun _=>rfl) (fun _=>rfl)
theorem oQ(P:List Int)(pt:Nat){Q:Nat→Int}(hQ:∀j,j<16→Q j=P.getD j 0):lP (stC a m g) 568 (ac Q (pt:Int))=stC {a with P:=P,pt:=pt} m g:=nI zG9 (fun j hj=>by
  rw[nP]at hj;by_cases h:j<16
  ·rw[sV _ _ _ h,fP _ m g h,hQ j h];rfl
  ·obtain rfl:j=16:=by omega
   simp[ac,ZD]) fun j hj h=>by
 rw[nP]at h;exact n7 _ _ _ _ _ (fun _=>rfl) (fun _=>rfl) (fun _=>rfl) (fun _=>rfl) (fun _=>rfl) (fun _=>rfl) (fun _=>rfl) (fun _=>rfl) zGX zGX (fun _=>rfl)
theorem IE(f:Nat→Int):lP (stC a m g) 585 (pc f)=stC {a with fl:=f} m g:=nI zBK (fun j hj=>by
  rw[nF]at hj;rw[uL _ _ hj,RM _ m g hj]) fun j hj h=>by
 rw[nF]at h;exact n7 _ _ _ _ _ (fun _=>rfl) (fun _=>rfl) (fun _=>rfl) (fun _=>rfl) (fun _=>rfl) (fun _=>rfl) (fun _=>rfl) (fun _=>rfl) (fun _=>rfl) (fun _=>rfl) zGX
end

theorem zY9{w:World}{base n c:Nat}{e:TypeId}{A:Option Addr}{xs:List Value}(h:w.ownsRow base e 1 (.slice A n c) n xs):n≤c:=by
 rcases h.2 with⟨e1,e2⟩|⟨g,cap,cur,e1,_,_,h1,_⟩
 ·injection e1 with _ _ e3
  omega
 ·injection e1 with _ _ e3
  omega
theorem iG(x y j:Nat)(hx:x≤15)(hy:y≤15)(hj:j<vG x y):∃rn:Nat,rn<16∧(rM x y)[j]?=some (rn:Int):=by
 unfold vG at hj;unfold rM;split at hj
 ·rename_i h
  rw[zN h];exact⟨x+j,by omega,by simp[upL,hj]⟩
 ·rename_i h
  rw[zL h];exact⟨x-j,by omega,by simp[dnL,hj];omega⟩
theorem A4{w:World}{base n c:Nat}{e:TypeId}{A:Option Addr}{xs:List Value}(h:w.ownsRow base e 1 (.slice A n c) n xs)(ad:Addr)(ha:A=some ad):base≤ad.block:=by
 subst ha;exact(h.lt _ rfl).1

theorem VS{L:List Int}(h:Bts L)(k:Nat):∃bn:Nat,nxt L k=(bn:Int)∧bn<256:=by
 unfold nxt;rw[qJ];by_cases hk:k%L.length<L.length
 ·rw[zS hk];have:=h _ hk;exact⟨(L[k%L.length]).toNat,by simp;omega,by omega⟩
 ·rw[qR zGX];exact⟨0,rfl,by omega⟩
structure Ef where
 c:Int
 halt:Bool
 wait:Bool
 drew:Bool
def isMem(op:Int):Bool:=decide (op=32)||(decide (op=33)||(decide (op=34)||(decide (op=46)||(decide (op=47)||decide (op=50)))))
def stB(N:Nat)(a:AS)(op:Int)(x y n nn:Nat)(addr len:Int)(q:Pr):AS:=
 if eW op=true then{a with v:=bQ a.v ⟨op,x,y,n,nn,addr,len⟩ q}else if fX op=true then rW a (skB a.v ⟨op,x,y,n,nn,addr,len⟩) q.lv else
 if op=24 then rW a (dn a.ks ((a.v x%16:Nat):Int)) q.lv else if op=25 then rW a (!dn a.ks ((a.v x%16:Nat):Int)) q.lv else
 if op=2 then{a with sk:=a.sk.dropLast,pc:=a.sk.getLastD 0}else if op=3 then{a with pc:=addr}else if op=4 then{a with sk:=a.sk++[a.pc],pc:=addr}else
 if op=21 then{a with pc:=(addr+(a.v (if q.jx=true then x else 0):Int))%65536}else if op=23∨op=41 then drawA N a op x y n q.cl else
 if isMem op=true then ZX a op x y (spN a.msk op x y n) q.ki else WA (eJ a op n) op x nn addr
def caA(a:AS)(op:Int)(x y n:Nat)(q:Pr):Int:=caN a.sk.length a.i a.msk op x y n q.fa
def nxA(a:AS)(len:Int):AS:={a with pc:=(a.pc+len)%65536}
def stA(N:Nat)(a:AS)(op:Int)(x y n nn:Nat)(addr len:Int)(q:Pr):AS:=
 if caA a op x y n q=0 then(if op=38 then a else stB N (nxA a len) op x y n nn addr len q)else a
def efA(a:AS)(op:Int)(x y n:Nat)(q:Pr):Ef:=
 if caA a op x y n q=0 then(if op=38 then⟨0,true,false,false⟩else⟨0,false,op==27,(op==23||op==41)&&(q.dw&& !a.hi)⟩)else⟨caA a op x y n q,false,false,false⟩
def efc(e:Ef):Array Value:=#[.int .i64 e.c,.bool e.halt,.bool e.wait,.bool e.drew]
theorem pM(e:Ef):n8 (efc e):=by unfold n8 efc;simp[Value.oneCell']
section
variable {w w1 w2:World} {g:Nat} {s s':CS} {i:Ins} {q:Pr}
end
def zGZ(N:Nat)(z:Sls)(a:AS)(f:Ef)(w:World)(e:Ending)(w':World):Prop:=∃z',e=.returned (.tuple #[.agg (cst (zNC a z')),.agg (efc f)])∧RS N w' z' a∧Below w.heap.size w w'∧Fr w z z'
theorem zGZ.mk{N:Nat}{z:Sls}{a a':AS}{f f':Ef}{w:World}{e:Ending}{w':World}(ea:a'=a)(ef:f'=f)(z':Sls)(h:e=.returned (.tuple #[.agg (cst (zNC a' z')),.agg (efc f')]))(r:RS N w' z' a')(b:Below w.heap.size w w')(k:Fr w z z'):zGZ N z a f w e w':=by
 subst ea ef;exact⟨z',h,r,b,k⟩
def NoPx(N g:Nat)(w:World):Prop:=∀A gs F,Px4 N A gs F w→(∀ad,A=some ad→ad.block≠g)∧∀i,i<4→gs.getD i 0≠g
theorem Px4.away{N:Nat}{A:Option Addr}{gs:List Nat}{F:Nat→Nat→Bool}{w w':World}{g:Nat}(h:Px4 N A gs F w)(np:NoPx N g w)(hs:w.heap.size≤w'.heap.size)(hk:∀k,k≠g→w'.heap[k]?=w.heap[k]?):Px4 N A gs F w':=by
 obtain⟨ha,hp⟩:=np _ _ _ h;refine⟨h.len,fun hne=>?_,fun i hi=>?_⟩
 ·obtain⟨b,o,hA,hlt,hc⟩:=h.row hne;have hb:=ha _ hA;exact⟨b,o,hA,by omega,fun j hj=>(J8 (hk b hb) _).trans (hc j hj)⟩
 ·have P:=h.px i hi;have hb:=hp i hi;exact⟨by have:=P.lt;omega,fun j hj=>(J8 (hk _ hb) _).trans (P.at_ j hj),fun j hj=>(WM (hk _ hb) _).trans (P.fz j hj)⟩
section
variable {N:Nat} {w0 wc w1 w2:World} {z z':Sls} {a0 a1:AS} {g:Nat}
end
theorem RS.skip{N:Nat}{w:World}{z:Sls}{a:AS}(h:RS N w z a)(b:Bool)(l:Int):RS N w z (rW a b l):=by
 unfold rW;split
 ·exact h.nums _ _ _ _ _ _ _ _ _
 ·exact h
def uB(R L:List Int):AS:=⟨fun _=>0,0,512,[],wH R,fun _ _=>false,false,1,[],0,0,xB mM,64,mM,L,0⟩
structure US where
 rom:Sl
 lst:Sl
 v:Nat→Nat
 i:Nat
 pc:Nat
 stk:Sl
 keys:Sl
 dl:Nat
 sd:Nat
 hr:Bool
 msk:Nat
 fl:Sl
structure UR(w:World)(u:US)(R L:List Int)(S:List Nat)(ks:List Ev)(FL:List Int):Prop where
 rom:Rd w u.rom.A R∧R.length=u.rom.n
 lst:Rd w u.lst.A L∧L.length=u.lst.n
 stk:hE w u.stk.A S∧S.length=u.stk.n
 keys:Evs w u.keys.A u.keys.n ks
 fl:Rd w u.fl.A FL∧FL.length=u.fl.n
 r1:R.length≤2000
 l1:L.length≤100
 s1:S.length≤16
 k1:ks.length≤20
 f1:FL.length≤16
 s2:∀x∈S,x≤65535
 sc:u.stk.n≤u.stk.c
 i:u.i≤65535
 pc:u.pc≤65535
 dl:u.dl<256
 sd:u.sd<256
 msk:u.msk<256
 v:OkV u.v
theorem UR.step{w w':World}{u:US}{R L:List Int}{S:List Nat}{ks:List Ev}{FL:List Int}(h:UR w u R L S ks FL)(b:Below w.heap.size w w'):UR w' u R L S ks FL:=
 ⟨⟨h.rom.1.below b,h.rom.2⟩,⟨h.lst.1.below b,h.lst.2⟩,⟨h.stk.1.below b,h.stk.2⟩,h.keys.step b,⟨h.fl.1.below b,h.fl.2⟩,h.r1,h.l1,h.s1,h.k1,h.f1,h.s2,h.sc,h.i,h.pc,h.dl,h.sd,h.msk,h.v⟩
def QV(B:Nat)(W:World):Type:={w':World//Below B W w'}
def QV.w{B:Nat}{W:World}(x:QV B W):World:=x.1
theorem QV.below{B:Nat}{W:World}(x:QV B W):Below B W x.w:=x.2
instance(B:Nat)(W:World):Nonempty (QV B W):=⟨⟨W,zB _ _⟩⟩
theorem QV.cell{B:Nat}{W:World}{b o:Nat}{v:Value}(h:W.cell? ⟨b,o,none⟩=some v)(hb:b<B)(x:QV B W):x.w.cell? ⟨b,o,none⟩=some v:=(x.below.cell (p:=⟨b,o,none⟩) hb).trans h
section
variable {w w2 w1 w3:World} {g s0:Nat} {u:US} {s s':CS}
end
end
end Go.Proofs.YtbpniahcjbagmaaGreatDoor
