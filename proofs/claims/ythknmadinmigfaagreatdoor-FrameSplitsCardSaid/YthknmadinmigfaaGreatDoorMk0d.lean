/- ForkN, AudRef, Kept, Fla, AluFn, AluLk, Aud, Font, KeyLow, MemRead, MemClone, InsEq, TimNum, Tim, KeyApp2, Prof, ProfNum, RangeStill, KeyOpen, BytOpen, InsProf, LaidTab, FontFrame. -/
import Derived.Test.YthknmadinmigfaaGreatDoorRows
import Derived.Test.YthknmadinmigfaaGreatDoorProg
import Derived.Test.YthknmadinmigfaaGreatDoorMk0c
set_option maxRecDepth 400000
set_option maxHeartbeats 64000000
set_option linter.unusedVariables false
set_option linter.unusedSimpArgs false
namespace Go.Proofs.YthknmadinmigfaaGreatDoor
section
open Go.RowKit
inductive YO where
 |last (is:List Nat)
 |branch (is:List Nat) (cs:List Nat) (t:Nat→YO)
section
variable {P:Program} {ops:Array Oper} {C:World→Prop} {Q:Exit→Act→World→Prop} {md:Region.Mode}
def uF(P:Program)(ops:Array Oper)(C:World→Prop)(Q:Exit→Act→World→Prop):YO→Act→World→Prop
 |.last is,a,w=>wpQuiet P ops C (fun a'=>Q .normal a' w) (kC ops is) a
 |.branch is cs t,a,w=>wpQuiet P ops C (fun a'=>∀c,c∈cs→cW P ops C Q c (fun a w=>uF P ops C Q (t c) a w) a' w) (kC ops is) a
def N4(md:Region.Mode)(ops:Array Oper):YO→Array Bool→Bool
 |.last is,listed=>oG md ops is listed&&(Region.ready md ops (mA listed is)).isEmpty
 |.branch is cs t,listed=>oG md ops is listed&&decide (Region.ready md ops (mA listed is)=cs)&& !cs.isEmpty&&cs.all fun c=>N4 md ops (t c) ((mA listed is).setIfInBounds c true)
def zQ5:YO→Nat→Bool
 |.last is,n=>decide (n=is.length)
 |.branch is cs t,n=>decide (is.length+1≤n)&&cs.all fun c=>zQ5 (t c) (n-is.length-1)
theorem QL(hs:Region.noSelect ops=true)(hQ:∀(c:_) (a:Act) (d:Option Tmp) (v:Value) (w:World),Q (.panic c) (a.put d v) w→Q (.panic c) a w)(k:Nat):∀(t:YO) (n:Nat) (listed:Array Bool) (a:Act) (w:World),C w→
  zQ5 t n=true→N4 md ops t listed=true→uF P ops C Q t a w→wpAnyH P md ops Q C (k+n) listed a w
 |.last is,n,listed,a,w,hC,hl,hB,h=>by
  simp only[N4,zC]at hB;obtain rfl:n=is.length:=by simpa [zQ5]using hl
  have hr:Region.ready md ops (mA listed is)=[]:=by simpa using hB.2
  refine uT hs hQ k hC is listed a hB.1 ?_;simp only[uF]at h;exact rP (fun a h=>wpAnyH_done hr h k) _ _ h
 |.branch is cs t,n,listed,a,w,hC,hl,hB,h=>by
  simp only[N4,zC]at hB;obtain⟨⟨⟨hB1,hB2⟩,hB3⟩,hB4⟩:=hB;have hr:Region.ready md ops (mA listed is)=cs:=by simpa using hB2
  simp only[zQ5,zC,qB]at hl;obtain⟨hn,hl⟩:=hl;obtain⟨m,rfl⟩:∃m,n=m+1+is.length:=⟨n-is.length-1,by omega⟩;rw[←qF];refine uT hs hQ _ hC is listed a hB1 ?_;simp only[uF]at h;refine rP (fun a' ha=>?_) _ _ h;rw[←qF];refine wpAnyH_all hr (by intro e;rw[e]at hB3;cases hB3) fun i hi=>?_;refine f8 hC (ha i hi) fun a'' w'' h1 h2=>?_;have e1:=jN.1 hl i hi;rw[show m+1+is.length-is.length-1=m by omega]at e1;exact QL hs hQ k (t i) m _ a'' w'' h1 e1 (jN.1 hB4 i hi) h2
theorem vM{id:Nat}{a:Act}{w:World}{l:List Oper}(t:YO)(hm:P.follows .mixedOrders=true)
  (hB:(Region.noSelect l.toArray&&N4 .any l.toArray t (Array.replicate l.toArray.size false)&&zQ5 t l.toArray.size)=true)
  (hQ:∀(c:_) (a:Act) (d:Option Tmp) (v:Value) (w:World),Q (.panic c) (a.put d v) w→Q (.panic c) a w) (hC:C w.drew)
  (h:∀wd,wd=w.drew→uF P l.toArray C Q t a wd):(Code.region id l.toArray true).wp P Q a w:=by
 simp only[zC]at hB;obtain⟨⟨hs,hb⟩,hl⟩:=hB;refine wp_region_held (S:=C) hm ?_;have:=QL (md:=.any) hs hQ 0 t l.toArray.size (Array.replicate l.toArray.size false) a w.drew hC hl hb (h _ rfl);rwa [qY]at this
theorem cP{is:List Nat}{l:List Oper}{a:Act}{w:World}(hl:kC ops is=l)(h:wpQuiet P ops C (fun a'=>Q .normal a' w) l a):uF P ops C Q (.last is) a w:=by
 subst hl;exact h
theorem mD{is cs:List Nat}{t:Nat→YO}{l:List Oper}{a:Act}{w:World}(hl:kC ops is=l)(h:wpQuiet P ops C (fun a'=>∀c,c∈cs→cW P ops C Q c (fun a w=>uF P ops C Q (t c) a w) a' w) l a):uF P ops C Q (.branch is cs t) a w:=by
 subst hl;exact h
theorem m8{c:Nat}{t:YO}{o:Oper}{a:Act}{w:World}(ho:ops[c]?=some o)(hw:Region.wanted o (yielded ops a.tmps)=true)(h:∀K:Act→World→Prop,(∀a w,C w→uF P ops C Q t a w→K a w)→o.wp P a w K Q):cW P ops C Q c (fun a w=>uF P ops C Q t a w) a w:=by
 unfold cW;rw[ho];simp only[hw,if_true];exact h _ fun a w hc h=>⟨hc,h⟩
end
end
section
open Go.RowKit Num

structure lN(O:Nat→Prop)(w w':World):Prop where
 os:w'.os=w.os
 tape:w'.tape=w.tape
 output:w'.output=w.output
 size:w.heap.size≤w'.heap.size
 block:∀k,k<w.heap.size→¬O k→w'.heap[k]?=w.heap[k]?
def nS(O O':Nat→Prop)(n:Nat):Prop:=∀k,O' k→O k∨n≤k
section
variable {O O' O2:Nat→Prop} {u w w':World} {n m:Nat}
theorem nS.refl:nS O O n:=fun _ h=> .inl h
theorem nS.trans(h:nS O O' n)(h2:nS O' O2 m)(hm:n≤m):nS O O2 n:=fun k hk=>by
 rcases h2 k hk with h3|h3
 ·exact h k h3
 ·exact .inr (zR hm h3)
theorem nS.away(h:nS O O' n){k:Nat}(hk:k<n)(ho:¬O k):¬O' k:=fun c=>by
 rcases h k c with h1|h1
 ·exact ho h1
 ·omega
theorem nS.above(h:nS O O' n){B:Nat}(hB:B≤n)(ho:∀k,O k→B≤k):∀k,O' k→B≤k:=fun k hk=>by
 rcases h k hk with h1|h1
 ·exact ho k h1
 ·omega
theorem lN.refl:lN O w w:=⟨rfl,rfl,rfl,zH _,fun _ _ _=>rfl⟩
theorem lN.mono(h:lN O w w')(ho:∀k,k<w.heap.size→O k→O' k):lN O' w w':=⟨h.os,h.tape,h.output,h.size,fun k hk hn=>h.block k hk fun c=>hn (ho k hk c)⟩
theorem lN.trans(h:lN O u w)(k:lN O' w w')(hg:nS O O' u.heap.size):lN O u w':=
 ⟨k.os.trans h.os,k.tape.trans h.tape,k.output.trans h.output,zR h.size k.size,fun i hi hn=>(k.block i (zF hi h.size) (hg.away hi hn)).trans (h.block i hi hn)⟩
theorem lN.of_below(h:Below w.heap.size w w'):lN O w w':=⟨h.os,h.tape,h.output,h.size,fun k hk _=>h.block k hk⟩
theorem lN.of_apart{p:Nat}{g:Option Nat}(h:mC p g w w'):lN (fun k=>k=p∨some k=g) w w':=⟨h.os,h.tape,h.output,h.size,fun k hk hn=>h.block k hk (fun e=>hn (.inl e)) (fun e=>hn (.inr e))⟩
theorem lN.below(h:lN O w w'){B:Nat}(hB:B≤w.heap.size)(ho:∀k,O k→B≤k):Below B w w':=
 ⟨h.os,h.tape,h.output,h.size,fun k hk=>h.block k zLS fun c=>by have:=ho k c;omega⟩
theorem lN.cell(h:lN O w w'){a:Addr}(ha:a.block<w.heap.size)(hn:¬O a.block):w'.cell? a=w.cell? a:=qE (h.block _ ha hn)
theorem Rd.kept{A:Option Addr}{L:List Int}(h:Rd w A L)(k:lN O w w')(hn:∀ad,A=some ad→¬O ad.block):Rd w' A L:=h.keep k.size fun ad e hlt=>k.block _ hlt (hn ad e)
theorem cT{base size len:Nat}{e:TypeId}{v:Value}{xs:List Value}(h:w.ownsRow base e size v len xs)(k:lN O w w')(hn:∀b,v.ownBlock=some b→¬O b):w'.ownsRow base e size v len xs:=by
 refine⟨h.1,h.2.imp id ?_⟩;rintro⟨b,cap,cur,rfl,hb,hh,r⟩;exact⟨b,cap,cur,rfl,hb,(k.block b (qK.1 hh).1 (hn b rfl)).trans hh,r⟩
end
theorem U6(P:Nat→Int)(A:Option Addr)(n c:Nat)(L:List Int)(w:World)(H:Rd w A L)(hn:L.length=n):
  Calls Tryz.prog 143 #[.agg (pc P),.slice A n c] w fun e w'=>e=.returned (.agg (pc (ov P L)))∧Below w.heap.size w w':=by
 have hz:=zeroF;have HL:=zW (zM H hn);clear H hn;go_enter Tryz.func143,Tryz.ntmps143;go_upto_region 1 with fail;have S:=zW ((FB.new w P).alloc (.cells (pc lO) 67));have R:=zW (FB.new (w.alloc (.cells (pc P) 67)) lO);have B:=zW ((lW w (.cells (pc P) 67)).alloc zLO (.cells (pc lO) 67));rw[zT]at R;generalize (w.alloc (.cells (pc P) 67)).alloc (.cells (pc lO) 67)=w1 at*;clear hz;obtain⟨r,hr⟩:∃r,w.heap.size=r:=⟨_,rfl⟩;have HR:=zW hr;rw[hr]at S R B⊢;clear hr;refine zG ?_;iterate 9 go_step
 obtain⟨d,hd⟩:∃d,d=min n 16:=⟨_,rfl⟩;have hp:w1.heap[r]?=some (.cells ((yL P).map (Value.int .u8)).toArray 67 (0,0)):=by rw[←GH];exact S.out
 have RL:Rd w1 A L:=HL.out.1.below (by rw[HR.out];exact B.out);obtain⟨w3,hrun,hg,ha⟩:=vO 3 r 0 16 16 (some ⟨r,0,none⟩) (fun _=>rfl) A n c d hd L HL.out.2 RL _ 67 hp (by simp[mG]);rw[zKG]at hg;refine ZB rfl (.tmp 6) (.tmp 7) rfl _ _ _ zL0 zL0 hrun 8 rfl ?_;have S3:=zW (show FB r (ov P L) w3 from hg);have R3:=zW (show FB (r+1) lO w3 from((ha none).block (r+1) R.out.lt zLS (fun e=>by cases e)).trans R.out);have B3:=zW (B.out.trans ((ha none).below (by have:=S.out.lt;omega) (zH _) (fun k hk=>by cases hk)));clear hrun hg ha RL hp hd;simp only[zQ,zZ,zJ];go_upto_region 2 with fail;refine zG ?_;refine kO T4 S3.out (nX _) rfl (.tmp 2) rfl zL0 ?_;simp only[Act.put,zQ,zZ,zJ];refine kU (ds:=pc (ov P L)) T4 R3.out (nX _) (nX _) (JT _) rfl (.tmp 4) (.tmp 9) rfl zLP zLP ?_;have R4:=zW (R3.out.store (ov P L));have B4:=zW (IK B3.out (jW r) (pc (ov P L)));generalize w3.setRow (r+1) (pc (ov P L))=w4 at*;iterate 4 go_step
 exact zS (zE rfl _ _ (r+1) _ _ _ _ rfl R4.out Tryz.underlying67 rfl (by rw[T4.i,nX])) rfl ⟨rfl,by rw[HR.out];exact B4.out⟩
theorem W9(ad:Addr)(n c:Nat)(L:List Int)(w:World)(H:Rd w (some ad) L)(hn:L.length=n)(n1:n≤1000):
  Calls Tryz.prog 75 #[.slice (some ad) n c] w (gS 5 L w):=by
 have HL:=zW (zM H (zM hn n1));clear H hn n1;have qN:∀(w:World) (a:Option Addr) (n c n' c':Nat),(binOp .eql 22 (.slice a n c) (.slice none n' c')).run Tryz.prog w=.ok (.bool a.isNone) w:=fun w a n c n' c'=>Lib.run_eql_slice_nil w _ _ a n c n' c' Tryz.underlying22;go_enter Tryz.func75,Tryz.ntmps75;have hown0:(w.alloc (.cells #[] 5)).ownsRow w.heap.size 5 1 (.slice (some ⟨w.heap.size,0,none⟩) 0 0) 0 (([]:List Int).map (Value.int .u8)):=World.ownsRow_made w #[] 0 (zH _) zL6 rfl;have Q:=zW (zM hown0 (lW w (.cells #[] 5)));exact zNQ
theorem zQ2(P:Nat→Int)(n:Int)(w:World):Calls Tryz.prog 144 #[.agg (pc P),.int .i64 n] w (gS 5 ((yL P).take (cl n)) w):=by
 obtain⟨k,hk⟩:∃k,cl n=k:=⟨_,rfl⟩;have k16:k≤16:=by rw[←hk];exact cl_le n
 have e:=cl_eq n;rw[hk]at e⊢;have KI:(k:Int)≤16:=zLS;have K16:=zW k16;clear hk k16;go_enter Tryz.func144,Tryz.ntmps144;go_upto_region 1 with fail;have S:=zW (FB.new w P);have B:=zW (lW w (.cells (pc P) 67));generalize w.alloc (.cells (pc P) 67)=w1 at*;obtain⟨r,hr⟩:∃r,w.heap.size=r:=⟨_,rfl⟩;have HR:=zW hr;rw[hr]at S B⊢;clear hr;go_wp2_with fail;refine(W9 ⟨r,0,none⟩ k 16 ((yL P).take k) _ (zKV S.out.rd k) (UY _ _ K16.out) (by have:=K16.out;omega)).mono ?_;rintro e w2 ⟨v,rfl,ho,hb⟩;have Z:=zW (zM ho hb);clear ho hb;go_wp2_with fail;go_ret;exact⟨v,rfl,gX Z.out.1 B.out.size,by rw[HR.out];exact B.out.trans (Z.out.2.mono (by rw[←HR.out];exact B.out.size))⟩
end
section
open Go.RowKit Num Dec Cpu Go.Maps
def opc(x y nn:Nat)(q:Pr):Array Value:=#[.int .i64 (x:Int),.int .i64 (y:Int),.int .i64 (nn:Int),.int .i64 q.lv,.bool q.sh,.bool q.ki,.bool q.jx,.bool q.lr,.bool q.cl,.bool q.dw,.bool q.fa]
def oc(r:Int)(f:Nat)(h:Bool):Array Value:=#[.int .i64 r,.int .u8 (f:Int),.bool h]
theorem dS:nI Tryz.prog 249 11:=⟨⟨_,Tryz.underlying249,rfl⟩,by kernel_rfl⟩
theorem uD:nI Tryz.prog 247 3:=⟨⟨_,Tryz.underlying247,rfl⟩,by kernel_rfl⟩
theorem aggPrA:nI Tryz.prog 24 8:=⟨⟨_,Tryz.underlying24,rfl⟩,by kernel_rfl⟩
theorem zeroOc:nG Tryz.prog 247 (oc 0 0 false):=by unfold nG;kernel_rfl
theorem tV(r:Int)(f:Nat)(h:Bool):nU (oc r f h):=by unfold nU oc;simp[Value.oneCell']
def fT(op:Int)(x y nn:Nat)(q:Pr)(e:Ending):Prop:=
 ∃(r:Int) (f:Nat) (h:Bool),e=.returned (.agg (oc r f h))∧r%256=(tF op x y (if q.sh=true then y else x) nn:Nat)∧f≤1∧eE op x y (if q.sh=true then y else x) q.lr=(if h=true then some f else none)∧-65536<r∧r<65536
theorem bJ(n:Int)(h0:0≤n)(h1:n<2^8):IntKind.i64.wrap n=n:=by rw[qQ];omega
theorem zJL{x y:Nat}(hx:x<256)(hy:y<256):bits .or .i64 (x:Int) (y:Int)=((x|||y:Nat):Int):=(bits_nat .i64 8 zLA bJ x y hx hy).2
theorem IJ{x y:Nat}(hx:x<256)(hy:y<256):bits .and .i64 (x:Int) (y:Int)=((x&&&y:Nat):Int):=(bits_nat .i64 8 zLA bJ x y hx hy).1
theorem IZ{x y:Nat}(hx:x<256)(hy:y<256):bits .xor .i64 (x:Int) (y:Int)=((x^^^y:Nat):Int):=by
 have hx':x%2^IntKind.i64.bits=x:=kV (zF hx zLA);have hy':y%2^IntKind.i64.bits=y:=kV (zF hy zLA);simp only[bits,BitVec.ofInt_natCast,BitVec.toNat_xor,BitVec.toNat_ofNat,hx',hy'];exact bJ _ (qM _) (by have:=QR hx hy;omega)
theorem DH{n:Nat}(hn:n<16):bits .and .i64 (n:Int) 15=(n:Int):=by
 have h:=bits_mask .i64 8 zLA bJ 4 zLA (n:Int) zLS zLS;have e:((2:Int)^4-1)=15:=zLA;rw[e]at h;rw[h];have e2:((2:Int)^4)=16:=zLA;rw[e2];omega
theorem tE(n:Nat)(hn:n<16)(w:World):Calls Tryz.prog 160 #[.int .i64 (n:Int)] w fun e w'=>e=.returned (.int .i64 (n:Int))∧w=w':=by
 have hb:=DH hn;go_enter Tryz.func160,Tryz.ntmps160;go_wp2_with fail;exact zNT
theorem cA(r:Int)(b:Bool)(w:World):Calls Tryz.prog 204 #[.int .i64 r,.bool b] w fun e w'=>e=.returned (.agg (oc r (b2 b) true))∧Below w.heap.size w w':=by
 cases b
 ·go_enter Tryz.func204,Tryz.ntmps204;go_wp2_with fail;exact zM9
 ·go_enter Tryz.func204,Tryz.ntmps204;go_wp2_with fail;exact zM9
theorem gT(x y nn:Nat)(q:Pr)(w:World):Calls Tryz.prog 205 #[.agg (opc x y nn q)] w fun e w'=>e=.returned (.int .i64 ((if q.sh=true then y else x:Nat):Int))∧Below w.heap.size w w':=by
 obtain⟨lv,sh,ki,jx,lr,cl,dw,fa⟩:=q;unfold opc;simp only;cases sh
 ·go_enter Tryz.func205,Tryz.ntmps205;exact zNH
 ·go_enter Tryz.func205,Tryz.ntmps205;exact zNH
theorem tS(r:Int)(x y nn:Nat)(q:Pr)(w:World):Calls Tryz.prog 203 #[.agg (opc x y nn q),.int .i64 r] w fun e w'=>e=.returned (.agg (oc r 0 q.lr))∧Below w.heap.size w w':=by
 obtain⟨lv,sh,ki,jx,lr,cl,dw,fa⟩:=q;unfold opc;simp only;go_enter Tryz.func203,Tryz.ntmps203;go_wp2_with fail;exact zM9
theorem LQ(x y nn:Nat)(hx:x<256)(hy:y<256)(hn:nn<256)(q:Pr)(w:World):Calls Tryz.prog 178 #[.agg (opc x y nn q)] w fun e w'=>fT 8 x y nn q e∧Below w.heap.size w w':=by
 unfold opc;go_enter Tryz.func178,Tryz.ntmps178;exact zNO
theorem LZ(x y nn:Nat)(hx:x<256)(hy:y<256)(hn:nn<256)(q:Pr)(w:World):Calls Tryz.prog 179 #[.agg (opc x y nn q)] w fun e w'=>fT 9 x y nn q e∧Below w.heap.size w w':=by
 unfold opc;go_enter Tryz.func179,Tryz.ntmps179;go_wp2_with fail;go_returns;exact⟨⟨_,0,false,rfl,by unfold tF;simp,by omega,rfl,by omega,by omega⟩,by go_grown⟩
theorem YP(x y nn:Nat)(hx:x<256)(hy:y<256)(hn:nn<256)(q:Pr)(w:World):Calls Tryz.prog 180 #[.agg (opc x y nn q)] w fun e w'=>fT 10 x y nn q e∧Below w.heap.size w w':=by
 unfold opc;go_enter Tryz.func180,Tryz.ntmps180;exact zNO
theorem IM(x y nn:Nat)(hx:x<256)(hy:y<256)(hn:nn<256)(q:Pr)(w:World):Calls Tryz.prog 181 #[.agg (opc x y nn q)] w fun e w'=>fT 11 x y nn q e∧Below w.heap.size w w':=by
 have hb:=zJL hx hy;have H1:=zW ((Blk.new w 249 (opc x y nn q)).alloc (.cells (oc 0 0 false) 247));have H2:=zW (show Blk (w.heap.size+1) 247 (oc 0 0 false) ((w.alloc (.cells (opc x y nn q) 249)).alloc (.cells (oc 0 0 false) 247))from by
  have h:=Blk.new (w.alloc (.cells (opc x y nn q) 249)) 247 (oc 0 0 false);rw[zT]at h;exact h)
 have B2:=zW (show Below w.heap.size w ((w.alloc (.cells (opc x y nn q) 249)).alloc (.cells (oc 0 0 false) 247))from by go_grown);have HX:=zW (zM hx (zM hy hn));go_enter Tryz.func181,Tryz.ntmps181;go_upto_region 1 with fail;show(Code.region _ _ _).wp _ _ _ ((w.alloc (.cells (opc x y nn q) 249)).alloc (.cells (oc 0 0 false) 247));generalize (w.alloc (.cells (opc x y nn q) 249)).alloc (.cells (oc 0 0 false) 247)=w1 at*;have c0:w1.cell? ⟨w.heap.size,0,none⟩=some (.int .i64 (x:Int)):=H1.out.cell 0;have c1:w1.cell? ⟨w.heap.size,1,none⟩=some (.int .i64 (y:Int)):=H1.out.cell 1;refine zG ?_;refine kO dS H1.out rfl rfl (.tmp 1) rfl rfl ?_;simp only[Act.put,zQ,zZ,zJ];clear hx hy hn;go_wp2_with fail;refine(tS ((x|||y:Nat):Int) x y nn q _).mono ?_;rintro e w2 ⟨rfl,b1⟩;have H2:=zW (H2.out.step b1);have B2:=zW (B2.out.trans (b1.mono B2.out.size));clear b1;simp only[];go_at_K
 iterate 1 go_step
 refine kU uD H2.out rfl rfl (tV _ _ _) rfl (.tmp 2) (.tmp 9) rfl rfl rfl ?_;simp only[Act.put,zQ,zZ,zJ];have R:=zW (H2.out.store (oc ((x|||y:Nat):Int) 0 q.lr));have B:=zW (lC B2.out (by simp:w.heap.size≤w.heap.size+1) (oc ((x|||y:Nat):Int) 0 q.lr));iterate 4 go_step
 refine zS (zE rfl _ _ (w.heap.size+1) _ _ _ _ rfl R.out Tryz.underlying247 rfl uD.i) rfl ⟨⟨((x|||y:Nat):Int),0,q.lr,rfl,?_,?_,?_,?_,?_⟩,B.out⟩
 ·have:=zQY HX.out.1 HX.out.2.1;unfold tF;simp;omega
 ·omega
 ·unfold eE;simp
 ·omega
 ·have:=zQY HX.out.1 HX.out.2.1;omega
theorem T0(x y nn:Nat)(hx:x<256)(hy:y<256)(hn:nn<256)(q:Pr)(w:World):Calls Tryz.prog 182 #[.agg (opc x y nn q)] w fun e w'=>fT 12 x y nn q e∧Below w.heap.size w w':=by
 have hb:=IJ hx hy;have H1:=zW ((Blk.new w 249 (opc x y nn q)).alloc (.cells (oc 0 0 false) 247));have H2:=zW (show Blk (w.heap.size+1) 247 (oc 0 0 false) ((w.alloc (.cells (opc x y nn q) 249)).alloc (.cells (oc 0 0 false) 247))from by
  have h:=Blk.new (w.alloc (.cells (opc x y nn q) 249)) 247 (oc 0 0 false);rw[zT]at h;exact h)
 have B2:=zW (show Below w.heap.size w ((w.alloc (.cells (opc x y nn q) 249)).alloc (.cells (oc 0 0 false) 247))from by go_grown);have HX:=zW (zM hx (zM hy hn));go_enter Tryz.func182,Tryz.ntmps182;go_upto_region 1 with fail;show(Code.region _ _ _).wp _ _ _ ((w.alloc (.cells (opc x y nn q) 249)).alloc (.cells (oc 0 0 false) 247));generalize (w.alloc (.cells (opc x y nn q) 249)).alloc (.cells (oc 0 0 false) 247)=w1 at*;have c0:w1.cell? ⟨w.heap.size,0,none⟩=some (.int .i64 (x:Int)):=H1.out.cell 0;have c1:w1.cell? ⟨w.heap.size,1,none⟩=some (.int .i64 (y:Int)):=H1.out.cell 1;refine zG ?_;refine kO dS H1.out rfl rfl (.tmp 1) rfl rfl ?_;simp only[Act.put,zQ,zZ,zJ];clear hx hy hn;go_wp2_with fail;refine(tS ((x&&&y:Nat):Int) x y nn q _).mono ?_;rintro e w2 ⟨rfl,b1⟩;have H2:=zW (H2.out.step b1);have B2:=zW (B2.out.trans (b1.mono B2.out.size));clear b1;simp only[];go_at_K
 iterate 1 go_step
 refine kU uD H2.out rfl rfl (tV _ _ _) rfl (.tmp 2) (.tmp 9) rfl rfl rfl ?_;simp only[Act.put,zQ,zZ,zJ];have R:=zW (H2.out.store (oc ((x&&&y:Nat):Int) 0 q.lr));have B:=zW (lC B2.out (by simp:w.heap.size≤w.heap.size+1) (oc ((x&&&y:Nat):Int) 0 q.lr));iterate 4 go_step
 refine zS (zE rfl _ _ (w.heap.size+1) _ _ _ _ rfl R.out Tryz.underlying247 rfl uD.i) rfl ⟨⟨((x&&&y:Nat):Int),0,q.lr,rfl,?_,?_,?_,?_,?_⟩,B.out⟩
 ·have:=TC HX.out.1 HX.out.2.1;unfold tF;simp;omega
 ·omega
 ·unfold eE;simp
 ·omega
 ·have:=TC HX.out.1 HX.out.2.1;omega
theorem TI(x y nn:Nat)(hx:x<256)(hy:y<256)(hn:nn<256)(q:Pr)(w:World):Calls Tryz.prog 183 #[.agg (opc x y nn q)] w fun e w'=>fT 13 x y nn q e∧Below w.heap.size w w':=by
 have hb:=IZ hx hy;have H1:=zW ((Blk.new w 249 (opc x y nn q)).alloc (.cells (oc 0 0 false) 247));have H2:=zW (show Blk (w.heap.size+1) 247 (oc 0 0 false) ((w.alloc (.cells (opc x y nn q) 249)).alloc (.cells (oc 0 0 false) 247))from by
  have h:=Blk.new (w.alloc (.cells (opc x y nn q) 249)) 247 (oc 0 0 false);rw[zT]at h;exact h)
 have B2:=zW (show Below w.heap.size w ((w.alloc (.cells (opc x y nn q) 249)).alloc (.cells (oc 0 0 false) 247))from by go_grown);have HX:=zW (zM hx (zM hy hn));go_enter Tryz.func183,Tryz.ntmps183;go_upto_region 1 with fail;show(Code.region _ _ _).wp _ _ _ ((w.alloc (.cells (opc x y nn q) 249)).alloc (.cells (oc 0 0 false) 247));generalize (w.alloc (.cells (opc x y nn q) 249)).alloc (.cells (oc 0 0 false) 247)=w1 at*;have c0:w1.cell? ⟨w.heap.size,0,none⟩=some (.int .i64 (x:Int)):=H1.out.cell 0;have c1:w1.cell? ⟨w.heap.size,1,none⟩=some (.int .i64 (y:Int)):=H1.out.cell 1;refine zG ?_;refine kO dS H1.out rfl rfl (.tmp 1) rfl rfl ?_;simp only[Act.put,zQ,zZ,zJ];clear hx hy hn;go_wp2_with fail;refine(tS ((x^^^y:Nat):Int) x y nn q _).mono ?_;rintro e w2 ⟨rfl,b1⟩;have H2:=zW (H2.out.step b1);have B2:=zW (B2.out.trans (b1.mono B2.out.size));clear b1;simp only[];go_at_K
 iterate 1 go_step
 refine kU uD H2.out rfl rfl (tV _ _ _) rfl (.tmp 2) (.tmp 9) rfl rfl rfl ?_;simp only[Act.put,zQ,zZ,zJ];have R:=zW (H2.out.store (oc ((x^^^y:Nat):Int) 0 q.lr));have B:=zW (lC B2.out (by simp:w.heap.size≤w.heap.size+1) (oc ((x^^^y:Nat):Int) 0 q.lr));iterate 4 go_step
 refine zS (zE rfl _ _ (w.heap.size+1) _ _ _ _ rfl R.out Tryz.underlying247 rfl uD.i) rfl ⟨⟨((x^^^y:Nat):Int),0,q.lr,rfl,?_,?_,?_,?_,?_⟩,B.out⟩
 ·have:=QR HX.out.1 HX.out.2.1;unfold tF;simp;omega
 ·omega
 ·unfold eE;simp
 ·omega
 ·have:=QR HX.out.1 HX.out.2.1;omega
theorem T3(x y nn:Nat)(hx:x<256)(hy:y<256)(hn:nn<256)(q:Pr)(w:World):Calls Tryz.prog 184 #[.agg (opc x y nn q)] w fun e w'=>fT 14 x y nn q e∧Below w.heap.size w w':=by
 have H1:=zW ((Blk.new w 249 (opc x y nn q)).alloc (.cells (oc 0 0 false) 247));have H2:=zW (show Blk (w.heap.size+1) 247 (oc 0 0 false) ((w.alloc (.cells (opc x y nn q) 249)).alloc (.cells (oc 0 0 false) 247))from by
  have h:=Blk.new (w.alloc (.cells (opc x y nn q) 249)) 247 (oc 0 0 false);rw[zT]at h;exact h)
 have B2:=zW (show Below w.heap.size w ((w.alloc (.cells (opc x y nn q) 249)).alloc (.cells (oc 0 0 false) 247))from by go_grown);have HX:=zW (zM hx (zM hy hn));go_enter Tryz.func184,Tryz.ntmps184;go_upto_region 1 with fail;show(Code.region _ _ _).wp _ _ _ ((w.alloc (.cells (opc x y nn q) 249)).alloc (.cells (oc 0 0 false) 247));generalize (w.alloc (.cells (opc x y nn q) 249)).alloc (.cells (oc 0 0 false) 247)=w1 at*;have c0:w1.cell? ⟨w.heap.size,0,none⟩=some (.int .i64 (x:Int)):=H1.out.cell 0;have c1:w1.cell? ⟨w.heap.size,1,none⟩=some (.int .i64 (y:Int)):=H1.out.cell 1;obtain⟨X,eX⟩:∃X:Int,(x:Int)=X:=⟨_,rfl⟩;obtain⟨Y,eY⟩:∃Y:Int,(y:Int)=Y:=⟨_,rfl⟩;rw[eX]at c0;rw[eY]at c1;have X0:0≤X:=zLS;have X1:X≤255:=zLS;have Y0:0≤Y:=zLS;have Y1:Y≤255:=zLS;have EX:=zW (zM eX eY);clear eX eY hx hy hn;go_wp2_with fail;refine(cA (X+Y) (decide (255<X+Y)) _).mono ?_;rintro e w2 ⟨rfl,b1⟩;have H2:=zW (H2.out.step b1);have B2:=zW (B2.out.trans (b1.mono B2.out.size));clear b1;clear c0 c1 H1 X0 X1 Y0 Y1;simp only[];go_at_K
 iterate 1 go_step
 refine kU uD H2.out rfl rfl (tV _ _ _) rfl (.tmp 2) (.tmp 12) rfl rfl rfl ?_;simp only[Act.put,zQ,zZ,zJ];have R:=zW (H2.out.store (oc (X+Y) (b2 (decide (255<X+Y))) true));have B:=zW (lC B2.out (by simp:w.heap.size≤w.heap.size+1) (oc (X+Y) (b2 (decide (255<X+Y))) true));iterate 4 go_step
 refine zS (zE rfl _ _ (w.heap.size+1) _ _ _ _ rfl R.out Tryz.underlying247 rfl uD.i) rfl ⟨⟨(X+Y),(b2 (decide (255<X+Y))),true,rfl,?_,?_,?_,?_,?_⟩,B.out⟩
 all_goals clear R B
 all_goals have HY:=HX.out
 all_goals obtain⟨rfl,rfl⟩:=EX.out
 ·exact zNI
 ·exact fQ _
 ·exact zNJ
 ·omega
 ·omega
theorem TO(x y nn:Nat)(hx:x<256)(hy:y<256)(hn:nn<256)(q:Pr)(w:World):Calls Tryz.prog 185 #[.agg (opc x y nn q)] w fun e w'=>fT 15 x y nn q e∧Below w.heap.size w w':=by
 have H1:=zW ((Blk.new w 249 (opc x y nn q)).alloc (.cells (oc 0 0 false) 247));have H2:=zW (show Blk (w.heap.size+1) 247 (oc 0 0 false) ((w.alloc (.cells (opc x y nn q) 249)).alloc (.cells (oc 0 0 false) 247))from by
  have h:=Blk.new (w.alloc (.cells (opc x y nn q) 249)) 247 (oc 0 0 false);rw[zT]at h;exact h)
 have B2:=zW (show Below w.heap.size w ((w.alloc (.cells (opc x y nn q) 249)).alloc (.cells (oc 0 0 false) 247))from by go_grown);have HX:=zW (zM hx (zM hy hn));go_enter Tryz.func185,Tryz.ntmps185;go_upto_region 1 with fail;show(Code.region _ _ _).wp _ _ _ ((w.alloc (.cells (opc x y nn q) 249)).alloc (.cells (oc 0 0 false) 247));generalize (w.alloc (.cells (opc x y nn q) 249)).alloc (.cells (oc 0 0 false) 247)=w1 at*;have c0:w1.cell? ⟨w.heap.size,0,none⟩=some (.int .i64 (x:Int)):=H1.out.cell 0;have c1:w1.cell? ⟨w.heap.size,1,none⟩=some (.int .i64 (y:Int)):=H1.out.cell 1;obtain⟨X,eX⟩:∃X:Int,(x:Int)=X:=⟨_,rfl⟩;obtain⟨Y,eY⟩:∃Y:Int,(y:Int)=Y:=⟨_,rfl⟩;rw[eX]at c0;rw[eY]at c1;have X0:0≤X:=zLS;have X1:X≤255:=zLS;have Y0:0≤Y:=zLS;have Y1:Y≤255:=zLS;have EX:=zW (zM eX eY);clear eX eY hx hy hn;go_wp2_with fail;refine(cA (X-Y) (decide (Y≤X)) _).mono ?_;rintro e w2 ⟨rfl,b1⟩;have H2:=zW (H2.out.step b1);have B2:=zW (B2.out.trans (b1.mono B2.out.size));clear b1;clear c0 c1 H1 X0 X1 Y0 Y1;simp only[];go_at_K
 iterate 1 go_step
 refine kU uD H2.out rfl rfl (tV _ _ _) rfl (.tmp 2) (.tmp 13) rfl rfl rfl ?_;simp only[Act.put,zQ,zZ,zJ];have R:=zW (H2.out.store (oc (X-Y) (b2 (decide (Y≤X))) true));have B:=zW (lC B2.out (by simp:w.heap.size≤w.heap.size+1) (oc (X-Y) (b2 (decide (Y≤X))) true));iterate 4 go_step
 refine zS (zE rfl _ _ (w.heap.size+1) _ _ _ _ rfl R.out Tryz.underlying247 rfl uD.i) rfl ⟨⟨(X-Y),(b2 (decide (Y≤X))),true,rfl,?_,?_,?_,?_,?_⟩,B.out⟩
 all_goals clear R B
 all_goals have HY:=HX.out
 all_goals obtain⟨rfl,rfl⟩:=EX.out
 ·exact zNI
 ·exact fQ _
 ·exact zNJ
 ·omega
 ·omega
theorem oQ(x y nn:Nat)(hx:x<256)(hy:y<256)(hn:nn<256)(q:Pr)(w:World):Calls Tryz.prog 186 #[.agg (opc x y nn q)] w fun e w'=>fT 17 x y nn q e∧Below w.heap.size w w':=by
 have H1:=zW ((Blk.new w 249 (opc x y nn q)).alloc (.cells (oc 0 0 false) 247));have H2:=zW (show Blk (w.heap.size+1) 247 (oc 0 0 false) ((w.alloc (.cells (opc x y nn q) 249)).alloc (.cells (oc 0 0 false) 247))from by
  have h:=Blk.new (w.alloc (.cells (opc x y nn q) 249)) 247 (oc 0 0 false);rw[zT]at h;exact h)
 have B2:=zW (show Below w.heap.size w ((w.alloc (.cells (opc x y nn q) 249)).alloc (.cells (oc 0 0 false) 247))from by go_grown);have HX:=zW (zM hx (zM hy hn));go_enter Tryz.func186,Tryz.ntmps186;go_upto_region 1 with fail;show(Code.region _ _ _).wp _ _ _ ((w.alloc (.cells (opc x y nn q) 249)).alloc (.cells (oc 0 0 false) 247));generalize (w.alloc (.cells (opc x y nn q) 249)).alloc (.cells (oc 0 0 false) 247)=w1 at*;have c0:w1.cell? ⟨w.heap.size,0,none⟩=some (.int .i64 (x:Int)):=H1.out.cell 0;have c1:w1.cell? ⟨w.heap.size,1,none⟩=some (.int .i64 (y:Int)):=H1.out.cell 1;obtain⟨X,eX⟩:∃X:Int,(x:Int)=X:=⟨_,rfl⟩;obtain⟨Y,eY⟩:∃Y:Int,(y:Int)=Y:=⟨_,rfl⟩;rw[eX]at c0;rw[eY]at c1;have X0:0≤X:=zLS;have X1:X≤255:=zLS;have Y0:0≤Y:=zLS;have Y1:Y≤255:=zLS;have EX:=zW (zM eX eY);clear eX eY hx hy hn;go_wp2_with fail;refine(cA (Y-X) (decide (X≤Y)) _).mono ?_;rintro e w2 ⟨rfl,b1⟩;have H2:=zW (H2.out.step b1);have B2:=zW (B2.out.trans (b1.mono B2.out.size));clear b1;clear c0 c1 H1 X0 X1 Y0 Y1;simp only[];go_at_K
 iterate 1 go_step
 refine kU uD H2.out rfl rfl (tV _ _ _) rfl (.tmp 2) (.tmp 13) rfl rfl rfl ?_;simp only[Act.put,zQ,zZ,zJ];have R:=zW (H2.out.store (oc (Y-X) (b2 (decide (X≤Y))) true));have B:=zW (lC B2.out (by simp:w.heap.size≤w.heap.size+1) (oc (Y-X) (b2 (decide (X≤Y))) true));iterate 4 go_step
 refine zS (zE rfl _ _ (w.heap.size+1) _ _ _ _ rfl R.out Tryz.underlying247 rfl uD.i) rfl ⟨⟨(Y-X),(b2 (decide (X≤Y))),true,rfl,?_,?_,?_,?_,?_⟩,B.out⟩
 all_goals clear R B
 all_goals have HY:=HX.out
 all_goals obtain⟨rfl,rfl⟩:=EX.out
 ·exact zNI
 ·exact fQ _
 ·exact zNJ
 ·omega
 ·omega
theorem eC(x y nn:Nat)(hx:x<256)(hy:y<256)(hn:nn<256)(q:Pr)(w:World):Calls Tryz.prog 187 #[.agg (opc x y nn q)] w fun e w'=>fT 16 x y nn q e∧Below w.heap.size w w':=by
 have H1:=zW ((Blk.new w 249 (opc x y nn q)).alloc (.cells (oc 0 0 false) 247));have H2:=zW (show Blk (w.heap.size+1) 247 (oc 0 0 false) ((w.alloc (.cells (opc x y nn q) 249)).alloc (.cells (oc 0 0 false) 247))from by
  have h:=Blk.new (w.alloc (.cells (opc x y nn q) 249)) 247 (oc 0 0 false);rw[zT]at h;exact h)
 have B2:=zW (show Below w.heap.size w ((w.alloc (.cells (opc x y nn q) 249)).alloc (.cells (oc 0 0 false) 247))from by go_grown);have HX:=zW (zM hx (zM hy hn));go_enter Tryz.func187,Tryz.ntmps187;go_upto_region 1 with fail;show(Code.region _ _ _).wp _ _ _ ((w.alloc (.cells (opc x y nn q) 249)).alloc (.cells (oc 0 0 false) 247));generalize (w.alloc (.cells (opc x y nn q) 249)).alloc (.cells (oc 0 0 false) 247)=w1 at*;have c0:w1.cell? ⟨w.heap.size,0,none⟩=some (.int .i64 (x:Int)):=H1.out.cell 0;have c1:w1.cell? ⟨w.heap.size,1,none⟩=some (.int .i64 (y:Int)):=H1.out.cell 1;refine zG ?_;refine kO dS H1.out rfl rfl (.tmp 1) rfl rfl ?_;simp only[Act.put,zQ,zZ,zJ];go_wp2_with fail;refine(gT x y nn q _).mono ?_;rintro e w2 ⟨rfl,b1⟩;have H2:=zW (H2.out.step b1);have B2:=zW (B2.out.trans (b1.mono B2.out.size));clear b1;clear c0 c1 H1;obtain⟨s,hs⟩:∃s,(if q.sh=true then y else x)=s:=⟨_,rfl⟩;have S8:=zW (show s<256 by rw[←hs];split;exact hy;exact hx);have s8:=S8.out;have HS:=zW hs;rw[hs];clear hs hx hy hn;go_wp2_with fail;refine(cA ((s:Int)/2) (decide ((s:Int)%2=1)) _).mono ?_;rintro e w2 ⟨rfl,b1⟩;have H2:=zW (H2.out.step b1);have B2:=zW (B2.out.trans (b1.mono B2.out.size));clear b1;simp only[];go_at_K
 iterate 1 go_step
 refine kU uD H2.out rfl rfl (tV _ _ _) rfl (.tmp 2) (.tmp 11) rfl rfl rfl ?_;simp only[Act.put,zQ,zZ,zJ];have R:=zW (H2.out.store (oc ((s:Int)/2) (b2 (decide ((s:Int)%2=1))) true));have B:=zW (lC B2.out (by simp:w.heap.size≤w.heap.size+1) (oc ((s:Int)/2) (b2 (decide ((s:Int)%2=1))) true));iterate 4 go_step
 refine zS (zE rfl _ _ (w.heap.size+1) _ _ _ _ rfl R.out Tryz.underlying247 rfl uD.i) rfl ⟨⟨((s:Int)/2),(b2 (decide ((s:Int)%2=1))),true,rfl,?_,?_,?_,?_,?_⟩,B.out⟩
 all_goals clear R B
 all_goals try rw[HS.out]
 all_goals have:=S8.out
 ·exact zNI
 ·exact fQ _
 ·exact zNJ
 ·omega
 ·omega
theorem pQ(x y nn:Nat)(hx:x<256)(hy:y<256)(hn:nn<256)(q:Pr)(w:World):Calls Tryz.prog 188 #[.agg (opc x y nn q)] w fun e w'=>fT 18 x y nn q e∧Below w.heap.size w w':=by
 have H1:=zW ((Blk.new w 249 (opc x y nn q)).alloc (.cells (oc 0 0 false) 247));have H2:=zW (show Blk (w.heap.size+1) 247 (oc 0 0 false) ((w.alloc (.cells (opc x y nn q) 249)).alloc (.cells (oc 0 0 false) 247))from by
  have h:=Blk.new (w.alloc (.cells (opc x y nn q) 249)) 247 (oc 0 0 false);rw[zT]at h;exact h)
 have B2:=zW (show Below w.heap.size w ((w.alloc (.cells (opc x y nn q) 249)).alloc (.cells (oc 0 0 false) 247))from by go_grown);have HX:=zW (zM hx (zM hy hn));go_enter Tryz.func188,Tryz.ntmps188;go_upto_region 1 with fail;show(Code.region _ _ _).wp _ _ _ ((w.alloc (.cells (opc x y nn q) 249)).alloc (.cells (oc 0 0 false) 247));generalize (w.alloc (.cells (opc x y nn q) 249)).alloc (.cells (oc 0 0 false) 247)=w1 at*;have c0:w1.cell? ⟨w.heap.size,0,none⟩=some (.int .i64 (x:Int)):=H1.out.cell 0;have c1:w1.cell? ⟨w.heap.size,1,none⟩=some (.int .i64 (y:Int)):=H1.out.cell 1;refine zG ?_;refine kO dS H1.out rfl rfl (.tmp 1) rfl rfl ?_;simp only[Act.put,zQ,zZ,zJ];go_wp2_with fail;refine(gT x y nn q _).mono ?_;rintro e w2 ⟨rfl,b1⟩;have H2:=zW (H2.out.step b1);have B2:=zW (B2.out.trans (b1.mono B2.out.size));clear b1;clear c0 c1 H1;obtain⟨s,hs⟩:∃s,(if q.sh=true then y else x)=s:=⟨_,rfl⟩;have S8:=zW (show s<256 by rw[←hs];split;exact hy;exact hx);have s8:=S8.out;have HS:=zW hs;rw[hs];clear hs hx hy hn;go_wp2_with fail;refine(cA ((s:Int)*2) (decide (128≤(s:Int))) _).mono ?_;rintro e w2 ⟨rfl,b1⟩;have H2:=zW (H2.out.step b1);have B2:=zW (B2.out.trans (b1.mono B2.out.size));clear b1;simp only[];go_at_K
 iterate 1 go_step
 refine kU uD H2.out rfl rfl (tV _ _ _) rfl (.tmp 2) (.tmp 10) rfl rfl rfl ?_;simp only[Act.put,zQ,zZ,zJ];have R:=zW (H2.out.store (oc ((s:Int)*2) (b2 (decide (128≤(s:Int)))) true));have B:=zW (lC B2.out (by simp:w.heap.size≤w.heap.size+1) (oc ((s:Int)*2) (b2 (decide (128≤(s:Int)))) true));iterate 4 go_step
 refine zS (zE rfl _ _ (w.heap.size+1) _ _ _ _ rfl R.out Tryz.underlying247 rfl uD.i) rfl ⟨⟨((s:Int)*2),(b2 (decide (128≤(s:Int)))),true,rfl,?_,?_,?_,?_,?_⟩,B.out⟩
 all_goals clear R B
 all_goals try rw[HS.out]
 all_goals have:=S8.out
 ·exact zNI
 ·exact fQ _
 ·exact zNJ
 ·omega
 ·omega
theorem hH(n:Nat)(hn:n<16)(w:World):Calls Tryz.prog 160 #[.int .i64 (n:Int)] w fun e w'=>e=.returned (.int .i64 (n:Int))∧w'=w:=
 (tE n hn w).mono fun _ _ ⟨he,hw⟩=>⟨he,hw.symm⟩
theorem zKP(x y nn:Nat)(q:Pr):nU (opc x y nn q):=by unfold nU opc;simp[Value.oneCell']
def pV:Array Value:=opc 0 0 0 ⟨0,false,false,false,false,false,false,false⟩
theorem TR(w:World)(a b c:Obj):Below w.heap.size w (((w.alloc a).alloc b).alloc c):=by go_grown
theorem fJ(v:Nat→Nat)(op:Int)(x y nn:Nat)(n addr len:Int)(q:Pr)(w:World)(hv:OkV v)(hx:x<16)(hy:y<16)(hn:nn<256):
  Calls Tryz.prog 159 #[.agg (rg v),.agg (lX ⟨op,x,y,n,nn,addr,len⟩),.agg (prc q)] w fun e w'=>e=.returned (.agg (opc (v x) (v y) nn q))∧Below w.heap.size w w':=by
 have vx:=hv x hx;have vy:=hv y hy;have RX:=zW (fun w=>hH x hx w);have RY:=zW (fun w=>hH y hy w);have B0:=zW ((TR w (.cells (rg v) 45) (.cells (lX ⟨op,x,y,n,nn,addr,len⟩) 89) (.cells (prc q) 24)).alloc zL2 (.cells pV 249));have V0:=zW ((((Blk.new w 45 (rg v)).alloc (.cells (lX ⟨op,x,y,n,nn,addr,len⟩) 89)).alloc (.cells (prc q) 24)).alloc (.cells pV 249));have I0:=zW (((Blk.new (w.alloc (.cells (rg v) 45)) 89 (lX ⟨op,x,y,n,nn,addr,len⟩)).alloc (.cells (prc q) 24)).alloc (.cells pV 249));have P0:=zW ((Blk.new ((w.alloc (.cells (rg v) 45)).alloc (.cells (lX ⟨op,x,y,n,nn,addr,len⟩) 89)) 24 (prc q)).alloc (.cells pV 249));have O0:=zW (Blk.new (((w.alloc (.cells (rg v) 45)).alloc (.cells (lX ⟨op,x,y,n,nn,addr,len⟩) 89)).alloc (.cells (prc q) 24)) 249 pV);simp only[zT]at I0 P0 O0;go_enter Tryz.func159,Tryz.ntmps159;go_upto_region 0 with fail;refine zG ?_;refine lU rfl _ (.tmp 0) rfl (rg v) rfl ?_;simp only[Act.put,zQ,zZ,zJ,zT];refine lU rfl _ (.tmp 1) rfl (lX ⟨op,x,y,n,nn,addr,len⟩) rfl ?_;simp only[Act.put,zQ,zZ,zJ,zT];refine lU rfl _ (.tmp 2) rfl (prc q) rfl ?_;simp only[Act.put,zQ,zZ,zJ,zT];go_upto_region 1 with fail;show(Code.region _ _ _).wp _ _ _ ((((w.alloc (.cells (rg v) 45)).alloc (.cells (lX ⟨op,x,y,n,nn,addr,len⟩) 89)).alloc (.cells (prc q) 24)).alloc (.cells pV 249));obtain⟨g,hg⟩:∃g,w.heap.size=g:=⟨_,rfl⟩;rw[hg]at V0 I0 P0 O0⊢;have GL:=zW hg;generalize (((w.alloc (.cells (rg v) 45)).alloc (.cells (lX ⟨op,x,y,n,nn,addr,len⟩) 89)).alloc (.cells (prc q) 24)).alloc (.cells pV 249)=w1 at*;clear hg;refine wE 16 zLE zLE ?_;intro wd hwd;have V0:=zW (show Blk g 45 (rg v) wd by rw[hwd];exact V0.out.drew);have I0:=zW (show Blk (g+1) 89 (lX ⟨op,x,y,n,nn,addr,len⟩) wd by rw[hwd];exact I0.out.drew);have P0:=zW (show Blk (g+1+1) 24 (prc q) wd by rw[hwd];exact P0.out.drew);have O0:=zW (show Blk (g+1+1+1) 249 pV wd by rw[hwd];exact O0.out.drew);have B0:=zW (show Below w.heap.size w wd by rw[hwd];exact B0.out.drew);clear hwd;have cx:wd.cell? ⟨g,x,none⟩=some (.int .u8 (v x:Int)):=by rw[V0.out.cell,dG v hx]
 have cy:wd.cell? ⟨g,y,none⟩=some (.int .u8 (v y:Int)):=by rw[V0.out.cell,dG v hy]
 have i1:wd.cell? ⟨g+1,1,none⟩=some (.int .i64 (x:Int)):=(I0.out.cell 1).trans rfl;have i2:wd.cell? ⟨g+1,2,none⟩=some (.int .i64 (y:Int)):=(I0.out.cell 2).trans rfl;have i4:wd.cell? ⟨g+1,4,none⟩=some (.int .i64 (nn:Int)):=(I0.out.cell 4).trans rfl;have p0:wd.cell? ⟨g+1+1,0,none⟩=some (.int .i64 q.lv):=(P0.out.cell 0).trans rfl;have p1:wd.cell? ⟨g+1+1,1,none⟩=some (.bool q.sh):=(P0.out.cell 1).trans rfl;have p2:wd.cell? ⟨g+1+1,2,none⟩=some (.bool q.ki):=(P0.out.cell 2).trans rfl;have p3:wd.cell? ⟨g+1+1,3,none⟩=some (.bool q.jx):=(P0.out.cell 3).trans rfl;have p4:wd.cell? ⟨g+1+1,4,none⟩=some (.bool q.lr):=(P0.out.cell 4).trans rfl;have p5:wd.cell? ⟨g+1+1,5,none⟩=some (.bool q.cl):=(P0.out.cell 5).trans rfl;have p6:wd.cell? ⟨g+1+1,6,none⟩=some (.bool q.dw):=(P0.out.cell 6).trans rfl;have p7:wd.cell? ⟨g+1+1,7,none⟩=some (.bool q.fa):=(P0.out.cell 7).trans rfl;have xi:(x:Int)<16:=zLS;have yi:(y:Int)<16:=zLS;have wx:=XK (show v x<65536 by omega);have wy:=XK (show v y<65536 by omega);simp only[List.take_succ_cons,List.take_zero,List.drop_succ_cons,List.drop_zero];repeat still_step
 still_call (RX.out _)
 repeat still_step
 still_call (RY.out _)
 repeat still_step
 refine wpStill_nil ?_;refine kU dS O0.out rfl rfl (zKP (v x) (v y) nn q) rfl (.tmp 6) (.tmp 22) rfl rfl rfl ?_;simp only[Act.put,zQ,zZ,zJ];have R:=O0.out.store (opc (v x) (v y) nn q);have B:=lC B0.out (by rw[GL.out];omega:w.heap.size≤g+1+1+1) (opc (v x) (v y) nn q);iterate 4 go_step
 exact zS (zE rfl _ _ (g+1+1+1) _ _ _ _ rfl R Tryz.underlying249 rfl dS.i) rfl ⟨rfl,B⟩
def afn(f:Nat):Value:=.func (.func f) #[] #[]
def iQ:List (Int×Nat):=[(18,188),(16,187),(17,186),(15,185),(14,184),(13,183),(12,182),(11,181),(10,180),(9,179),(8,178)]
def alk:List (Int×Nat)→Int→Option Nat
 |[],_=>none
 |(k,v)::L,l=>if l=k then some v else alk L l
def zJU(v:Value):Option (DataW Value×List MemPlace):=some (.held v,[])
structure T7(m n:Nat)(L:List (Int×Nat))(w:World)(D:DataW Value):Prop where
 own:w.ownsMap Tryz.prog 3 zJU m n D
 is:IsMap D
 at_:∀l zd,D.atKey (.int .i64 l) zd=match alk L l with|some v=> .held (afn v)|none=>zd
 has_:∀l,has D (.int .i64 l)=(alk L l).isSome
theorem zZJ(l:Int):WideAt.IsKeyLit (.int .i64 l):=by first|trivial|simp[WideAt.IsKeyLit]
theorem T7.new(w:World):T7 w.heap.size 0 [] (w.alloc (.map #[] 0)) (.map []):=⟨World.ownsMap_made w _ _ _,⟨_,rfl⟩,fun _ _=>rfl,fun _=>rfl⟩
theorem nR{ops:Array Oper}{rest:List Oper}{o:Oper}{a:Act}{Q:Exit→Act→World→Prop}{w:World}{m n:Nat}{L:List (Int×Nat)}{D:DataW Value}(H:T7 m n L w D)(hn:n<1000)
  (hg:o.guard=none) (mx xx vx:Operand) (hop:o.op=Op.insert 244 mx xx vx) (hm:a.eval mx=.map (some m)) (k:Int) (f:Nat) (hx:a.eval xx=.int .i64 k) (hv:a.eval vx=afn f) (hk:(Lit.int .i64 k).wf=true)
  {w0:World} (hb:Below w0.heap.size w0 w) (hge:w0.heap.size≤m)
  (h:∀w' D',T7 m (n+1) ((k,f)::L) w' D'→Below w0.heap.size w0 w'→wpList Tryz.prog ops Q rest (a.put o.dst undef) w'):wpList Tryz.prog ops Q (o::rest) a w:=by
 refine cY w hg mx xx vx 244 hop 3 242 yS Tryz.underlying244 zJU m n D hm H.own zL6 _ _ (.int .i64 k) hx hv (uC k hk) (.held (afn f)) [] rfl ?_;intro w' o' g';refine h w' _ ⟨o',H.is.put _ _,fun l zd=>?_,fun l=>?_⟩ (hb.grown g' hb.size (fun j hj=>by cases hj;exact hge))
 ·unfold alk;by_cases hl:l=k
  ·subst hl;rw[zN rfl,atKey_put_same H.is (zZJ l)]
  ·rw[zL hl,atKey_put_other zMJ,H.at_]
 ·unfold alk;by_cases hl:l=k
  ·subst hl;rw[zN rfl,has_put_same H.is (zZJ l)];rfl
  ·rw[zL hl,has_put_other zMJ,H.has_]
theorem eU(w:World):Calls Tryz.prog 158 #[] w fun e w'=>∃m D,e=.returned (.map (some m))∧T7 m 11 iQ w' D∧Below w.heap.size w w':=by
 have hmm:= @run_makeMap Tryz.prog;go_enter Tryz.func158,Tryz.ntmps158;go_upto_region 1 with fail;refine zG ?_;iterate 3 go_step
 have M:=zW (T7.new w);have B:=zW (show Below w.heap.size w (w.alloc (.map #[] 0))from(zB _ _).alloc (zH _) _);clear hmm;generalize w.alloc (.map #[] 0)=w1 at*;refine nR M.out zLS rfl (.tmp 1) (.const (.int .i64 8)) (.func 178) rfl rfl 8 178 rfl rfl zLA B.out (zH _) ?_;simp only[Act.put];clear M B;intro w2 D2 m b;have M:=zW m;have B:=zW b;clear m b;refine nR M.out zLS rfl (.tmp 1) (.const (.int .i64 9)) (.func 179) rfl rfl 9 179 rfl rfl zLA B.out (zH _) ?_;simp only[Act.put];clear M B;intro w3 D3 m b;have M:=zW m;have B:=zW b;clear m b;refine nR M.out zLS rfl (.tmp 1) (.const (.int .i64 10)) (.func 180) rfl rfl 10 180 rfl rfl zLA B.out (zH _) ?_;simp only[Act.put];clear M B;intro w4 D4 m b;have M:=zW m;have B:=zW b;clear m b;refine nR M.out zLS rfl (.tmp 1) (.const (.int .i64 11)) (.func 181) rfl rfl 11 181 rfl rfl zLA B.out (zH _) ?_;simp only[Act.put];clear M B;intro w5 D5 m b;have M:=zW m;have B:=zW b;clear m b;refine nR M.out zLS rfl (.tmp 1) (.const (.int .i64 12)) (.func 182) rfl rfl 12 182 rfl rfl zLA B.out (zH _) ?_;simp only[Act.put];clear M B;intro w6 D6 m b;have M:=zW m;have B:=zW b;clear m b;refine nR M.out zLS rfl (.tmp 1) (.const (.int .i64 13)) (.func 183) rfl rfl 13 183 rfl rfl zLA B.out (zH _) ?_;simp only[Act.put];clear M B;intro w7 D7 m b;have M:=zW m;have B:=zW b;clear m b;refine nR M.out zLS rfl (.tmp 1) (.const (.int .i64 14)) (.func 184) rfl rfl 14 184 rfl rfl zLA B.out (zH _) ?_;simp only[Act.put];clear M B;intro w8 D8 m b;have M:=zW m;have B:=zW b;clear m b;refine nR M.out zLS rfl (.tmp 1) (.const (.int .i64 15)) (.func 185) rfl rfl 15 185 rfl rfl zLA B.out (zH _) ?_;simp only[Act.put];clear M B;intro w9 D9 m b;have M:=zW m;have B:=zW b;clear m b;refine nR M.out zLS rfl (.tmp 1) (.const (.int .i64 17)) (.func 186) rfl rfl 17 186 rfl rfl zLA B.out (zH _) ?_;simp only[Act.put];clear M B;intro w10 D10 m b;have M:=zW m;have B:=zW b;clear m b;refine nR M.out zLS rfl (.tmp 1) (.const (.int .i64 16)) (.func 187) rfl rfl 16 187 rfl rfl zLA B.out (zH _) ?_;simp only[Act.put];clear M B;intro w11 D11 m b;have M:=zW m;have B:=zW b;clear m b;refine nR M.out zLS rfl (.tmp 1) (.const (.int .i64 18)) (.func 188) rfl rfl 18 188 rfl rfl zLA B.out (zH _) ?_;simp only[Act.put];clear M B;intro w12 D12 m b;have M:=zW m;have B:=zW b;clear m b;go_wp2_with fail;go_ret;exact⟨_,_,rfl,M.out,B.out⟩
end
section
open Go.RowKit Num
theorem TF(w:World):Calls Tryz.prog 48 #[] w fun e w'=>e=.returned (.agg (ac lO 64))∧Below w.heap.size w w':=by
 have hz:=IP;go_enter Tryz.func48,Tryz.ntmps48;go_upto_region 1 with fail;have R:=zW (AB.new w lO 0);have B:=zW (lW w (.cells (ac lO 0) 65));generalize w.alloc (.cells (ac lO 0) 65)=w1 at*;obtain⟨r,hr⟩:∃r,w.heap.size=r:=⟨_,rfl⟩;have HR:=zW hr;rw[hr]at R B⊢;clear hr;refine zG ?_;refine mQ (cs:=ac lO 64) rfl rfl (by simp[Act.eval];exact CR) ?_;simp only[Act.put,zQ,zZ,zJ];refine kU (ds:=ac lO 64) gF R.out (nV _ _) (nV _ _) (oJ _ _) rfl (.tmp 0) (.tmp 1) rfl zLP zLP ?_;have R2:=zW (R.out.store lO 64);have B2:=zW (bR B.out (zH _) (ac lO 64));generalize w1.setRow r (ac lO 64)=w2 at*;iterate 4 go_step
 exact zS (zE rfl _ _ r _ _ _ _ rfl R2.out Tryz.underlying65 rfl (by rw[gF.i,nV])) rfl ⟨rfl,by rw[HR.out];exact B2.out⟩
theorem UJ(P:Nat→Int)(p q:Int)(w:World):Calls Tryz.prog 146 #[.agg (ac P p),.int .u8 q] w fun e w'=>e=.returned (.agg (ac P q))∧Below w.heap.size w w':=by
 have hz:=IP;go_enter Tryz.func146,Tryz.ntmps146;go_upto_region 1 with fail;have S:=zW ((AB.new w P p).alloc (.cells (ac lO 0) 65));have R:=zW (AB.new (w.alloc (.cells (ac P p) 65)) lO 0);have B:=zW ((lW w (.cells (ac P p) 65)).alloc zLO (.cells (ac lO 0) 65));rw[zT]at R;generalize (w.alloc (.cells (ac P p) 65)).alloc (.cells (ac lO 0) 65)=w1 at*;clear hz;obtain⟨r,hr⟩:∃r,w.heap.size=r:=⟨_,rfl⟩;have HR:=zW hr;rw[hr]at S R B⊢;clear hr;have c0:=S.out.pitch;have f0:=S.out.fz 16;go_upto_region 2 with fail;clear c0 f0;have S2:=zW (S.out.tune q);have R2:=zW (R.out.other (g:=r) zLS 16 (.int .u8 q));have B2:=zW (B.out.setCell (p:=⟨r,16,none⟩) (zH _) (.int .u8 q));generalize w1.setCell ⟨r,16,none⟩ (.int .u8 q)=w2 at*;refine zG ?_;refine kO gF S2.out (nV _ _) rfl (.tmp 2) rfl zL0 ?_;simp only[Act.put,zQ,zZ,zJ];refine kU (ds:=ac P q) gF R2.out (nV _ _) (nV _ _) (oJ _ _) rfl (.tmp 4) (.tmp 7) rfl zLP zLP ?_;have R3:=zW (R2.out.store P q);have B3:=zW (bR B2.out (jW r) (ac P q));generalize w2.setRow (r+1) (ac P q)=w3 at*;iterate 4 go_step
 exact zS (zE rfl _ _ (r+1) _ _ _ _ rfl R3.out Tryz.underlying65 rfl (by rw[gF.i,nV])) rfl ⟨rfl,by rw[HR.out];exact B3.out⟩
theorem YD(P:Nat→Int)(p:Int)(A:Option Addr)(n c:Nat)(L:List Int)(w:World)(H:Rd w A L)(hn:L.length=n):
  Calls Tryz.prog 145 #[.agg (ac P p),.slice A n c] w fun e w'=>e=.returned (.agg (ac (pad L) p))∧Below w.heap.size w w':=by
 have hz:=IP;have HL:=zW (zM H hn);clear H hn;go_enter Tryz.func145,Tryz.ntmps145;go_upto_region 1 with fail;have S:=zW ((AB.new w P p).alloc (.cells (ac lO 0) 65));have R:=zW (AB.new (w.alloc (.cells (ac P p) 65)) lO 0);have B:=zW ((lW w (.cells (ac P p) 65)).alloc zLO (.cells (ac lO 0) 65));rw[zT]at R;generalize (w.alloc (.cells (ac P p) 65)).alloc (.cells (ac lO 0) 65)=w1 at*;clear hz;obtain⟨r,hr⟩:∃r,w.heap.size=r:=⟨_,rfl⟩;have HR:=zW hr;rw[hr]at S R B⊢;clear hr;refine zG ?_;refine mQ (cs:=pc lO) rfl rfl (by simp[Act.eval];exact TQ) ?_;simp only[Act.put,zQ,zZ,zJ];iterate 3 go_step
 refine m3 (o:=0) (ds:=pc lO) cU S.out (nX _) zMN (JT _) rfl (.tmp 6) (.tmp 5) rfl zLP zLP ?_;rw[IR];have S2:=zW (S.out.store lO p);have R2:=zW (R.out.otherRow (g:=r) zLS (ac lO p));have B2:=zW (bR B.out (zH _) (ac lO p));generalize w1.setRow r (ac lO p)=w2 at*;simp only[Act.put,zQ,zZ,zJ];go_upto_region 2 with fail;refine zG ?_;iterate 9 go_step
 obtain⟨d,hd⟩:∃d,d=min n 16:=⟨_,rfl⟩;have hp:w2.heap[r]?=some (.cells ((yL lO++[p]).map (Value.int .u8)).toArray 65 (0,0)):=by rw[←DF];exact S2.out
 have RL:Rd w2 A L:=HL.out.1.below (by rw[HR.out];exact B2.out);obtain⟨w3,hrun,hg,ha⟩:=vO 3 r 0 16 16 (some ⟨r,0,none⟩) (fun _=>rfl) A n c d hd L HL.out.2 RL _ 65 hp (by simp[mG]);rw[zYA]at hg;refine ZB rfl (.tmp 8) (.tmp 9) rfl _ _ _ zL0 zL0 hrun 10 rfl ?_;have S3:=zW (show AB r (pad L) p w3 from hg);have R3:=zW (show AB (r+1) lO 0 w3 from((ha none).block (r+1) R2.out.lt zLS (fun e=>by cases e)).trans R2.out);have B3:=zW (B2.out.trans ((ha none).below (by have:=S2.out.lt;omega) (zH _) (fun k hk=>by cases hk)));clear hrun hg ha RL hp hd;simp only[zQ,zZ,zJ];go_upto_region 3 with fail;refine zG ?_;refine kO gF S3.out (nV _ _) rfl (.tmp 2) rfl zL0 ?_;simp only[Act.put,zQ,zZ,zJ];refine kU (ds:=ac (pad L) p) gF R3.out (nV _ _) (nV _ _) (oJ _ _) rfl (.tmp 4) (.tmp 11) rfl zLP zLP ?_;have R4:=zW (R3.out.store (pad L) p);have B4:=zW (bR B3.out (jW r) (ac (pad L) p));generalize w3.setRow (r+1) (ac (pad L) p)=w4 at*;iterate 4 go_step
 exact zS (zE rfl _ _ (r+1) _ _ _ _ rfl R4.out Tryz.underlying65 rfl (by rw[gF.i,nV])) rfl ⟨rfl,by rw[HR.out];exact B4.out⟩
theorem N7(n:Int)(w:World)(h:0≤n):Calls Tryz.prog 128 #[.int .i64 n] w fun e w'=>e=.returned (.int .i64 (n%16))∧w=w':=by
 have e:=UK n 16 h;go_enter Tryz.func128,Tryz.ntmps128;go_wp2;go_ret;exact⟨uW zLS,rfl⟩
theorem MT(n:Int)(w:World)(h:0≤n):Calls Tryz.prog 95 #[.int .i64 n] w fun e w'=>e=.returned (.int .i64 (80+5*(n%16)))∧w=w':=by
 go_enter Tryz.func95,Tryz.ntmps95;exact zHQ
theorem IX(n:Int)(w:World)(h:0≤n):Calls Tryz.prog 96 #[.int .i64 n] w fun e w'=>e=.returned (.int .i64 (160+10*(n%16)))∧w=w':=by
 go_enter Tryz.func96,Tryz.ntmps96;exact zHQ
def zVJ(K:Nat→Bool)(n:Int):Bool:=decide (0≤n)&&K (n%16).toNat
theorem WE(K:Nat→Bool)(n:Int)(w:World)(h1:n≤9223372036854775807):
  Calls Tryz.prog 122 #[.agg (kc K),.int .i64 n] w fun x w'=>x=.returned (.bool (zVJ K n))∧Below w.heap.size w w':=by
 unfold zVJ;by_cases h0:0≤n
 ·obtain⟨m,rfl⟩:=jY h0;obtain⟨j,hj⟩:∃j:Nat,(m:Int)%16=(j:Int):=⟨((m:Int)%16).toNat,by omega⟩;have j0:0≤(j:Int):=zLS;have j1:(j:Int)<16:=zLS;have j2:j<16:=zLS;rw[qJ h0,Bool.true_and,hj,Int.toNat_natCast];have P:=zW (KB.new w K);have B:=zW (tT w (.cells (kc K) 61));have c1:=P.out.cell j2;obtain⟨v,hv⟩:∃v,K j=v:=⟨_,rfl⟩;rw[hv]at c1⊢;clear hv P;go_enter Tryz.func122,Tryz.ntmps122;go_upto_region 1 with fail;generalize w.alloc (.cells (kc K) 61)=w1 at*;obtain⟨p,hp⟩:∃p,w.heap.size=p:=⟨_,rfl⟩;have HP:=zW hp;rw[hp]at c1⊢;clear hp;go_wp2;go_ret;exact⟨rfl,B.out⟩
 ·rw[zU h0,Bool.false_and];go_enter Tryz.func122,Tryz.ntmps122;go_wp2;go_ret;exact⟨rfl,tT _ _⟩
theorem NY(p:Nat)(M:List Int)(v:Value)(a x:Int)(k:Nat)(w:World)(hM:M.length=65536)(hp:mP p M v w)(hk:a%65536=k)(hx:M[k]?=some x):
  Calls Tryz.prog 162 #[.pointer (some ⟨p,0,none⟩),.int .i64 a] w (Reads (.int .u8 x) w):=by
 have hc:w.cell? ⟨p,k,none⟩=some (.int .u8 x):=by
  rw[hp.cell hM k zLS];rw[zP zLS]at hx;injection hx with hx
  rw[hx]
 have k0:0≤(k:Int):=zLS;have k1:(k:Int)<65536:=zLS;have H:=zW hk;clear hk hx hp hM;go_enter Tryz.func162,Tryz.ntmps162;go_wp2;go_quiet ((go_at_call 71;exact Calls.quiet_of_same (rA _ _ _ H.out)))
 go_wp2;go_ret;exact⟨rfl,_,rfl⟩
theorem QH:∀(L:List Value) (k:Nat) (cs:Array Value),k+L.length≤cs.size→
  (L.zipIdx k).foldl (fun cs (x:Value×Nat)=>cs.setIfInBounds x.2 x.1) cs=(cs.toList.take k++L++cs.toList.drop (k+L.length)).toArray
 |[],k,cs,_=>by simp
 |x::L,k,cs,h=>by
  simp only[List.length_cons]at h;rw[List.zipIdx_cons,List.foldl_cons,QH L (k+1) _ zL2];have e:=list_seg_step cs.toList k x L zL2;congr 1
  simpa using e
theorem zVK:(Tryz.prog.info? 146).map (·.size)=some 65536:=by kernel_rfl
theorem IQ(M:List Int)(hM:M.length=65536)(w:World):(Instr.build 150 #[(0,.agg (arr M))]).run Tryz.prog w=.ok (.agg (cells M (.slice none 0 0))) w:=by
 have hf:Instr.fill (fun i=>(#[(0,65536),(65536,1)]:Array (Nat×Nat))[i]?) (cells cN (.slice none 0 0)) [(0,.agg (arr M))]=some (cells M (.slice none 0 0)):=by
  have e0:(#[(0,65536),(65536,1)]:Array (Nat×Nat))[0]?=some (0,65536):=rfl;have e1:(arr M).size=65536:=by rw[i3,hM]
  have e2:(cells cN (.slice none 0 0)).size=65537:=by unfold cells;simp[cX]
  have e3:(arr M).zipIdx.foldl (fun cs (x:Value×Nat)=>cs.setIfInBounds (0+x.2) x.1) (cells cN (.slice none 0 0))=cells M (.slice none 0 0):=by
   have h:=QH (M.map (Value.int .u8)) 0 (cells cN (.slice none 0 0)) (by rw[e2];simp[hM]);simp only[qY];rw[←Array.foldl_toList,Array.toList_zipIdx];refine h.trans ?_;unfold cells;simp[hM,cX]
  unfold Instr.fill;simp only[e0,Value.cells,e1,e2];rw[zL zLO];show Instr.fill _ ((arr M).zipIdx.foldl (fun cs (x:Value×Nat)=>cs.setIfInBounds (0+x.2) x.1) (cells cN (.slice none 0 0))) []=_;rw[e3];rfl
 refine run_build w 150 _ _ ?_;obtain⟨it,hit,hz⟩:=kW.1 BH;simp only[jU]at hz;have hp:(match Tryz.prog.underlying 150 with|some (.struct fields)=>fields.toList.mapM (fun f=>(Tryz.prog.info? f.type).map fun i=>(f.offset,i.size))|_=>none)=some [(0,65536),(65536,1)]:=by kernel_rfl
 rw[Tryz.underlying150]at hp;unfold Program.built;rw[hit,Tryz.underlying150];simp only at hp⊢;rw[hz.1,hp];exact hf
theorem sZ{P:Program}{ops:Array Oper}{rest:List Oper}{o:Oper}{a:Act}{w:World}{Q:Exit→Act→World→Prop}(hgd:o.guard=none)(ty:TypeId)(parts:Array (Nat×Operand))(ho:o.op=.build ty parts)
  (ps:Array (Nat×Value)) (hp:(parts.map fun x=>(x.1,a.eval x.2))=ps) (r:Value) (hrun:(Instr.build ty ps).run P w=.ok r w) (h:wpList P ops Q rest (a.put o.dst r) w):wpList P ops Q (o::rest) a w:=by
 subst hp;refine qH hgd fun K hK=>?_;unfold Oper.wp execOp;simp only[ho,zA,hrun,Result.andThen_ok,Sem.run_pure];exact hK _ _ h
def Cloned(M:List Int)(w:World)(e:Ending)(w':World):Prop:=
 ∃q,e=.returned (.pointer (some ⟨q,0,none⟩))∧w.heap.size≤q∧mP q M (.slice none 0 0) w'∧Below w.heap.size w w'
theorem A9(p:Nat)(M:List Int)(v:Value)(w:World)(hM:M.length=65536)(hp:mP p M v w):
  Calls Tryz.prog 59 #[.pointer (some ⟨p,0,none⟩)] w (Cloned M w):=by
 have hb:=IQ M hM;have H:=zW (zM hM hp);clear hM hp;go_enter Tryz.func59,Tryz.ntmps59;go_upto_region 3 with fail;refine zG ?_;iterate 9 go_step
 refine yO rfl 146 (.tmp 7) rfl ⟨p,0,none⟩ zL0 M _ (fun j h=>by rw[e8,qY];exact H.out.2.cell H.out.1 j (by rw[←H.out.1];exact h)) Tryz.underlying146 rfl (by rw[zVK,H.out.1]) ?_;refine sZ rfl 150 #[(0,.tmp 8)] rfl #[(0,.agg (arr M))] zLP _ (hb w) ?_;clear hb;go_wp2;go_ret;exact⟨w.heap.size,rfl,zH _,jL _ _,(zB _ _).alloc (zH _) _⟩
end
section
open Go.RowKit Dec
section
variable {ops:Array Oper} {C:World→Prop} {i j:Ins}
end
end
section
def lw(v n:Int):Int:=max 0 (v-max 0 n)
theorem lw_neg{v n:Int}(h0:0≤v)(h:n≤0):v=lw v n:=by unfold lw;omega
theorem lw_big{v n:Int}(h0:0≤v)(h:v≤n):(0:Int)=lw v n:=by unfold lw;omega
theorem lw_mid{v n:Int}(h:0<n)(h1:n<v):v-n=lw v n:=by unfold lw;omega
end
section
open Go.RowKit Num
theorem MX{f:FuncId}{args:Array Value}{v:Value}{w:World}(h:Calls Tryz.prog f args w fun e w'=>e=.returned v∧w=w'):Calls Tryz.prog f args w fun e w'=>e=.returned v∧w'=w:=
 h.mono fun _ _ ⟨he,hw⟩=>⟨he,hw.symm⟩
theorem ZN(v n:Int)(w:World)(h0:0≤v)(h1:v≤255)(hn:n≤9223372036854775807):
  Calls Tryz.prog 61 #[.int .u8 v,.int .i64 n] w fun e w'=>e=.returned (.int .u8 (lw v n))∧w=w':=by
 by_cases c:n≤0
 ·clear hn;have E:=zW (lw_neg h0 c);exact zNU
 ·by_cases d:v≤n
  ·have E:=zW (lw_big h0 d);exact zNU
  ·have E:=zW (lw_mid zLS (by omega:n<v));have n0:0≤n:=zLS;have n1:n≤255:=zLS;clear hn;exact zNU
theorem GV{w:World}{b:Nat}{T:TypeId}{d s:Value}(u v:Value)(c0:w.cell? ⟨b,0,none⟩=some d)(c1:w.cell? ⟨b,1,none⟩=some s):
  ((w.setCell ⟨b,0,none⟩ u).setCell ⟨b,1,none⟩ v).cell? ⟨b,0,none⟩=some u∧((w.setCell ⟨b,0,none⟩ u).setCell ⟨b,1,none⟩ v).cell? ⟨b,1,none⟩=some v:=by
 have h0:=World.cell?_setCell_same w (a:=⟨b,0,none⟩) u c0;have h1:=qG w ⟨b,0,none⟩ ⟨b,1,none⟩ u (by intro c;cases c);exact⟨(qG _ ⟨b,1,none⟩ ⟨b,0,none⟩ v (by intro c;cases c)).trans h0,World.cell?_setCell_same _ (a:=⟨b,1,none⟩) v (h1.trans c1)⟩
theorem IG(d s n:Int)(w:World)(d0:0≤d)(d1:d≤255)(s0:0≤s)(s1:s≤255)(hn:n≤9223372036854775807):
  Calls Tryz.prog 40 #[.agg #[.int .u8 d,.int .u8 s],.int .i64 n] w fun e w'=>e=.returned (.agg #[.int .u8 (lw d n),.int .u8 (lw s n)])∧Below w.heap.size w w':=by
 have HD:=zW fun w=>MX (ZN d n w d0 d1 hn);have HS:=zW fun w=>MX (ZN s n w s0 s1 hn);clear hn;generalize lw d n=u at*;generalize lw s n=v at*;go_enter Tryz.func40,Tryz.ntmps40;go_wp2_with fail;refine wE 9 zLE zLE ?_;intro wd hwd;have k0:wd.cell? ⟨w.heap.size,0,none⟩=some (.int .u8 d):=by rw[hwd];simp
 have k1:wd.cell? ⟨w.heap.size,1,none⟩=some (.int .u8 s):=by rw[hwd];simp
 have c0:wd.cell? ⟨w.heap.size+1,0,none⟩=some (.int .u8 0):=by rw[hwd];simp
 have c1:wd.cell? ⟨w.heap.size+1,1,none⟩=some (.int .u8 0):=by rw[hwd];simp
 have f0:wd.frozen? ⟨w.heap.size+1,0,none⟩=false:=by rw[hwd];simp
 have f1:wd.frozen? ⟨w.heap.size+1,1,none⟩=false:=by rw[hwd];simp
 have kb:Below w.heap.size w wd:=by rw[hwd];go_grown
 clear hwd;simp only[List.take_succ_cons,List.take_zero,List.drop_succ_cons,List.drop_zero];repeat still_step
 still_call (HD.out _)
 repeat still_step
 still_call (HS.out _)
 repeat still_step
 refine wpStill_nil ?_;have X:=zW (GV (T:=0) (.int .u8 u) (.int .u8 v) c0 c1);have B:=zW ((kb.setCell (p:=⟨w.heap.size+1,0,none⟩) (jW _) (.int .u8 u)).setCell (p:=⟨w.heap.size+1,1,none⟩) (jW _) (.int .u8 v));go_wp2;generalize (wd.setCell ⟨w.heap.size+1,0,none⟩ (.int .u8 u)).setCell ⟨w.heap.size+1,1,none⟩ (.int .u8 v)=wz at*;obtain⟨x0,x1⟩:=X.out;exact zS (v:=.agg #[.int .u8 u,.int .u8 v]) (by simp[results,Tryz.results40,go_sem,x0,x1]) rfl ⟨rfl,B.out⟩
theorem UV(d s:Int)(w:World)(d0:0≤d)(d1:d≤255)(s0:0≤s)(s1:s≤255):
  Calls Tryz.prog 18 #[.agg #[.int .u8 d,.int .u8 s]] w fun e w'=>e=.returned (.agg #[.int .u8 (lw d 1),.int .u8 (lw s 1)])∧Below w.heap.size w w':=by
 have HA:=zW fun w=>IG d s 1 w d0 d1 s0 s1 zLS;generalize lw d 1=u at*;generalize lw s 1=v at*;go_enter Tryz.func18,Tryz.ntmps18;go_wp2_with fail;refine(HA.out _).mono ?_;rintro e w1 ⟨rfl,hb⟩;have z:=hb.size;simp only[zT]at z;have c0:w1.cell? ⟨w.heap.size+1,0,none⟩=some (.int .u8 0):=(hb.cell (p:=⟨w.heap.size+1,0,none⟩) zLO).trans zLO;have c1:w1.cell? ⟨w.heap.size+1,1,none⟩=some (.int .u8 0):=(hb.cell (p:=⟨w.heap.size+1,1,none⟩) zLO).trans zLO;have f0:w1.frozen? ⟨w.heap.size+1,0,none⟩=false:=(hb.frozen (p:=⟨w.heap.size+1,0,none⟩) zLO).trans zLO;have f1:w1.frozen? ⟨w.heap.size+1,1,none⟩=false:=(hb.frozen (p:=⟨w.heap.size+1,1,none⟩) zLO).trans zLO;have kb:Below w.heap.size w w1:=(((zB w.heap.size w).alloc (zH _) _).alloc zLO _).trans (hb.mono zL2);clear hb;have X:=zW (GV (T:=0) (.int .u8 u) (.int .u8 v) c0 c1);have B:=zW ((kb.setCell (p:=⟨w.heap.size+1,0,none⟩) (jW _) (.int .u8 u)).setCell (p:=⟨w.heap.size+1,1,none⟩) (jW _) (.int .u8 v));go_wp2;generalize (w1.setCell ⟨w.heap.size+1,0,none⟩ (.int .u8 u)).setCell ⟨w.heap.size+1,1,none⟩ (.int .u8 v)=wz at*;obtain⟨x0,x1⟩:=X.out;exact zS (v:=.agg #[.int .u8 u,.int .u8 v]) (by simp[results,Tryz.results18,go_sem,x0,x1]) rfl ⟨rfl,B.out⟩
def onT(s:Int):Bool:=!decide (s=0)
theorem zXR(d s:Int)(w:World):
  Calls Tryz.prog 43 #[.agg #[.int .u8 d,.int .u8 s]] w fun e w'=>e=.returned (.bool (onT s))∧Below w.heap.size w w':=by
 have E:=zW (show(!decide (s=0))=onT s from rfl);go_enter Tryz.func43,Tryz.ntmps43;go_wp2;go_ret;exact⟨by rw[←E.out];rfl,by go_grown⟩
theorem zQ6(d s:Int)(w:World)(d0:0≤d)(d1:d≤255)(s0:0≤s)(s1:s≤255):
  Calls Tryz.prog 62 #[.agg #[.int .u8 d,.int .u8 s]] w fun e w'=>e=.returned (.int .i64 (max d s))∧Below w.heap.size w w':=by
 have m0:0≤max d s:=zLS;have m1:max d s≤255:=zLS;go_enter Tryz.func62,Tryz.ntmps62;go_wp2;go_ret;exact⟨rfl,by go_grown⟩

abbrev zY8(l:Int)(b0 b1 b2 b3 b4 b5 b6:Bool):Value:=.agg #[.int .i64 l,.bool b0,.bool b1,.bool b2,.bool b3,.bool b4,.bool b5,.bool b6]
def QM(b:Nat)(l:Int)(b0 b1 b2 b3 b4 b5 b6:Bool)(w:World):Prop:=b<w.heap.size∧w.cell? ⟨b,0,none⟩=some (.int .i64 l)∧w.cell? ⟨b,1,none⟩=some (.bool b0)∧w.cell? ⟨b,2,none⟩=some (.bool b1)∧w.cell? ⟨b,3,none⟩=some (.bool b2)∧w.cell? ⟨b,4,none⟩=some (.bool b3)∧w.cell? ⟨b,5,none⟩=some (.bool b4)∧w.cell? ⟨b,6,none⟩=some (.bool b5)∧w.cell? ⟨b,7,none⟩=some (.bool b6)
theorem QM.below{b:Nat}{l:Int}{b0 b1 b2 b3 b4 b5 b6:Bool}{w w':World}{n:Nat}(h:QM b l b0 b1 b2 b3 b4 b5 b6 w)(hb:Below n w w')(hn:b<n):QM b l b0 b1 b2 b3 b4 b5 b6 w':=by
 obtain⟨h0,h⟩:=h;refine⟨zF h0 hb.size,?_⟩;have e:∀j,w'.cell? ⟨b,j,none⟩=w.cell? ⟨b,j,none⟩:=fun j=>hb.cell (p:=⟨b,j,none⟩) hn;simpa only[e]using h
theorem QM.new(w:World)(t:TypeId)(l:Int)(b0 b1 b2 b3 b4 b5 b6:Bool):QM w.heap.size l b0 b1 b2 b3 b4 b5 b6 (w.alloc (.cells #[.int .i64 l,.bool b0,.bool b1,.bool b2,.bool b3,.bool b4,.bool b5,.bool b6] t)):=by
 unfold QM;simp
theorem EJ(l:Int)(b0 b1 b2 b3 b4 b5 b6:Bool)(w:World)(h0:1≤l)(h1:l≤3):
  Calls Tryz.prog 27 #[zY8 l b0 b1 b2 b3 b4 b5 b6] w fun e w'=>e=.returned (.bool true)∧Below w.heap.size w w':=by
 go_enter Tryz.func27,Tryz.ntmps27;go_wp2;exact zM9
theorem UQ(l:Int)(b0 b1 b2 b3 b4 b5 b6:Bool)(w:World)(h:l<1∨3<l):
  Calls Tryz.prog 27 #[zY8 l b0 b1 b2 b3 b4 b5 b6] w fun e w'=>e=.returned (.bool false)∧Below w.heap.size w w':=by
 have h:l<1∨(1≤l∧3<l):=zLS;rcases h with h|⟨h,h2⟩
 all_goals
  go_enter Tryz.func27,Tryz.ntmps27
  go_wp2
  go_returns
  exact⟨by simp;try omega,by go_grown⟩
def bi(b:Bool)(n:Int):Int:=if b then n else 0
end
section
open Go.RowKit
theorem NR{W:World}{l:Nat}{o o':Obj}(h:W.heap[l]?=some o):(W.putObj l o').putObj l o=W:=by
 unfold World.putObj;have e:(W.heap.setIfInBounds l o').setIfInBounds l o=W.heap:=by
  apply qZ
  intro k
  rw[qX,qX,Array.size_setIfInBounds];by_cases hk:l=k
  ·subst hk;rw[zN rfl,h];have:=(qK.1 h).1;rw[zN this]
  ·rw[zL hk,zL hk]
 simp only[e]
theorem dX{P:Program}{g:Operand}{ps:Array Tmp}{assign body:Code}{Q:Exit→Act→World→Prop}{a:Act}{w:World}{gf:Nat}{lb:Array Value}(hg:a.eval g=.func (.func gf) #[] lb)(eg:∀args w,(callFunc gf args).run P w=.ok (.enter gf args) w)(hps:ps.size=0)
  (hassign:∀(l:Nat) (W:World) (K:Act→World→Prop),K {tmps:=a.tmps,defers:=[]} W→assign.wpIn (Fence.wide.inRound l) 4 P (Exit.then K (fun _ _ _=>False)) {tmps:=a.tmps,defers:=[]} W)
  (hbody:∀(l:Nat) (W:World),body.wpIn (Fence.wide.inRound l) 4 P (fun e _ W'=>e=.normal∧W'=W) {tmps:=a.tmps,defers:=[]} W)
  (R:World→Prop)
  (hcall:∀(l:Nat) (o:Obj) (W1:World),o.isCells=false→l=w.heap.size+1→W1=(w.alloc (.deferred (some []))).alloc o→
   (∀W,W.heap[l]?=some o→YieldAt Fence.wide 4 P l #[] W fun e W'=>e=.returned (.bool true)∧W'=W)→
   CallsIn Fence.wide 5 P gf (#[.func (.yield l) #[] #[]]++lb) W1 fun e W'=>(∃v,e=.returned v)∧W'.heap[l]?=some o∧R W')
  (hdone:∀(W:World) (o:Obj),R W→Q .normal {a with defers:={target:=.collected w.heap.size,args:=#[]}::a.defers} (W.putObj (w.heap.size+1) o)):
  (Code.rangeFunc g ps assign body).wp P Q a w:=by
 obtain rfl:ps=#[]:=Array.eq_empty_of_size_eq_zero hps;refine(wpIn_wide (n:=6)).1 (wpIn_rangeFunc ?_);intro fn hfn;obtain⟨rec,hrec⟩:∃rec:Loop,rec={state:=.ready,pending:=none,fn,tmps:=a.tmps,params:=#[],assign,body,defers:=w.heap.size}:=⟨_,rfl⟩;refine⟨w.heap.size+1,[{target:=.collected w.heap.size,args:=#[]}],(w.alloc (.deferred (some []))).alloc (.loop rec),{target:=.fn (.func gf) lb,args:=#[.func (.yield (w.heap.size+1)) #[] #[]]},(w.alloc (.deferred (some []))).alloc (.loop rec),gf,
  #[.func (.yield (w.heap.size+1)) #[] #[]]++lb,(w.alloc (.deferred (some []))).alloc (.loop rec),?_,?_,?_,?_,fun _=>by omega,?_⟩
 ·rw[hrec];exact run_enterLoop_outer _ _ _ _ _
 ·simp only[resolve,hg];simp[go_sem]
 ·intro f' hf';simp[Target.leads]at hf';subst hf';trivial
 ·simp[invoke,go_sem,eg]
 ·refine(hcall (w.heap.size+1) (.loop rec) _ rfl rfl rfl ?_).mono ?_
  ·intro W hl;have hlt:w.heap.size+1<W.heap.size:=(qK.1 hl).1;have hy:(Instr.yield (w.heap.size+1) #[]).run P W=.ok (.round (w.heap.size+1) fn a.tmps assign body) W:=by
    have h:=run_yield (P:=P) (args:=#[]) hl (by rw[hrec];rfl);rw[hrec]at h;simpa using h
   refine⟨fn,_,assign,body,hy,roundIn_of_wpIn hfn (hassign _ W _ ?_)⟩;refine⟨_,run_beginRound hl (by rw[hrec]),?_⟩;refine wpIn_mono (hbody _ _) ?_;rintro e a3 W3 ⟨rfl,rfl⟩;have hl2:(W.putObj (w.heap.size+1) (.loop {rec with state:=.busy})).heap[w.heap.size+1]?=some (.loop {rec with state:=.busy}):=World.putObj_heap_same hlt;refine⟨_,_,run_endRound (P:=P) none hl2,rfl,?_⟩;have e:({({rec with state:=.busy}:Loop)with state:=if(none:Option Code).isNone then .ready else .done,pending:=none}:Loop)=rec:=by rw[hrec];rfl
   rw[e];exact NR hl
  ·rintro e W2 ⟨⟨v,rfl⟩,hl,hR⟩;have:=run_endLoop (P:=P) hl (by rw[hrec];simp);rw[hrec]at this;exact⟨none,_,this,hdone _ _ hR⟩
end
section
open Go.RowKit Go.ChangeShapes Go.WideShapes
structure ArgE(w:World)(A:Option Addr)(n c:Nat)(l:List Ev):Prop where
 ev:Evs w A n l
 cap:n≤c
 max:c≤maxLen
theorem ArgE.step{w w':World}{A:Option Addr}{n c:Nat}{l:List Ev}(h:ArgE w A n c l)(hb:Below w.heap.size w w'):ArgE w' A n c l:=⟨h.ev.step hb,h.cap,h.max⟩
section
variable {H:Type} {enc:TypeId×Value→H} {W:World} {r:Reach} {base:Nat}
end
structure LD(w:World)(A:Option Addr)(n c:Nat)(L:List Int):Prop where
 rd:Rd w A L
 len:L.length=n
 cap:n≤c
 max:c≤maxLen
 bd:∀x∈L,0≤x∧x≤255
theorem LD.below{w w':World}{A:Option Addr}{n c:Nat}{L:List Int}(h:LD w A n c L)(hb:Below w.heap.size w w'):LD w' A n c L:=⟨h.rd.below hb,h.len,h.cap,h.max,h.bd⟩
theorem ZR:laidOutB Tryz.prog=true:=by kernel_rfl
section
variable {H:Type} {enc:TypeId×Value→H} {W:World} {r:Reach} {base:Nat}
theorem CY{fuel:Nat}{A:Option Addr}{n c:Nat}{x:DataW H×List MemPlace}(h:DataW.trod enc Tryz.prog W 0 (fun _=>true) true fuel 22 [.slice A n c]=some x):∃L,LD W A n c L:=by
 rcases open_ints Tryz.underlying22 Tryz.underlying5 zLE h with⟨hcs,_⟩|⟨a,len,cap,zs,hcs,hb,hl,hm,hz,_,hcell,hw⟩
 ·injection hcs with hcs
  injection hcs with e1 e2 e3
  subst e1;subst e2;subst e3;exact⟨[],Rd.nil,rfl,zH _,qI _,fun x hx=>by cases hx⟩
 ·injection hcs with hcs
  injection hcs with e1 e2 e3
  subst e1;subst e2;subst e3;simp only[if_true]at hz;refine⟨zs.take n,fun hne=>?_,by rw[qT];omega,hl,hm,fun x hx=>Num.bd_u8 (hw x (List.mem_of_mem_take hx))⟩;have h0:0<n:=by
   rcases Nat.eq_zero_or_pos n with e|e
   ·subst e;exact absurd (List.take_zero) hne
   ·exact e
  have hlt:=kH W _ (hcell 0 zLS);rw[yV]at hlt;refine⟨a,rfl,hlt,fun j hj=>?_⟩;rw[qT]at hj;rw[hcell j zLS,j8,qV,zP zLS];rfl
theorem pD{v:Value}{d:DataW H}{p:List MemPlace}(hv:Value.okWide Tryz.prog W r base 22 v)(h:DataW.Trod enc Tryz.prog W 0 (fun _=>true) true 22 v d p):∃A n c L,v=.slice A n c∧LD W A n c L:=by
 obtain⟨A,n,c,rfl⟩:=okWide_slice Tryz.underlying22 hv;obtain⟨fuel,hf⟩:=h;obtain⟨L,hL⟩:=CY hf;exact⟨A,n,c,L,rfl,hL⟩
end
end
section
open Go.ChangeShapes Go.WideShapes Go.ChangeAt Go.RowKit
theorem PR{H:Type}{enc:TypeId×Value→H}{w:World}{base:Nat}{sp:Nat→Bool}{held:Bool}{r:Reach}{b0':Nat}{v:Value}{d:DataW H}{p:List MemPlace}(hv:Value.okWide Tryz.prog w r b0' 24 v)(h:DataW.Trod enc Tryz.prog w base sp held 24 v d p):
  ∃(l:Int) (b0:Bool) (b1:Bool) (b2:Bool) (b3:Bool) (b4:Bool) (b5:Bool) (b6:Bool),v=.agg #[.int .i64 l,.bool b0,.bool b1,.bool b2,.bool b3,.bool b4,.bool b5,.bool b6]∧d=.agg [.lit (.int .i64 l),.lit (.bool b0),.lit (.bool b1),.lit (.bool b2),.lit (.bool b3),.lit (.bool b4),.lit (.bool b5),.lit (.bool b6)]∧p=[]∧(Lit.int .i64 l).wf=true:=by
 have hc:Tryz.prog.cellsOf 24=8:=zLE;have hc0:Tryz.prog.cellsOf 4=1:=zLE;have hc1:Tryz.prog.cellsOf 3=1:=zLE;obtain⟨cs,rfl,hsz⟩:=okWide_struct Tryz.underlying24 hv;obtain⟨l⟩:=cs;match l,hsz.trans hc with
 |[c0,c1,c2,c3,c4,c5,c6,c7],_=>
  obtain⟨fuel,hf⟩:=h
  obtain⟨xs,n,_,hx,_,hlen,hg⟩:=DataW.trod_struct Tryz.underlying24 hf
  match xs,hlen with
  |[y0,y1,y2,y3,y4,y5,y6,y7],_=>
   have g0:=hg 0 _ rfl
   have g1:=hg 1 _ rfl
   have g2:=hg 2 _ rfl
   have g3:=hg 3 _ rfl
   have g4:=hg 4 _ rfl
   have g5:=hg 5 _ rfl
   have g6:=hg 6 _ rfl
   have g7:=hg 7 _ rfl
   simp[Value.cells,hc,hc0,hc1]at g0 g1 g2 g3 g4 g5 g6 g7
   obtain⟨l,e0,rfl,s_l⟩:=Go.DataW.trod_int Tryz.underlying3 g0
   obtain⟨b0,e1,rfl⟩:=j4 Tryz.underlying4 g1
   obtain⟨b1,e2,rfl⟩:=j4 Tryz.underlying4 g2
   obtain⟨b2,e3,rfl⟩:=j4 Tryz.underlying4 g3
   obtain⟨b3,e4,rfl⟩:=j4 Tryz.underlying4 g4
   obtain⟨b4,e5,rfl⟩:=j4 Tryz.underlying4 g5
   obtain⟨b5,e6,rfl⟩:=j4 Tryz.underlying4 g6
   obtain⟨b6,e7,rfl⟩:=j4 Tryz.underlying4 g7
   simp at e0 e1 e2 e3 e4 e5 e6 e7
   subst e0 e1 e2 e3 e4 e5 e6 e7
   simp only[jU]at hx
   exact⟨l,b0,b1,b2,b3,b4,b5,b6,rfl,by simpa using hx.1,by simpa using hx.2,s_l⟩
theorem EO{H:Type}{enc:TypeId×Value→H}{w:World}{base:Nat}{sp:Nat→Bool}{held:Bool}(l:Int)(b0:Bool)(b1:Bool)(b2:Bool)(b3:Bool)(b4:Bool)(b5:Bool)(b6:Bool)(s_l:(Lit.int .i64 l).wf=true):DataW.Trod enc Tryz.prog w base sp held 24 (.agg #[.int .i64 l,.bool b0,.bool b1,.bool b2,.bool b3,.bool b4,.bool b5,.bool b6]) (.agg [.lit (.int .i64 l),.lit (.bool b0),.lit (.bool b1),.lit (.bool b2),.lit (.bool b3),.lit (.bool b4),.lit (.bool b5),.lit (.bool b6)]) []:=by
 have hc:Tryz.prog.cellsOf 24=8:=zLE;have hc0:Tryz.prog.cellsOf 4=1:=zLE;have hc1:Tryz.prog.cellsOf 3=1:=zLE;refine⟨3,?_⟩;simp[DataW.trod,Value.cells,Tryz.underlying24,Tryz.underlying4,Tryz.underlying3,hc,hc0,hc1,s_l,List.range,List.range.loop]
def zZ5{H:Type}(L:List Int):DataW H:=.agg (L.map fun n=> .lit (.int .u8 n))
def zW6{H:Type}(Ls:List (List Int)):DataW H:=.agg (Ls.map zZ5)
section
variable {H:Type} {enc:TypeId×Value→H} {P:Program} {w:World} {base:Nat} {sp:Nat→Bool} {held:Bool}
theorem SS{t e:TypeId}{K fuel:Nat}{cs:List Value}{x:DataW H×List MemPlace}(ht:P.underlying t=some (.array K e))(he:P.underlying e=some (.int .u8))(h1:P.cellsOf e=1)
  (h:DataW.trod enc P w base sp held fuel t cs=some x) {L:List Int} (hx:x.1=zZ5 L):L.length=K∧∀j (hj:j<L.length),cs[j]?=some (.int .u8 L[j]):=by
 obtain⟨xs,m,_,rfl,_,hn,hel⟩:=DataW.trod_array ht h;have hm:xs.map (·.1)=L.map fun n=>DataW.lit (.int .u8 n):=by simpa [zZ5]using hx
 have hl:xs.length=L.length:=by have:=congrArg List.length hm;simpa using this
 refine⟨by omega,fun j hj=>?_⟩;have hjx:j<xs.length:=zLS;have h2:=hel j zLS;rw[h1,zP hjx,Nat.mul_one]at h2;obtain⟨n,e1,e2,_⟩:=DataW.trod_int he h2;have e3:(xs.map (·.1))[j]?=some (.lit (.int .u8 L[j])):=by rw[hm];simp[hj]
 rw[jQ,zP hjx,e2]at e3;simp at e3;subst e3;have e4:((cs.drop j).take 1)[0]?=some (.int .u8 L[j]):=by rw[e1];rfl
 simpa using e4
theorem oI{tt t e:TypeId}{N K fuel:Nat}{cs:List Value}{x:DataW H×List MemPlace}(htt:P.underlying tt=some (.array N t))(ht:P.underlying t=some (.array K e))(he:P.underlying e=some (.int .u8))(h1:P.cellsOf e=1)(hK:P.cellsOf t=K)
  (h:DataW.trod enc P w base sp held fuel tt cs=some x) {Ls:List (List Int)} (hx:x.1=zW6 Ls):Ls.length=N∧∀i (hi:i<Ls.length),Ls[i].length=K∧∀j (hj:j<Ls[i].length),cs[i*K+j]?=some (.int .u8 Ls[i][j]):=by
 obtain⟨xs,m,_,rfl,_,hn,hel⟩:=DataW.trod_array htt h;have hm:xs.map (·.1)=Ls.map zZ5:=by simpa [zW6]using hx
 have hl:xs.length=Ls.length:=by have:=congrArg List.length hm;simpa using this
 refine⟨by omega,fun i hi=>?_⟩;have hix:i<xs.length:=zLS;have h2:=hel i zLS;rw[hK,zP hix]at h2;have e3:(xs.map (·.1))[i]?=some (zZ5 Ls[i]):=by rw[hm];simp[hi]
 rw[jQ,zP hix]at e3;simp at e3;obtain⟨hk,hc⟩:=SS ht he h1 h2 e3;refine⟨hk,fun j hj=>?_⟩;have h4:=hc j hj;rw[List.getElem?_take,zN zLS,jF]at h4;exact h4
end
theorem gSmall:Tryz.prog.globalNamed "cosmac/font.smallFont"=some 0:=by kernel_rfl
theorem gBig:Tryz.prog.globalNamed "cosmac/font.bigFont"=some 1:=by kernel_rfl
theorem tSmall:(Tryz.prog.globals[0]?).map (·.type)=some 189:=by kernel_rfl
theorem tBig:(Tryz.prog.globals[1]?).map (·.type)=some 192:=by kernel_rfl
def N8:List (String×DataW Unit):=[("cosmac/font.smallFont",Rows.laid_cosmac_font_smallFont),("cosmac/font.bigFont",Rows.laid_cosmac_font_bigFont)]
theorem zZ1(os:Os)(args:Array Value):laidMetH Tryz.prog N8 ((World.doorLaid Tryz.prog 400 os).forCall (fun _ _=>0) ⟨#[],args,[]⟩).memory:=
 laidMetH_of_parts3 (fuel:=8) (laidMet_of_run' 8 zLE zLE) zLE zLE
theorem VR:(Rows.laid_cosmac_font_smallFont:DataW Unit)=zW6 ((List.range 16).map t7):=by kernel_rfl
theorem zJN:(Rows.laid_cosmac_font_bigFont:DataW Unit)=zW6 ((List.range 16).map YT):=by kernel_rfl
theorem zK1{W:World}(h:laidMetH Tryz.prog N8 W):xX W:=by
 rw[MakeChecks.laidMetH_plain _ _ _ zLE]at h;obtain⟨ps,⟨g0,t0,cs0,f0,p0,q0,hg0,ht0,hv0,hd0,⟨g1,t1,cs1,f1,p1,q1,hg1,ht1,hv1,hd1,_⟩,_⟩,_,_⟩:=h;obtain rfl:=jR (gSmall.symm.trans hg0);obtain rfl:=jR (tSmall.symm.trans ht0);obtain rfl:=jR (gBig.symm.trans hg1);obtain rfl:=jR (tBig.symm.trans ht1);have k0:=(oI Tryz.underlying189 Tryz.underlying188 Tryz.underlying5 zLE zLE hd0 VR).2;have k1:=(oI Tryz.underlying192 Tryz.underlying191 Tryz.underlying5 zLE zLE hd1 zJN).2;have c0:∀j (hj:j<nB.length),W.cell? ⟨0,j,none⟩=some (.int .u8 nB[j]):=fun j hj=>by
  have hj':=hj;rw[vG]at hj';obtain⟨hk,hc⟩:=k0 (j/5) zL2;have:=hc (j%5) zLS;rw[show j/5*5+j%5=j by omega]at this;rw[World.var?_cell hg0 hv0 j,←jJ,this];congr 2
  simp only[List.getElem_map,List.getElem_range]
  rw[VD _ zLS];congr 1
  omega
 have c1:∀j (hj:j<uX.length),W.cell? ⟨1,j,none⟩=some (.int .u8 uX[j]):=fun j hj=>by
  have hj':=hj;rw[xG]at hj';obtain⟨hk,hc⟩:=k1 (j/10) zL2;have:=hc (j%10) zLS;rw[show j/10*10+j%10=j by omega]at this;rw[World.var?_cell hg1 hv1 j,←jJ,this];congr 2
  simp only[List.getElem_map,List.getElem_range]
  rw[zJG _ zLS];congr 1
  omega
 refine⟨?_,c1,c0⟩;have a0:=kH W _ (c0 0 (by rw[vG];omega));have a1:=kH W _ (c1 0 (by rw[xG];omega));simp at a0 a1;omega
end
end Go.Proofs.YthknmadinmigfaaGreatDoor
