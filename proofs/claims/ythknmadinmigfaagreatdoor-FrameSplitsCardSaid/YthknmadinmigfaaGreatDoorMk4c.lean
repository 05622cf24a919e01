/- MacAwake, MacLawK, FrmIt, FrmRec, FrmEq, FrmOf, FrmRun, FrmAwD, FrmAwake, MacKeysN, FrmLawK, FrmSplitN, FrmSplitW. -/
import Derived.Test.YthknmadinmigfaaGreatDoorMk4b
set_option maxRecDepth 400000
set_option maxHeartbeats 64000000
set_option linter.unusedVariables false
set_option linter.unusedSimpArgs false
namespace Go.Proofs.YthknmadinmigfaaGreatDoor
section
open Go.RowKit Num Dec Cpu

theorem CU(r l:Value)(q:Pr)(en:Bool)(hr:∃A n c,r=.slice A n c)(hl:∃A n c,l=.slice A n c):Tryz.prog.built 35 [(0,r),(1,l),(2,.agg (prc q)),(3,.bool en)]=some (cfC r l (.slice none 0 0) q en):=by
 obtain⟨A,n,c,rfl⟩:=hr;obtain⟨B,k,d,rfl⟩:=hl;unfold prc;kernel_rfl
theorem zQ9{c:Prop}[Decidable c]{x y:AS}{v:List Ev}(hx:x.ks=v)(hy:y.ks=v):(if c then x else y).ks=v:=by split<;>assumption
theorem ks_st(N:Nat)(a:AS)(op:Int)(x y n nn:Nat)(addr len:Int)(q:Pr):(stA N a op x y n nn addr len q).ks=a.ks:=by
 have hs:∀(b:AS) (t:Bool) (l:Int),(u9 b t l).ks=b.ks:=fun b t l=>by unfold u9;split<;>rfl
 have hm:∀(b:AS) (k:Nat),(iL b op x y k q.ki).ks=b.ks:=fun b k=>by
  have h:(oB b op x y k).ks=b.ks:=by unfold oB;repeat' (first|rfl|refine zQ9 ?_ ?_)
  unfold iL
  split
  ·exact h
  ·exact h
 have h0:(nxA a len).ks=a.ks:=rfl
 have hd:∀b:AS,(bA b op n).ks=b.ks:=fun b=>by unfold bA;repeat' (first|rfl|refine zQ9 ?_ ?_)
 unfold stA
 split
 ·split
  ·rfl
  ·unfold stB;repeat' split
   all_goals (first|rfl|exact(hs ..).trans h0|exact(hm ..).trans h0|skip)
   all_goals (unfold X9;repeat' (first|exact hd (nxA a len)|refine zQ9 ?_ ?_))
 ·rfl
theorem zVQ(N:Nat)(s:mB)(a:AS):(vL N s a).ks=a.ks:=by
 unfold vL asM;split
 ·split
  ·exact ks_st ..
  ·rfl
 ·rfl
theorem Mch.off{base:Nat}{O:Nat→Prop}{mb n:Nat}{s:mB}{a:AS}{w:World}(H:Mch base O mb n s a w){q:Nat}{T:TypeId}{cs:Array Value}(hq:Blk q T cs w)(hT:T≠70∧T≠150∧T≠186∧T≠144∧T≠137∧T≠170∧T≠103):¬O q:=by
 have hb:=H.bs;obtain⟨b,m,g,p,mp,pg,v,en,l,h,k,H,rfl,_⟩:=H;exact(H.mr hb).off hq hT
theorem o7(N:Nat){s:mB}(a:AS)(h:s.k≠0):nmM s a=s∧vL N s a=a∧xM s a=false:=by
 unfold nmM vL xM;rw[zL h,zL h,zU h];exact⟨rfl,rfl,rfl⟩
end
section
open Go.RowKit Go.Shelf Num Dec Cpu
attribute [local go_sem] Oper.semAt_some
def frN(N:Nat):Nat→mB→AS→mB×AS
 |0,s,a=>(s,a)
 |k+1,s,a=>if s.k≠0 then(s,a)else if xM s a=true then(nmM s a,vL N s a)else frN N k (nmM s a) (vL N s a)
theorem zZD(N k:Nat){s:mB}(a:AS)(h:s.k≠0):frN N k s a=(s,a):=by
 cases k with
 |zero=>rfl
 |succ k=>unfold frN;rw[zN h]
theorem Mch.more{base:Nat}{O:Nat→Prop}{mb n n':Nat}{s:mB}{a:AS}{w:World}(H:Mch base O mb n s a w)(h:n≤n'):Mch base O mb n' s a w:=by
 obtain⟨b,m,g,p,mp,pg,v,en,l,hh,k,H,e,h1,h2⟩:=H;exact⟨b,m,g,p,mp,pg,v,en,l,hh,k,H,e,by omega,by omega⟩
theorem AM(k c p y:Int)(w:World):(Instr.field 39 (.agg #[.int .i64 k,.int .i64 c,.int .i64 p,.int .i64 y]) 0).run Tryz.prog w=.ok (.int .i64 k) w:=by
 have h:(Tryz.prog.fieldsOf 39)[0]?.map (fun f=>(f.offset,f.type))=some (0,3):=zLE;simp[Instr.field,go_sem,q9 Tryz.underlying39,q9 Tryz.underlying3,part,isAgg,asAgg]
theorem EW(N:Nat)(E0:gP N)(l:Nat)(o:Obj)(hoc:o.isCells=false)(hY:∀W,W.heap[l]?=some o→YieldAt Fence.wide 4 Tryz.prog l #[] W fun e W'=>e=.returned (.bool true)∧W'=W)
  {base:Nat} {O:Nat→Prop} {mb n:Nat} {s:mB} {a:AS} {W:World} (H:Mch base O mb n s a W) (L:xX W) (hB:1<base) (nn bI bM:Nat) (hI:Blk bI 3 #[.int .i64 (nn:Int)] W) (hM:Blk bM 29 #[.pointer (some ⟨mb,0,none⟩)] W) (hl:W.heap[l]?=some o) (hOl:¬O l) (hx:s.ex+(nn:Int)≤90000) (hn:n+nn≤90000) (hn2:nn≤65535):
  CallsIn Fence.wide 5 Tryz.prog 63 #[.func (.yield l) #[] #[],.pointer (some ⟨bI,0,none⟩),.pointer (some ⟨bM,0,none⟩)] W fun e W'=>(∃v,e=.returned v)∧W'.heap[l]?=some o∧∃O',Mch base O' mb (n+nn) (frN N nn s a).1 (frN N nn s a).2 W'∧lN O W W'∧nS O O' W.heap.size:=by
 have HH:=zW H;have HE:=zW E0;have HL:=zW (fun u (k:lN O W u)=>L.below (k.below H.bs fun j hj=>(H.blt j hj).1) hB);have HY:=zW hY;have HB:=zW hB;have HX:=zW (zM hx hn);have HM:=zW (fun u (k:lN O W u)=>(show Blk bM 29 #[.pointer (some ⟨mb,0,none⟩)] u from(k.block bM hM.lt (H.off hM ⟨by decide,by decide,by decide,by decide,by decide,by decide,by decide⟩)).trans hM));have Hl:=zW (fun u (k:lN O W u)=>(show u.heap[l]?=some o from(k.block l (qK.1 hl).1 hOl).trans hl));have cI:W.cell? ⟨bI,0,none⟩=some (.int .i64 (nn:Int)):=(hI.cell 0).trans rfl;clear H E0 L hB hI hM hl hOl hx hn hY hoc;refine callsIn_of_wp Tryz.func63 rfl trivial ?_ rfl;simp only[Tryz.ntmps63,jZ,List.length_cons,List.length_nil,Nat.reduceAdd,Nat.reduceSub,qO,Array.replicate_zero,jK,q8,List.nil_append,List.cons_append];gi_wp2
 gi_loopw [6] (fun i wr=>∃k:Nat,k≤nn∧i=.int .i64 (k:Int)∧lN O W wr∧∃Oi si ai,Mch base Oi mb (n+k) si ai wr∧nS O Oi W.heap.size∧frN N (nn-k) si ai=frN N nn s a∧si.ex≤s.ex+(k:Int)) (fun i _=>nn-(intOf i).toNat)
 case atStart=>exact⟨0,qI _,rfl,lN.refl,O,s,a,HH.out,nS.refl,rfl,by omega⟩
 case round=>
  clear cI HH
  obtain⟨k,hk,rfl,hK,Oi,si,ai,hX,hG,hf,hex⟩:=hrel
  have KK:=zW hK
  have X:=zW hX
  have GG:=zW hG
  have FF:=zW (zM hf hex)
  clear hK hX hG hf hex
  by_cases hlt:k<nn
  ·have ki:(k:Int)<(nn:Int):=zLS
   have kb:(k:Int)≤65535:=zLS
   have JX:=zW hlt
   have cM:wr.cell? ⟨bM,0,none⟩=some (.pointer (some ⟨mb,0,none⟩)):=((HM.out wr KK.out).cell 0).trans rfl
   obtain⟨k',hk'⟩:∃k',nn-k=k'+1:=⟨nn-k-1,by omega⟩
   have KE:=zW (show nn-k=k'+1∧nn-(k+1)=k' from⟨hk',by omega⟩)
   have MS:=zW (show Calls Tryz.prog 14 #[.pointer (some ⟨mb,0,none⟩)] wr fun e w'=>e=.returned (.agg #[.int .i64 si.k,.int .i64 si.c,.int .i64 si.p,.int .i64 si.y])∧Below wr.heap.size wr w' from pS X.out)
   clear hk' hk
   gi_wp2_with fail
   refine⟨trivial,?_⟩
   refine(callsIn_wide.2 MS.out).mono ?_
   rintro e w2 ⟨rfl,b2⟩
   have X:=zW (X.out.step b2)
   have KK:=zW (KK.out.trans (lN.of_below (O:=fun _=>False) b2) fun _ c=>c.elim)
   clear b2 MS cM
   have hfi:=AM si.k si.c si.p si.y w2
   by_cases h0:si.k=0
   ·have e0:(si.k !=0)=false:=by rw[h0];rfl
    have cM:w2.cell? ⟨bM,0,none⟩=some (.pointer (some ⟨mb,0,none⟩)):=((HM.out w2 KK.out).cell 0).trans rfl
    have H0:=zW h0
    clear h0
    gi_wp2_with fail
    refine⟨trivial,?_⟩
    refine(callsIn_wide.2 (ZL N HE.out X.out (HL.out _ KK.out) HB.out (by have:=HX.out.1;have:=FF.out.2;have:=JX.out;omega) (by have:=HX.out.2;have:=JX.out;omega))).mono ?_
    rintro e w3 ⟨rfl,O',X3,K3,G3⟩
    have G5:=zW (GG.out.trans G3 KK.out.size)
    have KK:=zW (KK.out.trans K3 GG.out)
    have X:=zW X3
    clear X3 K3 G3 cM
    obtain⟨fn,tmps,assign,body,hy,hR⟩:=HY.out w3 (Hl.out w3 KK.out)
    obtain⟨dr,hdr⟩:∃dr,xM si ai=dr:=⟨_,rfl⟩
    rw[hdr]
    have DRh:=zW hdr
    clear hdr
    gi_wp2_with fail
    refine hR.mono ?_
    rintro e W4 ⟨rfl,rfl⟩
    cases dr
    ·gi_wp2
     go_roundw
     case rel=>exact⟨k+1,JX.out,by go_num,KK.out,O',_,_,X.out,G5.out,by rw[←FF.out.1,KE.out.1,KE.out.2];unfold frN;rw[zL (fun c=>c H0.out),zL (by rw[DRh.out];decide)];cases k'<;>rfl,by have:=(BC si ai).2;have:=FF.out.2;omega⟩
     case measure=>have:=JX.out;simp[intOf];omega
    ·gi_wp2
     refine zS (results_none rfl _ _ _) rfl ?_
     refine⟨⟨_,rfl⟩,Hl.out _ KK.out,O',?_,KK.out,G5.out⟩
     rw[←FF.out.1,KE.out.1,show frN N (k'+1) si ai=(nmM si ai,vL N si ai)from by unfold frN;rw[zL (fun c=>c H0.out),zN DRh.out]]
     exact X.out.more (by have:=JX.out;omega)
   ·have e0:(si.k !=0)=true:=by simpa using h0
    have H0:=zW h0
    clear h0
    gi_wp2
    refine zS (results_none rfl _ _ _) rfl ?_
    refine⟨⟨_,rfl⟩,Hl.out _ KK.out,Oi,?_,KK.out,GG.out⟩
    rw[←FF.out.1,zZD N _ ai H0.out]
    exact X.out.more (by have:=JX.out;omega)
  ·have ki:¬(k:Int)<(nn:Int):=zLS
   have EK:=zW (show k=nn by omega)
   gi_wp2
   go_end0
   refine⟨⟨_,rfl⟩,Hl.out _ KK.out,Oi,?_,KK.out,GG.out⟩
   rw[←FF.out.1,show nn-k=0 from by have:=EK.out;omega]
   exact X.out.more (by have:=EK.out;omega)
end
section
open Go.RowKit Num Dec Cpu
structure dE where
 P:Nat→Pl
 hi:Bool
 so:Bool
 pat:Nat→Int
 pt:Int
 k:Int
 c:Int
 p:Int
 y:Int
def YN(r:dE)(j:Nat):Value:=if j<512 then .int .u64 (cV (r.P (j/128)) (j%128))else if j=512 then .bool r.hi else if j=513 then .bool r.so else if j<530 then .int .u8 (r.pat (j-514))else if j=530 then .int .u8 r.pt else if j=531 then .int .i64 r.k else if j=532 then .int .i64 r.c else if j=533 then .int .i64 r.p else .int .i64 r.y
def m5(r:dE):Array Value:=yW 535 (YN r)
theorem nJ(r:dE):(m5 r).size=535:=vR
theorem wW(r:dE){j:Nat}(hj:j<535):(m5 r)[j]?=some (YN r j):=wX hj
theorem wV(r:dE):nU (m5 r):=by
 unfold nU m5 yW;rw[qC];intro v hv;simp only[kK,jV,jM]at hv;obtain⟨j,hj,rfl⟩:=hv;unfold YN;repeat' split
 all_goals rfl
theorem uK:nI Tryz.prog 78 535:=⟨⟨_,Tryz.underlying78,rfl⟩,by kernel_rfl⟩
def vE:dE:=⟨fun _ _=>0#128,false,false,fun _=>0,0,0,0,0,0⟩
theorem aK:m5 vE=(((Array.replicate 512 (Value.int .u64 0))++ #[.bool false,.bool false])++(Array.replicate 17 (Value.int .u8 0)))++ #[.int .i64 0,.int .i64 0,.int .i64 0,.int .i64 0]:=by kernel_rfl
theorem wP:nG Tryz.prog 78 (m5 vE):=by
 unfold nG;rw[nJ,aK];kernel_rfl
theorem TV:Tryz.prog.built 78 []=some (m5 vE):=by
 rw[aK];kernel_rfl
theorem CG(r:dE):Tryz.prog.built 78 [(0,.agg (xK r.P)),(1,.bool r.hi),(2,.bool r.so),(3,.agg (pc r.pat)),(4,.int .u8 r.pt),(5,.agg (yH r.k r.c r.p r.y))]=some (m5 r):=by
 kernel_rfl
theorem WJ(r:dE):(m5 r).extract 0 (0+512)=xK r.P:=cK (gQ _) zLS fun j hj=>by
 unfold xK YN;rw[zN zLS,qY];simp[hj]
theorem zKK(r:dE):(m5 r).extract 514 (514+16)=pc r.pat:=cK (nX _) zLS fun j hj=>by
 rw[yT _ _ hj];unfold YN;rw[zL zLS,zL zLS,zL zLS,zN zLS,show 514+j-514=j by omega]
theorem zKX(r:dE):(m5 r).extract 531 (531+4)=yH r.k r.c r.p r.y:=cK rfl zLS fun j hj=>by
 rcases(show j=0∨j=1∨j=2∨j=3 by omega)with rfl|rfl|rfl|rfl<;>rfl
theorem xL(d:Nat)(xs:Array Value)(f:Field)(fs:List Field)(v:Value)(w:World)(hf:f.name≠ "_")(hx:(part f.type xs f.offset).run Tryz.prog w=.ok v w)(he:(Op.equalIn (d+1) f.type v v).run Tryz.prog w=.ok true w)
  (hr:(Op.eqFields (d+1) xs xs fs).run Tryz.prog w=.ok true w):(Op.eqFields (d+1) xs xs (f::fs)).run Tryz.prog w=.ok true w:=by
 unfold Op.eqFields;rw[zN hf,zA,hx,Result.andThen_ok,zA,hx,Result.andThen_ok,zA,he,Result.andThen_ok];simp only[Bool.not_true,Bool.false_eq_true,if_false];exact hr
theorem wY(t:TypeId)(td:TypeDesc)(hu:Tryz.prog.underlying t=some td)(hd:(match td with| .struct _| .array _ _=>true|_=>false)=false)(cs:Array Value)(k:Nat)(v:Value)(h:cs[k]?=some v)(w:World):(part t cs k).run Tryz.prog w=.ok v w:=by
 have hagg:(isAgg t).run Tryz.prog w=.ok false w:=by
  unfold isAgg;rw[zA,q9 hu w];cases td<;>simp_all
 simp[part,zA,hagg,h]
theorem JY(t:TypeId)(hu:Tryz.prog.underlying t=some (.int .i64))(a:Int)(d:Nat)(w:World):(Op.equalIn (d+1) t (.int .i64 a) (.int .i64 a)).run Tryz.prog w=.ok true w:=by
 rw[run_equalIn_int w d t .i64 .i64 a a hu];simp
theorem U7(k c p y:Int)(d:Nat)(w:World):(Op.equalIn (d+3) 39 (.agg (yH k c p y)) (.agg (yH k c p y))).run Tryz.prog w=.ok true w:=by
 have ht:Tryz.prog.underlying 39=some (.struct (Tryz.prog.fieldsOf 39)):=zLE;have hp:Tryz.prog.stoodInHeld 39=false:=zLE;rw[run_equalIn_struct (P:=Tryz.prog) w (d+2) 39 _ _ ht hp];clear ht hp;simp only[Program.fieldsOf,Tryz.underlying39];refine xL (d+1) _ _ _ (.int .i64 k) w zLA (wY _ _ Tryz.underlying3 rfl _ _ _ rfl w) (JY _ Tryz.underlying3 k (d+1) w) ?_;refine xL (d+1) _ _ _ (.int .i64 c) w zLA (wY _ _ Tryz.underlying30 rfl _ _ _ rfl w) (JY _ Tryz.underlying30 c (d+1) w) ?_;refine xL (d+1) _ _ _ (.int .i64 p) w zLA (wY _ _ Tryz.underlying3 rfl _ _ _ rfl w) (JY _ Tryz.underlying3 p (d+1) w) ?_;refine xL (d+1) _ _ _ (.int .i64 y) w zLA (wY _ _ Tryz.underlying3 rfl _ _ _ rfl w) (JY _ Tryz.underlying3 y (d+1) w) ?_;simp[Op.eqFields]
theorem SQ(r:dE)(d:Nat)(w:World):(Op.equalIn (d+7) 78 (.agg (m5 r)) (.agg (m5 r))).run Tryz.prog w=.ok true w:=by
 have ht:Tryz.prog.underlying 78=some (.struct (Tryz.prog.fieldsOf 78)):=zLE;have hp:Tryz.prog.stoodInHeld 78=false:=zLE;rw[run_equalIn_struct (P:=Tryz.prog) w (d+6) 78 _ _ ht hp];clear ht hp;have h0:(part 56 (m5 r) 0).run Tryz.prog w=.ok (.agg (xK r.P)) w:=by
  rw[xJ (P:=Tryz.prog) 56 _ (m5 r) 0 512 w rfl Tryz.underlying56 zJS.i,WJ]
 have h1:(part 4 (m5 r) 512).run Tryz.prog w=.ok (.bool r.hi) w:=wY _ _ Tryz.underlying4 rfl _ _ _ (wW r zLS) w;have h2:(part 4 (m5 r) 513).run Tryz.prog w=.ok (.bool r.so) w:=wY _ _ Tryz.underlying4 rfl _ _ _ (wW r zLS) w;have h3:(part 45 (m5 r) 514).run Tryz.prog w=.ok (.agg (pc r.pat)) w:=by
  rw[xJ (P:=Tryz.prog) 45 _ (m5 r) 514 16 w rfl Tryz.underlying45 cU.i,zKK]
 have h4:(part 5 (m5 r) 530).run Tryz.prog w=.ok (.int .u8 r.pt) w:=wY _ _ Tryz.underlying5 rfl _ _ _ (wW r zLS) w;have h5:(part 39 (m5 r) 531).run Tryz.prog w=.ok (.agg (yH r.k r.c r.p r.y)) w:=by
  rw[xJ (P:=Tryz.prog) 39 _ (m5 r) 531 4 w rfl Tryz.underlying39 rY.i,zKX]
 have e0:(Op.equalIn (d+6) 56 (.agg (xK r.P)) (.agg (xK r.P))).run Tryz.prog w=.ok true w:=by
  have h:=wZ (P:=Tryz.prog) (d+5) 56 55 _ 4 128 (xK r.P) (xK r.P) (fun i=>wQ (r.P i) (r.P i)) rfl Tryz.underlying56 Tryz.underlying55 uP.i (fun i hi w=>by
   rw[zKW _ i hi];exact pG _ _ (d+1) w) w
  rw[h];congr 1
  rw[jN]
  exact fun i _=>zX0 fun _ _=>rfl
 have e1:∀b,(Op.equalIn (d+6) 4 (.bool b) (.bool b)).run Tryz.prog w=.ok true w:=fun b=>by rw[zWO b b (d+5)];simp
 have e3:(Op.equalIn (d+6) 45 (.agg (pc r.pat)) (.agg (pc r.pat))).run Tryz.prog w=.ok true w:=by rw[SJ r.pat r.pat (d+4),zWU]
 have e4:(Op.equalIn (d+6) 5 (.int .u8 r.pt) (.int .u8 r.pt)).run Tryz.prog w=.ok true w:=by rw[BU _ _ (d+5)];simp
 have e5:=U7 r.k r.c r.p r.y (d+3) w;generalize m5 r=C at*;generalize xK r.P=Q at*;simp only[Program.fieldsOf,Tryz.underlying78];refine xL (d+5) _ _ _ _ w zLA h0 e0 ?_;refine xL (d+5) _ _ _ _ w zLA h1 (e1 _) ?_;refine xL (d+5) _ _ _ _ w zLA h2 (e1 _) ?_;refine xL (d+5) _ _ _ _ w zLA h3 e3 ?_;refine xL (d+5) _ _ _ _ w zLA h4 e4 ?_;refine xL (d+5) _ _ _ _ w zLA h5 e5 ?_;simp[Op.eqFields]
theorem zWI(r:dE)(w:World):(binOp .eql 78 (.agg (m5 r)) (.agg (m5 r))).run Tryz.prog w=.ok (.bool true) w:=by
 have h:=SQ r 9993 w;have e:(10000:Nat)=9993+7:=zLA;rw[run_eql_struct,e,h];simp only[Result.andThen_ok]
theorem RM:Tryz.prog.eqGuardType Tryz.prog.depth 78=false:=by kernel_rfl
theorem RQ{o:Oper}{ρ:Operand→Value}{w:World}(x y:Operand)(z:TypeId)(ho:o.op=.binOp .eql 78 x y z)(r:dE)(hx:ρ x=.agg (m5 r))(hy:ρ y=.agg (m5 r)):(execOp ρ o).run Tryz.prog w=.ok (.value (.bool true)) w:=by
 unfold execOp;simp only[ho,hx,hy];rw[zA,zA,run_eqGuard_agg w .eql 78 x y (m5 r) (m5 r) RM,Result.andThen_ok,zWI,Result.andThen_ok,Sem.run_pure]
section
variable {ops:Array Oper} {C:World→Prop}
theorem hE{Q:Act→Prop}{o:Oper}{rest:List Oper}{a:Act}(r:dE)(hw:Region.wanted o (yielded ops a.tmps)=true)(x y:Operand)(z:TypeId)(ho:o.op=.binOp .eql 78 x y z)(hx:a.eval x=.agg (m5 r))(hy:a.eval y=.agg (m5 r))
  (h:wpQuiet Tryz.prog ops C Q rest (a.put o.dst (.bool true))):wpQuiet Tryz.prog ops C Q (o::rest) a:=
 rS hw (.bool true) (fun w' _=>RQ x y z ho r hx hy) h
end
def cG(s:mB)(a:AS):dE:=⟨(scA a).P,a.hi,onT (a.sd:Int),ptA a,(a.pt:Int),s.k,s.c,s.p,s.y⟩
theorem f7{xs c:Array Value}{o m:Nat}(h:xs.extract o (o+m)=c){j:Nat}(hj:j<m):xs[o+j]?=c[j]?:=by
 rw[←h,jD];by_cases hs:o+j<xs.size
 ·rw[zN zLS]
 ·rw[zL zLS,zD zLS]
theorem NF{xs c d:Array Value}{o m k:Nat}(h:xs.extract o (o+m)=c)(hk:k≤m)(hs:o+m≤xs.size)(hd:d.size=k)(e:∀j,j<k→c[j]?=d[j]?):xs.extract o (o+k)=d:=by
 apply qZ
 intro j
 rw[jD];by_cases hj:j<k
 ·rw[zN zLS,f7 h zLS,e j hj]
 ·rw[zL zLS,zD zLS]
theorem VH(a:AS)(m g:Nat):(stC a m g).extract 36 (36+512)=xK (scA a).P:=NF (xT a m g) zLS (by rw[lG];omega) (gQ _) fun j hj=>by
 rw[mN _ _ zLS];unfold yZ xK;rw[zN hj];simp[hj]
theorem zXF(a:AS)(m g:Nat):(stC a m g).extract 568 (568+16)=pc (ptA a):=NF (eQ a m g) zLS (by rw[lG];omega) (nX _) fun j hj=>by
 rw[dP _ _ _ hj,yT _ _ hj]
theorem ER(a:AS)(m g:Nat):(stC a m g)[548]?=some (.bool a.hi):=(f7 (xT a m g) (j:=512) zLS).trans (mN _ _ zLS)
theorem EB(a:AS)(m g:Nat):(stC a m g)[584]?=some (.int .u8 (a.pt:Int)):=(f7 (eQ a m g) (j:=16) zLS).trans (by rw[wD _ _ _ zLS];rfl)
theorem gV(N:Nat)(C:xP N){base:Nat}{O:Nat→Prop}{mb n:Nat}{s:mB}{a:AS}{w:World}(H:Mch base O mb n s a w)(L:xX w):
  Calls Tryz.prog 24 #[.pointer (some ⟨mb,0,none⟩)] w fun e w'=>e=.returned (.agg (m5 (cG s a)))∧Below w.heap.size w w':=by
 have X:=zW H;have CC:=zW C;have LL:=zW L;clear H C L;go_enter Tryz.func24,Tryz.ntmps24;go_upto_region 0 with fail;refine zG ?_;refine qH rfl fun K hK=>nD wP rfl (hK _ _ ?_);clear hK K;simp only[Act.put,zQ,zZ,zJ];refine wpList_nil ?_;have RV:=zW (Blk.new w 78 (m5 vE));have BB:=zW (lW w (.cells (m5 vE) 78));have X:=zW (X.out.step BB.out);obtain⟨gb,hgb⟩:∃k,w.heap.size=k:=⟨_,rfl⟩;have AT:=zW (show w.heap.size≤gb by omega);rw[hgb]at RV⊢;clear hgb;generalize World.alloc _ _=w1 at RV BB X⊢;go_wp2_with fail;refine(wM N CC.out X.out (LL.out.step BB.out)).mono ?_;rintro e w2 ⟨bs,ms,gs,vs,rfl,rc,b2⟩;have S:=zW rc;have X:=zW (X.out.step b2);have RV:=zW (RV.out.step b2);have BB:=zW (BB.out.trans (b2.mono BB.out.size));clear rc b2;go_upto_region 4 with fail;have CV:=zW (lY S.out.st);have k548:=lH.cell (show w2.cell? ⟨bs,548,none⟩=some (.bool a.hi)from(S.out.st.cell 548).trans (ER a ms gs)) S.out.st.lt;have k584:=lH.cell (show w2.cell? ⟨bs,584,none⟩=some (.int .u8 (a.pt:Int))from(S.out.st.cell 584).trans (EB a ms gs)) S.out.st.lt;refine lK (C:=fun w'=>∃u:lH w2,w'=u.w) 28 [([0,1,2,3,4,5,6,7,8,9,10,11,12,13,15,16,17,18,19,20,21,22,23,24,25],14,true),([],26,true)] [27] [] zLE zLE ?_ ?_ ⟨⟨w2.drew,(zB _ _).drew⟩,rfl⟩ ?_
 ·exact zMO
 ·exact zMA
 intro wd hwd;clear hwd;refine WS ?_;iterate 4 (go_big_quiet_step (fail))
 refine lV (o:=36) zJS CV.out zL1 rfl (.tmp 12) rfl zLP ?_;rw[VH];simp only[Act.put,zQ,zZ,zJ];iterate 8 (go_big_quiet_step (fail))
 refine lV (o:=566) bF CV.out zL1 rfl (.tmp 21) rfl zLP ?_;rw[d8];simp only[Act.put,zQ,zZ,zJ];iterate 4 (go_big_quiet_step (fail))
 refine lV (o:=568) cU CV.out zL1 rfl (.tmp 27) rfl zLP ?_;rw[zXF];simp only[Act.put,zQ,zZ,zJ];iterate 6 (go_big_quiet_step (fail))
 refine zY ?_;refine lS (v:=.bool (onT (a.sd:Int))) (mM (g:=43) (caps:=#[]) (args:=#[.agg #[.int .u8 (a.dl:Int),.int .u8 (a.sd:Int)]]) (.func 43) _ _ rfl rfl (enters_of Tryz.func43 zLE rfl) (fun w' hw=>zXR _ _ w') rfl zLP) ?_;simp only[Act.put,zQ,zZ,zJ];refine lF zL5 zLU ?_;refine zY ?_;refine lS (v:=.agg (yH s.k s.c s.p s.y)) (mM (g:=14) (caps:=#[]) (args:=#[.pointer (some ⟨mb,0,none⟩)]) (.func 14) _ _ rfl rfl (enters_of Tryz.func14 zLE rfl) (fun w' hw=>by obtain⟨u,rfl⟩:=hw;exact pS (X.out.step u.below)) rfl zLP) ?_;simp only[Act.put,zQ,zZ,zJ];refine WF ?_;refine xD rfl rfl (by simp[Act.eval,Act.put];exact CG (cG s a)) ?_;simp only[Act.put,zQ,zZ,zJ];refine zY ?_;refine lT rfl ?_;intro w5 g5 C5 K hK;obtain⟨u5,rfl⟩:=C5;have RV:=zW (RV.out.step u5.below);have BB:=zW (BB.out.trans (u5.below.mono BB.out.size));generalize u5.w=w5 at*;refine nM (ds:=m5 (cG s a)) uK RV.out (nJ _) (nJ _) (wV _) (.tmp 2) (.tmp 36) rfl zLP zLP ?_;have RW:=zW (RV.out.store (m5 (cG s a)));have BW:=zW (lC BB.out AT.out (m5 (cG s a)));clear RV BB;generalize World.setRow _ _ _=w6 at RW BW hK⊢;refine hK _ _ ?_;clear hK K;simp only[Act.put,zQ,zZ,zJ];try simp only[kC]
 refine zY ?_;intro w7 g7;have RW:=zW (RW.out.step g7);have BW:=zW (BW.out.trans (g7.mono BW.out.size));go_wp2_with fail;iterate 4 (try go_step)
 exact zS (zE rfl _ _ gb _ _ _ _ rfl RW.out Tryz.underlying78 rfl (by rw[uK.i,nJ])) rfl ⟨rfl,BW.out⟩
end
section
open Go.RowKit Go.Shelf Num Dec Cpu
def kyN(l:List Ev)(x:mB×AS):mB×AS:=l.foldl (fun y e=>(gM y.1 y.2 e,tI y.1 y.2 e)) x
theorem ky_ex(s:mB)(a:AS)(e:Ev):(gM s a e).ex=s.ex:=by unfold gM;split<;>rfl
theorem ky_ks(s:mB)(a:AS)(e:Ev):(tI s a e).ks.length=a.ks.length+1:=by show(a.ks++[e]).length=_;simp
theorem JU(l:List Ev)(x:mB×AS)(k:Nat)(e:Ev)(h:l[k]?=some e):kyN (l.take (k+1)) x=(gM (kyN (l.take k) x).1 (kyN (l.take k) x).2 e,tI (kyN (l.take k) x).1 (kyN (l.take k) x).2 e):=by
 unfold kyN;obtain⟨hk,he⟩:=kF.1 h;rw[kG hk,List.foldl_append,he];rfl
theorem eG{W:World}{l:Nat}{o:Obj}:lN (fun j=>j=l) W (W.putObj l o):=⟨rfl,rfl,rfl,by simp,fun k _ hn=>jX hn⟩
theorem SM{base:Nat}{O:Nat→Prop}{mb n:Nat}{s:mB}{a:AS}{w:World}(H:Mch base O mb n s a w)(EA:Option Addr)(ne ce:Nat)(nn:Int)(hn:nn<0∨65535<nn):
  Calls Tryz.prog 25 #[.pointer (some ⟨mb,0,none⟩),.slice EA ne ce,.int .i64 nn] w fun e w'=>e=.returned (.tuple #[.agg (m5 vE),.int .i64 5])∧Below w.heap.size w w':=by
 clear H;refine(callsIn_wide (n:=6)).1 ?_;refine callsIn_of_wp_marks Tryz.func25 rfl trivial ?_ rfl;simp only[Tryz.ntmps25,jZ,List.length_cons,List.length_nil,Nat.reduceAdd,Nat.reduceSub,qO,Array.replicate_zero,jK,q8,List.nil_append,List.cons_append];refine wpIn_wide.2 ?_;go_upto_region 0 with fail;refine zG ?_;refine qH rfl fun K hK=>nD wP rfl (hK _ _ ?_);clear hK K;simp only[Act.put,zQ,zZ,zJ];have RV:=zW (Blk.new w 78 (m5 vE));have BB:=zW (lW w (.cells (m5 vE) 78));obtain⟨gb,hgb⟩:∃k,w.heap.size=k:=⟨_,rfl⟩;have AT:=zW (show w.heap.size≤gb by omega);rw[hgb]at RV⊢;clear hgb;generalize World.alloc _ _=w1 at RV BB⊢;have hcase:(nn<0)∨(¬nn<0∧(65535:Int)<nn):=zLS;rcases hcase with h1|⟨h1,h2⟩
 all_goals (focus go_upto_region 2 with fail)
 all_goals
  refine zG ?_
  refine mQ (cs:=m5 vE) rfl rfl (by simp;exact TV) ?_
  simp only[Act.put,zQ,zZ,zJ]
  refine kU (ds:=m5 vE) uK RV.out (nJ _) (nJ _) (wV _) rfl (.tmp 6) (.tmp 17) rfl rfl rfl ?_
  simp only[Act.put,zQ,zZ,zJ]
  have RW:=zW (RV.out.store (m5 vE))
  have BW:=zW (lC BB.out AT.out (m5 vE))
  generalize World.setRow _ _ _=w2 at RW BW⊢
  go_wp2_with fail
  iterate 6 (try go_step)
  exact⟨_,mU rfl _ _ gb _ _ _ (.int .i64 5) rfl rfl RW.out uK (nJ _),rfl,BW.out⟩
theorem MK(mb:Nat)(nn:Int)(w:World):Calls Tryz.prog 44 #[.pointer (some ⟨mb,0,none⟩),.int .i64 nn] w fun e w'=>e=.returned (.func (.func 63) #[] #[.pointer (some ⟨w.heap.size+1,0,none⟩),.pointer (some ⟨w.heap.size,0,none⟩)])∧w'=(w.alloc (.cells #[.pointer (some ⟨mb,0,none⟩)] 29)).alloc (.cells #[.int .i64 nn] 3):=by
 go_enter Tryz.func44,Tryz.ntmps44;go_wp2;go_returns;simp
structure FrR(base:Nat)(O:Nat→Prop)(w w8:World)(mb n gb:Nat)(s:mB)(a:AS)(W:World):Prop where
 m:∃O',Mch base O' mb n s a W∧nS O O' w.heap.size∧¬O' (w8.heap.size+1)∧¬O' w8.heap.size
 k:lN O w W
 r:Blk gb 78 (m5 vE) W
 l:∃o,W.heap[w8.heap.size+1]?=some o∧o.isCells=false
 d:W.heap[w8.heap.size]?=some (.deferred (some []))
theorem rT(N:Nat)(CS:xP N)(E0:gP N){base:Nat}{O:Nat→Prop}{mb n:Nat}{s:mB}{a:AS}{w:World}(H:Mch base O mb n s a w)(L:xX w)(hB:1<base)(EA:Option Addr)(ne ce:Nat)(l:List Ev)(HE:Evs w EA ne l)(hEO:∀ad,EA=some ad→¬O ad.block)(hne:ne≤100)(nn:Nat)(hnn:nn≤65535)(hx:s.ex+(nn:Int)≤90000)(hn:n+nn≤90000)(hks:a.ks.length+ne<1000):
  Calls Tryz.prog 25 #[.pointer (some ⟨mb,0,none⟩),.slice EA ne ce,.int .i64 (nn:Int)] w fun e w'=>e=.returned (.tuple #[.agg (m5 (cG (frN N nn (kyN l (s,a)).1 (kyN l (s,a)).2).1 (frN N nn (kyN l (s,a)).1 (kyN l (s,a)).2).2)),.int .i64 0])∧∃O',Mch base O' mb (n+nn) (frN N nn (kyN l (s,a)).1 (kyN l (s,a)).2).1 (u6 (frN N nn (kyN l (s,a)).1 (kyN l (s,a)).2).2) w'∧lN O w w'∧nS O O' w.heap.size:=by
 have HH:=zW H;have HC:=zW CS;have HS:=zW E0;have HL:=zW (fun u (k:lN O w u)=>L.below (k.below H.bs fun j hj=>(H.blt j hj).1) hB);have HBB:=zW hB;have HEV:=zW HE;have HX:=zW (zM hx (zM hn (zM hks hne)));have OLT:=zW (fun j (h:O j)=>(H.blt j h).2);have HEO:=zW hEO;clear H CS E0 L hB HE hx hn hks hEO;obtain⟨sy,ay,hy⟩:∃sy ay,kyN l (s,a)=(sy,ay):=⟨_,_,rfl⟩;have HY:=zW hy;rw[hy];clear hy;obtain⟨sf,af,hf⟩:∃sf af,frN N nn sy ay=(sf,af):=⟨_,_,rfl⟩;have HF:=zW hf;simp only[hf];clear hf;refine(callsIn_wide (n:=6)).1 ?_;refine callsIn_of_wp_marks Tryz.func25 rfl trivial ?_ rfl;simp only[Tryz.ntmps25,jZ,List.length_cons,List.length_nil,Nat.reduceAdd,Nat.reduceSub,qO,Array.replicate_zero,jK,q8,List.nil_append,List.cons_append];refine wpIn_wide.2 ?_;go_upto_region 0 with fail;refine zG ?_;refine qH rfl fun K hK=>nD wP rfl (hK _ _ ?_);clear hK K;simp only[Act.put,zQ,zZ,zJ];have RV:=zW (Blk.new w 78 (m5 vE));have KK:=zW (show lN O w (w.alloc (.cells (m5 vE) 78))from lN.of_below (lW w _));have X:=zW (HH.out.step (lW w (.cells (m5 vE) 78)));obtain⟨gb,hgb⟩:∃k,w.heap.size=k:=⟨_,rfl⟩;have AT:=zW (show w.heap.size≤gb by omega);rw[hgb]at RV⊢;clear hgb;generalize World.alloc _ _=w1 at RV KK X⊢;have r1:¬(nn:Int)<0:=zLS;have r2:¬(65535:Int)<(nn:Int):=zLS;go_wp2_with fail;go_loopw [20] (fun i wr=>∃k:Nat,k≤ne∧i=.int .i64 (k:Int)∧lN O w wr∧Mch base O mb n (kyN (l.take k) (s,a)).1 (kyN (l.take k) (s,a)).2 wr∧(kyN (l.take k) (s,a)).2.ks.length=a.ks.length+k∧(kyN (l.take k) (s,a)).1.ex=s.ex∧Blk gb 78 (m5 vE) wr) (fun i _=>ne-(intOf i).toNat)
 case atStart=>exact⟨0,qI _,rfl,KK.out,X.out,rfl,rfl,RV.out⟩
 case round=>
  clear X KK RV HH
  obtain⟨k,hk,rfl,hK,hX,hkl,hex,hR⟩:=hrel
  have KK:=zW hK
  have X:=zW hX
  have FF:=zW (zM hkl hex)
  have RV:=zW hR
  clear hK hX hkl hex hR
  obtain⟨sk,ak,hsa⟩:∃sk ak,kyN (l.take k) (s,a)=(sk,ak):=⟨_,_,rfl⟩
  have SA:=zW hsa
  rw[hsa]at X FF
  clear hsa
  by_cases hlt:k<ne
  ·have il:k<l.length:=by rw[HEV.out.len];exact hlt
   obtain⟨eb,o,rfl,heb,c1,c2,eok⟩:=HEV.out.at_ k il
   obtain⟨e,he⟩:∃e,l[k]=e:=⟨_,rfl⟩
   rw[he]at c1 c2 eok
   have EK:=zW (show l[k]?=some e from by rw[←he];exact zP il)
   have ebO:¬O eb:=HEO.out _ rfl
   have c1:=(KK.out.cell (a:=⟨eb,o+k*2,none⟩) heb ebO).trans c1
   have c2:=(KK.out.cell (a:=⟨eb,o+k*2+1,none⟩) heb ebO).trans c2
   have ki:(k:Int)<(ne:Int):=zLS
   have k100:(k:Int)≤100:=zLS
   have JX:=zW hlt
   clear he il ebO
   have X5:=zW (lW wr (.cells #[.int .i64 e.k,.bool e.d] 44))
   have B5:=zW (Blk.new wr 44 #[.int .i64 e.k,.bool e.d])
   go_upto_region 6 with fail
   have X:=zW (X.out.step X5.out)
   have RV:=zW (RV.out.step X5.out)
   have KK:=zW (KK.out.trans (lN.of_below (O:=fun _=>False) X5.out) fun _ c=>c.elim)
   obtain⟨g5,hg5⟩:∃g,wr.heap.size=g:=⟨_,rfl⟩
   rw[hg5]at B5⊢
   clear hg5 X5 c1 c2
   generalize World.alloc _ _=w5 at X RV KK B5⊢
   have c1:w5.cell? ⟨g5,0,none⟩=some (.int .i64 e.k):=(B5.out.cell 0).trans rfl
   have c2:w5.cell? ⟨g5,1,none⟩=some (.bool e.d):=(B5.out.cell 1).trans rfl
   go_wp2_with fail
   refine(zQC X.out e (by rw[FF.out.1];have:=HX.out.2.2.1;have:=JX.out;omega)).mono ?_
   rintro x w6 ⟨rfl,X6,K6⟩
   have RV:=zW (show Blk gb 78 (m5 vE) w6 from(K6.block gb RV.out.lt (X.out.off RV.out ⟨by decide,by decide,by decide,by decide,by decide,by decide,by decide⟩)).trans RV.out)
   have KK:=zW (KK.out.trans K6 nS.refl)
   have X:=zW X6
   clear X6 K6 c1 c2
   go_wp2
   go_roundw
   case rel=>exact⟨k+1,JX.out,by go_num,KK.out,by rw[JU l _ k e EK.out,SA.out];exact X.out,by rw[JU l _ k e EK.out,SA.out];simp only;rw[ky_ks,FF.out.1];omega,by rw[JU l _ k e EK.out,SA.out];simp only;rw[ky_ex,FF.out.2],RV.out⟩
   case measure=>have:=JX.out;simp[intOf];omega
  ·have ki:¬(k:Int)<(ne:Int):=zLS
   have EK:=(show(sk,ak)=(sy,ay)from by rw[←SA.out,←HY.out,qR (by rw[HEV.out.len];omega)])
   injection EK with e1 e2
   subst e1 e2
   go_wp2_with fail
   refine(MK mb (nn:Int) wr).mono ?_
   rintro x w8 ⟨rfl,hw8⟩
   have BM:=zW (show Blk wr.heap.size 29 #[.pointer (some ⟨mb,0,none⟩)] w8 from hw8▸(Blk.new wr 29 #[.pointer (some ⟨mb,0,none⟩)]).alloc _)
   have BI:=zW (show Blk (wr.heap.size+1) 3 #[.int .i64 (nn:Int)] w8 from by
    have h:=Blk.new (wr.alloc (.cells #[.pointer (some ⟨mb,0,none⟩)] 29)) 3 #[.int .i64 (nn:Int)];rw[zT,←hw8]at h;exact h)
   have b8:Below wr.heap.size wr w8:=by rw[hw8];exact((zB _ _).alloc (zH _) _).alloc zLO _
   have X:=zW (X.out.step b8)
   have RV:=zW (RV.out.step b8)
   have KK:=zW (KK.out.trans (lN.of_below (O:=fun _=>False) b8) fun _ c=>c.elim)
   clear hw8 b8
   generalize wr.heap.size=g8 at BM BI⊢
   go_wp2_with fail
   refine dX (gf:=63) (lb:=#[.pointer (some ⟨g8+1,0,none⟩),.pointer (some ⟨g8,0,none⟩)]) rfl (enters_of Tryz.func63 zLE rfl) rfl ?_ ?_ (FrR base O w w8 mb (n+nn) gb sf af) ?_ ?_
   ·intro l' W K hK
    gi_wp2
    exact hK
   ·intro l' W
    gi_wp2
    all_goals exact⟨rfl,rfl⟩
   ·intro l' o W1 hoc hl hW1 hY
    have b1:Below w8.heap.size w8 W1:=by rw[hW1];exact((zB _ _).alloc (zH _) _).alloc zLO _
    have sz1:W1.heap.size=w8.heap.size+2:=by rw[hW1];simp
    have hl1:W1.heap[l']?=some o:=by
     rw[hW1,hl];have h:=World.alloc_heap_new (w8.alloc (.deferred (some []))) o;rwa [zT]at h
    have hd1:W1.heap[w8.heap.size]?=some (.deferred (some [])):=by
     rw[hW1];exact(Below.heap_alloc _ _ _ zLO).trans (World.alloc_heap_new w8 _)
    have K1:=KK.out.trans (lN.of_below (O:=fun _=>False) b1) fun _ c=>c.elim
    have sw:=KK.out.size
    have nO:∀j,w8.heap.size≤j→¬O j:=fun j hj c=>by have:=OLT.out _ c;omega
    have X1:=X.out.step b1
    refine(EW N HS.out l' o hoc hY X1 (HL.out W1 K1) HBB.out nn (g8+1) g8 (BI.out.step b1) (BM.out.step b1) hl1 (nO _ zLS) (by rw[FF.out.2];exact HX.out.1) HX.out.2.1 hnn).mono ?_
    rintro e W' ⟨hv,hl2,O',X2,K2,G2⟩
    rw[HF.out]at X2
    refine⟨hv,hl2,⟨O',X2,fun j hj=>(G2 j hj).imp id fun h=>by omega,fun c=>(G2 _ c).elim (nO _ zLS) fun h=>by omega,fun c=>(G2 _ c).elim (nO _ zLS) fun h=>by omega⟩,K1.trans K2 nS.refl,?_,⟨o,by rw[←hl];exact hl2,hoc⟩,?_⟩
    ·exact(K2.block gb (RV.out.step b1).lt (X1.off (RV.out.step b1) ⟨by decide,by decide,by decide,by decide,by decide,by decide,by decide⟩)).trans (RV.out.step b1)
    ·exact(K2.block _ zLS (nO _ (zH _))).trans hd1
   ·intro W o hR
    obtain⟨⟨O',X2,G2,n1,n2⟩,k2,r2,⟨o',hl2,hoc2⟩,hd2⟩:=hR
    have gl:=RV.out.lt
    have sw:=KK.out.size
    have X:=zW (X2.keep (eG (l:=w8.heap.size+1) (o:=o)) (fun j hj e=>n1 (e▸hj)) (fun j e cs fr c=>by rw[e,hl2]at c;injection c with c;rw[c]at hoc2;cases hoc2))
    have RV:=zW (show Blk gb 78 (m5 vE) (W.putObj (w8.heap.size+1) o)from(jX zLS).trans r2)
    have KK:=zW (k2.trans (eG (l:=w8.heap.size+1) (o:=o)) fun j e=> .inr zLS)
    have HD:=zW (show(W.putObj (w8.heap.size+1) o).heap[w8.heap.size]?=some (.deferred (some []))from(jX zLS).trans hd2)
    have GG:=zW (zM G2 n2)
    have DW:=zW (show w.heap.size≤w8.heap.size∧gb<w8.heap.size from⟨sw,gl⟩)
    clear X2 G2 n1 n2 k2 r2 hl2 hoc2 hd2 gl sw BM BI
    generalize w8.heap.size=D at*
    generalize W.putObj _ _=w9 at*
    go_wp2_with fail
    refine(gV N HC.out X.out (HL.out _ KK.out)).mono ?_
    rintro e wa ⟨rfl,ba⟩
    have X:=zW (X.out.step ba)
    have RV:=zW (RV.out.step ba)
    have HD:=zW ((ba.block D (qK.1 HD.out).1).trans HD.out)
    have KK:=zW (KK.out.trans (lN.of_below (O:=fun _=>False) ba) fun _ c=>c.elim)
    clear ba
    obtain⟨C,hC⟩:∃C,m5 (cG sf af)=C:=⟨_,rfl⟩
    have CE:=zW (show C.size=535∧nU C∧m5 (cG sf af)=C from by rw[←hC];exact⟨nJ _,wV _,rfl⟩)
    rw[hC]
    clear hC
    simp only[]
    go_at_K
    iterate 1 go_step
    refine mT (ds:=C) uK wP (nJ _) CE.out.1 CE.out.2.1 rfl rfl rfl (.tmp 10) (.tmp 32) rfl zLP zLP ?_
    simp only[Act.put,zQ,zZ,zJ]
    have R10:=zW (Blk.new wa 78 C)
    have ba:=lW wa (.cells C 78)
    have X:=zW (X.out.step ba)
    have RV:=zW (RV.out.step ba)
    have HD:=zW ((ba.block D (qK.1 HD.out).1).trans HD.out)
    have KK:=zW (KK.out.trans (lN.of_below (O:=fun _=>False) ba) fun _ c=>c.elim)
    clear ba
    obtain⟨g10,hg⟩:∃q,wa.heap.size=q:=⟨_,rfl⟩
    rw[hg]at R10⊢
    clear hg
    generalize World.alloc _ _=wb at X RV HD KK R10⊢
    go_wp2_with fail
    refine(PI X.out).mono ?_
    rintro e wc ⟨rfl,Xc,Kc⟩
    have RV:=zW (show Blk gb 78 (m5 vE) wc from(Kc.block gb RV.out.lt (X.out.off RV.out ⟨by decide,by decide,by decide,by decide,by decide,by decide,by decide⟩)).trans RV.out)
    have R10:=zW (show Blk g10 78 C wc from(Kc.block g10 R10.out.lt (X.out.off R10.out ⟨by decide,by decide,by decide,by decide,by decide,by decide,by decide⟩)).trans R10.out)
    have HD:=zW ((Kc.block D (qK.1 HD.out).1 GG.out.2).trans HD.out)
    have KK:=zW (KK.out.trans Kc GG.out.1)
    have X:=zW Xc
    clear Xc Kc
    go_upto_region 11 with fail
    refine zG ?_
    refine kO uK R10.out CE.out.1 rfl (.tmp 10) rfl rfl ?_
    simp only[Act.put,zQ,zZ,zJ]
    refine kU (ds:=C) uK RV.out (nJ _) CE.out.1 CE.out.2.1 rfl (.tmp 6) (.tmp 35) rfl rfl rfl ?_
    simp only[Act.put,zQ,zZ,zJ]
    have RW:=zW (RV.out.store C)
    have XW:=zW (X.out.keep (wN (b:=gb) (cs:=C)) (fun j hj e=>X.out.off RV.out ⟨by decide,by decide,by decide,by decide,by decide,by decide,by decide⟩ (e▸hj)) (fun j e=>e▸KR RV.out zLA))
    have KW:=zW (KK.out.trans (wN (b:=gb) (cs:=C) (w:=wc)) fun j e=> .inr (e▸AT.out))
    have HD:=zW (show(wc.setRow gb C).heap[D]?=some (.deferred (some []))from(zO _ _ _ _ (by have:=DW.out.2;omega)).trans HD.out)
    generalize World.setRow _ _ _=wd at RW XW KW HD⊢
    go_wp2_with fail
    iterate 6 (try go_step)
    refine⟨by simp,.inl ⟨_,_,rfl,run_takeDeferred HD.out,?_⟩⟩
    refine⟨_,mU rfl _ _ gb _ _ _ (.int .i64 0) rfl rfl ((jX (by have:=DW.out.2;omega)).trans RW.out) uK CE.out.1,by rw[CE.out.2.2],O',?_,KW.out.trans (eG (l:=D)) fun j e=> .inr (by have:=DW.out.1;omega),GG.out.1⟩
    exact XW.out.keep (eG (l:=D)) (fun j hj e=>GG.out.2 (e▸hj)) (fun j e cs fr c=>by rw[e,HD.out]at c;cases c)
end
section
open Go.RowKit Num Dec Cpu
def R21:List Int:=[97,2,241,24,241,21,18,6]
theorem YG:Bts R21:=by
 unfold R21;exact uR zLA (uR zLA (uR zLA (uR zLA (uR zLA (uR zLA (uR zLA (uR zLA DY)))))))
def dD:AS:=uG R21 []
def fB:AS:={dD with v:=Cpu.upd (fun _=>0) 1 2,pc:=514}
def fG:AS:={fB with sd:=2,pc:=516}
def fH:AS:={fG with dl:=2,pc:=518}
def e21:Ev:=⟨3,true⟩
def tN:AS:={u6 fH with ks:=[e21]}
def s21(k:Int):mB:=⟨tU,0,0,0,0,0,k⟩
theorem dec21a(b2 b3:Nat):dec 97 2 b2 b3 1=⟨8,1,0,0,2,0,2⟩:=rfl
theorem dec21b(b2 b3:Nat):dec 241 24 b2 b3 1=⟨29,1,0,0,0,0,2⟩:=rfl
theorem dec21c(b2 b3:Nat):dec 241 21 b2 b3 1=⟨28,1,0,0,0,0,2⟩:=rfl
theorem dec21d(b2 b3:Nat):dec 18 6 b2 b3 1=⟨3,0,0,0,0,518,2⟩:=rfl
theorem zZY:yA (s21 0) dD=⟨8,1,0,0,2,0,2⟩:=aQ R21 zLA YG 0 97 2 rfl rfl 1 _ dec21a
theorem zLX:okM (s21 0) dD=true:=rfl
theorem zLM:efM (s21 0) dD=⟨0,false,false,false⟩:=by
 unfold efM;rw[zN zLX,zZY];show efA dD 8 1 0 0 tU=_;unfold efA;rw[show caA dD 8 1 0 0 tU=0 from rfl];rfl
theorem nm21a:nmM (s21 0) dD=s21 1:=by
 unfold nmM;rw[zN (show(s21 0).k=0 from rfl),zLM];rfl
theorem st21a(N:Nat):vL N (s21 0) dD=fB:=by
 unfold vL asM;rw[zN (show(s21 0).k=0 from rfl),zN zLX,zZY];show stA N dD 8 1 0 0 2 0 2 tU=_;unfold stA;rw[show caA dD 8 1 0 0 tU=0 from rfl];rfl
theorem dr21a:xM (s21 0) dD=false:=by unfold xM;rw[zLM];rfl
theorem zZW:yA (s21 1) fB=⟨29,1,0,0,0,0,2⟩:=aQ R21 zLA YG 2 241 24 rfl rfl 1 _ dec21b
theorem zLJ:okM (s21 1) fB=true:=rfl
theorem zLL:efM (s21 1) fB=⟨0,false,false,false⟩:=by
 unfold efM;rw[zN zLJ,zZW];show efA fB 29 1 0 0 tU=_;unfold efA;rw[show caA fB 29 1 0 0 tU=0 from rfl];rfl
theorem nm21b:nmM (s21 1) fB=s21 2:=by
 unfold nmM;rw[zN (show(s21 1).k=0 from rfl),zLL];rfl
theorem st21b(N:Nat):vL N (s21 1) fB=fG:=by
 unfold vL asM;rw[zN (show(s21 1).k=0 from rfl),zN zLJ,zZW];show stA N fB 29 1 0 0 0 0 2 tU=_;unfold stA;rw[show caA fB 29 1 0 0 tU=0 from rfl];rfl
theorem dr21b:xM (s21 1) fB=false:=by unfold xM;rw[zLL];rfl
theorem zZV:yA (s21 2) fG=⟨28,1,0,0,0,0,2⟩:=aQ R21 zLA YG 4 241 21 rfl rfl 1 _ dec21c
theorem zLZ:okM (s21 2) fG=true:=rfl
theorem zLY:efM (s21 2) fG=⟨0,false,false,false⟩:=by
 unfold efM;rw[zN zLZ,zZV];show efA fG 28 1 0 0 tU=_;unfold efA;rw[show caA fG 28 1 0 0 tU=0 from rfl];rfl
theorem nm21c:nmM (s21 2) fG=s21 3:=by
 unfold nmM;rw[zN (show(s21 2).k=0 from rfl),zLY];rfl
theorem st21c(N:Nat):vL N (s21 2) fG=fH:=by
 unfold vL asM;rw[zN (show(s21 2).k=0 from rfl),zN zLZ,zZV];show stA N fG 28 1 0 0 0 0 2 tU=_;unfold stA;rw[show caA fG 28 1 0 0 tU=0 from rfl];rfl
theorem dr21c:xM (s21 2) fG=false:=by unfold xM;rw[zLY];rfl
theorem zZK:yA (s21 3) tN=⟨3,0,0,0,0,518,2⟩:=aQ R21 zLA YG 6 18 6 rfl rfl 1 _ dec21d
theorem zLQ:okM (s21 3) tN=true:=rfl
theorem zLW:efM (s21 3) tN=⟨0,false,false,false⟩:=by
 unfold efM;rw[zN zLQ,zZK];show efA tN 3 0 0 0 tU=_;unfold efA;rw[show caA tN 3 0 0 0 tU=0 from rfl];rfl
theorem nm21d:nmM (s21 3) tN=s21 4:=by
 unfold nmM;rw[zN (show(s21 3).k=0 from rfl),zLW];rfl
theorem st21d(N:Nat):vL N (s21 3) tN=tN:=by
 unfold vL asM;rw[zN (show(s21 3).k=0 from rfl),zN zLQ,zZK];show stA N tN 3 0 0 0 0 518 2 tU=_;unfold stA;rw[show caA tN 3 0 0 0 tU=0 from rfl];rfl
theorem dr21d:xM (s21 3) tN=false:=by unfold xM;rw[zLW];rfl
theorem fr21a(N:Nat):frN N 3 (s21 0) dD=(s21 3,fH):=by
 unfold frN;rw[zL zLA,zL (by rw[dr21a];decide),nm21a,st21a];unfold frN;rw[zL zLA,zL (by rw[dr21b];decide),nm21b,st21b];unfold frN;rw[zL zLA,zL (by rw[dr21c];decide),nm21c,st21c];rfl
theorem fr21d(N:Nat):frN N 1 (s21 3) tN=(s21 4,tN):=by
 unfold frN;rw[zL zLA,zL (by rw[dr21d];decide),nm21d,st21d];rfl
theorem ky21:kyN [e21] (s21 3,u6 fH)=(s21 3,tN):=by
 have h:rlM (s21 3) (u6 fH) e21=false:=zLA;show(gM (s21 3) (u6 fH) e21,tI (s21 3) (u6 fH) e21)=_;unfold gM tI;rw[h];rfl
theorem WC(N:Nat)(CS:xP N){base:Nat}{O:Nat→Prop}{mb n:Nat}{s:mB}{a:AS}{w:World}(H:Mch base O mb n s a w)(L:xX w)(h0:a.dl=0∧a.sd=0)(nn:Nat)(hn:nn≤1000):
  Calls Tryz.prog 42 #[.pointer (some ⟨mb,0,none⟩),.int .i64 (nn:Int)] w fun e w'=>e=.returned (.int .i64 0)∧Below w.heap.size w w':=by
 have X:=zW H;have SP:=zW (wM N CS H L);have Z:=zW h0;have LF:=zW (fun u=>zQ6 0 0 u zLA zLA zLA zLA);have hm:min (nn:Int) 0=0:=zLS;clear H CS L h0;go_enter Tryz.func42,Tryz.ntmps42;go_wp2_with fail;refine SP.out.mono ?_;rintro e w2 ⟨bs,ms,gs,vs,rfl,rc,b2⟩;have S:=zW rc;have BB:=zW b2;clear rc b2;go_upto_region 5 with fail;refine zG ?_;iterate 12 go_step
 refine nA (o:=566) bF S.out.st zL1 rfl (.tmp 16) rfl rfl ?_;rw[d8,Z.out.1,Z.out.2];simp only[Act.put,zQ,zZ,zJ];go_wp2_with fail;refine(LF.out _).mono ?_;rintro e w3 ⟨rfl,b3⟩;have BB:=zW (BB.out.trans (b3.mono BB.out.size));clear b3;go_wp2_with fail;go_loopw [6,20] (fun j i wr=>j=.int .i64 0∧i=.int .i64 0∧wr=w3) (fun _ _ _=>0)
 case atStart=>exact⟨rfl,rfl,rfl⟩
 case round=>
  obtain⟨rfl,rfl,rfl⟩:=hrel
  go_wp2
  go_returns
  exact⟨rfl,BB.out⟩
theorem MP.lower{base base2 mb b m g p mp h k:Nat}{pg:Nat→Option Nat}{v:Value}{en:Bool}{l:m6}{s:mB}{a:AS}{w:World}(H:MP base mb b m g p mp pg v en l h k s a w)(hb:base2≤base):MP base2 mb b m g p mp pg v en l h k s a w:=
 ⟨H.bk,H.rc.down hb,H.co,H.fl,H.ok,zR hb H.low.1,zR hb H.low.2.1,fun j hj=>zR hb (H.low.2.2 j hj)⟩
theorem Mch.lower{base base2:Nat}{O:Nat→Prop}{mb n:Nat}{s:mB}{a:AS}{w:World}(H:Mch base O mb n s a w)(hb:base2≤base):Mch base2 O mb n s a w:=by
 obtain⟨b,m,g,p,mp,pg,v,en,l,h,k,H,r⟩:=H;exact⟨b,m,g,p,mp,pg,v,en,l,h,k,H.lower hb,r⟩
theorem pW(N:Nat)(CS:xP N){A B:Option Addr}{n c k d:Nat}{R L:List Int}{q:Pr}{w:World}(LW:xX w)(hA:Rd w A R)(hn:R.length=n)(n1:n≤65024)(hB:Rd w B L)(hk:L.length=k)(k1:k≤100000)(hR:Bts R)(hL:Bts L)(hq:1≤q.lv∧q.lv≤3):
  Calls Tryz.prog 23 #[.slice A n c,.slice B k d,.agg (prc q)] w fun e w'=>∃mb O,e=.returned (.pointer (some ⟨mb,0,none⟩))∧Mch w.heap.size O mb 0 (J1 q) (uG R L) w'∧Below w.heap.size w w':=by
 have CC:=zW CS;have NW:=zW (fun u (bu:Below w.heap.size w u)=>newE N CS (A:=A) (B:=B) (FA:=none) (n:=n) (c:=c) (k:=k) (d:=d) (fn:=0) (fc:=0) (F:=[]) (q:=q) (en:=true) (w:=u) (LW.step bu) (hA.below bu) hn n1 (hB.below bu) hk k1 hR hL (Fls.nil _ _) rfl hq);have LL:=zW LW;clear CS LW hA hn n1 hB hk k1 hR hL hq;obtain⟨P,hP⟩:∃P,prc q=P:=⟨_,rfl⟩;have sP:P.size=8:=by rw[←hP];rfl
 rw[hP];have EP:=zW hP;clear hP;go_enter Tryz.func23,Tryz.ntmps23;go_upto_region 0 with fail;refine zG ?_;refine lU rfl _ (.tmp 2) rfl P rfl ?_;simp only[Act.put,zQ,zZ,zJ];have K1:=zW (Blk.new w 24 P);have BB:=zW (lW w (.cells P 24));obtain⟨g0,hg0⟩:∃g,w.heap.size=g:=⟨_,rfl⟩;rw[hg0]at K1⊢;clear hg0;generalize World.alloc w _=w1 at K1 BB⊢;go_upto_region 1 with fail;refine zG ?_;iterate 6 go_step
 refine kO dZ K1.out sP rfl (.tmp 5) rfl rfl ?_;simp only[Act.put,zQ,zZ,zJ];rw[←EP.out];refine mQ (cs:=cfC (.slice A n c) (.slice B k d) (.slice none 0 0) q true) rfl rfl (by simp[Act.eval];exact CU _ _ q true ⟨A,n,c,rfl⟩ ⟨B,k,d,rfl⟩) ?_;simp only[Act.put,zQ,zZ,zJ];rw[EP.out];go_wp2_with fail;refine(NW.out _ BB.out).mono ?_;rintro e w2 ⟨mb,O,rfl,X,b2⟩;have SZ:=zW BB.out.size;have X:=zW X.mch;have BB:=zW (BB.out.trans (b2.mono BB.out.size));clear b2 NW;go_wp2_with fail;refine(wM N CC.out X.out (LL.out.step BB.out)).mono ?_;rintro e w3 ⟨bs,ms,gs,vs,rfl,rc,b3⟩;have X:=zW (X.out.step b3);have BB:=zW (BB.out.trans (b3.mono BB.out.size));have s35:w3.cell? ⟨bs,35,none⟩=some (.pointer (some ⟨ms,0,none⟩)):=(rc.st.cell 35).trans (mK _ ms gs zLS);have s601:w3.cell? ⟨bs,601,none⟩=some (.pointer (some ⟨gs,0,none⟩)):=(rc.st.cell 601).trans (mK _ ms gs zLS);have s17:w3.cell? ⟨bs,17,none⟩=some (.int .i64 512):=(rc.st.cell 17).trans ((mK _ ms gs (j:=17) zLS).trans rfl);clear rc b3;go_wp2;go_returns;exact⟨mb,O,rfl,X.out.lower SZ.out,BB.out⟩
theorem aZ(w:World):Evs w none 0 []:=⟨rfl,qI _,fun i hi=>absurd hi (Nat.not_lt_zero i)⟩
theorem zWA{g:Nat}{w:World}(H:Blk g 44 #[.int .i64 3,.bool true] w):Evs w (some ⟨g,0,none⟩) 1 [e21]:=⟨rfl,by unfold maxLen;decide,fun i hi=>by
 obtain rfl:i=0:=by simpa using hi
 exact⟨g,0,rfl,H.lt,(H.cell 0).trans rfl,(H.cell 1).trans rfl,⟨by show(-9223372036854775808:Int)≤3;decide,by show(3:Int)≤9223372036854775807;decide⟩⟩⟩
def sT:AS:=u6 tN
theorem zYW(N:Nat)(CS:xP N)(E0:gP N)(w:World)(hL:xX w):Calls Tryz.prog 21 #[] w fun e w'=>e=.returned (.bool true)∧Below w.heap.size w w':=by
 have CC:=zW CS;have EE:=zW E0;have LL:=zW hL;clear CS E0 hL;go_enter Tryz.func21,Tryz.ntmps21;go_wp2_with fail;obtain⟨w1,hw1⟩:∃w1,w.alloc (.cells #[.int .u8 97,.int .u8 2,.int .u8 241,.int .u8 24,.int .u8 241,.int .u8 21,.int .u8 18,.int .u8 6] 5)=w1:=⟨_,rfl⟩;have R1:=zW (show Rd w1 (some ⟨w.heap.size,0,none⟩) R21 from hw1▸JD (Blk.new w 5 #[.int .u8 97,.int .u8 2,.int .u8 241,.int .u8 24,.int .u8 241,.int .u8 21,.int .u8 18,.int .u8 6]) 0 R21 fun j hj=>by rcases j with _|_|_|_|_|_|_|_|j;rfl;rfl;rfl;rfl;rfl;rfl;rfl;rfl;exact absurd hj (by unfold R21;simp));have BB:=zW (show Below w.heap.size w w1 from hw1▸lW w _);rw[hw1];clear hw1;refine(pW N CC.out (q:=tU) (LL.out.step BB.out) R1.out rfl zLA Rd.nil rfl zLA YG DY zLA).mono ?_;rintro e w2 ⟨mb,O,rfl,X,b2⟩;have LB:=zW BB.out.size;have BB:=zW (BB.out.trans (b2.mono BB.out.size));have X:=zW (show Mch w1.heap.size O mb 0 (s21 0) dD w2 from X);have B1:=zW (zF LL.out.lt LB.out);clear b2 R1;generalize w1.heap.size=ba1 at X LB B1;go_wp2_with fail;refine(SM X.out none 0 0 (-1) (.inl zLA)).mono ?_;rintro e w3 ⟨rfl,b3⟩;have X:=zW (X.out.step b3);have BB:=zW (BB.out.trans (b3.mono BB.out.size));clear b3;simp only[];go_at_K
 iterate 10 go_step
 refine mT (ds:=m5 vE) uK wP (nJ _) (nJ _) (wV _) rfl rfl rfl (.tmp 2) (.tmp 19) rfl zLP zLP ?_;simp only[Act.put,zQ,zZ,zJ];have V2:=zW (Blk.new w3 78 (m5 vE));have ba:=lW w3 (.cells (m5 vE) 78);have X:=zW (X.out.step ba);have BB:=zW (BB.out.trans (ba.mono BB.out.size));clear ba;obtain⟨g2,hg⟩:∃q,w3.heap.size=q:=⟨_,rfl⟩;rw[hg]at V2⊢;clear hg;generalize World.alloc _ _=w4 at X BB V2⊢;go_wp2_with fail;refine(show Calls Tryz.prog 25 #[.pointer (some ⟨mb,0,none⟩),.slice none 0 0,.int .i64 3] w4 _ from rT N CC.out EE.out X.out (LL.out.step BB.out) B1.out none 0 0 [] (aZ w4) (fun ad e=>by cases e) zLA 3 zLA zLA zLA zLA).mono ?_;rw[show kyN [] (s21 0,dD)=(s21 0,dD)from rfl];simp only[fr21a];rintro e w5 ⟨rfl,O5,X5,K5,G5⟩;have V2:=zW (show Blk g2 78 (m5 vE) w5 from(K5.block g2 V2.out.lt (X.out.off V2.out ⟨by decide,by decide,by decide,by decide,by decide,by decide,by decide⟩)).trans V2.out);have BB:=zW (BB.out.trans (X.out.below LB.out K5));have X:=zW X5;clear X5 K5 G5;simp only[];go_at_K
 iterate 10 go_step
 refine mT (ds:=m5 (cG (s21 3) fH)) uK wP (nJ _) (nJ _) (wV _) rfl rfl rfl (.tmp 4) (.tmp 24) rfl zLP zLP ?_;simp only[Act.put,zQ,zZ,zJ];have V4:=zW (Blk.new w5 78 (m5 (cG (s21 3) fH)));have ba:=lW w5 (.cells (m5 (cG (s21 3) fH)) 78);have X:=zW (X.out.step ba);have V2:=zW (V2.out.step ba);have BB:=zW (BB.out.trans (ba.mono BB.out.size));clear ba;obtain⟨g4,hg⟩:∃q,w5.heap.size=q:=⟨_,rfl⟩;rw[hg]at V4⊢;clear hg;generalize World.alloc _ _=w6 at X BB V4 V2⊢;go_wp2_with fail;obtain⟨w7,hw7⟩:∃w7,w6.alloc (.cells #[.int .i64 3,.bool true] 44)=w7:=⟨_,rfl⟩;have EV:=zW (show Blk w6.heap.size 44 #[.int .i64 3,.bool true] w7 from hw7▸Blk.new w6 _ _);have b7:Below w6.heap.size w6 w7:=hw7▸lW w6 _;have X:=zW (X.out.step b7);have V2:=zW (V2.out.step b7);have V4:=zW (V4.out.step b7);have BB:=zW (BB.out.trans (b7.mono BB.out.size));rw[hw7];clear hw7 b7;refine(show Calls Tryz.prog 25 #[.pointer (some ⟨mb,0,none⟩),.slice (some ⟨w6.heap.size,0,none⟩) 1 1,.int .i64 1] w7 _ from rT N CC.out EE.out X.out (LL.out.step BB.out) B1.out (some ⟨w6.heap.size,0,none⟩) 1 1 [e21] (zWA EV.out) (fun ad e=>by cases e;exact X.out.off EV.out ⟨by decide,by decide,by decide,by decide,by decide,by decide,by decide⟩) zLA 1 zLA zLA zLA zLA).mono ?_;rw[ky21];simp only[fr21d];rintro e w8 ⟨rfl,O8,X8,K8,G8⟩;have V2:=zW (show Blk g2 78 (m5 vE) w8 from(K8.block g2 V2.out.lt (X.out.off V2.out ⟨by decide,by decide,by decide,by decide,by decide,by decide,by decide⟩)).trans V2.out);have V4:=zW (show Blk g4 78 (m5 (cG (s21 3) fH)) w8 from(K8.block g4 V4.out.lt (X.out.off V4.out ⟨by decide,by decide,by decide,by decide,by decide,by decide,by decide⟩)).trans V4.out);have BB:=zW (BB.out.trans (X.out.below LB.out K8));have X:=zW (show Mch ba1 O8 mb _ (s21 4) sT w8 from X8);clear X8 K8 G8 EV;simp only[];go_at_K
 iterate 10 go_step
 refine mT (ds:=m5 (cG (s21 4) tN)) uK wP (nJ _) (nJ _) (wV _) rfl rfl rfl (.tmp 6) (.tmp 31) rfl zLP zLP ?_;simp only[Act.put,zQ,zZ,zJ];have V6:=zW (Blk.new w8 78 (m5 (cG (s21 4) tN)));have ba:=lW w8 (.cells (m5 (cG (s21 4) tN)) 78);have X:=zW (X.out.step ba);have V2:=zW (V2.out.step ba);have V4:=zW (V4.out.step ba);have BB:=zW (BB.out.trans (ba.mono BB.out.size));clear ba;obtain⟨g6,hg⟩:∃q,w8.heap.size=q:=⟨_,rfl⟩;rw[hg]at V6⊢;clear hg;generalize World.alloc _ _=w9 at X BB V6 V2 V4⊢;go_wp2_with fail;refine(show Calls Tryz.prog 25 #[.pointer (some ⟨mb,0,none⟩),.slice none 0 0,.int .i64 0] w9 _ from rT N CC.out EE.out X.out (LL.out.step BB.out) B1.out none 0 0 [] (aZ w9) (fun ad e=>by cases e) zLA 0 zLA zLA zLA zLA).mono ?_;rw[show kyN [] (s21 4,sT)=(s21 4,sT)from rfl];simp only[show∀N,frN N 0 (s21 4) sT=(s21 4,sT)from fun _=>rfl];rintro e wa ⟨rfl,Oa,Xa,Ka,Ga⟩;have V2:=zW (show Blk g2 78 (m5 vE) wa from(Ka.block g2 V2.out.lt (X.out.off V2.out ⟨by decide,by decide,by decide,by decide,by decide,by decide,by decide⟩)).trans V2.out);have V4:=zW (show Blk g4 78 (m5 (cG (s21 3) fH)) wa from(Ka.block g4 V4.out.lt (X.out.off V4.out ⟨by decide,by decide,by decide,by decide,by decide,by decide,by decide⟩)).trans V4.out);have V6:=zW (show Blk g6 78 (m5 (cG (s21 4) tN)) wa from(Ka.block g6 V6.out.lt (X.out.off V6.out ⟨by decide,by decide,by decide,by decide,by decide,by decide,by decide⟩)).trans V6.out);have BB:=zW (BB.out.trans (X.out.below LB.out Ka));have X:=zW (show Mch ba1 Oa mb _ (s21 4) sT wa from Xa);clear Xa Ka Ga;simp only[];go_at_K
 iterate 10 go_step
 refine mT (ds:=m5 (cG (s21 4) sT)) uK wP (nJ _) (nJ _) (wV _) rfl rfl rfl (.tmp 8) (.tmp 36) rfl zLP zLP ?_;simp only[Act.put,zQ,zZ,zJ];have V8:=zW (Blk.new wa 78 (m5 (cG (s21 4) sT)));have ba:=lW wa (.cells (m5 (cG (s21 4) sT)) 78);have X:=zW (X.out.step ba);have V2:=zW (V2.out.step ba);have V4:=zW (V4.out.step ba);have V6:=zW (V6.out.step ba);have BB:=zW (BB.out.trans (ba.mono BB.out.size));clear ba;obtain⟨g8,hg⟩:∃q,wa.heap.size=q:=⟨_,rfl⟩;rw[hg]at V8⊢;clear hg;generalize World.alloc _ _=wb at X BB V8 V2 V4 V6⊢;go_wp2_with fail;refine(wM N CC.out X.out (LL.out.step BB.out)).mono ?_;rintro e wc ⟨bs,ms,gs,vs,rfl,rc,bc⟩;have S:=zW rc;have X:=zW (X.out.step bc);have V4:=zW (V4.out.step bc);have V6:=zW (V6.out.step bc);have V8:=zW (V8.out.step bc);have BB:=zW (BB.out.trans (bc.mono BB.out.size));clear rc bc V2;go_upto_region 11 with fail;have CV:=zW (lY V8.out);have CT:=zW (lY S.out.st);have k1:=lH.cell (show wc.cell? ⟨g4,513,none⟩=some (.bool true)from(V4.out.cell 513).trans ((wW _ zLS).trans rfl)) V4.out.lt;have k2:=lH.cell (show wc.cell? ⟨g6,513,none⟩=some (.bool true)from(V6.out.cell 513).trans ((wW _ zLS).trans rfl)) V6.out.lt;have k3:=lH.cell (show wc.cell? ⟨g8,513,none⟩=some (.bool false)from(V8.out.cell 513).trans ((wW _ zLS).trans rfl)) V8.out.lt;have k4:=lH.cell (show wc.cell? ⟨g4,530,none⟩=some (.int .u8 64)from(V4.out.cell 530).trans ((wW _ zLS).trans rfl)) V4.out.lt;have k5:=lH.cell (show wc.cell? ⟨bs,553,none⟩=some (.bool true)from(S.out.st.cell 553).trans ((f7 (QO sT ms gs) (j:=3) zLS).trans ((dR _ _ zLS).trans (by congr 1)))) S.out.st.lt;have k6:=lH.cell (show wc.cell? ⟨bs,17,none⟩=some (.int .i64 518)from(S.out.st.cell 17).trans ((mK _ ms gs (j:=17) zLS).trans rfl)) S.out.st.lt;have MO:=zW (fun x:lH wc=>gV N CC.out (X.out.step x.below) ((LL.out.step BB.out).step x.below));have MI:=zW (fun x:lH wc=>show Calls Tryz.prog 42 #[.pointer (some ⟨mb,0,none⟩),.int .i64 5] x.w _ from WC N CC.out (X.out.step x.below) ((LL.out.step BB.out).step x.below) ⟨rfl,rfl⟩ 5 zLA);refine mE zLE zLE ?_;simp only[List.append_eq,List.cons_append,List.nil_append];iterate 50 (go_big_quiet_step ((first|(go_at_call 24;exact mZ (MO.out _))|(go_at_call 42;exact mZ (MI.out _)))))
 refine mX uK CV.out (nJ _) rfl (.tmp 8) rfl zL0 ?_;simp only[Act.put,zQ,zZ,zJ];refine hE (cG (s21 4) sT) rfl (.tmp 91) (.tmp 92) _ rfl zL0 zL0 ?_;simp only[Act.put,zQ,zZ,zJ];iterate 10 (go_big_quiet_step ((first|(go_at_call 24;exact mZ (MO.out _))|(go_at_call 42;exact mZ (MI.out _)))))
 refine lV (o:=566) bF CT.out zL1 rfl (.tmp 103) rfl zL0 ?_;rw[d8,show sT.dl=0 from rfl,show sT.sd=0 from rfl];simp only[Act.put,zQ,zZ,zJ];iterate 4 (go_big_quiet_step ((first|(go_at_call 24;exact mZ (MO.out _))|(go_at_call 42;exact mZ (MI.out _)))))
 refine zY ?_;intro _ hw';obtain⟨x,rfl⟩:=hw';go_wp2;go_returns;exact⟨rfl,BB.out.trans (x.below.mono BB.out.size)⟩
section
variable {ops:Array Oper} {C:World→Prop} {Q:Act→Prop} {o:Oper} {rest:List Oper} {ac:Act}
end
theorem AH(A B:Option Addr)(n c k d:Nat)(hn:n≤maxLen)(hk:k≤maxLen)(w:World):
  Calls Tryz.prog 22 #[.slice A n c,.slice B k d,.slice none 0 0] w fun e w'=>e=.returned (.bool (zWC n k))∧w=w':=by
 have n1:(n:Int)≤9223372036854775807:=by unfold maxLen at hn;omega
 have k1:(k:Int)≤9223372036854775807:=by unfold maxLen at hk;omega
 unfold zWC;clear hn hk;rcases(show n≤2000∨¬n≤2000 by omega)with hn|hn
 ·rw[qJ hn];have hnI:(n:Int)≤2000:=zLS;rcases(show k≤100∨¬k≤100 by omega)with hk|hk
  ·rw[qJ hk];have hkI:(k:Int)≤100:=zLS;exact zM8
  ·rw[zU hk];have hkI:¬(k:Int)≤100:=zLS;exact zM8
 ·rw[zU hn];have hnI:¬(n:Int)≤2000:=zLS;exact zM8
section
variable {ops:Array Oper} {C:World→Prop} {Q:Act→Prop} {o:Oper} {rest:List Oper} {ac:Act}
end
def itN(N:Nat):Nat→mB×AS→mB×AS
 |0,x=>x
 |k+1,x=>itN N k (nmM x.1 x.2,vL N x.1 x.2)
theorem rU(N:Nat):∀(k:Nat) (x:mB×AS),itN N (k+1) x=(nmM (itN N k x).1 (itN N k x).2,vL N (itN N k x).1 (itN N k x).2)
 |0,x=>rfl
 |k+1,x=>rU N k (nmM x.1 x.2,vL N x.1 x.2)
theorem zW2(s:mB)(a:AS)(h:s.q.dw=false):xM s a=false:=by
 have he:∀op x y n,(efA a op x y n s.q).drew=false:=fun op x y n=>by
  unfold efA;split
  ·split
   ·rfl
   ·simp[h]
  ·rfl
 unfold xM efM;split
 ·rw[he,Bool.and_false]
 ·rw[Bool.and_false]
theorem W6(N:Nat):∀(k:Nat) (s:mB) (a:AS),s.q.dw=false→frN N k s a=itN N k (s,a)
 |0,s,a,_=>rfl
 |k+1,s,a,h=>by
  unfold frN;by_cases hk:s.k≠0
  ·rw[zN hk];have hi:∀j,itN N j (s,a)=(s,a):=fun j=>by
    induction j with
    |zero=>rfl
    |succ j ih=>
     unfold itN
     rw[(o7 N a hk).1,(o7 N a hk).2.1]
     exact ih
   exact(hi (k+1)).symm
  ·rw[zL hk,zL (by rw[zW2 s a h];decide),W6 N k _ _ (by rw[OS];exact h)];rfl
theorem zLV(N:Nat):∀(k:Nat) (x:mB×AS),(itN N k x).1.q=x.1.q
 |0,x=>rfl
 |k+1,x=>by rw[rU];exact(OS _ _).trans (zLV N k x)
theorem JO(N:Nat):∀(k:Nat) (x:mB×AS),(itN N k x).1.ex≤x.1.ex+(k:Int)
 |0,x=>by show x.1.ex≤x.1.ex+0;omega
 |k+1,x=>by rw[rU];have h1:=JO N k x;have h2:=(BC (itN N k x).1 (itN N k x).2).2;show(nmM _ _).ex≤_;omega
theorem zZQ(N:Nat):∀(k:Nat) (x:mB×AS),(itN N k x).2.ks=x.2.ks
 |0,x=>rfl
 |k+1,x=>by rw[rU];exact(zVQ N _ _).trans (zZQ N k x)
theorem GQ(a:AS)(h1:a.dl=0)(h2:a.sd=0):u6 a=a:=by
 unfold u6;rw[h1,h2];obtain⟨v,i,pc,sk,M,F,hi,msk,ks,dl,sd,P,pt,fl,L,rd⟩:=a;simp only at h1 h2;subst h1 h2;rfl
theorem zero24:nG Tryz.prog 24 (prc H5):=by unfold nG;kernel_rfl
def noDw(q:Pr):Pr:={q with dw:=false}
theorem UC(N:Nat)(CS:xP N)(E0:gP N)(A:Option Addr)(n c:Nat)(R:List Int)(B:Option Addr)(k d:Nat)(L:List Int)(q:Pr)(u:Nat)(w:World)(HA:LD w A n c R)(HB:LD w B k d L)(hu:u<256)(hL:xX w):
  Calls Tryz.prog 6 #[.slice A n c,.slice B k d,.agg (prc q),.int .u8 (u:Int)] w fun e w'=>e=.returned (.bool true)∧Below w.heap.size w w':=by
 have CC:=zW CS;have EE:=zW E0;have LL:=zW hL;have GA:=zW HA;have GB:=zW HB;have AW:=zW (fun w h=>zYW N CS E0 w h);obtain⟨r,hr⟩:∃r,zWC n k=r:=⟨_,rfl⟩;obtain⟨z,hz⟩:∃z,decide (1≤q.lv∧q.lv≤3)=z:=⟨_,rfl⟩;have FW:=zW (fun w=>hr▸AH A B n c k d (zR HA.cap HA.max) (zR HB.cap HB.max) w);have VA:=zW (fun w=>hz▸zXY q w);have HR:=zW hr;have HZ:=zW hz;have wu:IntKind.i64.wrap (u:Int)=(u:Int):=by rw[qQ];omega
 clear CS E0 hL HA HB hr hz;obtain⟨P,hP⟩:∃P,prc q=P:=⟨_,rfl⟩;have sP:P.size=8:=by rw[←hP];rfl
 rw[hP]at VA;rw[hP];have EP:=zW hP;clear hP;go_enter Tryz.func6,Tryz.ntmps6;go_upto_region 0 with fail;refine zG ?_;refine lU rfl _ (.tmp 2) rfl P rfl ?_;simp only[Act.put,zQ,zZ,zJ];have K1:=zW (Blk.new w 24 P);have BB:=zW (lW w (.cells P 24));obtain⟨g0,hg0⟩:∃g,w.heap.size=g:=⟨_,rfl⟩;rw[hg0]at K1⊢;clear hg0;generalize World.alloc w _=w3 at K1 BB⊢;go_upto_region 1 with fail;have LC:=zW (fun x:lH w3=>LL.out.step (BB.out.trans (x.below.mono BB.out.size)));have CQ:=zW (lY K1.out);cases r<;>cases z<;>rcases(show(60:Int)<(u:Int)∨¬(60:Int)<(u:Int) by omega)with hne|hne
 rotate_left 7
 all_goals
  refine iE ?_
  repeat(first
   |(refine mX dZ CQ.out sP ?_ (.tmp 6) ?_ ?_ ?_;(focus rfl);(focus rfl);(focus(simp[Act.eval];done));simp only[Act.put,zQ,zZ,zJ])
   |go_big_quiet_step ((first|(go_at_call 21;exact mZ (AW.out _ (LC.out _)))|(go_at_call 22;exact mS (FW.out _))|(go_at_call 10;exact mZ (VA.out _)))))
  refine zY ?_
  intro _ hw'
  obtain⟨x,rfl⟩:=hw'
  have b1:=x.below
  generalize x.w=w4 at*
  have K1:=zW (K1.out.step b1)
  have BB:=zW (BB.out.trans (b1.mono BB.out.size))
  clear b1 LC CQ
 rotate_left 1
 all_goals try
  clear HR HZ FW VA
  go_wp2_with fail
  refine(AW.out _ (LL.out.step BB.out)).mono ?_
  rintro e w5 ⟨rfl,b1⟩
  have BB:=zW (BB.out.trans (b1.mono BB.out.size))
  clear b1
  go_wp2
  go_ret
  exact⟨rfl,BB.out⟩
 have HQ:=zW (qA HZ.out);have NK:=zW (show n≤2000∧k≤100 from by have h:=HR.out;unfold zWC at h;rw[zC]at h;exact⟨qA h.1,qA h.2⟩);have UB:=zW (show u≤60 by omega);clear HR HZ FW VA AW hne;obtain⟨qd,hqd⟩:∃qd,noDw q=qd:=⟨_,rfl⟩;obtain⟨P9,hP9⟩:∃P9,prc qd=P9:=⟨_,rfl⟩;have QD:=zW (show 1≤qd.lv∧qd.lv≤3 from by rw[←hqd];exact HQ.out);have QW:=zW (show qd.dw=false from by rw[←hqd];rfl);have S9:=zW (show P9.size=8∧P.setIfInBounds 6 (.bool false)=P9 from by rw[←hP9,←hqd,←EP.out];exact⟨rfl,rfl⟩);have ST:=zW (show∀u,Below w.heap.size w u→Calls Tryz.prog 23 #[.slice A n c,.slice B k d,.agg P9] u fun e w'=>∃mb O,e=.returned (.pointer (some ⟨mb,0,none⟩))∧Mch u.heap.size O mb 0 (J1 qd) (uG R L) w'∧Below u.heap.size u w' from fun u bu=>by
  rw[←hP9];exact pW N CC.out (LL.out.step bu) (GA.out.rd.below bu) GA.out.len (by have:=NK.out;omega) (GB.out.rd.below bu) GB.out.len (by have:=NK.out;omega) (bH.2 GA.out.bd) (bH.2 GB.out.bd) QD.out)
 clear hqd hP9;go_upto_region 3 with fail;refine zG ?_;refine kO dZ K1.out sP rfl (.tmp 6) rfl rfl ?_;simp only[Act.put,zQ,zZ,zJ];refine mT (ds:=P) dZ zero24 rfl sP (by rw[←EP.out];unfold nU prc;simp[Value.oneCell']) rfl rfl rfl (.tmp 9) (.tmp 34) rfl zLP zLP ?_;simp only[Act.put,zQ,zZ,zJ];have K9:=zW (Blk.new w4 24 P);have b9:=lW w4 (.cells P 24);have LG:=zW BB.out.size;have BB:=zW (BB.out.trans (b9.mono BB.out.size));clear b9 K1;obtain⟨g9,hg9⟩:∃g,w4.heap.size=g:=⟨_,rfl⟩;rw[hg9]at K9 LG⊢;clear hg9;generalize World.alloc _ _=w5 at K9 BB⊢;have f9:=K9.out.frozen 6;have c9:w5.cell? ⟨g9,6,none⟩=some (P[6]'(by rw[sP];decide)):=(K9.out.cell 6).trans (Array.getElem?_eq_getElem _);go_upto_region 5 with fail;clear c9 f9;have K9:=zW (show Blk g9 24 P9 (w5.setCell ⟨g9,6,none⟩ (.bool false))from(K9.out.put 6 (.bool false)).eq S9.out.2);have BB:=zW (BB.out.setCell (p:=⟨g9,6,none⟩) LG.out (.bool false));generalize World.setCell _ _ _=w6 at K9 BB⊢;refine zG ?_;iterate 6 go_step
 refine kO dZ K9.out S9.out.1 rfl (.tmp 9) rfl rfl ?_;simp only[Act.put,zQ,zZ,zJ];go_wp2_with fail;refine(ST.out _ BB.out).mono ?_;rintro e w7 ⟨ma,Oa,rfl,X,b5⟩;have XA:=zW X;have LXA:=zW BB.out.size;have K9:=zW (K9.out.step b5);have BB:=zW (BB.out.trans (b5.mono BB.out.size));clear X b5;obtain⟨bXA,hb⟩:∃b,w6.heap.size=b:=⟨_,rfl⟩;rw[hb]at XA LXA;clear hb;go_upto_region 6 with fail;refine zG ?_;iterate 6 go_step
 refine kO dZ K9.out S9.out.1 rfl (.tmp 9) rfl rfl ?_;simp only[Act.put,zQ,zZ,zJ];go_wp2_with fail;refine(ST.out _ BB.out).mono ?_;rintro e w8 ⟨mb,Ob,rfl,X,b5⟩;have XB:=zW X;have LXB:=zW BB.out.size;have DXAXB:=zW (show∀j,Oa j→¬Ob j from fun j h1 h2=>by have h3:=(XA.out.blt j h1).2;have h4:=(X.blt j h2).1;omega);have XA:=zW (XA.out.step b5);have K9:=zW (K9.out.step b5);have BB:=zW (BB.out.trans (b5.mono BB.out.size));clear X b5;obtain⟨bXB,hb⟩:∃b,w7.heap.size=b:=⟨_,rfl⟩;rw[hb]at XB LXB;clear hb;go_upto_region 7 with fail;refine zG ?_;iterate 6 go_step
 refine kO dZ K9.out S9.out.1 rfl (.tmp 9) rfl rfl ?_;simp only[Act.put,zQ,zZ,zJ];go_wp2_with fail;refine(ST.out _ BB.out).mono ?_;rintro e w9 ⟨mc,Oc,rfl,X,b5⟩;have XC:=zW X;have LXC:=zW BB.out.size;have DXAXC:=zW (show∀j,Oa j→¬Oc j from fun j h1 h2=>by have h3:=(XA.out.blt j h1).2;have h4:=(X.blt j h2).1;omega);have DXBXC:=zW (show∀j,Ob j→¬Oc j from fun j h1 h2=>by have h3:=(XB.out.blt j h1).2;have h4:=(X.blt j h2).1;omega);have XA:=zW (XA.out.step b5);have XB:=zW (XB.out.step b5);have K9:=zW (K9.out.step b5);have BB:=zW (BB.out.trans (b5.mono BB.out.size));clear X b5;obtain⟨bXC,hb⟩:∃b,w8.heap.size=b:=⟨_,rfl⟩;rw[hb]at XC LXC;clear hb;have LCp:=zW LXC.out;clear ST K9;have BA:=zW (show 1<bXA∧1<bXB∧1<bXC from⟨zF LL.out.lt LXA.out,zF LL.out.lt LXB.out,zF LL.out.lt LXC.out⟩);obtain⟨x0,hx0⟩:∃x0:mB×AS,(J1 qd,uG R L)=x0:=⟨_,rfl⟩;have X0:=zW (show x0.1.q.dw=false∧x0.1.ex=0∧x0.2.ks=[]∧x0.2.dl=0∧x0.2.sd=0 from by rw[←hx0];exact⟨QW.out,rfl,rfl,rfl,rfl⟩);have XA:=zW (show Mch bXA Oa ma 0 x0.1 x0.2 w9 from by rw[←hx0];exact XA.out);have XB:=zW (show Mch bXB Ob mb 0 x0.1 x0.2 w9 from by rw[←hx0];exact XB.out);have XC:=zW (show Mch bXC Oc mc 0 x0.1 x0.2 w9 from by rw[←hx0];exact XC.out);clear hx0;go_wp2_with fail;go_loopw [13] (fun i wr=>∃j:Nat,j≤u∧i=.int .i64 (j:Int)∧Below w.heap.size w wr∧∃Oc,Mch bXC Oc mc j (itN N j x0).1 (itN N j x0).2 wr∧Mch bXA Oa ma 0 x0.1 x0.2 wr∧Mch bXB Ob mb 0 x0.1 x0.2 wr∧(∀i,Oa i→¬Oc i)∧(∀i,Ob i→¬Oc i)∧∀i,i≤j→(itN N i x0).2.dl=0∧(itN N i x0).2.sd=0) (fun i _=>u-(intOf i).toNat)
 case atStart=>exact⟨0,qI _,rfl,BB.out,Oc,XC.out,XA.out,XB.out,DXAXC.out,DXBXC.out,fun i hi=>by
  have h:i=0:=Nat.le_zero.1 hi;subst h;exact⟨X0.out.2.2.2.1,X0.out.2.2.2.2⟩⟩
 case round=>
  clear XA XB XC BB DXAXC DXBXC
  obtain⟨j,hj,rfl,hB,Oc,hXC,hXA,hXB,hd1,hd2,ht⟩:=hrel
  have BB:=zW hB
  have XC:=zW hXC
  have XA:=zW hXA
  have XB:=zW hXB
  have D1:=zW hd1
  have D2h:=zW hd2
  have TZ:=zW ht
  clear hB hXC hXA hXB hd1 hd2 ht
  by_cases hlt:j<u
  ·have ji:(j:Int)<(u:Int):=zLS
   have j60:(j:Int)≤60:=by have:=UB.out;omega
   have JX:=zW hlt
   go_wp2_with fail
   refine(ZL N EE.out XC.out (LL.out.step BB.out) BA.out.2.2 (by have:=JO N j x0;have:=X0.out.2.1;omega) (by have:=UB.out;omega)).mono ?_
   rintro e wa ⟨rfl,O',X',K',G'⟩
   have XA2:=zW (XA.out.keep K' D1.out XC.out.u8)
   have XB2:=zW (XB.out.keep K' D2h.out XC.out.u8)
   have D1n:=zW (show∀i,Oa i→¬O' i from fun i h1 h2=>eF (fun i h1 h2=>D1.out i h2 h1) G' (fun i h=>(XA.out.blt i h).2) i h2 h1)
   have D2n:=zW (show∀i,Ob i→¬O' i from fun i h1 h2=>eF (fun i h1 h2=>D2h.out i h2 h1) G' (fun i h=>(XB.out.blt i h).2) i h2 h1)
   have BB:=zW (BB.out.trans (XC.out.below LXC.out K'))
   have XC:=zW (show Mch bXC O' mc (j+1) (itN N (j+1) x0).1 (itN N (j+1) x0).2 wa from by rw[rU];exact X')
   have XA:=zW XA2.out
   have XB:=zW XB2.out
   clear X' K' G' XA2 XB2 D1 D2h
   go_wp2_with fail
   refine(wM N CC.out XC.out (LL.out.step BB.out)).mono ?_
   rintro e wb ⟨bs,ms,gs,vs,rfl,rc,bb⟩
   have S:=zW rc
   have XA:=zW (XA.out.step bb)
   have XB:=zW (XB.out.step bb)
   have XC:=zW (XC.out.step bb)
   have BB:=zW (BB.out.trans (bb.mono BB.out.size))
   clear rc bb
   go_upto_region 17 with fail
   refine zG ?_
   iterate 9 go_step
   refine nA (o:=566) bF S.out.st zL1 rfl (.tmp 72) rfl rfl ?_
   rw[d8]
   simp only[Act.put,zQ,zZ,zJ]
   obtain⟨dl,hdl⟩:∃v,(itN N (j+1) x0).2.dl=v:=⟨_,rfl⟩
   obtain⟨sd,hsd⟩:∃v,(itN N (j+1) x0).2.sd=v:=⟨_,rfl⟩
   have TD:=zW (zM hdl hsd)
   rw[hdl,hsd]
   clear hdl hsd
   have hcase:(dl≠0)∨(dl=0∧sd≠0)∨(dl=0∧sd=0):=zLS
   rcases hcase with h1|⟨rfl,h1⟩|⟨rfl,rfl⟩
   ·have h2:((dl:Int)==0)=false:=by simpa using h1
    go_wp2
    go_returns
    exact⟨rfl,BB.out⟩
   ·have h2:((sd:Int)==0)=false:=by simpa using h1
    go_wp2
    go_returns
    exact⟨rfl,BB.out⟩
   ·go_wp2
    go_roundw
    case rel=>exact⟨j+1,JX.out,by go_num,BB.out,O',XC.out,XA.out,XB.out,D1n.out,D2n.out,fun i hi=>by rcases(show i≤j∨i=j+1 by omega)with h|rfl;exact TZ.out i h;exact TD.out⟩
    case measure=>have:=JX.out;simp[intOf];omega
  ·have ji:¬(j:Int)<(u:Int):=zLS
   obtain rfl:j=u:=by omega
   go_wp2_with fail
   refine(rT N CC.out EE.out XA.out (LL.out.step BB.out) BA.out.1 none 0 0 [] (aZ _) (fun ad h=>nomatch h) zLA j (by have:=UB.out;omega) (by have:=X0.out.2.1;have:=UB.out;omega) (by have:=UB.out;omega) (by rw[X0.out.2.2.1];decide)).mono ?_
   rintro e wa ⟨rfl,O',X',K',G'⟩
   have XB2:=zW (XB.out.keep K' (fun i h1 h2=>DXAXB.out i h2 h1) XA.out.u8)
   have XC2:=zW (XC.out.keep K' (fun i h1 h2=>D1.out i h2 h1) XA.out.u8)
   have E1:=zW (show∀i,O' i→¬Ob i from eF (fun i h1 h2=>DXAXB.out i h1 h2) G' (fun i h=>(XB.out.blt i h).2))
   have E2:=zW (show∀i,Oc i→¬Ob i from fun i h1 h2=>D2h.out i h2 h1)
   have BB:=zW (BB.out.trans (XA.out.below LXA.out K'))
   have XA:=zW (show Mch bXA O' ma j (itN N j x0).1 (itN N j x0).2 wa from by
    have h:=W6 N j x0.1 x0.2 X0.out.1;have h2:Mch bXA O' ma (0+j) (frN N j x0.1 x0.2).1 (u6 (frN N j x0.1 x0.2).2) wa:=X';rw[h,GQ _ (TZ.out j (zH _)).1 (TZ.out j (zH _)).2,qY]at h2;exact h2)
   have XB:=zW XB2.out
   have XC:=zW XC2.out
   clear X' K' G' XB2 XC2 D1 D2h DXAXB
   go_wp2_with fail
   go_loopw [15] (fun i wr=>∃m:Nat,m≤j∧i=.int .i64 (m:Int)∧Below w.heap.size w wr∧∃Ob,Mch bXB Ob mb m (itN N m x0).1 (itN N m x0).2 wr∧Mch bXA O' ma j (itN N j x0).1 (itN N j x0).2 wr∧Mch bXC Oc mc j (itN N j x0).1 (itN N j x0).2 wr∧(∀i,O' i→¬Ob i)∧(∀i,Oc i→¬Ob i)) (fun i _=>j-(intOf i).toNat)
   case atStart=>exact⟨0,qI _,rfl,BB.out,Ob,XB.out,XA.out,XC.out,E1.out,E2.out⟩
   case round=>
    clear XA XB XC BB E1 E2
    obtain⟨m,hm,rfl,hB,Ob,hXB,hXA,hXC,hd1,hd2⟩:=hrel
    have BB:=zW hB
    have XC:=zW hXC
    have XA:=zW hXA
    have XB:=zW hXB
    have D1:=zW hd1
    have D2h:=zW hd2
    clear hB hXC hXA hXB hd1 hd2
    by_cases hlt:m<j
    ·have mi:(m:Int)<(j:Int):=zLS
     have m60:(m:Int)≤60:=by have:=UB.out;omega
     have JX:=zW hlt
     go_wp2_with fail
     refine(rT N CC.out EE.out XB.out (LL.out.step BB.out) BA.out.2.1 none 0 0 [] (aZ _) (fun ad h=>nomatch h) zLA 1 zLA (by have:=JO N m x0;have:=X0.out.2.1;omega) (by have:=UB.out;omega) (by rw[zZQ,X0.out.2.2.1];decide)).mono ?_
     rintro e wb ⟨rfl,O6,X',K',G'⟩
     have XA2:=zW (XA.out.keep K' D1.out XB.out.u8)
     have XC2:=zW (XC.out.keep K' D2h.out XB.out.u8)
     have D1n:=zW (show∀i,O' i→¬O6 i from fun i h1 h2=>eF (fun i h1 h2=>D1.out i h2 h1) G' (fun i h=>(XA.out.blt i h).2) i h2 h1)
     have D2n:=zW (show∀i,Oc i→¬O6 i from fun i h1 h2=>eF (fun i h1 h2=>D2h.out i h2 h1) G' (fun i h=>(XC.out.blt i h).2) i h2 h1)
     have BB:=zW (BB.out.trans (XB.out.below LXB.out K'))
     have XB:=zW (show Mch bXB O6 mb (m+1) (itN N (m+1) x0).1 (itN N (m+1) x0).2 wb from by
      have h:frN N 1 (itN N m x0).1 (itN N m x0).2=itN N (m+1) x0:=by
       rw[rU N m x0];exact W6 N 1 (itN N m x0).1 (itN N m x0).2 (by rw[zLV];exact X0.out.1)
      have h2:Mch bXB O6 mb (m+1) (frN N 1 (itN N m x0).1 (itN N m x0).2).1 (u6 (frN N 1 (itN N m x0).1 (itN N m x0).2).2) wb:=X';rw[h,GQ _ (TZ.out (m+1) JX.out).1 (TZ.out (m+1) JX.out).2]at h2;exact h2)
     have XA:=zW XA2.out
     have XC:=zW XC2.out
     clear X' K' G' XA2 XC2 D1 D2h
     go_wp2
     go_roundw
     case rel=>exact⟨m+1,JX.out,by go_num,BB.out,O6,XB.out,XA.out,XC.out,D1n.out,D2n.out⟩
     case measure=>have:=JX.out;simp[intOf];omega
    ·have mi:¬(m:Int)<(j:Int):=zLS
     obtain rfl:m=j:=by omega
     have hv:(itN N m x0).1.ex≤(m:Int):=by have:=JO N m x0;have:=X0.out.2.1;omega
     obtain⟨s,hs⟩:∃s,(itN N m x0).1=s:=⟨_,rfl⟩
     obtain⟨a,ha⟩:∃a,(itN N m x0).2=a:=⟨_,rfl⟩
     rw[hs,ha]at XA XB XC
     rw[hs]at hv
     clear hs ha TZ
     obtain⟨v,hvv⟩:∃v,s.ex=v:=⟨_,rfl⟩
     rw[hvv]at hv
     have MEa:=zW (fun x:lH wr=>show Calls Tryz.prog 15 #[.pointer (some ⟨ma,0,none⟩)] x.w fun e w'=>e=.returned (.int .i64 v)∧x.w=w' from hvv▸sH (XA.out.step x.below))
     have MEb:=zW (fun x:lH wr=>show Calls Tryz.prog 15 #[.pointer (some ⟨mb,0,none⟩)] x.w fun e w'=>e=.returned (.int .i64 v)∧x.w=w' from hvv▸sH (XB.out.step x.below))
     have MEc:=zW (fun x:lH wr=>show Calls Tryz.prog 15 #[.pointer (some ⟨mc,0,none⟩)] x.w fun e w'=>e=.returned (.int .i64 v)∧x.w=w' from hvv▸sH (XC.out.step x.below))
     have MOa:=zW (fun x:lH wr=>gV N CC.out (XA.out.step x.below) ((LL.out.step BB.out).step x.below))
     have MOb:=zW (fun x:lH wr=>gV N CC.out (XB.out.step x.below) ((LL.out.step BB.out).step x.below))
     have MOc:=zW (fun x:lH wr=>gV N CC.out (XC.out.step x.below) ((LL.out.step BB.out).step x.below))
     clear hvv
     go_upto_region 24 with fail
     refine iE ?_
     iterate 2 (go_big_quiet_step ((first|(go_at_call 24;exact mZ (MOa.out _))|(go_at_call 15;exact mS (MEa.out _)))))
     iterate 2 (go_big_quiet_step ((first|(go_at_call 24;exact mZ (MOb.out _))|(go_at_call 15;exact mS (MEb.out _)))))
     refine hE (cG s a) rfl (.tmp 89) (.tmp 91) _ rfl zL0 zL0 ?_
     simp only[Act.put,zQ,zZ,zJ]
     iterate 3 (go_big_quiet_step ((first|(go_at_call 24;exact mZ (MOa.out _))|(go_at_call 15;exact mS (MEa.out _)))))
     iterate 2 (go_big_quiet_step ((first|(go_at_call 24;exact mZ (MOc.out _))|(go_at_call 15;exact mS (MEc.out _)))))
     refine hE (cG s a) rfl (.tmp 95) (.tmp 97) _ rfl zL0 zL0 ?_
     simp only[Act.put,zQ,zZ,zJ]
     iterate 4 (go_big_quiet_step ((first|(go_at_call 24;exact mZ (MOa.out _))|(go_at_call 15;exact mS (MEa.out _)))))
     iterate 2 (go_big_quiet_step ((first|(go_at_call 24;exact mZ (MOb.out _))|(go_at_call 15;exact mS (MEb.out _)))))
     iterate 5 (go_big_quiet_step ((first|(go_at_call 24;exact mZ (MOa.out _))|(go_at_call 15;exact mS (MEa.out _)))))
     iterate 2 (go_big_quiet_step ((first|(go_at_call 24;exact mZ (MOc.out _))|(go_at_call 15;exact mS (MEc.out _)))))
     iterate 5 (go_big_quiet_step ((first|(go_at_call 24;exact mZ (MOa.out _))|(go_at_call 15;exact mS (MEa.out _)))))
     iterate 5 (go_big_quiet_step ((first|(go_at_call 24;exact mZ (MOa.out _))|(go_at_call 15;exact mS (MEa.out _)))))
     refine zY ?_
     intro _ hw'
     obtain⟨x,rfl⟩:=hw'
     go_wp2
     go_returns
     exact⟨rfl,BB.out.trans (x.below.mono BB.out.size)⟩
end
end Go.Proofs.YthknmadinmigfaaGreatDoor
