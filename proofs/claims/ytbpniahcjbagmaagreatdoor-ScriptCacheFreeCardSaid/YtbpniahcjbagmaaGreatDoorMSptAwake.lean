/- SptAwake. -/
import Derived.Test.YtbpniahcjbagmaaGreatDoorMk7a
set_option maxRecDepth 400000
set_option maxHeartbeats 64000000
set_option linter.unusedVariables false
set_option linter.unusedSimpArgs false
namespace Go.Proofs.YtbpniahcjbagmaaGreatDoor
section
open Go.RowKit Go.Shelf Num Dec Cpu
def e22:Ev:=⟨1,true⟩
theorem fr22a(N:Nat):frN N 5 (wU yX) uS=(rE,uS):=by
 unfold frN;rw[zL zGL,zL (by rw[dr20a];decide),nm20a,st20a];exact pV N 4 uS zGL
theorem recs22(N:Nat):rC N 5 [[],[e22]] (wU yX,uB [0,253] [])=[xI rE uS,xI rE (wZ rE (rU uS) e22)]:=by
 have h1:frB N 5 [] (wU yX,uS)=(rE,uS):=fr22a N;have h2:frB N 5 [e22] (rE,rU uS)=(rE,wZ rE (rU uS) e22):=by
  show frN N 5 (uE rE (rU uS) e22) (wZ rE (rU uS) e22)=_;rw[GP (show rE.k≠1 by decide)];exact pV N 5 _ zGL
 show[frR N 5 [] (wU yX,uS),frR N 5 [e22] (frE N 5 [] (wU yX,uS))]=_;have h3:frE N 5 [] (wU yX,uS)=(rE,rU uS):=by unfold frE;rw[h1]
 rw[h3];unfold frR;rw[h1,h2]
def S0(g1 g3:Nat):Sp:=⟨some ⟨g1,0,none⟩,2,2,none,0,0,yX,5,false,none,0,0,some ⟨g3,0,none⟩,2,2⟩
theorem zV2(g1 g3:Nat):Tryz.prog.built 55 [(0,.slice (some ⟨g1,0,none⟩) 2 2),(2,.agg (prc yX)),(3,.int .i64 5),(6,.slice (some ⟨g3,0,none⟩) 2 2)]=some (spC (S0 g1 g3)):=by
 unfold prc spC S0;kernel_rfl
def S1(m K:Nat)(cy:Int):Sp:=⟨some ⟨m,0,none⟩,K,K,none,0,0,yX,cy,false,none,0,0,none,0,0⟩
theorem zV1(m K:Nat):Tryz.prog.built 57 [(0,.slice (some ⟨m,0,none⟩) K K),(2,.agg (prc yX))]=some (spC (S1 m K 0)):=by
 unfold prc spC S1;kernel_rfl
theorem zV0(m K:Nat)(cy:Int):Tryz.prog.built 57 [(0,.slice (some ⟨m,0,none⟩) K K),(2,.agg (prc yX)),(3,.int .i64 cy)]=some (spC (S1 m K cy)):=by
 unfold prc spC S1;kernel_rfl
def S3:Sp:=⟨none,0,0,none,0,0,yX,0,false,none,0,0,none,0,0⟩
theorem zVO:Tryz.prog.built 57 [(2,.agg (prc yX))]=some (spC S3):=by
 unfold prc spC S3;kernel_rfl
theorem zQ5:Tryz.prog.built 69 [(0,.int .i64 1),(1,.bool true)]=some (ec e22):=by
 unfold ec e22;kernel_rfl
theorem pD(w:World):TP w none 0 0 []:=⟨Rd.nil,rfl,zG _,qW _,(fun x h=>by cases h)⟩
theorem bO(w:World):QE w none 0 0 []:=⟨Row.nil,rfl,(fun x h=>by cases h),zG _,qW _⟩
theorem zVJ{x y:AS}{v:Int}(h:zVK [xI rE x,xI rE y] v):v=0:=by
 have h0:isE (xI rE x)=true:=rfl;rcases h with⟨_,h⟩|⟨i,r,rfl,_,_,h⟩
 ·rw[h _ (List.mem_cons_self ..)]at h0;cases h0
 ·rcases i with _|i
  ·rfl
  ·rw[h (xI rE x) zGN]at h0;cases h0
theorem zVX{v:Int}(h:zVK [] v):v= -1:=by
 rcases h with⟨h,_⟩|⟨i,r,_,h,_⟩
 ·exact h
 ·cases h
theorem s0_ok{w:World}{g1 g2 g3:Nat}(r1:Rd w (some ⟨g1,0,none⟩) [0,253])(b2:Blk g2 69 (ec e22) w)(b3:Blk g3 48 #[.slice none 0 0,.slice (some ⟨g2,0,none⟩) 1 1] w):wW (S0 g1 g3) w [0,253] [] [] [⟨none,0,0,[]⟩,⟨some ⟨g2,0,none⟩,1,1,[e22]⟩]:=by
 have c0:w.cell? ⟨g2,0,none⟩=some (.int .i64 e22.k):=(b2.cell 0).trans rfl;have c1:w.cell? ⟨g2,1,none⟩=some (.bool e22.d):=(b2.cell 1).trans rfl;have f0:w.cell? ⟨g3,0,none⟩=some (.slice none 0 0):=(b3.cell 0).trans rfl;have f1:w.cell? ⟨g3,1,none⟩=some (.slice (some ⟨g2,0,none⟩) 1 1):=(b3.cell 1).trans rfl;have ek:Ev.ok e22:=by unfold Ev.ok e22;decide
 have one:YZ w (some ⟨g2,0,none⟩) 1 1 [e22]:=⟨⟨rfl,by unfold maxLen;decide,fun i hi=>by
  obtain rfl:i=0:=by simpa using hi
  exact⟨g2,0,rfl,b2.lt,c0,c1,ek⟩⟩,zG _,by unfold maxLen;decide⟩
 have nil:YZ w none 0 0 []:=⟨⟨rfl,qW _,fun i hi=>absurd hi (Nat.not_lt_zero i)⟩,zG _,qW _⟩;refine⟨⟨r1,rfl,zG _,by show(2:Nat)≤maxLen;unfold maxLen;decide,fun x hx=>?_⟩,pD w,bO w,⟨rfl,zG _,by show(2:Nat)≤maxLen;unfold maxLen;decide,fun i hi=>?_⟩,rfl,by show(-9223372036854775808:Int)≤5∧(5:Int)≤9223372036854775807;decide⟩
 ·simp only[List.mem_cons,qT,or_false]at hx;omega
 ·rcases i with _|_|i
  ·exact⟨g3,0,rfl,b3.lt,f0,nil⟩
  ·exact⟨g3,0,rfl,b3.lt,f1,one⟩
  ·simp at hi;omega
theorem s3_ok(w:World):wW S3 w [] [] [] []:=⟨pD w,pD w,bO w,sY.nil w 0 (qW _) none,rfl,by show(-9223372036854775808:Int)≤0∧(0:Int)≤9223372036854775807;decide⟩
theorem iS(N:Nat)(CS:vR N)(E0:uP N)(w:World)(hL:cQ w):Calls Tryz.prog 15 #[] w fun e w'=>e=.returned (.bool true)∧Below w.heap.size w w':=by
 have CC:=zW CS;have LL:=zW hL;have EE:=zW E0;obtain⟨K,hK⟩:∃K:Nat,K=65025:=⟨_,rfl⟩;have HK:=zW hK;clear hK CS E0 hL;go_enter Tryz.func15,Tryz.ntmps15;go_upto_region 1 with fail;refine zH ?_;have R1:=zW (show Rd (w.alloc (.cells #[.int .u8 0,.int .u8 253] 5)) (some ⟨w.heap.size,0,none⟩) [0,253]from iR (Blk.new w 5 #[.int .u8 0,.int .u8 253]) 0 [0,253] fun j hj=>by rcases j with _|_|j;rfl;rfl;exact absurd hj zGN);have BB:=zW (lV w (.cells #[.int .u8 0,.int .u8 253] 5));iterate 3 go_step
 obtain⟨g1,hg⟩:∃g,w.heap.size=g:=⟨_,rfl⟩;rw[hg]at R1⊢;clear hg;generalize World.alloc w _=w1 at R1 BB⊢;refine lC (cs:=prc yX) rfl rfl (by simp;exact zQ3 2) ?_;simp only[Act.put,zQ,zZ,zJ];refine lC (cs:=ec e22) rfl rfl (by simp;exact zQ5) ?_;simp only[Act.put,zQ,zZ,zJ];refine bE Tryz.underlying48 zH7 zeroEv rfl rfl zGL zGL rfl (.tmp 16) rfl rfl ?_;simp only[Act.put,zQ,zZ,zJ];have B2:=zW (Blk.new w1 69 (ec e22));have bb:=lV w1 (.cells (ec e22) 69);have BB:=zW (BB.out.trans (bb.mono BB.out.size));have R1:=zW (R1.out.below bb);clear bb;obtain⟨g2,hg⟩:∃g,w1.heap.size=g:=⟨_,rfl⟩;rw[hg]at B2⊢;clear hg;generalize World.alloc w1 _=w2 at BB R1 B2⊢;have B3:=zW (Blk.new w2 48 #[.slice none 0 0,.slice (some ⟨g2,0,none⟩) 1 1]);have bb:=lV w2 (.cells #[.slice none 0 0,.slice (some ⟨g2,0,none⟩) 1 1] 48);iterate 3 go_step
 have BB:=zW (BB.out.trans (bb.mono BB.out.size));have R1:=zW (R1.out.below bb);have B2:=zW (B2.out.step bb);clear bb;obtain⟨g3,hg⟩:∃g,w2.heap.size=g:=⟨_,rfl⟩;rw[hg]at B3⊢;clear hg;generalize World.alloc w2 _=w3 at BB R1 B2 B3⊢;refine lC (cs:=spC (S0 g1 g3)) rfl rfl (by simp[Act.eval];exact zV2 g1 g3) ?_;simp only[Act.put,zQ,zZ,zJ];refine lO (ds:=spC (S0 g1 g3)) tL TC rfl rfl (gZ _) rfl rfl rfl (.tmp 1) (.tmp 19) rfl zGK zGK ?_;simp only[Act.put,zQ,zZ,zJ];have SB:=zW (Blk.new w3 55 (spC (S0 g1 g3)));have bb:=lV w3 (.cells (spC (S0 g1 g3)) 55);have BB:=zW (BB.out.trans (bb.mono BB.out.size));have R1:=zW (R1.out.below bb);have B2:=zW (B2.out.step bb);have B3:=zW (B3.out.step bb);clear bb;obtain⟨gs,hg⟩:∃g,w3.heap.size=g:=⟨_,rfl⟩;rw[hg]at SB⊢;clear hg;generalize World.alloc w3 _=w4 at BB R1 B2 B3 SB⊢;go_upto_region 2 with fail;refine zH ?_;refine lL tL SB.out rfl rfl (.tmp 1) rfl rfl ?_;simp only[Act.put,zQ,zZ,zJ];go_wp2_with fail;refine(y8 (S0 g1 g3) _).mono ?_;rintro e w5 ⟨rfl,bb⟩;have BB:=zW (BB.out.trans (bb.mono BB.out.size));have R1:=zW (R1.out.below bb);have B2:=zW (B2.out.step bb);have B3:=zW (B3.out.step bb);have SB:=zW (SB.out.step bb);clear bb;go_wp2_with fail;refine(dW N CC.out EE.out (S0 g1 g3) _ (LL.out.step BB.out) (s0_ok R1.out B2.out B3.out) 5 rfl ⟨by decide,by show 2≤8;decide,by show 2*5≤1000;decide,fun i hi=>by
  rcases i with _|_|i
  ·show 0≤20;decide
  ·show 1≤20;decide
  ·simp at hi;omega⟩ zG8 (by show 2≤65024;decide) (by show 0≤100000;decide) (by show 0≤1000;decide)).mono ?_
 rintro e w6 ⟨gr,rfl,rs,bb⟩;rw[show(S0 g1 g3).gn=2 from rfl];have RS:=zW (show Rcs gr [xI rE uS,xI rE (wZ rE (rU uS) e22)] w6 from recs22 N▸rs);have BB:=zW (BB.out.trans (bb.mono BB.out.size));have R1:=zW (R1.out.below bb);have B2:=zW (B2.out.step bb);have B3:=zW (B3.out.step bb);have SB:=zW (SB.out.step bb);clear bb;clear rs;clear R1 B2 B3;simp only[];go_at_K
 iterate 10 go_step
 refine lO (ds:=rsK false (.slice (some ⟨gr,0,none⟩) 2 2)) vD cN rfl rfl (cH _ _ rfl) rfl rfl rfl (.tmp 2) (.tmp 24) rfl zGK zGK ?_;simp only[Act.put,zQ,zZ,zJ];have V2:=zW (Blk.new w6 61 (rsK false (.slice (some ⟨gr,0,none⟩) 2 2)));have bb:=lV w6 (.cells (rsK false (.slice (some ⟨gr,0,none⟩) 2 2)) 61);have BB:=zW (BB.out.trans (bb.mono BB.out.size));have SB:=zW (SB.out.step bb);have RS:=zW (RS.out.step bb);clear bb;obtain⟨g4,hg⟩:∃g,w6.heap.size=g:=⟨_,rfl⟩;rw[hg]at V2⊢;clear hg;generalize World.alloc w6 _=w7 at BB SB RS V2⊢;go_upto_region 3 with fail;have QS:=zW (fun w' (h:∃u:lA w7,w'=u.w)=>lD SB.out w' h);refine wF (fun A a' w'=>∃m g,a'=((((((((((A.put (some 27) (.slice (some ⟨m,0,none⟩) K K)).put (some 28) (.pointer (some ⟨gs,2,none⟩))).put (some 29) (.agg (prc yX))).put (some 30) (.agg (spC (S1 m K 0)))).put (some 31) (.tuple #[.agg (rsK true (.slice none 0 0)),.int .i64 0])).put (some 26) (.tuple #[.agg (rsK true (.slice none 0 0)),.int .i64 0])).put (some 32) (.agg (rsK true (.slice none 0 0)))).put (some 33) (.int .i64 0)).put (some 4) (.pointer (some ⟨g,0,none⟩))).put (some 5) (.int .i64 0))∧Blk g 61 (rsK true (.slice none 0 0)) w'∧Below w7.heap.size w7 w') ?_ ?_
 ·refine nU (C:=fun w'=>∃u:lA w7,w'=u.w) (.branch [1,2] [0,8] (fun c=>if c=0 then .branch [3] [4,8] (fun c=>if c=4 then .branch [5,6,7] [8] (fun c=> .branch [] [9] (fun c=> .last [10]))else .branch [] [4] (fun c=> .branch [5,6,7] [9] (fun c=> .last [10])))else .branch [] [0] (fun c=> .branch [3] [4] (fun c=> .branch [5,6,7] [9] (fun c=> .last [10]))))) zGV zGV (fun _ _ d _ _ h=>by cases h.1) ⟨⟨w7.drew,(zB _ _).drew⟩,rfl⟩ ?_;intro wn hwd;have CB:=zW (show Below w7.heap.size w7 wn from by rw[hwd];exact(zB _ _).drew);clear hwd;repeat' (first
   |exact fun _ h=>absurd h qT
   |with_reducible refine List.forall_mem_cons.2 ⟨?_,?_⟩
   |with_reducible show vA _ _ _ _ 0 _ _ _
    refine mB zGY zGM ?_
    intro K7 hK
    refine iC K (by have:=HK.out;omega) wn (.const (.int .i64 65025)) (.const (.int .i64 65025)) rfl (by rw[HK.out];rfl) (by rw[HK.out];rfl) ?_
    obtain⟨m,hm⟩:∃m,wn.heap.size=m:=⟨_,rfl⟩
    have MB:=zW (hm▸Blk.new wn 5 (arr (List.replicate K 0)))
    have bb:=lV wn (.cells (arr (List.replicate K 0)) 5)
    try have RV:=zW (RV.out.step bb)
    have CB:=zW (CB.out.trans (bb.mono CB.out.size))
    clear bb
    rw[hm]
    clear hm
    generalize World.alloc _ _=wn at*
    refine hK _ _ ⟨⟨wn,CB.out⟩,rfl⟩ ?_
    clear hK K7
    simp only[Act.put,zQ,zZ,zJ]
   |with_reducible show vA _ _ _ _ 4 _ _ _
    refine mB zGY zGM ?_
    intro K7 hK
    refine mK (g:=18) (caps:=#[]) (args:=#[.agg (spC (S1 m K 0))]) (.func 18) #[.tmp 30] _ rfl (enters_of Tryz.func18 zGV rfl) rfl zGK ?_
    refine(oM N CC.out (S1 m K 0) wn (LL.out.step (BB.out.trans (CB.out.mono BB.out.size))) (by show¬((0:Int)<0∨65535<(0:Int));decide) zG8 (by show 65024<K∧K≤1000000;have:=HK.out;omega) Rd.nil rfl (by show 0≤100000;decide)).mono ?_
    rintro e wn ⟨rfl,bb⟩
    try have RV:=zW (RV.out.step bb)
    try have MB:=zW (MB.out.step bb)
    have CB:=zW (CB.out.trans (bb.mono CB.out.size))
    clear bb
    refine⟨_,rfl,?_⟩
    refine hK _ _ ⟨⟨wn,CB.out⟩,rfl⟩ ?_
    clear hK K7
    simp only[Act.put,zQ,zZ,zJ]
   |with_reducible show vA _ _ _ _ 8 _ _ _
    refine mB zGY zGM ?_
    intro K7 hK
    refine nJ cN rfl ?_
    obtain⟨g,hg⟩:∃g,wn.heap.size=g:=⟨_,rfl⟩
    have RV:=zW (hg▸Blk.new wn 61 (rsK false (.slice none 0 0)))
    have GB:=zW (show w7.heap.size≤g from by rw[←hg];exact CB.out.size)
    have bb:=lV wn (.cells (rsK false (.slice none 0 0)) 61)
    try have MB:=zW (MB.out.step bb)
    have CB:=zW (CB.out.trans (bb.mono CB.out.size))
    clear bb
    rw[hg]
    clear hg
    generalize World.alloc _ _=wn at*
    refine hK _ _ ⟨⟨wn,CB.out⟩,rfl⟩ ?_
    clear hK K7
    simp only[Act.put,zQ,zZ,zJ]
   |with_reducible show vA _ _ _ _ 9 _ _ _
    refine mB zGY zGM ?_
    intro K7 hK
    refine nY (ds:=rsK true (.slice none 0 0)) vD RV.out rfl rfl (cH _ _ rfl) (.tmp 4) (.tmp 32) rfl zGK zGK ?_
    have RW:=zW (RV.out.store (rsK true (.slice none 0 0)))
    have CB:=zW (lU CB.out GB.out (rsK true (.slice none 0 0)))
    try have MB:=zW (MB.out.otherRow (rF MB.out RV.out zGL) (rsK true (.slice none 0 0)))
    clear RV
    generalize World.setRow _ _ _=wn at*
    refine hK _ _ ⟨⟨wn,CB.out⟩,rfl⟩ ?_
    clear hK K7
    simp only[Act.put,zQ,zZ,zJ]
   |with_reducible show xV _ _ _ _ _ _ _
    refine vO zGW ?_
    repeat(go_big_quiet_step (rfl))
    refine zY ?_
    exact⟨rfl,_,_,rfl,RW.out,CB.out⟩
   |with_reducible show xV _ _ _ _ _ _ _
    refine mF zGW ?_
    repeat(first
     |(refine lR (o:=2) tM QS.out (by show 2+8≤14;decide) ?_ (.tmp 28) ?_ ?_ ?_;(focus rfl);(focus rfl);(focus(simp[Act.eval,Act.put];done));rw[show(spC (S0 g1 g3)).extract 2 (2+8)=prc yX from(spE (S0 g1 g3)).q];simp only[Act.put,zQ,zZ,zJ])
     |(refine vV (ty:=57) (parts:=#[(0,.tmp 27),(2,.tmp 29)]) (cs:=spC (S1 m K 0)) ?_ ?_ ?_ ?_;(focus rfl);(focus rfl);(focus(simp[Act.eval,Act.put];exact zV1 m K));simp only[Act.put,zQ,zZ,zJ])
     |go_big_quiet_step (rfl))
    refine zY ?_)
 rintro _ w8 ⟨m,g5,rfl,r4,bb⟩;have V4:=zW r4;clear r4 QS;have BB:=zW (BB.out.trans (bb.mono BB.out.size));have SB:=zW (SB.out.step bb);have RS:=zW (RS.out.step bb);have V2:=zW (V2.out.step bb);clear bb;simp only[Act.put,zQ,zZ,zJ];go_upto_region 4 with fail;have QS:=zW (fun w' (h:∃u:lA w8,w'=u.w)=>lD SB.out w' h);refine wF (fun A a' w'=>∃m g,a'=((((((((((A.put (some 35) (.slice (some ⟨m,0,none⟩) K K)).put (some 36) (.pointer (some ⟨gs,2,none⟩))).put (some 37) (.agg (prc yX))).put (some 38) (.agg (spC (S1 m K 65536)))).put (some 39) (.tuple #[.agg (rsK false (.slice none 0 0)),.int .i64 5])).put (some 34) (.tuple #[.agg (rsK false (.slice none 0 0)),.int .i64 5])).put (some 40) (.agg (rsK false (.slice none 0 0)))).put (some 41) (.int .i64 5)).put (some 6) (.pointer (some ⟨g,0,none⟩))).put (some 7) (.int .i64 5))∧Blk g 61 (rsK false (.slice none 0 0)) w'∧Below w8.heap.size w8 w') ?_ ?_
 ·refine nU (C:=fun w'=>∃u:lA w8,w'=u.w) (.branch [1,2] [0,8] (fun c=>if c=0 then .branch [3] [4,8] (fun c=>if c=4 then .branch [5,6,7] [8] (fun c=> .branch [] [9] (fun c=> .last [10]))else .branch [] [4] (fun c=> .branch [5,6,7] [9] (fun c=> .last [10])))else .branch [] [0] (fun c=> .branch [3] [4] (fun c=> .branch [5,6,7] [9] (fun c=> .last [10]))))) zGV zGV (fun _ _ d _ _ h=>by cases h.1) ⟨⟨w8.drew,(zB _ _).drew⟩,rfl⟩ ?_;intro wn hwd;have CB:=zW (show Below w8.heap.size w8 wn from by rw[hwd];exact(zB _ _).drew);clear hwd;repeat' (first
   |exact fun _ h=>absurd h qT
   |with_reducible refine List.forall_mem_cons.2 ⟨?_,?_⟩
   |with_reducible show vA _ _ _ _ 0 _ _ _
    refine mB zGY zGM ?_
    intro K7 hK
    refine iC K (by have:=HK.out;omega) wn (.const (.int .i64 65025)) (.const (.int .i64 65025)) rfl (by rw[HK.out];rfl) (by rw[HK.out];rfl) ?_
    obtain⟨m,hm⟩:∃m,wn.heap.size=m:=⟨_,rfl⟩
    have MB:=zW (hm▸Blk.new wn 5 (arr (List.replicate K 0)))
    have bb:=lV wn (.cells (arr (List.replicate K 0)) 5)
    try have RV:=zW (RV.out.step bb)
    have CB:=zW (CB.out.trans (bb.mono CB.out.size))
    clear bb
    rw[hm]
    clear hm
    generalize World.alloc _ _=wn at*
    refine hK _ _ ⟨⟨wn,CB.out⟩,rfl⟩ ?_
    clear hK K7
    simp only[Act.put,zQ,zZ,zJ]
   |with_reducible show vA _ _ _ _ 4 _ _ _
    refine mB zGY zGM ?_
    intro K7 hK
    refine mK (g:=18) (caps:=#[]) (args:=#[.agg (spC (S1 m K 65536))]) (.func 18) #[.tmp 38] _ rfl (enters_of Tryz.func18 zGV rfl) rfl zGK ?_
    refine(fW (S1 m K 65536) wn (.inr (by show(65535:Int)<65536;decide))).mono ?_
    rintro e wn ⟨rfl,bb⟩
    try have RV:=zW (RV.out.step bb)
    try have MB:=zW (MB.out.step bb)
    have CB:=zW (CB.out.trans (bb.mono CB.out.size))
    clear bb
    refine⟨_,rfl,?_⟩
    refine hK _ _ ⟨⟨wn,CB.out⟩,rfl⟩ ?_
    clear hK K7
    simp only[Act.put,zQ,zZ,zJ]
   |with_reducible show vA _ _ _ _ 8 _ _ _
    refine mB zGY zGM ?_
    intro K7 hK
    refine nJ cN rfl ?_
    obtain⟨g,hg⟩:∃g,wn.heap.size=g:=⟨_,rfl⟩
    have RV:=zW (hg▸Blk.new wn 61 (rsK false (.slice none 0 0)))
    have GB:=zW (show w8.heap.size≤g from by rw[←hg];exact CB.out.size)
    have bb:=lV wn (.cells (rsK false (.slice none 0 0)) 61)
    try have MB:=zW (MB.out.step bb)
    have CB:=zW (CB.out.trans (bb.mono CB.out.size))
    clear bb
    rw[hg]
    clear hg
    generalize World.alloc _ _=wn at*
    refine hK _ _ ⟨⟨wn,CB.out⟩,rfl⟩ ?_
    clear hK K7
    simp only[Act.put,zQ,zZ,zJ]
   |with_reducible show vA _ _ _ _ 9 _ _ _
    refine mB zGY zGM ?_
    intro K7 hK
    refine nY (ds:=rsK false (.slice none 0 0)) vD RV.out rfl rfl (cH _ _ rfl) (.tmp 6) (.tmp 40) rfl zGK zGK ?_
    have RW:=zW (RV.out.store (rsK false (.slice none 0 0)))
    have CB:=zW (lU CB.out GB.out (rsK false (.slice none 0 0)))
    try have MB:=zW (MB.out.otherRow (rF MB.out RV.out zGL) (rsK false (.slice none 0 0)))
    clear RV
    generalize World.setRow _ _ _=wn at*
    refine hK _ _ ⟨⟨wn,CB.out⟩,rfl⟩ ?_
    clear hK K7
    simp only[Act.put,zQ,zZ,zJ]
   |with_reducible show xV _ _ _ _ _ _ _
    refine vO zGW ?_
    repeat(go_big_quiet_step (rfl))
    refine zY ?_
    exact⟨rfl,_,_,rfl,RW.out,CB.out⟩
   |with_reducible show xV _ _ _ _ _ _ _
    refine mF zGW ?_
    repeat(first
     |(refine lR (o:=2) tM QS.out (by show 2+8≤14;decide) ?_ (.tmp 36) ?_ ?_ ?_;(focus rfl);(focus rfl);(focus(simp[Act.eval,Act.put];done));rw[show(spC (S0 g1 g3)).extract 2 (2+8)=prc yX from(spE (S0 g1 g3)).q];simp only[Act.put,zQ,zZ,zJ])
     |(refine vV (ty:=57) (parts:=#[(0,.tmp 35),(2,.tmp 37),(3,.const (.int .i64 65536))]) (cs:=spC (S1 m K 65536)) ?_ ?_ ?_ ?_;(focus rfl);(focus rfl);(focus(simp[Act.eval,Act.put];exact zV0 m K 65536));simp only[Act.put,zQ,zZ,zJ])
     |go_big_quiet_step (rfl))
    refine zY ?_)
 rintro _ w9 ⟨m,g6,rfl,r4,bb⟩;have V6:=zW r4;clear r4 QS;have BB:=zW (BB.out.trans (bb.mono BB.out.size));have SB:=zW (SB.out.step bb);have RS:=zW (RS.out.step bb);have V2:=zW (V2.out.step bb);have V4:=zW (V4.out.step bb);clear bb;simp only[Act.put,zQ,zZ,zJ];go_upto_region 5 with fail;refine zH ?_;iterate 3 go_step
 refine m6 (o:=2) tM SB.out (by show 2+8≤14;decide) rfl (.tmp 43) rfl rfl ?_;rw[show(spC (S0 g1 g3)).extract 2 (2+8)=prc yX from(spE (S0 g1 g3)).q];simp only[Act.put,zQ,zZ,zJ];refine lC (cs:=spC S3) rfl rfl (by simp[Act.eval];exact zVO) ?_;simp only[Act.put,zQ,zZ,zJ];go_wp2_with fail;refine(dW N CC.out EE.out S3 _ (LL.out.step BB.out) (s3_ok _) 0 rfl ⟨by decide,by show 0≤8;decide,by show 0*0≤1000;decide,fun i hi=>absurd hi (Nat.not_lt_zero i)⟩ zG8 (by show 0≤65024;decide) (by show 0≤100000;decide) (by show 0≤1000;decide)).mono ?_;rintro e wa ⟨gz,rfl,_,bb⟩;rw[show S3.gn=0 from rfl];have BB:=zW (BB.out.trans (bb.mono BB.out.size));have SB:=zW (SB.out.step bb);have RS:=zW (RS.out.step bb);have V2:=zW (V2.out.step bb);have V4:=zW (V4.out.step bb);have V6:=zW (V6.out.step bb);clear bb;simp only[];go_at_K
 iterate 10 go_step
 refine lO (ds:=rsK false (.slice (some ⟨gz,0,none⟩) 0 0)) vD cN rfl rfl (cH _ _ rfl) rfl rfl rfl (.tmp 8) (.tmp 47) rfl zGK zGK ?_;simp only[Act.put,zQ,zZ,zJ];have V8:=zW (Blk.new wa 61 (rsK false (.slice (some ⟨gz,0,none⟩) 0 0)));have bb:=lV wa (.cells (rsK false (.slice (some ⟨gz,0,none⟩) 0 0)) 61);have BB:=zW (BB.out.trans (bb.mono BB.out.size));have SB:=zW (SB.out.step bb);have RS:=zW (RS.out.step bb);have V2:=zW (V2.out.step bb);have V4:=zW (V4.out.step bb);have V6:=zW (V6.out.step bb);clear bb;obtain⟨g8,hg⟩:∃g,wa.heap.size=g:=⟨_,rfl⟩;rw[hg]at V8⊢;clear hg;generalize World.alloc wa _=wb at BB SB RS V2 V4 V6 V8⊢;go_upto_region 6 with fail;refine zH ?_;refine lL vD V2.out rfl rfl (.tmp 2) rfl rfl ?_;simp only[Act.put,zQ,zZ,zJ];go_wp2_with fail;refine(DG false gr 2 2 _ _ RS.out rfl zGL zGL _ rfl).mono ?_;rintro e wc ⟨rfl,bb⟩;have BB:=zW (BB.out.trans (bb.mono BB.out.size));have SB:=zW (SB.out.step bb);have RS:=zW (RS.out.step bb);have V2:=zW (V2.out.step bb);have V4:=zW (V4.out.step bb);have V6:=zW (V6.out.step bb);have V8:=zW (V8.out.step bb);clear bb;obtain⟨C,hC⟩:∃C,nQ (xI rE (wZ rE (rU uS) e22))=C:=⟨_,rfl⟩;have CE:=zW (show C.size=535∧n8 C∧C.extract 531 (531+4)=xN 2 0 512 0 from by rw[←hC];exact⟨mU _,uW _,M9 _⟩);rw[hC];clear hC;simp only[];go_at_K
 iterate 10 go_step
 refine lO (ds:=C) vF wL (mU _) CE.out.1 CE.out.2.1 rfl rfl rfl (.tmp 10) (.tmp 52) rfl zGK zGK ?_;simp only[Act.put,zQ,zZ,zJ];have VA:=zW (Blk.new wc 45 (C));have bb:=lV wc (.cells (C) 45);have BB:=zW (BB.out.trans (bb.mono BB.out.size));have SB:=zW (SB.out.step bb);have RS:=zW (RS.out.step bb);have V2:=zW (V2.out.step bb);have V4:=zW (V4.out.step bb);have V6:=zW (V6.out.step bb);have V8:=zW (V8.out.step bb);clear bb;obtain⟨ga,hg⟩:∃g,wc.heap.size=g:=⟨_,rfl⟩;rw[hg]at VA⊢;clear hg;generalize World.alloc wc _=wd at BB SB RS V2 V4 V6 V8 VA⊢;go_upto_region 7 with fail;refine zH ?_;refine lL vD V8.out rfl rfl (.tmp 8) rfl rfl ?_;simp only[Act.put,zQ,zZ,zJ];go_wp2_with fail;refine(DH false (some ⟨gz,0,none⟩) 0 0 rfl _).mono ?_;rintro e we ⟨rfl,bb⟩;have BB:=zW (BB.out.trans (bb.mono BB.out.size));have SB:=zW (SB.out.step bb);have RS:=zW (RS.out.step bb);have V2:=zW (V2.out.step bb);have V4:=zW (V4.out.step bb);have V6:=zW (V6.out.step bb);have V8:=zW (V8.out.step bb);have VA:=zW (VA.out.step bb);clear bb;simp only[];go_at_K
 iterate 10 go_step
 refine lO (ds:=nQ vM) vF wL (mU _) (mU _) (uW _) rfl rfl rfl (.tmp 12) (.tmp 57) rfl zGK zGK ?_;simp only[Act.put,zQ,zZ,zJ];have VC:=zW (Blk.new we 45 (nQ vM));have bb:=lV we (.cells (nQ vM) 45);have BB:=zW (BB.out.trans (bb.mono BB.out.size));have SB:=zW (SB.out.step bb);have RS:=zW (RS.out.step bb);have V2:=zW (V2.out.step bb);have V4:=zW (V4.out.step bb);have V6:=zW (V6.out.step bb);have V8:=zW (V8.out.step bb);have VA:=zW (VA.out.step bb);clear bb;obtain⟨gc,hg⟩:∃g,we.heap.size=g:=⟨_,rfl⟩;rw[hg]at VC⊢;clear hg;generalize World.alloc we _=wf at BB SB RS V2 V4 V6 V8 VA VC⊢;have EN2:=zW (fun x:lA wf=>(show Calls Tryz.prog 20 #[.agg (rsK false (.slice (some ⟨gr,0,none⟩) 2 2))] x.w fun e w'=>e=.returned (.int .i64 0)∧Below x.w.heap.size x.w w' from(fR false (some ⟨gr,0,none⟩) 2 2 _ x.w (fun _=>⟨gr,rfl,RS.out.step x.below⟩) rfl zGL).mono fun e w' ⟨v,he,hv,b⟩=>⟨by rw[he,zVJ hv],b⟩));have EN8:=zW (fun x:lA wf=>(show Calls Tryz.prog 20 #[.agg (rsK false (.slice (some ⟨gz,0,none⟩) 0 0))] x.w fun e w'=>e=.returned (.int .i64 (-1))∧Below x.w.heap.size x.w w' from(fR false (some ⟨gz,0,none⟩) 0 0 [] x.w (fun h=>absurd rfl h) rfl zGL).mono fun e w' ⟨v,he,hv,b⟩=>⟨by rw[he,zVX hv],b⟩));have C2:=zW (lD V2.out);have C8:=zW (lD V8.out);have CA:=zW (lD VA.out);have k20:=lA.cell (show wf.cell? ⟨g4,0,none⟩=some (.bool false)from(V2.out.cell 0).trans rfl) V2.out.lt;have k21:=lA.cell (show wf.cell? ⟨g4,1,none⟩=some (.slice (some ⟨gr,0,none⟩) 2 2)from(V2.out.cell 1).trans rfl) V2.out.lt;have k40:=lA.cell (show wf.cell? ⟨g5,0,none⟩=some (.bool true)from(V4.out.cell 0).trans rfl) V4.out.lt;have k41:=lA.cell (show wf.cell? ⟨g5,1,none⟩=some (.slice none 0 0)from(V4.out.cell 1).trans rfl) V4.out.lt;have k81:=lA.cell (show wf.cell? ⟨g8,1,none⟩=some (.slice (some ⟨gz,0,none⟩) 0 0)from(V8.out.cell 1).trans rfl) V8.out.lt;go_upto_region 8 with fail;simp only[List.append];refine gD ?_;repeat(first
  |(refine lR (o:=531) wV CA.out ?_ ?_ (.tmp 101) ?_ ?_ ?_;(focus(rw[CE.out.1];decide));(focus rfl);(focus rfl);(focus(simp[Act.eval];done));rw[CE.out.2.2];simp only[Act.put,zQ,zZ,zJ])
  |(refine vV (ty:=34) (parts:=#[(0,.const (.int .i64 2)),(2,.const (.int .i64 512))]) (cs:=xN 2 0 512 0) ?_ ?_ ?_ ?_;(focus rfl);(focus rfl);(focus(simp[Act.eval];exact E6 2 512));simp only[Act.put,zQ,zZ,zJ])
  |(refine NJ (AY 2 0 512 0) ?_ (.tmp 102) (.tmp 103) 34 ?_ ?_ ?_ ?_;(focus rfl);(focus rfl);(focus(simp[Act.eval];done));(focus(simp[Act.eval];done));simp only[Act.put,zQ,zZ,zJ])
  |(refine mN vD C2.out rfl ?_ (.tmp 2) ?_ ?_ ?_;(focus rfl);(focus rfl);(focus(simp[Act.eval];done));simp only[Act.put,zQ,zZ,zJ])
  |(refine mN vD C8.out rfl ?_ (.tmp 8) ?_ ?_ ?_;(focus rfl);(focus rfl);(focus(simp[Act.eval];done));simp only[Act.put,zQ,zZ,zJ])
  |go_big_quiet_step ((go_at_call 20;first|(with_reducible exact nK (EN2.out _))|(with_reducible exact nK (EN8.out _)))))
 refine zY ?_
 intro _ hw';obtain⟨x,rfl⟩:=hw';have BB:=zW (BB.out.trans (x.below.mono BB.out.size));generalize x.w=wz at BB⊢;clear EN2 EN8 C2 C8 CA k20 k21 k40 k41 k81;go_wp2;go_ret;exact⟨rfl,BB.out⟩
end
end Go.Proofs.YtbpniahcjbagmaaGreatDoor
