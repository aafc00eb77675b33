/- Merged. -/
import Derived.Test.YtbahbnbpmfgimaaGreatDoorBun48
set_option maxHeartbeats 8000000
namespace Go.Proofs.Y
open Go Go.RowKit Go.Hm
theorem KeepC.blk{W W':World}{b:Nat}{t:TypeId}{cs:Array Value}(k:KeepC W W')(h:Blk W b t cs)(h1:t≠tL)(h2:t≠24):Blk W' b t cs:=k.2 _ _ _ h1 h2 h
theorem qbb{L:List zbb}{r:Int}{b:List Nat}{F:FootS}{p own:List Nat}(h:Filed L r b F [[[p]]] own):∀x∈p,x<256:=fun x hx=>h.bytes x (by rw[h.whole];unfold zfn;simp[hx])
theorem zmr{s d:List Nat}{k n:Int}(hs:∀x∈s,x<256)(hd:∀x∈d,x<256)(hl:d.length<=9000000):GoodF (zbe s (leafP k n d)).toList:=fun f hf=>
 zsf hs (z0f hd) (by unfold zfl;rw[zh1];simp[zbg];omega) f hf
theorem qbc{a b:List Nat}(ha:∀x∈a,x<256)(hl:a.length<=9000000)(hb:zh4 b):GoodF (zqr a b):=fun f hf=>by
 obtain rfl:=qnz.1 hf;refine⟨zf5 (s:=ze3) (L:=[a,b]) (by decide) (fun p hp=>?_) zhl,ze2 (s:=ze3) (L:=[a,b]) zhl (by simp[zfl,hb.1];omega)⟩;simp only[qof,qqg,or_false] at hp;rcases hp with rfl|rfl
 ·exact ha
 ·exact hb.2
theorem zud{s d:List Nat}{k n:Int}(hs:1<=s.length/\s.length<=255):(zbe s (leafP k n d)).toList.length=1:=by rw[show zbe s (leafP k n d)=some (zcu s (leafP k n d)) from if_pos ⟨hs.1,hs.2,by rw[zh1];simp⟩];rfl
set_option maxRecDepth 100000 in
theorem z5g{W:World}{b7:Nat}{cn:Array Value}(h:Blk W b7 tD cn)(e:dV (zb6 zbw [])= .agg cn)(hC:ConstIn W):
 Calls Tryz.prog 31 #[.string ⟨#[102,105,108,101]⟩,.slice (some ⟨W.heap.size+1,0,none⟩) 2 2] ((W.alloc (.cells #[.int .u8 0,.int .u8 0,.int .u8 0] 5)).alloc (.cells #[.slice (some ⟨W.heap.size,0,none⟩) 3 3,.slice (some ⟨b7,0,none⟩) 32 32] 24))
  (zal (dV (zb6 ze3 [[0,0,0],zb6 zbw []])) ((W.alloc (.cells #[.int .u8 0,.int .u8 0,.int .u8 0] 5)).alloc (.cells #[.slice (some ⟨W.heap.size,0,none⟩) 3 3,.slice (some ⟨b7,0,none⟩) 32 32] 24))):=by
 obtain⟨W1,hW1⟩:∃X,X=W.alloc (.cells #[.int .u8 0,.int .u8 0,.int .u8 0] 5):=⟨_,rfl⟩;have n1:New W W1:=by rw[hW1];exact zac _ _
 have s1:W1.heap.size=W.heap.size+1:=by rw[hW1,World.size_alloc]
 have B1:Blk W1 W.heap.size 5 #[.int .u8 0,.int .u8 0,.int .u8 0]:=by rw[hW1];exact Blk.new _ _ _
 have h1:=h.below n1 h.lt;rw[<-hW1];have n2:=zac W1 (.cells #[.slice (some ⟨W.heap.size,0,none⟩) 3 3,.slice (some ⟨b7,0,none⟩) 32 32] 24);have ec:cn.toList=zan .u8 (zb6 zbw []):=by injection e with e;rw[<-e]
 have dg:=zb3 zbw [];have rr:RowsAt (W1.alloc (.cells #[.slice (some ⟨W.heap.size,0,none⟩) 3 3,.slice (some ⟨b7,0,none⟩) 32 32] 24)) (some ⟨W.heap.size+1,0,none⟩) 2 2 [((some ⟨W.heap.size,0,none⟩:Option Addr),3,[0,0,0]),(some ⟨b7,0,none⟩,32,zb6 zbw [])]:=by
  refine⟨?_,fun x hx=>?_,qmt _⟩
  ·rw[<-s1]
   exact Reads.litM3 W1 _ (0,0) _ 2 _ (by simp[recs,ze1,dg.1]) (by simp[recs,ze1])
  ·simp only[qof,qqg,or_false] at hx
   rcases hx with rfl|rfl
   ·exact⟨by show Reads _ _ 1 _ 3 _;exact Reads.later (zf8 (l:=[0,0,0]) B1 rfl) n2,qmt 3,by show(3:Nat)<=_;omega⟩
   ·exact⟨by show Reads _ _ 1 _ (zb6 zbw []).length _;exact Reads.later (zf8 h1 ec) n2,by show(zb6 zbw []).length<=32;rw[dg.1];omega,by show(32:Nat)<=_;omega⟩
 have:=zz8 (s:=ze3) rr (by omega) (by decide) (by decide) (by simp[bytesOf,zfl,dg.1]) (by
  intro p hp;simp only[bytesOf,qnc,qnd,qof,qqg,or_false] at hp;rcases hp with rfl|rfl
  ·decide
  ·exact dg.2) (hC.new (New.trans n1 n2))
 rw[show bytesOf [((some ⟨W.heap.size,0,none⟩:Option Addr),3,[0,0,0]),(some ⟨b7,0,none⟩,32,zb6 zbw [])]=[[0,0,0],zb6 zbw []] from rfl,zj6] at this;exact this
set_option maxRecDepth 100000 in
theorem zzy(w:World)(hG:GlobIn w):Calls Tryz.prog 7 #[] w (zal (.bool true) w):=by
 have HG:=Hz hG;clear hG;go_enter Tryz.func7,Tryz.ntmps7
 go_wp2_with fail
 refine new_any.mono ?_;rintro e w1 ⟨rfl,rfl⟩;go_wp2_with fail
 refine new_any.mono ?_;rintro e w2 ⟨rfl,rfl⟩;have T2:=Tw.made (New.refl w);have hz:(w.alloc (.cells #[.slice none 0 0] 86)).heap.size=w.heap.size+1:=by simp
 rw[hz];obtain⟨W2,hW2⟩:∃W,W=(w.alloc (.cells #[.slice none 0 0] 86)).alloc (.cells #[.slice none 0 0] 86):=⟨_,rfl⟩;rw[<-hW2] at T2⊢;obtain⟨g,hg⟩:∃g,g=w.heap.size:=⟨_,rfl⟩;rw[<-hg] at T2⊢;have hgw:w.heap.size<=g:=by omega
 have T2:=Hz T2;have HGW:=Hz hgw;clear hz hW2 hg hgw;have P1:=Hz (show Calls Tryz.prog 27 #[.agg #[.slice none 0 0,.int .i64 0,.slice none 0 0],.agg #[.int .i64 1,.int .i64 1,.slice none 0 0]] W2 (zjn (0,emB) W2) from by have:=zsd (w:=W2) ⟨none,0,[],0,none,0,[],1,1,none,0,[]⟩ (qff W2) Reads.none_ (by intro d hd;cases hd) (by simp);dsimp only at this;rw[qe3] at this;exact this)
 go_wp2_with fail
 refine P1.out.mono ?_;rintro e w3 ⟨A3,m3,c3,rfl,o3,b3⟩;obtain rfl:m3=15:=by have:=o3.len;rw[zaa] at this;exact this
 have T3:=Hz (T2.out.new b3);obtain⟨er1,er2,er3,er4⟩:=qky;obtain⟨ca,ea,ia,za,oa,-⟩:=zg7 (zn8 emB);have hcap:=o3.cap;have hcm:=hcap.2;simp only[maxLen] at hcm;have P3:=Hz (show Calls Tryz.prog 23 #[.pointer (some ⟨g,0,none⟩),.slice A3 15 c3] w3 (TwPost (.tuple #[.agg ca,.int .i64 0]) w g (g+1) (zxo emB) [] w3) from by have:=qaz HGW.out (by omega) HG.out T3.out (BIn.own o3 rfl) (by decide) er1 hcap.1 (by omega) (by simp);unfold qk6 at this;rw[ea,er2,qnk] at this;exact this)
 rw[er3] at ea;have EA:=Hz ea;have Ia:=Hz ia;have Za:=Hz za;have Oa:=Hz oa;have HN1:=Hz er4;clear P1 T2 b3 o3 er1 er2 er3 er4 ea ia za oa hcap hcm;go_wp2_with fail
 refine P3.out.mono ?_;rintro e w4 ⟨rfl,T4,k4⟩;generalize zxo emB=f1 at*;obtain⟨w5,hw5⟩:∃W,W=w4.alloc (.cells ca 35):=⟨_,rfl⟩;have n5:New w4 w5:=by rw[hw5];exact zac _ _
 have T5:=Hz (T4.new n5);have B5:=Hz (show Blk w5 w4.heap.size tD ca by rw[hw5];exact Blk.new _ _ _);have HW5:=Hz hw5;clear P3 T3 T4 k4 n5 hw5;go_upto_region 7 with(refine wpList_store_row rfl 35 (.tmp 5) (.tmp 41) rfl w4.heap.size ca rfl rfl _ _ (heap_alloc_new _ _) Ia.out Za.out Oa.out ?_;rw[zck])
 rw[<-HW5.out];generalize w4.heap.size=b5 at*;obtain⟨cn,en,i_n,z_n,o_n,-⟩:=zg7 (zb3 zbw []);have P5:=zxi w5 (HG.out.new T5.out.news).1;rw[en] at P5;have P5:=Hz P5;have EN:=Hz en;have In:=Hz i_n;have Zn:=Hz z_n;have On:=Hz o_n;clear en i_n z_n o_n HW5;go_wp2_with fail
 refine P5.out.mono ?_;rintro e w6 ⟨rfl,n6⟩;obtain⟨w7,hw7⟩:∃W,W=w6.alloc (.cells cn 35):=⟨_,rfl⟩;have n7:New w6 w7:=by rw[hw7];exact zac _ _
 have n57:=New.trans n6 n7;have T7:=Hz (T5.out.new n57);have B57:=Hz (B5.out.below n57 B5.out.lt);have B7:=Hz (show Blk w7 w6.heap.size tD cn by rw[hw7];exact Blk.new _ _ _);have HW7:=Hz hw7;clear P5 T5 B5 n6 n7 n57 hw7;go_upto_region 8 with(refine wpList_store_row rfl 35 (.tmp 7) (.tmp 43) rfl w6.heap.size cn rfl rfl _ _ (heap_alloc_new _ _) In.out Zn.out On.out ?_;rw[zck])
 rw[<-HW7.out];generalize w6.heap.size=b7 at*;obtain⟨er1,er2,er3,er4⟩:=qkz;obtain⟨cz,ez,iz,zz,oz,-⟩:=zg7 (zn8 []);have P7:=Hz (show Calls Tryz.prog 23 #[.pointer (some ⟨g,0,none⟩),.slice none 0 0] w7 (TwPost (.tuple #[.agg cz,.int .i64 2]) w g (g+1) f1 [] w7) from by have:=qaz (A:=none) (c:=0) HGW.out (by omega) HG.out T7.out (BIn.arg (b:=[]) Reads.none_) (by simp) er1 (by simp) (by omega) (by have:=HN1.out;omega);unfold qk6 at this;rw[ez,er2,er4,qm3] at this;exact this)
 have Iz:=Hz iz;have Zz:=Hz zz;have Oz:=Hz oz;clear er1 er2 er3 er4 ez iz zz oz HW7;go_wp2_with fail
 refine P7.out.mono ?_;rintro e w8 ⟨rfl,T8,k8⟩;have n9:=zac w8 (.cells cz 35);have T9:=T8.new n9;have k9:=k8.trans (KeepC.new n9);have B59:=Hz (k9.blk B57.out (by decide) (by decide));have B79:=Hz (k9.blk B7.out (by decide) (by decide));obtain⟨w9,hw9⟩:∃W,W=w8.alloc (.cells cz 35):=⟨_,rfl⟩;rw[<-hw9] at T9 B59 B79;have T9:=Hz T9;have HW9:=Hz hw9;clear P7 T7 T8 k8 k9 n9 hw9 B57 B7;go_upto_region 9 with(refine wpList_store_row rfl 35 (.tmp 8) (.tmp 47) rfl w8.heap.size cz rfl rfl _ _ (heap_alloc_new _ _) Iz.out Zz.out Oz.out ?_;rw[zck])
 rw[<-HW9.out];clear HW9 Iz Zz Oz;generalize w8.heap.size=b9;obtain⟨TI,b10,BT⟩:=qlq w9;have TI:=Hz TI;have b10:=Hz b10;have BT:=Hz BT;go_upto_region 10 with fail
 generalize hW10:((((w9.alloc (.cells #[.string ⟨#[97]⟩,.int .i64 0,.bool false] 71)).alloc (.cells #[.bool false,.int .i64 5,.string ⟨#[]⟩,.int .i64 0,.int .i64 0] 75)).alloc (.cells #[.slice (some ⟨w9.heap.size+1,0,none⟩) 1 1] 76)).alloc (.cells #[.slice (some ⟨w9.heap.size,0,none⟩) 1 1,.int .i64 1,.slice (some ⟨w9.heap.size+1+1,0,none⟩) 1 1] 56))=W10 at*;have hDl:(qbk w9.heap.size).length=1:=rfl;have hDD:=qiy w9.heap.size;have hFN:=qiz w9.heap.size;generalize qbk w9.heap.size=D0 at*;generalize hgt:w9.heap.size+1+1+1=gt at*;generalize hac:(some ⟨w9.heap.size,0,none⟩:Option Addr)=Ac at*;generalize had:(some ⟨w9.heap.size+1+1,0,none⟩:Option Addr)=Ad at*;clear hW10 hgt hac had;obtain⟨c,Fo,own,p,hb,hfil,hp,hown⟩:=qe4 hDD;have n11:=zac W10 (.cells #[.int .i64 0] 3);have RE:Reads (W10.alloc (.cells #[.int .i64 0] 3)) (W10.alloc (.cells #[.int .i64 0] 3)).heap.size 1 (some ⟨W10.heap.size,0,none⟩) 1 (za7 .i64 [0]):=Reads.litR W10 3 #[.int .i64 0] 1 1 (za7 .i64 [0]) rfl rfl;have P10:=Hz (show Calls Tryz.prog 27 #[.agg #[.slice Ac 1 1,.int .i64 1,.slice Ad 1 1],.agg #[.int .i64 1,.int .i64 1,.slice (some ⟨W10.heap.size,0,none⟩) 1 1]] (W10.alloc (.cells #[.int .i64 0] 3)) (zjn (0,c) (W10.alloc (.cells #[.int .i64 0] 3))) from by have:=zsd ⟨Ac,1,s1L,1,Ad,1,D0,1,1,some ⟨W10.heap.size,0,none⟩,1,[0]⟩ (TI.out.later n11) RE hFN (by simp);dsimp only at this;rw[hb,hDl] at this;exact this)
 obtain⟨sr1,sr2,sr3,sr4⟩:=qk0 hfil hp hown;have HR:=Hz (qo8 sr1 (qo8 sr2 (qo8 sr3 sr4)));have HFil:=Hz hfil;have HP:=Hz (qo8 hp hown);have n911:=New.trans b10.out n11;have T11:=Hz (T9.out.new n911);have B511:=Hz (B59.out.below n911 B59.out.lt);have B711:=Hz (B79.out.below n911 B79.out.lt);obtain⟨x0,x1,x2⟩:=zao BT.out;clear TI b10 BT hDl hDD hFN hb hfil hp hown n11 RE sr1 sr2 sr3 sr4 n911 T9 B59 B79;go_wp2_with fail
 refine P10.out.mono ?_;rintro e w12 ⟨A12,m12,c12,rfl,o12,b12⟩;obtain rfl:m12=c.length:=by have:=o12.len;rwa[zaa] at this
 have hcap:=o12.cap;have hcm:=hcap.2;simp only[maxLen] at hcm;have T12:=Hz (T11.out.new b12);have B512:=Hz (B511.out.below b12 B511.out.lt);have B712:=Hz (B711.out.below b12 B711.out.lt);have hh:w.heap.size<=g+1:=by have:=HGW.out;omega
 have HH:=Hz hh;obtain⟨cs,es,is,zs,os_,-⟩:=zg7 (zn8 c);have P12:=Hz (show Calls Tryz.prog 23 #[.pointer (some ⟨g+1,0,none⟩),.slice A12 c.length c12] w12 (TwPost (.tuple #[.agg cs,.int .i64 0]) w (g+1) g (zxo c) f1 w12) from by have:=qaz hh (by omega) HG.out T12.out.swap (BIn.own o12 rfl) HFil.out.bytes HR.out.1 hcap.1 (by omega) (by simp);unfold qk6 at this;rw[es,HR.out.2.1,qnk] at this;exact this)
 have HF4:=Hz HR.out.2.2.2;have GF2:=Hz (qay HFil.out.bytes HR.out.1);rw[HR.out.2.2.1] at es;have ES:=Hz es;have Is:=Hz is;have Zs:=Hz zs;have Os:=Hz os_;have O12:=Hz o12;clear P10 T11 B511 B711 x0 x1 x2 b12 o12 hcap hcm hh es is zs os_ HR;go_wp2_with fail
 refine P12.out.mono ?_;rintro e w13 ⟨rfl,T13,k13⟩;generalize zxo c=f2 at*;have n14:=zac w13 (.cells cs 35);have T14:=T13.new n14;have k14:=k13.trans (KeepC.new n14);have B514:=Hz (k14.blk B512.out (by decide) (by decide));have B714:=Hz (k14.blk B712.out (by decide) (by decide));have O14:=Hz (KeepC.own O12.out k14);have B13:=Hz (Blk.new w13 tD cs);obtain⟨w14,hw14⟩:∃W,W=w13.alloc (.cells cs 35):=⟨_,rfl⟩;rw[<-hw14] at T14 B514 B714 O14 B13;have T14:=Hz T14;have HW14:=Hz hw14;clear P12 T12 T13 k13 k14 n14 hw14 B512 B712 O12;go_upto_region 12 with(refine wpList_store_row rfl 35 (.tmp 13) (.tmp 66) rfl w13.heap.size cs rfl rfl _ _ (heap_alloc_new _ _) Is.out Zs.out Os.out ?_;rw[zck])
 rw[<-HW14.out];clear HW14;generalize w13.heap.size=b13 at*;have hshort:=HFil.out.short;have hcap:=O14.out.cap;have hcm:=hcap.2;simp only[maxLen] at hcm;have P14:=Hz (z1v (c:=c12) O14.out.reads HFil.out.bytes (by omega) hcap.1 (by omega));clear hcap hcm;go_wp2_with fail
 refine P14.out.mono ?_;rintro e w15 ⟨b15,hq⟩;rw[HFil.out.opened] at hq;obtain⟨Ac2,cc2,L2,r2,Ag2,cg2,G2,A2,m2,c2,rfl,hP2,FI2,hcg2,o2⟩:=hq;obtain rfl:m2=own.length:=by have:=o2.len;rwa[zaa] at this
 clear P14 hcg2 hshort;unfold zli;have n16:=zac w15 (.cells #[.slice Ac2 L2.length cc2,.int .i64 r2,.slice Ag2 G2.length cg2] 79);have BF:=Hz (Blk.new w15 79 #[.slice Ac2 L2.length cc2,.int .i64 r2,.slice Ag2 G2.length cg2]);have n1416:=New.trans b15 n16;have T16:=T14.out.new n1416;have B516:=B514.out.below n1416 B514.out.lt;have B716:=B714.out.below n1416 B714.out.lt;have B1316:=B13.out.below n1416 B13.out.lt;have O16:=O14.out.later n1416;have O216:=o2.later n16;have FI16:=FI2.later n16;go_upto_region 13 with fail
 obtain⟨w16,hw16⟩:∃w3,w3=w15.alloc (.cells #[.slice Ac2 L2.length cc2,.int .i64 r2,.slice Ag2 G2.length cg2] 79):=⟨_,rfl⟩;rw[<-hw16] at BF T16 B516 B716 B1316 O16 O216 FI16⊢;obtain⟨x0,x1,x2⟩:=zao BF.out;have hcap:=O16.cap;have P16:=qe2 (cb:=c12) (cc:=cc2) (r:=r2) (cg:=cg2) (g:=0) (c:=0) (p:=0) O16.reads hcap.1 FI16 (zwy (L:=L2) (r:=r2) (by rw[hP2];exact HFil.out.data));rw[hP2,qfe HFil.out] at P16;unfold zli at P16;have P16:=Hz P16;have T16:=Hz T16;have B516:=Hz B516;have B716:=Hz B716;have B1316:=Hz B1316;have O216:=Hz O216;clear b15 hP2 FI2 o2 n16 BF n1416 T14 B514 B714 B13 O14 O16 FI16 hw16 hcap;go_wp2_with fail
 refine P16.out.mono ?_;rintro e w17 ⟨n17,A17,m17,c17,rfl,o17⟩;obtain rfl:m17=p.length:=by have:=o17.len;rwa[zaa] at this
 have hcap:=o17.cap;have hcm:=hcap.2;simp only[maxLen] at hcm;have hp20:=HP.out.1;have T17:=T16.out.new n17;have B517:=Hz (B516.out.below n17 B516.out.lt);have B717:=Hz (B716.out.below n17 B716.out.lt);have B1317:=Hz (B1316.out.below n17 B1316.out.lt);have O217:=Hz (O216.out.later n17);obtain⟨c1,e1,i1,z1,u1,hc1⟩:=zg7 (zkh p);have P17:=zzu HH.out (by omega) HG.out T17 (s:=zbn) (k:=0) (n:=1) (by decide) (by decide) o17.reads (qbb HFil.out) (by omega) hcap.1 (by omega) (by rw[HF4.out];decide);have hl1:(f2++(zbe zbn (leafP 0 1 p)).toList).length=5:=by rw[qni,zud ⟨by decide,by decide⟩,HF4.out]
 have GF3:=Hz (GoodF.app GF2.out (zmr (s:=zbn) (d:=p) (k:=0) (n:=1) (by decide) (qbb HFil.out) (by omega)));rw[show zb6 zbn (leafP 0 1 p)=dg1 p from rfl,e1] at P17;generalize f2++(zbe zbn (leafP 0 1 p)).toList=f3 at*;have P17:Hid (Calls Tryz.prog 34 #[.pointer (some ⟨g+1,0,none⟩),.string ⟨#[112,97,103,101]⟩,.int .i64 0,.int .i64 1,.slice A17 p.length c17] w17 (TwPost (.agg c1) w (g+1) g f3 f1 w17)):=Hz P17;have HL3:=Hz hl1;have I1:=Hz i1;have Z1:=Hz z1;have U1:=Hz u1;have E1:=Hz e1;have HC1:=Hz hc1;clear P16 x0 x1 x2 T16 B516 B716 B1316 O216 o17 n17 hcap hcm hp20 T17 e1 i1 z1 u1 hl1 hc1 HF4;go_wp2_with fail
 refine P17.out.mono ?_;rintro e w18 ⟨rfl,T18,k18⟩;have n19:=zac w18 (.cells c1 35);have T19:=T18.new n19;have k19:=k18.trans (KeepC.new n19);have B519:=Hz (k19.blk B517.out (by decide) (by decide));have B719:=Hz (k19.blk B717.out (by decide) (by decide));have B1319:=Hz (k19.blk B1317.out (by decide) (by decide));have O219:=Hz (KeepC.own O217.out k19);have BL1:=Hz (Blk.new w18 tD c1);obtain⟨w19,hw19⟩:∃W,W=w18.alloc (.cells c1 35):=⟨_,rfl⟩;rw[<-hw19] at T19 B519 B719 B1319 O219 BL1;have T19:=Hz T19;have HW19:=Hz hw19;clear P17 T18 k18 k19 n19 hw19 B517 B717 B1317 O217;go_upto_region 15 with(refine wpList_store_row rfl 35 (.tmp 20) (.tmp 82) rfl w18.heap.size c1 rfl rfl _ _ (heap_alloc_new _ _) I1.out Z1.out U1.out ?_;rw[zck])
 rw[<-HW19.out];clear HW19;generalize w18.heap.size=b20 at*;have P19:=zzu HH.out (by omega) HG.out T19.out (s:=zew) (k:=0) (n:=1) (c:=32) (by decide) (by decide) (zf8 (l:=dg1 p) BL1.out (by rw[HC1.out])) (zkh p).2 (by rw[(zkh p).1];omega) (by rw[(zkh p).1];omega) (by omega) (by rw[HL3.out];decide);have hl1:(f3++(zbe zew (leafP 0 1 (dg1 p))).toList).length=6:=by rw[qni,zud ⟨by decide,by decide⟩,HL3.out]
 have GF4:=Hz (GoodF.app GF3.out (zmr (s:=zew) (d:=dg1 p) (k:=0) (n:=1) (by decide) (zkh p).2 (by rw[(zkh p).1];omega)));obtain⟨c2',e2,i2,z2,u2,hc2⟩:=zg7 (zki p);rw[show zb6 zew (leafP 0 1 (dg1 p))=dg2 p from rfl,e2,(zkh p).1] at P19;generalize f3++(zbe zew (leafP 0 1 (dg1 p))).toList=f4 at*;have P19:Hid (Calls Tryz.prog 34 #[.pointer (some ⟨g+1,0,none⟩),.string ⟨#[99,104,117,110,107]⟩,.int .i64 0,.int .i64 1,.slice (some ⟨b20,0,none⟩) 32 32] w19 (TwPost (.agg c2') w (g+1) g f4 f1 w19)):=Hz P19;have HL4:=Hz hl1;have I2:=Hz i2;have Z2:=Hz z2;have U2:=Hz u2;have HC2:=Hz hc2;clear e2 i2 z2 u2 hl1 hc2 I1 Z1 U1 E1 HL3;go_wp2_with fail
 refine P19.out.mono ?_;rintro e w20 ⟨rfl,T20,k20⟩;have n21:=zac w20 (.cells c2' 35);have T21:=T20.new n21;have k21:=k20.trans (KeepC.new n21);have B521:=Hz (k21.blk B519.out (by decide) (by decide));have B721:=Hz (k21.blk B719.out (by decide) (by decide));have B1321:=Hz (k21.blk B1319.out (by decide) (by decide));have O221:=Hz (KeepC.own O219.out k21);have BL2:=Hz (Blk.new w20 tD c2');obtain⟨w21,hw21⟩:∃W,W=w20.alloc (.cells c2' 35):=⟨_,rfl⟩;rw[<-hw21] at T21 B521 B721 B1321 O221 BL2;have T21:=Hz T21;have HW21:=Hz hw21;clear P19 T19 T20 k20 k21 n21 hw21 B519 B719 B1319 O219 BL1;go_upto_region 16 with(refine wpList_store_row rfl 35 (.tmp 21) (.tmp 85) rfl w20.heap.size c2' rfl rfl _ _ (heap_alloc_new _ _) I2.out Z2.out U2.out ?_;rw[zck])
 rw[<-HW21.out];clear HW21;generalize w20.heap.size=b21 at*;have P21:=zzu HH.out (by omega) HG.out T21.out (s:=zep) (k:=0) (n:=1) (c:=32) (by decide) (by decide) (zf8 (l:=dg2 p) BL2.out (by rw[HC2.out])) (zki p).2 (by rw[(zki p).1];omega) (by rw[(zki p).1];omega) (by omega) (by rw[HL4.out];decide);have hl1:(f4++(zbe zep (leafP 0 1 (dg2 p))).toList).length=7:=by rw[qni,zud ⟨by decide,by decide⟩,HL4.out]
 have GF5:=Hz (GoodF.app GF4.out (zmr (s:=zep) (d:=dg2 p) (k:=0) (n:=1) (by decide) (zki p).2 (by rw[(zki p).1];omega)));obtain⟨c3',e3,i3,z3,u3,hc3⟩:=zg7 (zzx p);rw[show zb6 zep (leafP 0 1 (dg2 p))=dg3 p from rfl,e3,(zki p).1] at P21;generalize f4++(zbe zep (leafP 0 1 (dg2 p))).toList=f5 at*;have P21:Hid (Calls Tryz.prog 34 #[.pointer (some ⟨g+1,0,none⟩),.string ⟨#[103,114,111,117,112]⟩,.int .i64 0,.int .i64 1,.slice (some ⟨b21,0,none⟩) 32 32] w21 (TwPost (.agg c3') w (g+1) g f5 f1 w21)):=Hz P21;have HL5:=Hz hl1;have I3:=Hz i3;have Z3:=Hz z3;have U3:=Hz u3;have E3:=Hz e3;clear e3 i3 z3 u3 hl1 hc3 I2 Z2 U2 HL4;go_wp2_with fail
 refine P21.out.mono ?_;rintro e w22 ⟨rfl,T22,k22⟩;have n23:=zac w22 (.cells c3' 35);have T23:=T22.new n23;have k23:=k22.trans (KeepC.new n23);have B523:=Hz (k23.blk B521.out (by decide) (by decide));have B723:=Hz (k23.blk B721.out (by decide) (by decide));have B1323:=Hz (k23.blk B1321.out (by decide) (by decide));have O223:=Hz (KeepC.own O221.out k23);have BL3:=Hz (Blk.new w22 tD c3');obtain⟨w23,hw23⟩:∃W,W=w22.alloc (.cells c3' 35):=⟨_,rfl⟩;rw[<-hw23] at T23 B523 B723 B1323 O223 BL3;have T23:=Hz T23;have HW23:=Hz hw23;clear P21 T21 T22 k22 k23 n23 hw23 B521 B721 B1321 O221 BL2;go_upto_region 17 with(refine wpList_store_row rfl 35 (.tmp 22) (.tmp 88) rfl w22.heap.size c3' rfl rfl _ _ (heap_alloc_new _ _) I3.out Z3.out U3.out ?_;rw[zck])
 rw[<-HW23.out];clear HW23 Z3 U3;generalize w22.heap.size=b22 at*;have EQA:=Hz (fun(W:World)=>show(binOp .eql 35 (.agg ca) (.agg ca)).run Tryz.prog W= .ok (.bool true) W from by rw[<-EA.out];have:=qk9 (zb3 ze3 [[0,0,0],zb6 zbw []]) (zb3 ze3 [[0,0,0],zb6 zbw []]) W;rwa[decide_eq_true rfl] at this);have EQS:=Hz (fun(W:World)=>show(binOp .eql 35 (.agg cs) (.agg cs)).run Tryz.prog W= .ok (.bool true) W from by rw[<-ES.out];have:=qk9 (zb3 ze3 [own,dg3 p]) (zb3 ze3 [own,dg3 p]) W;rwa[decide_eq_true rfl] at this);have DK:(Tryz.prog).eqGuardType (Tryz.prog).depth 35=false:=by kernel_rfl
 have DK:=Hz DK;have HFI:=Hz (fun(W:World) (T:Tw w (g+1) g W f5 f1) (k:KeepB w w23 W)=>show Calls Tryz.prog 18 #[.pointer (some ⟨g+1,0,none⟩),.slice A2 own.length c2,.agg c3'] W (TwPost (.agg cs) w (g+1) g (f5++zqr own (dg3 p)) f1 W) from by have o:=KeepC.own O223.out k.1;have hcap:=o.cap;have hcm:=hcap.2;simp only[maxLen] at hcm;have:=qit HH.out (by omega) HG.out T (c:=c2) (a:=own) (b:=dg3 p) o.reads (fun x hx=>HFil.out.bytes x (by rw[HFil.out.whole];unfold zfn;simp[hx])) (by have:=HP.out.2;omega) hcap.1 (by omega) (zzx p) (by rw[HL5.out];decide);rw[E3.out,ES.out] at this;exact this)
 go_wp2_with fail
 refine zax (KeepB w) [(true,0),(true,1),(true,2),(true,3),(true,5),(false,4),(false,6),(false,7),(true,8),(true,9),(true,10),(true,11),(true,12),(true,13),(true,14),(true,15),(true,16),(true,17),(true,18),(true,19),(true,20),(true,21),(true,22),(false,23),(true,24),(true,25),(true,26),(true,27),(false,28),(true,29),(true,30),(true,31),(true,32)]
  (KeepB.refl w) KeepB.trans (by kernel_rfl) (by kernel_rfl) (by kernel_rfl) (by kernel_rfl) ?_
 have FA:=Hz (fun(W:World) (k:KeepB w w23 W)=>k.1.blk B523.out (by decide) (by decide));have FS:=Hz (fun(W:World) (k:KeepB w w23 W)=>k.1.blk B1323.out (by decide) (by decide));have FG:=Hz (fun(W:World) (k:KeepB w w23 W)=>k.1.blk BL3.out (by decide) (by decide));have hT:=KeepB.new T23.out.news (New.drew w23);have hS:=T23.out.new (New.drew w23);obtain⟨u0,hu0⟩:∃W,W=w23.drew:=⟨_,rfl⟩;rw[<-hu0] at hT hS⊢;clear hu0;iterate 3 (
  refine zar rfl rfl (v:=?_) (fun W hW=>?_) ?_;rotate_left
  ·go_simp<;> with_reducible rfl
  simp only[Act.put,qo6,qou,qo7])
 refine zar rfl rfl (v:= .agg ca) (fun W hW=>zc9 rfl (FA.out W (hT.trans hW)) zcn rfl Ia.out) ?_;simp only[Act.put,qo6,qou,qo7];iterate 1 (
  refine zar rfl rfl (v:=?_) (fun W hW=>?_) ?_;rotate_left
  ·go_simp<;> with_reducible rfl
  simp only[Act.put,qo6,qou,qo7])
 refine zba rfl rfl (fun K hK=>?_);go_simp
 refine hK _ _ (KeepB.new hS.news (zac _ _)) ?_;clear hK;have n1:=zac u0 (.cells #[.int .u8 0,.int .u8 0,.int .u8 0] 5);have hT1:=hT.trans (KeepB.new hS.news n1);have hS1:=hS.new n1;refine zba rfl rfl (fun K hK=>?_);go_simp
 refine hK _ _ (KeepB.new hS1.news (zac _ _)) ?_;clear hK;have n2:=zac (u0.alloc (.cells #[.int .u8 0,.int .u8 0,.int .u8 0] 5)) (.cells #[.slice (some ⟨u0.heap.size,0,none⟩) 3 3,.slice (some ⟨b7,0,none⟩) 32 32] 24);have hT2:=hT1.trans (KeepB.new hS1.news n2);have hS2:=hS1.new n2;have HH0:=z5g (hT.1.blk B723.out (by decide) (by decide)) EN.out (HG.out.new hS.news).1;rw[EA.out] at HH0;refine zba rfl rfl (fun K hK=>?_);go_simp
 (with_reducible refine HH0.mono ?_)
 rintro e u3 ⟨rfl,n3⟩;have kb:=KeepB.new hS2.news n3;refine hK _ _ kb ?_;clear hK;replace hT:=hT2.trans kb;replace hS:=hS2.new n3;clear kb n3 hT1 hT2 hS1 hS2 n1 n2 HH0;refine zar rfl rfl (v:= .bool true) (fun W hW=>zsq rfl rfl DK.out (EQA.out W)) ?_;simp only[Act.put,qo6,qou,qo7];iterate 10 (
  refine zar rfl rfl (v:=?_) (fun W hW=>?_) ?_;rotate_left
  ·go_simp<;> with_reducible rfl
  simp only[Act.put,qo6,qou,qo7])
 refine zar rfl rfl (v:= .agg cs) (fun W hW=>zc9 rfl (FS.out W (hT.trans hW)) zcn rfl Is.out) ?_;simp only[Act.put,qo6,qou,qo7];iterate 2 (
  refine zar rfl rfl (v:=?_) (fun W hW=>?_) ?_;rotate_left
  ·go_simp<;> with_reducible rfl
  simp only[Act.put,qo6,qou,qo7])
 refine zar rfl rfl (v:= .agg c3') (fun W hW=>zc9 rfl (FG.out W (hT.trans hW)) zcn rfl I3.out) ?_;simp only[Act.put,qo6,qou,qo7];refine zba rfl rfl (fun K hK=>?_);go_simp
 (with_reducible refine(HFI.out _ hS hT).mono ?_)
 rintro e u4 ⟨rfl,T4,k4⟩;have kb:=KeepB.log hS.news T4.news k4;refine hK _ _ kb ?_;clear hK;replace hT:=hT.trans kb;replace hS:=T4;clear kb k4;refine zar rfl rfl (v:= .bool true) (fun W hW=>zsq rfl rfl DK.out (EQS.out W)) ?_;simp only[Act.put,qo6,qou,qo7];iterate 3 (
  refine zar rfl rfl (v:=?_) (fun W hW=>?_) ?_;rotate_left
  ·go_simp<;> with_reducible rfl
  simp only[Act.put,qo6,qou,qo7])
 obtain⟨V4,lV4⟩:=hS.log;have hg6:GoodF (f5++zqr own (dg3 p)):=GoodF.app GF5.out (qbc (fun x hx=>HFil.out.bytes x (by rw[HFil.out.whole];unfold zfn;simp[hx])) (by have:=HP.out.2;omega) (zzx p));have hl8:(f5++zqr own (dg3 p)).length=8:=by rw[qni,HL5.out];rfl
 have FR:=zxz lV4 (by rw[hl8];decide) (fun q hq=>by have:=(hg6 q hq).2;omega);refine zba rfl rfl (fun K hK=>?_);go_simp
 (with_reducible refine FR.mono ?_)
 rintro e u5 ⟨A5,c5,D5,rfl,o5,-,-,n5⟩;have kb:=KeepB.new hS.news n5;refine hK _ _ kb ?_;clear hK;replace hS:=hS.new n5;clear kb n5 FR lV4 hT o5;generalize f5++zqr own (dg3 p)=f6 at*;rw[hl8];iterate 4 (
  refine zar rfl rfl (v:=?_) (fun W hW=>?_) ?_;rotate_left
  ·go_simp<;> with_reducible rfl
  simp only[Act.put,qo6,qou,qo7])
 refine zdh ?_;have BE:=Hz hS.news;go_wp2
 go_ret
 exact⟨rfl,BE.out⟩
end Go.Proofs.Y
