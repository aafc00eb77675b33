import Derived.Test.YtbahbnbpmfgimaaGreatDoorBun46
set_option maxHeartbeats 2000000
set_option maxRecDepth 100000
namespace Go.Proofs.Y
open Go.RowKit Go.Hm
theorem z4o{t:Int}{l:List zab}(h:∀y∈l,CellFine y)(hl:l.length<=65536):(CellFine (zmz t l).2.2.1/\CellFine (zmz t l).2.2.2)/\ -9223372036854775808<=(zmz t l).1/\(zmz t l).1<=9223372036854775807:=by
 have hs:=zof t l;have h0:CellFine zbf:=by unfold CellFine zbf;simp
 refine⟨?_,?_⟩
 ·cases hb:(zmz t l).2.1 with
  |true=>exact⟨h _ (hs.least hb).1.1,h _ (hs.most hb).1.1⟩
  |false=>
   obtain⟨e1,e2⟩:=hs.none hb;rw[e1,e2];exact⟨h0,h0⟩
 ·have h1:=hs.nulls
  have h2:=ziz l;omega
theorem qhw{w:World}{T:WrT}(h:TabIn w T.Ac T.cc T.L T.Ad T.D)(he:Reads w w.heap.size 1 T.Ae T.E.length (zap .i64 T.E))(hf:∀d∈T.D,∀y∈d.2.2,CellFine y)(h1:zgr T.L T.r T.D=0)(h2:zey T.gr T.pr T.E T.L=0):WrIn w T:=by
 obtain⟨a1,a2,a3,a4,a5⟩:=z90 h1;have hc:(1<=T.gr/\T.gr<=65536/\1<=T.pr/\T.pr<=65536)/\T.E.length=T.L.length:=by
  unfold zey at h2;split at h2
  ·omega
  ·rename_i hg
   have hg:=qqw.1 hg;obtain⟨b1,b2,b3,b4,b5⟩:=hg;exact⟨⟨b1,b2,b3,b4⟩,b5⟩
 have hr:zju T.D T.L=true:=by
  unfold zgr at h1;split at h1
  ·rename_i q;exact absurd h1 q
  ·split at h1
   ·rename_i q;exact absurd h1 q
   ·split at h1
    ·assumption
    ·omega
 refine⟨h,he,a1,hc.2,a4,⟨a2,a3⟩,a5,fun c hcl y hy=>?_,hf,⟨⟨hc.1.1,hc.1.2.1⟩,hc.1.2.2⟩⟩;have:=zqh a1 hr (k:=c) (by omega);exact qog.1 this y hy
theorem zub(w:World)(e:TypeId)(fr:Nat × Nat)(cs:Array Value)(n:Nat)(xs:List Value)(h:cs.toList=xs)(hn:n=xs.length):Reads (w.alloc (.cells cs e fr)) (w.alloc (.cells cs e fr)).heap.size 1 (some ⟨w.heap.size,0,none⟩) n xs:=by subst hn;refine⟨by simp,fun _=>⟨_,rfl,by simp,?_⟩⟩;have:=qq9 (heap_alloc_new w (.cells cs e fr));rwa[h] at this
theorem zw4{w:World}{e:TypeId}{cs:List Value}(hn:cs.length<=1000):Go.Hm.Own (w.alloc (.cells cs.toArray e)) w.heap.size e (.slice (some ⟨w.heap.size,0,none⟩) cs.length cs.length) cs:=
 ⟨by simp,.inr ⟨w.heap.size,cs.length,cs.toArray,rfl,ql6 _,heap_alloc_new w _,ql6 _,by simp only[maxLen];omega,by simp,by rw[qm0 (by simp)]⟩⟩
theorem qks:ElT Tryz.prog 77 114 (.agg #[.int .i64 0,.slice none 0 0]) 2 32:=⟨by kernel_rfl,by kernel_rfl,rfl,by omega⟩
theorem qaa{T:WrT}{c:Nat}{s:Int × Int}{y:zab}(h:y∈zcd T.dat c s):∃d∈T.D,y∈d.2.2:=by
 unfold zcd at h;have h:=qoo (qmu h);by_cases hc:c<T.D.length
 ·unfold WrT.dat at h
  rw[zbw (fun d:ze9=>d.2.2) T.D dZ [] hc] at h;exact⟨_,zax dZ hc,h⟩
 ·unfold WrT.dat at h
  rw[qnp,qnx (by rw[qos];omega)] at h;cases h
theorem qab{w:World}{T:WrT}(h:WrIn w T)(c:Nat)(s:Int × Int):PageFine (zeh T.L T.E T.dat c s):=by
 have hf:∀y∈zcd T.dat c s,CellFine y:=fun y hy=>by obtain⟨d,hd,hyd⟩:=qaa hy;exact h.data d hd y hyd
 have hl:(zcd T.dat c s).length<=65536:=by
  unfold zcd;rw[ql2,ql0];have:(T.dat.getD c []).length<=65536:=by
   by_cases hc:c<T.D.length
   ·unfold WrT.dat
    rw[zbw (fun d:ze9=>d.2.2) T.D dZ [] hc];have h1:=h.all _ (zax dZ hc);have h2:=h.rows;omega
   ·unfold WrT.dat
    rw[qnp,qnx (by rw[qos];omega)];simp
  omega
 have hb:=zzb (t:=(T.L.getD c zf5).2.1) (nu:=(T.L.getD c zf5).2.2) (e:=T.E.getD c 0) (fun y hy=>zlh (hf y hy)) (show pgE _ _ _ (zcd T.dat c s)=((zik T.L T.E T.dat c s).1,(zik T.L T.E T.dat c s).2) from rfl);have hs:=z4o (t:=(T.L.getD c zf5).2.1) hf hl;refine⟨hs,?_,?_⟩
 ·unfold zeh
  dsimp only;omega
 ·unfold zeh
  dsimp only;omega
theorem zsj{w:World}(T:WrT)(h:TabIn w T.Ac T.cc T.L T.Ad T.D)(he:Reads w w.heap.size 1 T.Ae T.E.length (zap .i64 T.E))(hf:∀d∈T.D,∀y∈d.2.2,CellFine y)(hen:T.E.length<=4611686018427387903):
 Calls Tryz.prog 27 #[.agg #[.slice T.Ac T.L.length T.cc,.int .i64 T.r,.slice T.Ad T.D.length T.cd],.agg #[.int .i64 T.gr,.int .i64 T.pr,.slice T.Ae T.E.length T.ce]] w (zjt (zg0 T.L T.r T.D T.gr T.pr T.E) w):=by
 obtain⟨X,hX⟩:∃X,X=zg0 T.L T.r T.D T.gr T.pr T.E:=⟨_,rfl⟩;rw[<-hX];unfold zg0 at hX;obtain⟨w1,hw1⟩:∃w1,w1=(w.alloc (.cells #[.slice T.Ac T.L.length T.cc,.int .i64 T.r,.slice T.Ad T.D.length T.cd] 56)).alloc (.cells #[.int .i64 T.gr,.int .i64 T.pr,.slice T.Ae T.E.length T.ce] 59):=⟨_,rfl⟩;have n1:New w w1:=by rw[hw1];exact((qq8 _ _).alloc (ql6 _) _).alloc (by simp) _
 have BT:Blk w1 w.heap.size 56 #[.slice T.Ac T.L.length T.cc,.int .i64 T.r,.slice T.Ad T.D.length T.cd]:=by rw[hw1];exact(qrv _ _ _).alloc _
 have BC:Blk w1 (w.heap.size+1) 59 #[.int .i64 T.gr,.int .i64 T.pr,.slice T.Ae T.E.length T.ce]:=by rw[hw1];have:=qrv (w.alloc (.cells #[.slice T.Ac T.L.length T.cc,.int .i64 T.r,.slice T.Ad T.D.length T.cd] 56)) 59 #[.int .i64 T.gr,.int .i64 T.pr,.slice T.Ae T.E.length T.ce];rwa[qrq] at this
 have ha:=h.later n1;have CK1:=qrf (z9v (cc:=T.cc) (r:=T.r) (cd:=T.cd) ha.cols ha.fine ha.cap ha.few ha.data ha.few2 ha.within);have CK2:=qrf (fun(W:World) (hW:New w W)=>z3j (g:=T.gr) (p:=T.pr) (c:=T.ce) (c2:=T.cc) (qsg he hW) ((h.later hW).cols) hen);have HWI:=qrf (fun h1 h2=>qhw h he hf h1 h2);generalize hK1:zgr T.L T.r T.D=K1 at*;generalize hK2:zey T.gr T.pr T.E T.L=K2 at*;have HX:=qrf hX;have HT:=qrf (qok h hf);obtain⟨x0,x1,x2⟩:=zar BT;obtain⟨y0,y1,y2⟩:=zar BC;have HW1:=qrf hw1;rw[hw1] at x0 x1 x2 y0 y1 y2;clear hX h he hf hen ha hw1;go_enter Tryz.func27,Tryz.ntmps27
 go_wp2_with fail
 rw[<-HW1.out];refine CK1.out.mono ?_;rintro e w2 ⟨rfl,b2⟩;clear CK1 x0 x1 x2 y0 y1 y2;have n2:=qr0 n1 b2;have BT2:=BT.below b2 BT.lt;have BC2:=BC.below b2 BC.lt;obtain⟨x0,x1,x2⟩:=zar BT2;obtain⟨y0,y1,y2⟩:=zar BC2;clear BT BC b2 n1 HW1;by_cases hk1:K1=0
 ·subst hk1
  have C2:=qrf (CK2.out w2 n2);go_wp2_with fail
  refine C2.out.mono ?_;rintro e w3 ⟨rfl,b3⟩;clear C2 CK2 x0 x1 x2 y0 y1 y2;have n3:=qr0 n2 b3;have BT3:=BT2.below b3 BT2.lt;have BC3:=BC2.below b3 BC2.lt;obtain⟨x0,x1,x2⟩:=zar BT3;obtain⟨y0,y1,y2⟩:=zar BC3;clear BT2 BC2 b3 n2;by_cases hk2:K2=0
  ·subst hk2
   have hx:=HX.out;rw[if_neg (by simp),if_neg (by simp)] at hx;have WI:=HWI.out trivial rfl;have HX:=qrf hx;have hL64:=WI.few;have hr:=WI.rows;have hgr:=WI.conf.1;have HWR:=qrf WI;have LC:=qrf (fun(W:World)=>z07 0 T.r T.gr (by omega) (by omega) (by omega) W);have hsl:=zts 0 T.r T.gr;have HSPD:Hid (∀q,q<(zd5 0 T.r T.gr).length-> ∃x y:Nat,(zd5 0 T.r T.gr).getD q (0,0)=((x:Int),(y:Int))/\x<=y/\(y:Int)<=T.r):=qrf (fun q hq=>by
    unfold zd5 at hq⊢;split at hq
    ·simp at hq
    ·rename_i hc
     rw[if_neg hc];rw[zgb] at hq;rw[zpq hq];have hq2:=(zgx (show 0<T.gr.toNat by omega) q).1 hq;refine⟨_,_,rfl,?_,?_⟩
     ·rw[qn2]
      omega
     ·omega)
   unfold ze1 at hx;obtain⟨sp,hsp⟩:∃sp,sp=zd5 0 T.r T.gr:=⟨_,rfl⟩;rw[<-hsp] at LC hsl HSPD hx;have HX:=qrf hx;have HSP:=qrf hsp;clear hx WI hsp hK1 hK2;go_upto_region 8 with fail
   have b34:New w3 (w3.alloc (.cells (wrC T (.slice none 0 0) 0) 107)):=(qq8 _ _).alloc (ql6 _) _;have BW4:=qrv w3 107 (wrC T (.slice none 0 0) 0);obtain⟨w4,hw4⟩:∃w4,w4=w3.alloc (.cells (wrC T (.slice none 0 0) 0) 107):=⟨_,rfl⟩;rw[<-hw4] at b34 BW4;unfold wrC at hw4;rw[<-hw4];have n4:=qr0 n3 b34;have BT4:=BT3.below b34 BT3.lt;have BC4:=BC3.below b34 BC3.lt;obtain⟨gw,hgw⟩:∃gw,gw=w3.heap.size:=⟨_,rfl⟩;rw[<-hgw] at BW4⊢;have hgl:w.heap.size+1<gw:=by have:=BC3.lt;omega
   clear hw4 x0 x1 x2 y0 y1 y2 BT3 BC3 n3 b34 hgw;obtain⟨x0,x1,x2⟩:=zar BT4;obtain⟨y0,y1,y2⟩:=zar BC4;go_upto_region 9 with fail
   have b45:New w4 (w4.alloc (.cells #[.slice T.Ac T.L.length T.cc,.int .i64 T.r,.slice none 0 0] 79)):=(qq8 _ _).alloc (ql6 _) _;have BF5:=qrv w4 79 #[.slice T.Ac T.L.length T.cc,.int .i64 T.r,.slice none 0 0];obtain⟨w5,hw5⟩:∃w5,w5=w4.alloc (.cells #[.slice T.Ac T.L.length T.cc,.int .i64 T.r,.slice none 0 0] 79):=⟨_,rfl⟩;rw[<-hw5] at b45 BF5⊢;have n5:=qr0 n4 b45;have BT5:=BT4.below b45 BT4.lt;have BC5:=BC4.below b45 BC4.lt;have BW5:=BW4.below b45 BW4.lt;obtain⟨gf,hgf⟩:∃gf,gf=w4.heap.size:=⟨_,rfl⟩;rw[<-hgf] at BF5⊢;have hfl:gw<gf:=by have:=BW4.lt;omega
   clear hw5 x0 x1 x2 y0 y1 y2 BT4 BC4 BW4 n4 b45 hgf;obtain⟨x0,x1,x2⟩:=zar BT5;obtain⟨y0,y1,y2⟩:=zar BC5;have HBF5:=qrf BF5;have HBW5:=qrf BW5;have HN5:=qrf n5;have HGF:=qrf (qok hgl (qok hfl BF5.lt));clear BF5 BW5 n5 hgl hfl;go_wp2_with fail
   refine(LC.out w5).mono ?_;rintro e w6 ⟨As,ns,cs,rfl,oS,b6⟩;obtain rfl:ns=sp.length:=by have:=oS.1;rw[zgv] at this;omega
   clear x0 x1 x2 y0 y1 y2 BT5 BC5 LC;have B5:=HBF5.out.lt;have BF6:=HBF5.out.below b6 HBF5.out.lt;have BW6:=HBW5.out.below b6 HBW5.out.lt;have HN6:=qrf (qr0 HN5.out b6);have hB6:=qrf (show gf<w5.heap.size/\w5.heap.size<=w6.heap.size from qok B5 b6.size);obtain⟨B,hBB⟩:∃B,B=w5.heap.size:=⟨_,rfl⟩;rw[<-hBB] at oS hB6;have HW6:WrOf w6 B gw T (.slice none 0 0) [] 0:=⟨BW6,none,0,[],rfl,zdx,rfl,fun d hd=>(by cases hd)⟩;have HW6:=qrf HW6;have HF6:=qrf BF6;have HS6:=qrf oS;clear hBB B5 BF6 BW6 HBF5 HBW5 HN5 b6 oS;go_wp2_with fail
   go_loopw [44] (fun i wr=>∃(k:Nat) (V:Value) (x:List (List Nat) × Int) (Ag:Option Addr) (dg:Nat) (G:List GrD),k<=sp.length/\i= .int .i64 (k:Int)/\Hid (WrOf wr B gw T V x.1 x.2)/\Hid (z1o T.L T.E T.dat T.pr (sp.take k)=some x)/\Hid (Blk wr gf 79 #[.slice T.Ac T.L.length T.cc,.int .i64 T.r,.slice Ag G.length dg])/\Hid (GrOwn wr B Ag dg G)/\Hid (G.map grP=(sp.take k).map (zd7 T.L T.E T.dat T.pr))/\Hid (wr.ownsRow B 111 2 (.slice As sp.length cs) sp.length (zdu sp))/\Hid (New w wr)/\B<=wr.heap.size) (fun i _=>sp.length-(intOf i).toNat)
   case atStart=>exact⟨0,.slice none 0 0,([],0),none,0,[],ql7 _,rfl,HW6,qrf rfl,HF6,qrf ⟨zdx,fun g hg=>(by cases hg)⟩,qrf rfl,HS6,HN6,hB6.out.2⟩
   case round=>
    clear HW6 HF6 HS6 HN6;obtain⟨k,V,x,Ag,dg,G,hk,rfl,HW,HS,HF,HG,HGP,HSR,HN,hBw⟩:=hrel;by_cases hlt:k<sp.length
    ·obtain⟨xF,xz⟩:=x
     obtain⟨xa,xb,hspq,hle,hleb⟩:=HSPD.out k hlt;obtain⟨asp,rfl,hbs,s0,s1⟩:=(qrt HSR.out).pair2 hlt;rw[hspq] at s0 s1;dsimp only at s0 s1;have hok:=zzf (L:=T.L) (E:=T.E) (D:=T.dat) (pr:=T.pr) (sp.take k);rw[HS.out] at hok;have hsn:= @z9x T.L T.E T.dat T.pr sp k hlt;rw[HS.out,hspq] at hsn;have ha:New wr (wr.alloc (.cells #[.int .i64 (xa:Int),.int .i64 (xb:Int)] 111)):=(qq8 _ _).alloc (ql6 _) _;have BX:=qrv wr 111 #[.int .i64 (xa:Int),.int .i64 (xb:Int)];obtain⟨hg1,hg2,hg3⟩:=HGF.out;have hza:=ha.size;have GC:=z4n (a:=xa) (b:=xb) HWR.out (qr0 HN.out ha) (HW.out.new ha) (by have:=hB6.out;omega) (by omega) (by omega) hle hleb hok;unfold z99 at GC;rw[<-hsn] at GC;have HGW:=qrf (show(sp.take (k+1)).map (zd7 T.L T.E T.dat T.pr)=(sp.take k).map (zd7 T.L T.E T.dat T.pr)++[zd7 T.L T.E T.dat T.pr ((xa:Int),(xb:Int))] by rw[zae _ k (0,0) hlt,qpj,hspq];rfl)
     have hgl:=congrArg List.length HGP.out;rw[qos,qos,ql2] at hgl;have hG6:G.length<=65536:=by omega
     generalize hS2:z1o T.L T.E T.dat T.pr (sp.take (k+1))=S2 at*;have HS2:=qrf hS2;have GC:=qrf GC;have HFa:=qrf (HF.out.below ha HF.out.lt);have HGa:=qrf (HG.out.later ha);have HSa:=qrf (za8 HSR.out ha);have HB6:=qrf (show w.heap.size<=B/\gf<B by have:=hB6.out;omega);obtain⟨y0,y1⟩:=zb6 BX;clear hspq hle hleb hbs hok hsn hS2 hg1 hg2 hg3 HF HG HSR BX hgl ha HW HN;go_wp2_with fail
     refine GC.out.mono ?_;intro e w7 hq;clear GC s0 s1 y0 y1;cases S2 with
     |none=>
      obtain⟨rfl,n7⟩:=hq;have hx:=HX.out;rw[z4j (k+1) HS2.out] at hx;have N7:=qrf n7;clear HX HS2 HGW HGP HFa HGa HSa HS HWR n7;subst hx;go_wp2_with fail
      try rw[qrr]
      go_ret2
      exact⟨none,0,0,rfl,qru,qr0 N7.out ((qq8 _ _).alloc (ql6 _) _)⟩
     |some y=>
      obtain⟨A,D,rfl,hDm,hCO,⟨V',hw7⟩,k7,n7⟩:=hq;have BF7:=k7.2 _ _ _ (by decide) (by decide) HFa.out;have GO7:GrOwn w7 B Ag dg G:=⟨k7.own HGa.out.row (by decide) (by decide),fun x hx=>⟨k7.own (HGa.out.chunks x hx).row (by decide) (by decide),fun y hy=>k7.own ((HGa.out.chunks x hx).pages y hy) (by decide) (by decide)⟩⟩;have HS7:=k7.own HSa.out (by decide) (by decide);have CO7:=hCO.base (show B<=(wr.alloc (.cells #[.int .i64 (xa:Int),.int .i64 (xb:Int)] 111)).heap.size by omega);have b78:New w7 (w7.alloc (.cells #[.int .i64 ((xb:Int)-(xa:Int)),.slice A D.length D.length] 114)):=(qq8 _ _).alloc (ql6 _) _;have BG8:=qrv w7 114 #[.int .i64 ((xb:Int)-(xa:Int)),.slice A D.length D.length];obtain⟨w8,hw8⟩:∃w8,w8=w7.alloc (.cells #[.int .i64 ((xb:Int)-(xa:Int)),.slice A D.length D.length] 114):=⟨_,rfl⟩;rw[<-hw8] at b78 BG8;have HW8:=qrf hw8;have BF8:=BF7.below b78 BF7.lt;have GO8:=GO7.later b78;have HS8:=qrf (za8 HS7 b78);have CO8:=qrf (CO7.later b78);have HWR8:=qrf (hw7.new b78);have n8:=qr0 n7 b78;have hB8:B<=w8.heap.size:=by have:=k7.1;have:=b78.size;omega
      have HDm:=qrf hDm;clear HFa HGa HSa hCO k7 hDm hw7 n7 BF7 GO7 HS7 CO7 b78 hw8 hza hBw;go_upto_region 15 with fail
      rw[<-HW8.out];obtain⟨x0,x1,x2⟩:=zar BF8;obtain⟨y0,y1⟩:=zb6 BG8;have HN8:=qrf n8;go_upto_region 16 with(first
       |(at_builtin;refine zdy qks rfl (.tmp 57) (.tmp 59) rfl (W:=w) (B:=w.heap.size) (us:=[.int .i64 ((xb:Int)-(xa:Int)),.slice A D.length D.length]) GO8.row rfl rfl HN8.out HB6.out.1 hB8 rfl (by intro u hu;simp at hu;rcases hu with rfl|rfl<;> rfl) (by omega) (by simp only[maxLen];omega) ?_
         intro A9 c9 w9 _ _ o9 g9 b9 _ _;have BF9:=BF8.grown g9 (fun e=>zav GO8.row BF8 (by decide) e.symm))
       |(refine ze5 rfl 77 (.tmp 61) (.tmp 60) rfl gf 2 (.slice A9 (G.length+1) c9) rfl rfl BF9 (by simp) (by kernel_rfl) rfl ?_
         intro w10 BF10 g10 _;simp only[qoi,qn8,qoj] at BF10))
      have hgfB:=HB6.out;have hlen:(G++[(((xb:Int)-(xa:Int),A,D.length,D):GrD)]).length=G.length+1:=by rw[qmv];rfl
      have GO10:GrOwn w10 B A9 c9 (G++[(((xb:Int)-(xa:Int),A,D.length,D):GrD)]):=by
       refine⟨?_,fun x hx=>?_⟩
       ·rw[hlen,za7]
        exact qlm o9 g10 (.inr (zav o9 BF9 (by decide)))
       ·rcases qnd.1 hx with hx|hx
        ·exact((GO8.chunks x hx).row_ GO8.row g9 (by decide) (by decide)).far g10 hgfB.2
        ·obtain rfl:=qne.1 hx
         exact(CO8.out.row_ GO8.row g9 (by decide) (by decide)).far g10 hgfB.2
      have HW10:=qrf (WrOf.far (WrOf.row HWR8.out GO8.row g9 (by decide) (by decide) (by decide)) g10 BF9 (by decide) (by decide) (by decide));have HS10:=qrf (qlm (qlm HS8.out g9 (zef HS8.out GO8.row (by decide))) g10 (.inr (fun e=>by have:=(qln HS8.out _ e).1;omega)));have HN10:=qrf (zbo b9 g10 (by have:=HGF.out;omega) (ql6 _));have HGP10:=qrf (show(G++[(((xb:Int)-(xa:Int),A,D.length,D):GrD)]).map grP=(sp.take (k+1)).map (zd7 T.L T.E T.dat T.pr) by
       rw[qpj,HGP.out,HGW.out];congr 1
       show [(((xb:Int)-(xa:Int),D.map (·.2.2)):za9)]=_;rw[HDm.out];rfl)
      have hB10:B<=w10.heap.size:=by have:=g9.size;have:=g10.size;omega
      have HBF10:=qrf BF10;have HGO10:=qrf GO10;rw[<-hlen] at HBF10;generalize G++[(((xb:Int)-(xa:Int),A,D.length,D):GrD)]=G10 at*;clear GO10 BF10 g10 o9 g9 b9 BF9 BF8 GO8 CO8 HS8 HWR8 HN8 n8 HDm HGW HGP hlen x0 x1 x2 y0 y1 BG8;go_wp2_with fail
      go_roundw
      case rel=>exact⟨k+1,V',y,A9,c9,G10,by omega,by go_num,HW10,HS2,HBF10,HGO10,HGP10,HS10,HN10,hB10⟩
      case measure=>simp[intOf];omega
    ·obtain rfl:k=sp.length:=by omega
     have hs2:=HS.out;have hgp:=HGP.out;rw[qp1] at hs2 hgp;have hx:=HX.out;rw[show z1o T.L T.E (T.D.map (·.2.2)) T.pr sp=some x from hs2] at hx;dsimp only at hx;have hsh:∀g∈G,g.2.2.2.length=T.L.length/\ ∀y∈g.2.2.2,y.2.2.length<=65536/\ ∀p∈y.2.2,PageFine p:=fun g hg=>by
      have hm:grP g∈sp.map (zd7 T.L T.E T.dat T.pr):=by rw[<-hgp];exact qly.2 ⟨g,hg,rfl⟩
      obtain⟨s,_,hs⟩:=qly.1 hm;have h2:(zd7 T.L T.E T.dat T.pr s).2=g.2.2.2.map (·.2.2):=by rw[hs];rfl
      unfold zd7 at h2;dsimp only at h2;refine⟨by have:=congrArg List.length h2;rw[qos,qos,qow] at this;exact this.symm,fun y hy=>?_⟩;have hym:y.2.2∈g.2.2.2.map (·.2.2):=qly.2 ⟨y,hy,rfl⟩;rw[<-h2] at hym;obtain⟨c,_,hc⟩:=qly.1 hym;rw[<-hc];refine⟨by rw[qos];exact zts _ _ _,fun p hp=>?_⟩;obtain⟨q,_,hq⟩:=qly.1 hp;rw[<-hq];exact qab HWR.out c q
     have hgl:=congrArg List.length hgp;rw[qos,qos] at hgl;have hT:=HT.out.1.later HN.out;have FI:FootIn wr T.Ac T.cc T.L Ag G:=⟨hT.cols,hT.fine,hT.cap,hT.few,qrt HG.out.row,by omega,fun g hg=>⟨qrt (HG.out.chunks g hg).row,by have:=(hsh g hg).1;omega⟩,fun g hg y hy=>⟨qrt ((HG.out.chunks g hg).pages y hy),by have:=((hsh g hg).2 y hy).1;omega⟩⟩;have FE:=zy3 (cc:=T.cc) (r:=T.r) (cg:=dg) FI (fun g hg y hy p hp=>((hsh g hg).2 y hy).2 p hp);have hfp:zb5 T.L T.r G=⟨T.L,T.r,sp.map (zd7 T.L T.E (T.D.map (·.2.2)) T.pr)⟩:=by unfold zb5;rw[hgp]
     rw[<-hfp] at hx;generalize zq6 (zb5 T.L T.r G)=oo at*;have HX:=qrf hx;unfold zln at FE;have FE:=qrf FE;obtain⟨x0,x1,x2⟩:=zar HF.out;have hokx:=zzf (L:=T.L) (E:=T.E) (D:=T.dat) (pr:=T.pr) sp x hs2;have HOKX:=qrf hokx;clear hs2 hgp hx hsh hgl hT FI hfp HGP HSR HG HS hokx;go_wp2_with fail
     refine FE.out.mono ?_;intro e w7 hq;clear FE x0 x1 x2;cases oo with
     |none=>
      obtain⟨rfl,b7⟩:=hq;have hx:=HX.out;dsimp only at hx;have N7:=qrf (qr0 HN.out b7);clear HX HOKX HW HF HWR;subst hx;go_wp2_with fail
      go_ret2
      exact⟨none,0,0,rfl,qru,N7.out⟩
     |some own=>
      obtain⟨Ao,no,co,rfl,oo,b7⟩:=hq;obtain rfl:no=own.length:=by have:=oo.len;rwa[zaa] at this
      have hx:=HX.out;dsimp only at hx;have N7:=qrf (qr0 HN.out b7);by_cases hbig:1073741824<own.length
      ·rw[if_pos hbig] at hx
       have hbi:(1073741824:Int)<(own.length:Int):=by omega
       clear HX HOKX HW HF HWR hbig;subst hx;go_wp2_with fail
       go_ret2
       exact⟨none,0,0,rfl,qru,N7.out⟩
      ·rw[if_neg hbig] at hx
       have hbi:(own.length:Int)<=1073741824:=by omega
       have hw7:=HW.out.new b7;obtain⟨BW7,Ap,cp,P,rfl,oP,hPF,hPT⟩:=hw7;unfold wrC at BW7;have hgw7:=BW7.lt;have hPl:=congrArg List.length hPF;rw[qos] at hPl;have hOK:=HOKX.out;have hPl2:P.length<=1073741824:=by omega
       have kc:=Lib.run_convert_bytes_const (P:=Tryz.prog) w7 24 5 #[.int .u8 72,.int .u8 89,.int .u8 80,.int .u8 79] 4 4 (by kernel_rfl) (by kernel_rfl);have bA:New w7 ((w7.alloc (.cells #[.int .u8 72,.int .u8 89,.int .u8 80,.int .u8 79] 5 (4,5))).alloc (.cells #[.slice (some ⟨w7.heap.size,0,none⟩) 4 4] 24)):=((qq8 _ _).alloc (ql6 _) _).alloc (by simp) _;have BWA:=BW7.below bA BW7.lt;have OL:Go.Hm.Own ((w7.alloc (.cells #[.int .u8 72,.int .u8 89,.int .u8 80,.int .u8 79] 5 (4,5))).alloc (.cells #[.slice (some ⟨w7.heap.size,0,none⟩) 4 4] 24)) (w7.heap.size+1) 24 (.slice (some ⟨w7.heap.size+1,0,none⟩) 1 1) [.slice (some ⟨w7.heap.size,0,none⟩) 4 4]:=by have:=zw4 (w:=w7.alloc (.cells #[.int .u8 72,.int .u8 89,.int .u8 80,.int .u8 79] 5 (4,5))) (e:=24) (cs:=[.slice (some ⟨w7.heap.size,0,none⟩) 4 4]) (by simp);simpa[World.size_alloc] using this
       have RH:Reads (w7.alloc (.cells #[.int .u8 72,.int .u8 89,.int .u8 80,.int .u8 79] 5 (4,5))) (w7.alloc (.cells #[.int .u8 72,.int .u8 89,.int .u8 80,.int .u8 79] 5 (4,5))).heap.size 1 (some ⟨w7.heap.size,0,none⟩) 4 (zah .u8 headL_film):=zub w7 5 _ _ 4 _ rfl rfl;have bH:New (w7.alloc (.cells #[.int .u8 72,.int .u8 89,.int .u8 80,.int .u8 79] 5 (4,5))) ((w7.alloc (.cells #[.int .u8 72,.int .u8 89,.int .u8 80,.int .u8 79] 5 (4,5))).alloc (.cells #[.slice (some ⟨w7.heap.size,0,none⟩) 4 4] 24)):=(qq8 _ _).alloc (ql6 _) _;have RH:=qsg RH bH;have RP:Reads ((w7.alloc (.cells #[.int .u8 72,.int .u8 89,.int .u8 80,.int .u8 79] 5 (4,5))).alloc (.cells #[.slice (some ⟨w7.heap.size,0,none⟩) 4 4] 24)) ((w7.alloc (.cells #[.int .u8 72,.int .u8 89,.int .u8 80,.int .u8 79] 5 (4,5))).alloc (.cells #[.slice (some ⟨w7.heap.size,0,none⟩) 4 4] 24)).heap.size 1 Ap P.length (recs zgq P):=qsg (qrt oP) bA;have HPT:=qrf hPT;have HPF:=qrf hPF;have HOO:=qrf oo;have RH:=qrf RH;obtain⟨x0,x1,x2,x3,x4,x5,x6,x7⟩:=zet BWA;have hbsA:w7.heap.size+1<=((w7.alloc (.cells #[.int .u8 72,.int .u8 89,.int .u8 80,.int .u8 79] 5 (4,5))).alloc (.cells #[.slice (some ⟨w7.heap.size,0,none⟩) 4 4] 24)).heap.size:=by simp
       clear HX HOKX HW HF HWR hbig oo oP hPF hPT BW7 hPl BWA b7 hBw bH
       go_upto_region 21 with(at_builtin;refine zf2 qhv rfl (.tmp 77) (.tmp 81) rfl (W:=w7) (B:=w7.heap.size) (news:=recs zgq P) OL RP rfl rfl bA (qp0 _) hbsA (z86 P) (by simp only[qp7];omega) (by simp only[qp7,maxLen];omega) ?_
                              intro A9 c9 w9 _ _ o9 g9 b9 _)
       simp only[qp7] at o9⊢;have RH9:=qrf (RH.out.grown_far g9 (fun ad k ha hk e=>by have hk':some (w7.heap.size+1)=some k:=hk;injection hk' with hk';have ha':=qlj ha;rw[<-ha'] at e;dsimp only at e;omega))
       have b79:=qrf b9;have o9:=qrf o9;have hzz:=b9.size;have hown4:own.length<4294967296:=by omega
       clear x0 x1 x2 x3 x4 x5 x6 x7 OL RP bA kc hbsA g9 b9 RH;go_wp2_with fail
       refine(qgg (l:=[]) own.length (show Reads w9 w9.heap.size 1 none 0 (zah .u8 []) from qrs) (by omega)).mono ?_;rintro e w10 ⟨A10,n10,c10,rfl,o10,b10⟩;rw[qmx] at o10;obtain rfl:n10=4:=by have:=o10.len;rwa[zaa,zbe] at this
       have kc:=Lib.run_convert_bytes_const (P:=Tryz.prog) w10 24 5 #[.int .u8 79,.int .u8 80,.int .u8 89,.int .u8 72] 4 4 (by kernel_rfl) (by kernel_rfl);have bT:New w10 (w10.alloc (.cells #[.int .u8 79,.int .u8 80,.int .u8 89,.int .u8 72] 5 (4,5))):=(qq8 _ _).alloc (ql6 _) _;have bR:New (w10.alloc (.cells #[.int .u8 79,.int .u8 80,.int .u8 89,.int .u8 72] 5 (4,5))) ((w10.alloc (.cells #[.int .u8 79,.int .u8 80,.int .u8 89,.int .u8 72] 5 (4,5))).alloc (.cells #[.slice Ao own.length co,.slice A10 4 c10,.slice (some ⟨w10.heap.size,0,none⟩) 4 4] 24)):=(qq8 _ _).alloc (ql6 _) _;have bB:New w10 ((w10.alloc (.cells #[.int .u8 79,.int .u8 80,.int .u8 89,.int .u8 72] 5 (4,5))).alloc (.cells #[.slice Ao own.length co,.slice A10 4 c10,.slice (some ⟨w10.heap.size,0,none⟩) 4 4] 24)):=qr0 bT bR;have RT:Reads (w10.alloc (.cells #[.int .u8 79,.int .u8 80,.int .u8 89,.int .u8 72] 5 (4,5))) (w10.alloc (.cells #[.int .u8 79,.int .u8 80,.int .u8 89,.int .u8 72] 5 (4,5))).heap.size 1 (some ⟨w10.heap.size,0,none⟩) 4 (zah .u8 tailL):=zub w10 5 _ _ 4 _ rfl rfl;have RT:=qsg RT bR;have RN:Reads ((w10.alloc (.cells #[.int .u8 79,.int .u8 80,.int .u8 89,.int .u8 72] 5 (4,5))).alloc (.cells #[.slice Ao own.length co,.slice A10 4 c10,.slice (some ⟨w10.heap.size,0,none⟩) 4 4] 24)) ((w10.alloc (.cells #[.int .u8 79,.int .u8 80,.int .u8 89,.int .u8 72] 5 (4,5))).alloc (.cells #[.slice Ao own.length co,.slice A10 4 c10,.slice (some ⟨w10.heap.size,0,none⟩) 4 4] 24)).heap.size 1 (some ⟨(w10.alloc (.cells #[.int .u8 79,.int .u8 80,.int .u8 89,.int .u8 72] 5 (4,5))).heap.size,0,none⟩) 3 [.slice Ao own.length co,.slice A10 4 c10,.slice (some ⟨w10.heap.size,0,none⟩) 4 4]:=zub (w10.alloc (.cells #[.int .u8 79,.int .u8 80,.int .u8 89,.int .u8 72] 5 (4,5))) 24 (0,0) _ 3 _ rfl rfl;rw[show(w10.alloc (.cells #[.int .u8 79,.int .u8 80,.int .u8 89,.int .u8 72] 5 (4,5))).heap.size=w10.heap.size+1 from qrq _ _] at RN;have OB:=(o9.out.later b10).later bB;have b7B:=qr0 (qr0 b79.out b10) bB;have RHB:=qrf (qsg (qsg RH9.out b10) bB);have RTB:=qrf RT;have RPB:=qrf (fun d hd=>(((HPT.out d hd).below b79.out).below b10).below bB);have ROT:=qrf (((qry HOO.out).below b79.out).below b10 |>.below bB);have R10T:=qrf ((qry o10).below bB);have HBL:=qrf (show∀g,Value.ownBlock (.slice A9 (1+P.length) c9)=some g->w7.heap.size+1<=g/\g<w10.heap.size from fun g e=>by have h1:=qln (show w9.ownsRow _ _ 1 _ _ _ from o9.out) g e;have h2:=b10.size;omega)
       have hbs2:w7.heap.size+1<=((w10.alloc (.cells #[.int .u8 79,.int .u8 80,.int .u8 89,.int .u8 72] 5 (4,5))).alloc (.cells #[.slice Ao own.length co,.slice A10 4 c10,.slice (some ⟨w10.heap.size,0,none⟩) 4 4] 24)).heap.size:=by have h1:=b10.size;simp;omega
       have hlp:([Value.slice (some ⟨w7.heap.size,0,none⟩) 4 4]++recs zgq P).length=1+P.length:=by rw[qmv,zp8];rfl
       clear b10 o10 bT bR RT RH9 HOO HPT b79 o9
       go_upto_region 22 with(at_builtin;go_must (refine zf2 qhv rfl (.tmp 83) (.tmp 91) rfl (W:=w7) (B:=w7.heap.size) (news:=[.slice Ao own.length co,.slice A10 4 c10,.slice (some ⟨w10.heap.size,0,none⟩) 4 4]) OB RN rfl rfl b7B (qp0 _) hbs2 (by intro u hu;simp at hu;rcases hu with rfl|rfl|rfl<;> rfl) (by rw[hlp];omega) (by rw[hlp];simp only[maxLen];omega) ?_)
                              intro A12 c12 w12 _ _ o12 g12 b12 _)
       have hDD:recs zgq ((some ⟨w7.heap.size,0,none⟩,4,headL_film)::(P++[(Ao,co,own),(A10,c10,low own.length 4),(some ⟨w10.heap.size,0,none⟩,4,tailL)]))=[Value.slice (some ⟨w7.heap.size,0,none⟩) 4 4]++recs zgq P++[.slice Ao own.length co,.slice A10 4 c10,.slice (some ⟨w10.heap.size,0,none⟩) 4 4]:=by simp[recs,zgq,zbe,headL_film,tailL]
       have hfl:zdd ((some ⟨w7.heap.size,0,none⟩,4,headL_film)::(P++[(Ao,co,own),(A10,c10,low own.length 4),(some ⟨w10.heap.size,0,none⟩,4,tailL)]))=zf0 x.1.flatten own:=by rw[<-HPF.out];show _=zf0 (P.map (fun d=>d.2.2)).flatten own;simp[zdd,zf0,List.flatMap_def]
       have hDI:∀d∈((some ⟨w7.heap.size,0,none⟩,4,headL_film)::(P++[(Ao,co,own),(A10,c10,low own.length 4),(some ⟨w10.heap.size,0,none⟩,4,tailL)]):List zgp),BytIn w12 d:=by
        intro d hd;simp only[qnu,qnd,qpt,or_false] at hd;rcases hd with rfl|hd|rfl|rfl|rfl
        ·exact RHB.out.grown_far g12 (fun ad k ha hk e=>by have h1:=HBL.out k hk;have ha':=qlj ha;rw[<-ha'] at e;dsimp only at e;omega)
        ·exact(qsu (RPB.out d hd) (show World.ownsRow _ _ _ 1 _ _ _ from OB) g12 (by decide)).1
        ·have:=(qsu ROT.out (show World.ownsRow _ _ _ 1 _ _ _ from OB) g12 (by decide)).1
         exact this
        ·have:=(qsu R10T.out (show World.ownsRow _ _ _ 1 _ _ _ from OB) g12 (by decide)).1
         unfold BytIn;dsimp only;rwa[zbe]
        ·exact RTB.out.grown_far g12 (fun ad k ha hk e=>by have h1:=HBL.out k hk;have ha':=qlj ha;rw[<-ha'] at e;dsimp only at e;omega)
       have RD:=(qry o12).1;rw[show([Value.slice (some ⟨w7.heap.size,0,none⟩) 4 4]++recs zgq P).length=(recs zgq P).length+1 from by simp] at RD hlp;rw[hlp] at RD;rw[<-hDD] at RD;have CC:=zgm (c:=c12) RD hDI (by omega) (by rw[hfl,zhs];omega);rw[hfl] at CC;have CC:=qrf CC;clear RHB RTB RPB ROT R10T HBL OB RN b7B hDD hfl hDI RD g12 o12 kc bB;go_wp2_with fail
       refine CC.out.mono ?_;rintro e w13 ⟨A13,n13,c13,rfl,o13,b13⟩;clear CC;try subst hx
       go_wp2_with fail
       go_ret2
       exact⟨A13,n13,c13,rfl,Go.Hm.Own.base_le o13 (by have:=b12.size;have:=N7.out.size;omega),qr0 N7.out (qr0 b12 b13)⟩
  ·have hx:=HX.out
   rw[if_neg (by simp),if_pos hk2] at hx;have q1:(K2 != 0)=true:=by simpa using hk2
   have N3:=qrf n3;clear HX HWI hK1 hK2 hk2 n3 HT;subst hx;go_wp2_with fail
   go_ret2
   exact⟨none,0,0,rfl,qru,N3.out⟩
 ·have hx:=HX.out
  rw[if_pos hk1] at hx;have q1:(K1 != 0)=true:=by simpa using hk1
  have N2:=qrf n2;clear HX HWI hK1 hK2 hk1 n2 HT CK2;subst hx;go_wp2_with fail
  go_ret2
  exact⟨none,0,0,rfl,qru,N2.out⟩
end Go.Proofs.Y
