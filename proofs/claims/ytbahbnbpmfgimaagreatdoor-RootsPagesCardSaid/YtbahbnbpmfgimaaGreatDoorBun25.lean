/- Merged. -/
import Derived.Test.YtbahbnbpmfgimaaGreatDoorBun23
import Derived.Test.YtbahbnbpmfgimaaGreatDoorBun24
set_option maxHeartbeats 2000000
namespace Go.Hm
open Go Go.RowKit
theorem zac(w:World)(o:Obj):New w (w.alloc o):=(Below.refl _ _).alloc (qmt _) o
theorem Reads.litM3(w:World)(e:TypeId)(fr:Nat × Nat)(cs:Array Value)(n:Nat)(xs:List Value)(h:cs.toList=xs)(hn:n=xs.length):Reads (w.alloc (.cells cs e fr)) (w.alloc (.cells cs e fr)).heap.size 1 (some ⟨w.heap.size,0,none⟩) n xs:=by subst hn;refine⟨by simp,fun _=>⟨_,rfl,by simp,?_⟩⟩;have:=World.news_of_block (heap_alloc_new w (.cells cs e fr));rwa[h] at this
def u64N_tren(k:Int):Nat:=(k%18446744073709551616).toNat
def leafP(k n:Int)(d:List Nat):List (List Nat):=[low (u64N_tren k) 8,low (u64N_tren n) 8,d]
theorem zg6{w w':World}{T:List Nat}{s n:Nat}{A:Option Addr}{xs:List Value}(h:Reads w w.heap.size s A n xs)(k:Turns T w w')(hT:0<n-> ∀ad,A=some ad->ad.block∉T):Reads w' w'.heap.size s A n xs:=
 ⟨h.1,fun hn=>by obtain⟨ad,e,hb,hc⟩:=h.2 hn;refine⟨ad,e,qmo hb k.size,fun j u hu=>?_⟩;rw[World.cell?_of_block (a:=ad.add j) (k.block (ad.add j).block (by rw[zai];exact hb) (by rw[zai];exact hT hn ad e))];exact hc j u hu⟩
end Go.Hm
namespace Go.Proofs.Y
open Go.RowKit Go.Hm
theorem zde{t:TypeId}{w w9:World}{base g:Nat}{V V':Value}{L:List (List Nat)}(hg:g<w.heap.size)(l9:LogOf t w9 base g V' L)(a9:V'.ownBlock=V.ownBlock\/ ∃h,V'.ownBlock=some h/\w.heap.size<=h)(t9:Turns (g::zbi V) w w9){old:Array Value}(G9:Blk w9 w.heap.size 35 old)(cs:Array Value):
 ∃V',LogOf t (w9.setRow w.heap.size cs) base g V' L/\(V'.ownBlock=V.ownBlock\/ ∃h,V'.ownBlock=some h/\w.heap.size<=h)/\Turns (g::zbi V) w (w9.setRow w.heap.size cs):=by
 refine⟨V',l9.turn (T:=[w.heap.size]) (Turns.of_far (zbl (g:=w.heap.size) w9 cs) (by simp)) (by simp;omega) ?_ ?_,a9,?_⟩
 ·intro x hx
  simp at hx;subst hx;obtain⟨A',n',c',D',e',_,o',_⟩:=l9;rw[e'];exact o'.blk_ne G9 (by decide)
 ·intro x hx _ cs hB
  simp at hx;subst hx;exact Blk.ne_ G9 hB (by decide) rfl
 ·exact Turns.new_ ((t9.more (T':=w.heap.size::g::zbi V) (by intro x hx;simp at hx⊢;simp[hx])).trans (Turns.of_far (zbl (g:=w.heap.size) w9 cs) (by simp))) (qmt _)
set_option maxRecDepth 100000 in
theorem zz9{w:World}{base g:Nat}{V:Value}{L:List (List Nat)}(hL:LogOf tL w base g V L)(hbs:base<=w.heap.size)(hLn:L.length<=10000000){s d:List Nat}{k n:Int}{A:Option Addr}{c:Nat}(hs8:∀x∈s,x<256)(hs:s.length<=140737488351232)(hd:Reads w w.heap.size 1 A d.length (zan .u8 d))(hd8:∀x∈d,x<256)(hdl:d.length<=9000000)(hdc:d.length<=c)(hc:c<=9223372036854775807)(hC:∀w',Turns (g::zbi V) w w'->ConstIn w'):
 Calls Tryz.prog 34 #[.pointer (some ⟨g,0,none⟩),.string (zae s),.int .i64 k,.int .i64 n,.slice A d.length c] w (zev tL (zue (zfk s (leafP k n d))) base g V (L++(zbe s (leafP k n d)).toList) w):=by
 have c0:=zac w (.cells (za7 .u8 zat).toArray 35);have G0:=Hz (Blk.new w 35 (za7 .u8 zat).toArray);have HL:=Hz hL;have HD:=Hz hd;have H8:=Hz hd8;have S8:=Hz hs8;have HC:=Hz hC;have hgl:g<w.heap.size:=hL.lt;obtain⟨W0,hW0⟩:∃W,W=w.alloc (.cells (za7 .u8 zat).toArray 35):=⟨_,rfl⟩;have U:=Hz (fun(x:Nat) (hx:x<=18446744073709551615) (W:World)=>z6o (w:=W) (A:=none) (n:=0) (c:=0) (l:=[]) x Reads.none_ (by omega));have e1:IntKind.u64.wrap k=((u64N_tren k:Nat):Int):=by unfold u64N_tren;rw[IntKind.wrap_u64];omega
 have e2:IntKind.u64.wrap n=((u64N_tren n:Nat):Int):=by unfold u64N_tren;rw[IntKind.wrap_u64];omega
 have e3:k%18446744073709551616=((u64N_tren k:Nat):Int):=by unfold u64N_tren;omega
 have e4:n%18446744073709551616=((u64N_tren n:Nat):Int):=by unfold u64N_tren;omega
 have h3:u64N_tren k<=18446744073709551615:=by unfold u64N_tren;omega
 have h4:u64N_tren n<=18446744073709551615:=by unfold u64N_tren;omega
 have LP:=Hz (show leafP k n d=[low (u64N_tren k) 8,low (u64N_tren n) 8,d] from rfl);generalize leafP k n d=lp at*;generalize u64N_tren k=ku at*;generalize u64N_tren n=nu at*;rw[<-hW0] at c0 G0;have HW:=Hz hW0;have C0:=Hz c0;clear hd hd8 hs8 hL c0 hW0 hC;go_enter Tryz.func34,Tryz.ntmps34
 go_wp2_with fail
 refine(U.out ku h3 _).mono ?_;rintro e w1 ⟨A1,n1,c1,rfl,o1,b1⟩;have b1:New W0 w1:=by rw[HW.out];exact b1
 have o1:Own w1 W0.heap.size 5 (.slice A1 n1 c1) (zan .u8 (low ku 8)):=by rw[HW.out];exact o1
 obtain rfl:n1=8:=by have:=o1.len;rwa[zaa,zbg] at this
 have O1:=Hz o1;have B1:=Hz (New.trans C0.out b1);have G1:=Hz (G0.out.below b1 G0.out.lt);clear o1 b1 HW C0 G0 e1 e3;go_wp2_with fail
 refine(U.out nu h4 _).mono ?_;rintro e w2 ⟨A2,n2,c2,rfl,o2,b2⟩;have o2:Own w2 w1.heap.size 5 (.slice A2 n2 c2) (zan .u8 (low nu 8)):=o2;obtain rfl:n2=8:=by have:=o2.len;rwa[zaa,zbg] at this
 have B2:=Hz (New.trans B1.out b2);have G2:=Hz (G1.out.below b2 G1.out.lt);have O1:=Hz (O1.out.later b2);have rr:RowsAt (w2.alloc (.cells #[.slice A1 8 c1,.slice A2 8 c2,.slice A d.length c] 24)) (some ⟨w2.heap.size,0,none⟩) 3 3 [(A1,c1,low ku 8),(A2,c2,low nu 8),(A,c,d)]:=by
  have l1:=zbg ku 8;have l2:=zbg nu 8;refine⟨Reads.litM3 w2 _ (0,0) _ 3 _ (by simp[recs,ze1,l1,l2]) (by simp[recs,ze1]),fun x hx=>?_,qmt _⟩;simp only[qof,qqg,or_false] at hx;have q1:=O1.out.cap;have q2:=o2.cap;simp only[maxLen] at q1 q2;have cN:=zac w2 (.cells #[.slice A1 8 c1,.slice A2 8 c2,.slice A d.length c] 24);rcases hx with rfl|rfl|rfl
  ·exact⟨by show Reads _ _ 1 A1 (low ku 8).length _;rw[l1];exact Reads.later O1.out.reads cN,by show(low ku 8).length<=c1;omega,by show c1<=_;omega⟩
  ·exact⟨by show Reads _ _ 1 A2 (low nu 8).length _;rw[l2];exact Reads.later o2.reads cN,by show(low nu 8).length<=c2;omega,by show c2<=_;omega⟩
  ·exact⟨Reads.later HD.out (New.trans B2.out cN),hdc,hc⟩
 have hbo:bytesOf [(A1,c1,low ku 8),(A2,c2,low nu 8),(A,c,d)]=lp:=by rw[LP.out];rfl
 have c3:=New.trans B2.out (zac w2 (.cells #[.slice A1 8 c1,.slice A2 8 c2,.slice A d.length c] 24));have hp8:∀p∈bytesOf [(A1,c1,low ku 8),(A2,c2,low nu 8),(A,c,d)],∀x∈p,x<256:=by
  intro p hp;simp only[bytesOf,qnc,qnd,qof,qqg,or_false] at hp;rcases hp with rfl|rfl|rfl
  ·exact zg1 ku 8
  ·exact zg1 nu 8
  ·exact H8.out
 have hts:zfl (bytesOf [(A1,c1,low ku 8),(A2,c2,low nu 8),(A,c,d)])<=9900000:=by simp[bytesOf,zfl,zbg];omega
 have lh:=zku (HL.out.new c3) (qml hbs c3.size) hLn rr (by omega) S8.out hs hts hp8 (fun w' k=>HC.out w' ((Turns.of_new c3).trans k));rw[hbo] at lh;have LH:=Hz lh;have C3:=Hz c3;have G3:=Hz (G2.out.alloc (.cells #[.slice A1 8 c1,.slice A2 8 c2,.slice A d.length c] 24));clear rr hbo c3 lh o2 b2 e2 e4;go_wp2_with fail
 refine LH.out.mono ?_;rintro e w4 ⟨rfl,V',l4,a4,t4⟩;obtain⟨cs,hcs⟩:∃cs,cs=(za7 .u8 (zfk s lp)).toArray:=⟨_,rfl⟩;have hdv:zue (zfk s lp)= .agg cs:=by rw[hcs];rfl
 have HV:=Hz hdv;have hl32:=zks s lp;have I32:(Tryz.prog.info? 35).map (·.size)=some cs.size:=by rw[hcs];exact qbx hl32
 have ZS:(za7 .u8 zat).toArray.size=cs.size:=by rw[hcs];simp[za7,zat,hl32]
 have ONE:cs.all (·.oneCell')=true:=by rw[hcs];exact ze8 _ _
 have g4:=G3.out.touch t4 ((HL.out.new C3.out).notT G3.out (by decide) (by decide));have PS:=Hz (zde hgl l4 (a4.imp id fun⟨h,h1,h2⟩=>⟨h,h1,qml C3.out.size h2⟩) ((Turns.of_new C3.out).trans t4) g4 cs);have H:=Hz (qo8 (zay g4) (za5 g4 cs));have I32:=Hz I32;have ZS:=Hz ZS;have ONE:=Hz ONE;rw[hdv];clear hcs hdv l4 a4 t4 g4 hl32 LH;go_wp2_with (refine wpList_store_row rfl 35 (.tmp 10) (.tmp 21) rfl w.heap.size cs rfl rfl _ _ H.out.1 I32.out ZS.out ONE.out ?_)
 exact bodyPost_ret (results_cell_row rfl _ _ w.heap.size _ cs (0,0) _ rfl H.out.2 zcn rfl I32.out) rfl ⟨by rw[HV.out],PS.out⟩
end Go.Proofs.Y
namespace Go.Hm
open Go Go.RowKit
theorem zf8{w:World}{g:Nat}{t:TypeId}{cs:Array Value}{l:List Nat}(h:Blk w g t cs)(hl:cs.toList=zan .u8 l):Reads w w.heap.size 1 (some ⟨g,0,none⟩) l.length (zan .u8 l):=by
 refine⟨by simp[zan],fun _=>⟨_,rfl,h.lt,fun j u hu=>?_⟩⟩;have e:(⟨g,0,none⟩:Addr).add j=⟨g,j,none⟩:=by unfold Addr.add;split<;> simp_all
 rw[e,h.cell,<-hu,<-hl,Array.getElem?_toList]
end Go.Hm
namespace Go.Proofs.Y
open Go.RowKit Go.Hm
set_option maxRecDepth 100000 in
theorem z0a{w:World}{base g:Nat}{V:Value}{L:List (List Nat)}(hL:LogOf tL w base g V L)(hbs:base<=w.heap.size)(hLn:L.length<=10000000){a b:List Nat}(ha:zh4 a)(hb:zh4 b)(hC:∀w',Turns (g::zbi V) w w'->ConstIn w'):
 Calls Tryz.prog 61 #[.pointer (some ⟨g,0,none⟩),dV a,dV b] w (zev tL (dV (zb6 zbs [a,b])) base g V (L++[zcu zbs [a,b]]) w):=by
 obtain⟨ca,hca⟩:∃cs,cs=(zan .u8 a).toArray:=⟨_,rfl⟩;obtain⟨cb,hcb⟩:∃cs,cs=(zan .u8 b).toArray:=⟨_,rfl⟩;have hva:dV a= .agg ca:=by rw[hca];rfl
 have hvb:dV b= .agg cb:=by rw[hcb];rfl
 obtain⟨W3,hW3⟩:∃W,W=((w.alloc (.cells ca 35)).alloc (.cells cb 35)).alloc (.cells (za7 .u8 zat).toArray 35):=⟨_,rfl⟩;have z1:(w.alloc (.cells ca 35)).heap.size=w.heap.size+1:=by simp
 have z2:((w.alloc (.cells ca 35)).alloc (.cells cb 35)).heap.size=w.heap.size+2:=by simp
 have zs:W3.heap.size=w.heap.size+3:=by rw[hW3];simp
 have b3:New w W3:=by rw[hW3];exact New.trans (New.trans (zac _ _) (zac _ _)) (zac _ _)
 have ga:Blk W3 w.heap.size 35 ca:=by rw[hW3];exact((Blk.new w _ ca).alloc _).alloc _
 have gb:Blk W3 (w.heap.size+1) 35 cb:=by rw[hW3];have:=Blk.new (w.alloc (.cells ca 35)) 35 cb;rw[z1] at this;exact this.alloc _
 have gr:Blk W3 (w.heap.size+2) 35 (za7 .u8 zat).toArray:=by rw[hW3];have:=Blk.new ((w.alloc (.cells ca 35)).alloc (.cells cb 35)) 35 (za7 .u8 zat).toArray;rwa[z2] at this
 have hgl:g<w.heap.size:=hL.lt;have lowT:∀x∈g::zbi V,x<w.heap.size:=fun x hx=>by
  rcases qof.1 hx with rfl|hx
  ·exact hgl
  ·exact(hL.ge x hx).2
 obtain⟨W4,hW4⟩:∃W,W=(W3.alloc (.cells #[.slice (some ⟨w.heap.size,0,none⟩) 32 32,.slice (some ⟨w.heap.size+1,0,none⟩) 32 32] 24)).drew:=⟨_,rfl⟩;have b34:New W3 W4:=by rw[hW4];exact New.trans (zac W3 _) (New.drew _)
 have rr:RowsAt W4 (some ⟨w.heap.size+3,0,none⟩) 2 2 [(some ⟨w.heap.size,0,none⟩,32,a),(some ⟨w.heap.size+1,0,none⟩,32,b)]:=by
  refine⟨?_,fun x hx=>?_,qmt _⟩
  ·rw[hW4,<-zs]
   exact Reads.litM3 W3 _ (0,0) _ 2 _ (by simp[recs,ze1,ha.1,hb.1]) (by simp[recs,ze1])
  ·simp only[qof,qqg,or_false] at hx
   rcases hx with rfl|rfl
   ·exact⟨by show Reads _ _ 1 _ a.length _;exact Reads.later (zf8 ga (by rw[hca])) b34,by show a.length<=32;rw[ha.1];omega,by show(32:Nat)<=_;omega⟩
   ·exact⟨by show Reads _ _ 1 _ b.length _;exact Reads.later (zf8 gb (by rw[hcb])) b34,by show b.length<=32;rw[hb.1];omega,by show(32:Nat)<=_;omega⟩
 have hbo:bytesOf [((some ⟨w.heap.size,0,none⟩:Option Addr),32,a),(some ⟨w.heap.size+1,0,none⟩,32,b)]=[a,b]:=rfl;have hp8:∀p∈[a,b],∀x∈p,x<256:=by
  intro p hp;simp only[qof,qqg,or_false] at hp;rcases hp with rfl|rfl
  ·exact ha.2
  ·exact hb.2
 have hts:zfl [a,b]<=9900000:=by simp[zfl,ha.1,hb.1]
 have b04:=New.trans b3 b34;have lh:=zku (s:=zbs) (hL.new b04) (qml hbs b04.size) hLn rr (by omega) (by decide) (by decide) hts hp8 (fun w' k=>hC w' ((Turns.of_new b04).trans k));rw[hbo,zrb] at lh;obtain⟨cs,hcs⟩:∃cs,cs=(za7 .u8 (zfk zbs [a,b])).toArray:=⟨_,rfl⟩;have hdv:zue (zfk zbs [a,b])= .agg cs:=by rw[hcs];rfl
 have hdv2:dV (zb6 zbs [a,b])= .agg cs:=by rw[<-zj6,hdv]
 have hl32:=zks zbs [a,b];have I32:(Tryz.prog.info? 35).map (·.size)=some cs.size:=by rw[hcs];exact qbx hl32
 have ZS:(za7 .u8 zat).toArray.size=cs.size:=by rw[hcs];simp[za7,zat,hl32]
 have ONE:cs.all (·.oneCell')=true:=by rw[hcs];exact ze8 _ _
 rw[hdv] at lh;rw[hva,hvb,hdv2];have LH:=Hz lh;have I32:=Hz I32;have ZS:=Hz ZS;have ONE:=Hz ONE;have HL:=Hz hL;have GR:=Hz (gr.below b34 gr.lt);have B04:=Hz b04;have HW3:=Hz hW3;have HW4:=Hz hW4;have LOWT:=Hz lowT;have ZSZ:=Hz zs;clear hcs hdv hdv2 hl32 lh hts hp8 rr b34 ga gb gr z1 z2 zs hW3 hW4 b3 b04 hva hvb hca hcb hL lowT hC;go_enter Tryz.func61,Tryz.ntmps61
 go_wp2
 have hw3:=HW3.out;refine zax (TurnsB w.heap.size (g::zbi V)) [(true,0),(true,1),(true,2),(false,3),(false,4),(false,5)]
  (TurnsB.refl _ _) TurnsB.trans (by kernel_rfl) (by kernel_rfl) (by kernel_rfl) (by kernel_rfl) ?_
 iterate 3 (
  refine zar rfl rfl (v:=?_) (fun W hW=>?_) ?_;rotate_left
  ·skip
   go_simp<;> with_reducible rfl
  simp only[Act.put,qo6,qou,qo7])
 have e3:((w.alloc (.cells ca 35)).alloc (.cells cb 35)).alloc (.cells (za7 .u8 zat).toArray 35)=W3:=hw3.symm;rw[show(((w.alloc (.cells ca 35)).alloc (.cells cb 35)).alloc (.cells #[.int .u8 0,.int .u8 0,.int .u8 0,.int .u8 0,.int .u8 0,.int .u8 0,.int .u8 0,.int .u8 0,.int .u8 0,.int .u8 0,.int .u8 0,.int .u8 0,.int .u8 0,.int .u8 0,.int .u8 0,.int .u8 0,.int .u8 0,.int .u8 0,.int .u8 0,.int .u8 0,.int .u8 0,.int .u8 0,.int .u8 0,.int .u8 0,.int .u8 0,.int .u8 0,.int .u8 0,.int .u8 0,.int .u8 0,.int .u8 0,.int .u8 0,.int .u8 0] 35)).drew=W3.drew from by rw[hw3];rfl];clear e3 hw3;have zs:=ZSZ.out;refine zba rfl rfl (fun K hK=>?_);go_simp
 have hw4:=HW4.out;refine hK _ _ (.alloc _ (by show w.heap.size<=W3.heap.size;omega)) ?_;clear hK;rw[<-hw4];clear hw4;refine zba rfl rfl (fun K hK=>?_);go_simp
 refine LH.out.mono ?_;rintro e w5 ⟨rfl,V',l5,a5,t5⟩;refine hK _ _ (.of t5 B04.out.size) ?_;clear hK;have nT:w.heap.size+2∉g::zbi V:=fun hx=>by have:=LOWT.out _ hx;omega
 have g5:=GR.out.touch t5 nT;refine zba rfl rfl (fun K hK=>?_);refine wp_store_row 35 (.tmp 6) (.tmp 11) rfl (w.heap.size+2) cs rfl rfl _ _ (zay g5) I32.out ZS.out ONE.out ?_;refine hK _ _ (.far (zbl (g:=w.heap.size+2) _ cs) (by omega) (qml B04.out.size t5.size)) ?_;clear hK;refine zdh ?_;have G6:=Hz (za5 g5 cs);have P6:Hid (∃V',LogOf tL (w5.setRow (w.heap.size+2) cs) base g V' (L++[zcu zbs [a,b]])/\(V'.ownBlock=V.ownBlock\/ ∃h,V'.ownBlock=some h/\w.heap.size<=h)/\Turns (g::zbi V) w (w5.setRow (w.heap.size+2) cs)):=Hz (by
  have tt:Turns [w.heap.size+2] w5 (w5.setRow (w.heap.size+2) cs):=Turns.of_far (zbl (g:=w.heap.size+2) w5 cs) (by simp);refine⟨V',l5.turn tt (by simp;omega) ?_ ?_,a5.imp id (fun⟨h,h1,h2⟩=>⟨h,h1,qml B04.out.size h2⟩),?_⟩
  ·intro x hx
   simp at hx;subst hx;obtain⟨A',n',c',D',e',_,o',_⟩:=l5;rw[e'];exact o'.blk_ne g5 (by decide)
  ·intro x hx _ cs hB
   simp at hx;subst hx;exact Blk.ne_ g5 hB (by decide) rfl
  ·exact Turns.new_ ((((Turns.of_new B04.out).trans t5).more (T':=(w.heap.size+2)::g::zbi V) (by intro x hx;simp at hx⊢;simp[hx])).trans (tt.more (by intro x hx;simp at hx⊢;simp[hx]))) (by omega))
 clear l5 a5 t5 g5;go_wp2
 exact bodyPost_ret (results_cell_row rfl _ _ (w.heap.size+2) _ cs (0,0) _ rfl G6.out zcn rfl I32.out) rfl ⟨rfl,P6.out⟩
open Go.RowKit Go.Hm
theorem zhf{m:Int}{S:St}{N:Nat}{r:List Nat}(hS:S.ok)(h:lenS m S=(N,some r)):S=some (vp N++r)/\(N:Int)<=m:=by
 rcases zdf m S hS with k|⟨M,r',e,k1,_,k⟩
 ·rw[k] at h
  injection h with _ h;cases h
 ·rw[k] at h
  injection h with h1 h2;injection h2 with h2;subst h1 h2;exact⟨e,k1⟩
theorem zpj{t:Int}{S:St}{s:zdc}{r:List Nat}(hS:S.ok)(h:getA t S=(s,some r)):S=some (putS [] t s++r)/\zcc t s=true:=by
 cases S with
 |none=>
  exfalso;rw[ztk (N:=0) (y:=0) (S1:=none) (S2:=none) rfl rfl,ztj (N:=0) (y:=0) (S1:=none) (S2:=none) rfl rfl] at h;simp at h
 |some b=>
  obtain⟨h1,h2⟩:=z8o (hS b rfl) h;exact⟨by rw[h2],h1⟩
theorem qh4{t:Int}{S:St}(hS:S.ok):(getA t S).2.ok:=by
 cases h:(getA t S).2 with
 |none=>exact St.ok_none
 |some r=>
  have:=(zpj hS (show getA t S=((getA t S).1,some r) by rw[<-h])).1;exact St.ok_some fun x hx=>hS _ this x (by simp[hx])
noncomputable def zgy(t m:Int)(S:St):za6 × St:=
 ((((lenS 268435456 S).1:Int),((lenS m (lenS 268435456 S).2).1:Int),(getA t (lenS m (lenS 268435456 S).2).2).1),(getA t (lenS m (lenS 268435456 S).2).2).2)
theorem z89{t m k:Int}{nu:Bool}{p:za6}{r:List Nat}(h:zh9 t nu p k=true)(hk:p.2.1<=m)(hm:m<=9223372036854775807)(hd:statData p.2.2)(hr:r.length<=140737488351232):zgy t m (some (zfu t p++r))=(p,some r):=by
 obtain⟨⟨h1,h2,h3,h4⟩,h5⟩:=pageB_most.1 h;obtain⟨a,b,s⟩:=p;dsimp only at h1 h2 h3 h4 h5 hk hd;obtain⟨a,rfl⟩:=qon (show 0<=a by omega);obtain⟨b,rfl⟩:=qon (show 0<=b by omega);have hs:zcc t s=true:=by rw[qoe] at h5;exact h5.1
 have e1:lenS 268435456 (some (zfu t ((a:Int),(b:Int),s)++r))=(a,some (vp b++(putS [] t s++r))):=by
  have:zfu t ((a:Int),(b:Int),s)++r=vp a++(vp b++(putS [] t s++r)):=by simp[zfu]
  rw[this];exact zds _ _ (by omega) (by omega)
 have e2:lenS m (some (vp b++(putS [] t s++r)))=(b,some (putS [] t s++r)):=zds _ _ hk hm;unfold zgy;rw[e1];dsimp only;rw[e2];dsimp only;rw[qd2 hs hd r hr]
theorem z33{t m:Int}{S:St}{p:za6}{r:List Nat}(hS:S.ok)(h:zgy t m S=(p,some r)):S=some (zfu t p++r):=by
 unfold zgy at h;injection h with h1 h2;subst h1;obtain⟨N,S1,k1⟩:∃N S1,lenS 268435456 S=(N,S1):=⟨_,_,rfl⟩;have hS1:S1.ok:=by have:=zb4 (m:=268435456) hS;rwa[k1] at this
 rw[k1] at h2⊢;dsimp only at h2⊢;obtain⟨M,S2,k2⟩:∃N S2,lenS m S1=(N,S2):=⟨_,_,rfl⟩;have hS2:S2.ok:=by have:=zb4 (m:=m) hS1;rwa[k2] at this
 rw[k2] at h2⊢;dsimp only at h2⊢;have g:=(zpj hS2 (show getA t S2=((getA t S2).1,some r) by rw[<-h2])).1;generalize hgs:(getA t S2).1=s at*;subst g;clear hgs h2;have e2:=(zhf hS1 k2).1;subst e2;have e1:=(zhf hS k1).1;rw[e1];simp[zfu]
theorem znw{t m:Int}{S:St}(hS:S.ok):(zgy t m S).2.ok:=qh4 (zb4 (zb4 hS))
theorem z34{t m:Int}{S:St}:statData (zgy t m S).1.2.2:=z8n
noncomputable def zcp(t m:Int):Nat->St->List za6 × St
 |0,S=>([],S)
 |_+1,none=>([],none)
 |k+1,some l=>((zgy t m (some l)).1::(zcp t m k (zgy t m (some l)).2).1,(zcp t m k (zgy t m (some l)).2).2)
theorem zy4(t m:Int)(k:Nat):zcp t m k none=([],none):=by cases k<;> rfl
theorem zv9{t m:Int}:∀(k:Nat) {S:St},S.ok->(zcp t m k S).2.ok
 |0,_,h=>h
 |_+1,none,_=>St.ok_none
 |k+1,some _,h=>zv9 k (znw h)
theorem zpk{t m:Int}:∀(k:Nat) (S:St),∀p∈(zcp t m k S).1,statData p.2.2
 |0,_,p,hp=>by simp[zcp] at hp
 |_+1,none,p,hp=>by simp[zcp] at hp
 |k+1,some l,p,hp=>by
  simp only[zcp,qof] at hp;rcases hp with rfl|hp
  ·exact z34
  ·exact zpk k _ p hp
theorem zr1{t m k:Int}{nu:Bool}(hm:m<=9223372036854775807):∀(l:List za6) (r:List Nat),(∀p∈l,zh9 t nu p k=true/\p.2.1<=m/\statData p.2.2)->(l.flatMap (zfu t)).length+r.length<=140737488351232->zcp t m l.length (some (l.flatMap (zfu t)++r))=(l,some r)
 | [],r,_,_=>rfl
 |p::l,r,h,hr=>by
  obtain⟨a,b,c⟩:=h p (by simp);rw[qp1,qni] at hr;rw[qp1,qm5,qnu];simp only[zcp];rw[z89 a b hm c (by rw[qni];omega)];dsimp only;rw[zr1 hm l r (fun q hq=>h q (by simp[hq])) (by omega)]
theorem zpl{t m:Int}:∀(k:Nat) {S:St} {l:List za6} {r:List Nat},S.ok->zcp t m k S=(l,some r)->S=some (l.flatMap (zfu t)++r)/\l.length=k
 |0,S,l,r,_,h=>by
  simp only[zcp,qmi] at h;obtain⟨rfl,rfl⟩:=h;exact⟨rfl,rfl⟩
 |k+1,none,l,r,_,h=>by
  simp only[zcp,qmi] at h;cases h.2
 |k+1,some b,l,r,hS,h=>by
  simp only[zcp,qmi] at h;obtain⟨rfl,h2⟩:=h;have ih:=zpl k (S:=(zgy t m (some b)).2) (znw hS) (show zcp t m k (zgy t m (some b)).2=((zcp t m k (zgy t m (some b)).2).1,some r) by rw[<-h2]);obtain⟨e1,e2⟩:=ih;have e3:=z33 hS (show zgy t m (some b)=((zgy t m (some b)).1,some _) by rw[<-e1]);refine⟨?_,by rw[qnu,e2]⟩;rw[qp1,qm5];exact e3
noncomputable def zc8(t m:Int)(S:St):List za6 × St:=zcp t m (lenS m S).1 (lenS m S).2
theorem zlq{t m:Int}{S:St}(h:S.ok):(zc8 t m S).2.ok:=zv9 _ (zb4 h)
theorem z35{t m:Int}{nu:Bool}{l:List za6}{r:List Nat}{rows:Int}(h:zee t nu l rows)(hrm:rows<=m)(hm:m<=9223372036854775807)(hd:∀p∈l,statData p.2.2)(hr:(zgt t l).length+r.length<=140737488351232):
 zc8 t m (some (zgt t l++r))=(l,some r):=by
 have hp:=zfg h.1;have h2:=h.2;have hle:∀p∈l,p.2.1<=zmb l:=by
  have key:∀l:List za6,(∀p∈l,zh9 t nu p 65536=true)-> ∀p∈l,p.2.1<=zmb l:=by
   intro l;induction l with
   |nil=>intro _ p hp;simp at hp
   |cons q l ih=>
    intro h p hp;have h1:=zfg (l:=l) fun z hz=>h z (by simp[hz])
    have h3:=(pageB_most.1 (h q (by simp))).1;rw[zhc];rcases qof.1 hp with rfl|hp
    ·omega
    ·have:=ih (fun z hz=>h z (by simp[hz])) p hp
     omega
  exact key l h.1
 unfold zc8 zgt at*;rw[qni] at hr;rw[qm5,zds l.length _ (by omega) hm];dsimp only;exact zr1 (k:=65536) (nu:=nu) hm l r (fun p hpm=>⟨h.1 p hpm,by have:=hle p hpm;omega,hd p hpm⟩) (by omega)
theorem zy5{t m:Int}{S:St}{l:List za6}{r:List Nat}(hS:S.ok)(h:zc8 t m S=(l,some r)):S=some (zgt t l++r):=by
 unfold zc8 at h;obtain⟨N,S1,k⟩:∃N S1,lenS m S=(N,S1):=⟨_,_,rfl⟩;have hS1:S1.ok:=by have:=zb4 (m:=m) hS;rwa[k] at this
 rw[k] at h;obtain⟨e1,e2⟩:=zpl N hS1 h;subst e1;rw[(zhf hS k).1];simp[zgt,e2]
noncomputable def zbk(m:Int):List zbb->St->List (List za6) × St
 | [],S=>([],S)
 |c::cs,S=>((zc8 c.2.1 m S).1::(zbk m cs (zc8 c.2.1 m S).2).1,(zbk m cs (zc8 c.2.1 m S).2).2)
theorem zr2{m:Int}:∀(cs:List zbb) {S:St},S.ok->(zbk m cs S).2.ok
 | [],_,h=>h
 |_::cs,_,h=>zr2 cs (zlq h)
theorem zy6{t m:Int}{S:St}:∀p∈(zc8 t m S).1,statData p.2.2:=zpk _ _
theorem zm6{m:Int}:∀(cs:List zbb) (S:St),∀l∈(zbk m cs S).1,∀p∈l,statData p.2.2
 | [],_,l,hl=>by simp[zbk] at hl
 |c::cs,S,l,hl=>by
  simp only[zbk,qof] at hl;rcases hl with rfl|hl
  ·exact zy6
  ·exact zm6 cs _ l hl
theorem zpm{m:Int}:∀(cs:List zbb) (S:St),(zbk m cs S).1.length=cs.length
 | [],_=>rfl
 |c::cs,S=>by simp only[zbk,qnu,zpm cs]
theorem zm7{m:Int}:∀(cs:List zbb) {S:St} {ls:List (List za6)} {r:List Nat},S.ok->zbk m cs S=(ls,some r)->S=some (zcd cs ls++r)
 | [],S,ls,r,_,h=>by
   simp only[zbk,qmi] at h;obtain⟨rfl,rfl⟩:=h;rfl
 |c::cs,S,ls,r,hS,h=>by
  simp only[zbk,qmi] at h;obtain⟨rfl,h2⟩:=h;have ih:=zm7 cs (S:=(zc8 c.2.1 m S).2) (zlq hS) (show zbk m cs (zc8 c.2.1 m S).2=((zbk m cs (zc8 c.2.1 m S).2).1,some r) by rw[<-h2]);have e3:=zy5 hS (show zc8 c.2.1 m S=((zc8 c.2.1 m S).1,some _) by rw[<-ih]);simp only[zcd,qm5];exact e3
end Go.Proofs.Y
namespace Go.Hm
open Go Go.RowKit
def Grows(w w':World)(v v':Value):Prop:=w.grownBy w' v.ownBlock/\(v'.ownBlock=v.ownBlock\/ ∃g,v'.ownBlock=some g/\w.heap.size<=g)
theorem Grows.trans{a b c:World}{u v x:Value}(h:Grows a b u v)(k:Grows b c v x):Grows a c u x:=by
 obtain⟨h1,h2⟩:=h;obtain⟨k1,k2⟩:=k;refine⟨⟨k1.os.trans h1.os,k1.tape.trans h1.tape,k1.output.trans h1.output,qml h1.size k1.size,fun i hi hne=>?_⟩,?_⟩
 ·refine(k1.block i (qmo hi h1.size) fun e=>?_).trans (h1.block i hi hne)
  rcases h2 with h2|⟨g,h2,hg⟩
  ·rw[h2] at e;exact hne e
  ·rw[h2] at e;injection e with e;omega
 ·rcases k2 with k2|⟨g,k2,hg⟩
  ·rw[k2];exact h2
  ·exact .inr ⟨g,k2,qml h1.size hg⟩
theorem zdd{w w':World}{row:Option Nat}(h:New w w'):w.grownBy w' row:=⟨h.os,h.tape,h.output,h.size,fun k hk _=>h.block k hk⟩
theorem Grows.of_new{w w':World}{v:Value}(h:New w w'):Grows w w' v v:=⟨zdd h,.inl rfl⟩
theorem Grows.size{w w':World}{v v':Value}(h:Grows w w' v v'):w.heap.size<=w'.heap.size:=h.1.size
theorem Grows.blk{w w':World}{v v':Value}{g:Nat}{t e:TypeId}{cs:Array Value}{base:Nat}{xs:List Value}(h:Grows w w' v v')(o:Own w base e v xs)(B:Blk w g t cs)(hne:e≠t):Blk w' g t cs:=
 B.grown h.1 (fun he=>o.blk_ne B hne he.symm)
theorem Grows.below{w0 w w':World}{v v':Value}{base B:Nat}{e:TypeId}{xs:List Value}(h:Grows w w' v v')(o:Own w base e v xs)(b:Below B w0 w)(hB:B<=base)(hBw:B<=w.heap.size):Below B w0 w':=by refine b.trans ⟨h.1.os,h.1.tape,h.1.output,h.1.size,fun k hk=>h.1.block k (by omega) fun he=>?_⟩;have:=(o.lt k he.symm).1;omega
end Go.Hm
namespace Go.Proofs.Y
open Go.RowKit Go.Hm
def z9v(base:Nat)(v:Value)(l:List Nat)(w:World)(e:Ending)(w':World):Prop:=
 ∃A n c,e= .returned (.slice A n c)/\Go.Hm.Own w' base 5 (.slice A n c) (zan .u8 l)/\Grows w w' v (.slice A n c)
set_option maxRecDepth 100000 in
theorem zdw{w:World}{base n c N:Nat}{A:Option Addr}{l:List Nat}(o:Go.Hm.Own w base 5 (.slice A n c) (zan .u8 l))(hb:base<=w.heap.size)(hn:n<=100000000000000)(hN:N<=9223372036854775807):
 Calls Tryz.prog 89 #[.slice A n c,.int .i64 (N:Int)] w (z9v base (.slice A n c) (l++vp N) w):=by
 have P:=Hz (zc1 none 0 0 [] N w Reads.none_ (by omega) (by omega));have V:=zap (n:=N) (by omega);have hw:IntKind.u64.wrap (N:Int)=(N:Int):=by rw[IntKind.wrap_u64];omega
 have HO:=Hz o;clear o;go_enter Tryz.func89,Tryz.ntmps89
 go_wp2_with fail
 refine P.out.mono ?_;rintro e w1 ⟨A2,n2,c2,rfl,k2,b2⟩;rw[qnk] at k2;have hq:n2<=10:=by have:=k2.len;rw[zaa] at this;omega
 have o1:=HO.out.later b2;have hz:=b2.size
 go_wp2_with (refine zam elB rfl (.tmp 5) (.tmp 8) rfl (W:=w) (B:=base) o1 k2.reads rfl rfl (Below.mono b2 hb) (qmt _) (by omega) (by omega) (by simp only[maxLen];omega) ?_
              intro A5 c5 w5 _ _ o5 g5 _ d5)
 go_ret
 exact⟨_,_,_,rfl,o5,(Grows.of_new b2).trans ⟨g5,d5⟩⟩
theorem zwo{t:Int}{p:za6}(h1:p.1.toNat<18446744073709551616)(h2:p.2.1.toNat<18446744073709551616):(zfu t p).length<=140020:=by have a:=zap (n:=p.1.toNat) h1;have b:=zap (n:=p.2.1.toNat) h2;have c:=z04 (l:=[]) (t:=t) (s:=p.2.2);unfold zfu;simp only[qni,qp3] at c⊢;omega
theorem zmj{t:Int}:∀l:List za6,(∀p∈l,p.1.toNat<18446744073709551616/\p.2.1.toNat<18446744073709551616)->(l.flatMap (zfu t)).length<=l.length*140020
 | [],_=>by simp
 |p::l,h=>by
  have a:=zwo (t:=t) (h p (by simp)).1 (h p (by simp)).2;have b:=zmj (t:=t) l fun q hq=>h q (by simp[hq])
  rw[qp1,qni,qnu];omega
def zzk(p:za6):Prop:=(0<=p.1/\p.1<=9223372036854775807)/\(0<=p.2.1/\p.2.1<=9223372036854775807)/\statData p.2.2
set_option maxRecDepth 100000 in
theorem zwp{w:World}{base n c np cp:Nat}{A Ap:Option Addr}{t:Int}{l:List Nat}{ps:List za6}(o:Go.Hm.Own w base 5 (.slice A n c) (zan .u8 l))(hb:base<=w.heap.size)(h:Reads w base 14 Ap np (recs zhb ps))(hp:∀p∈ps,zzk p)
 (hn:n+10+np*140020<=100000000000000):
 Calls Tryz.prog 90 #[.slice A n c,.int .i64 t,.slice Ap np cp] w (z9v base (.slice A n c) (l++zgt t ps) w):=by
 obtain rfl:=h.lenPage;have hln:l.length=n:=by have:=o.len;rw[zaa] at this;exact this.symm
 have V:=zap (n:=ps.length) (by omega);have PN:=Hz (zdw (N:=ps.length) o hb (by omega) (by omega));have hfl:=fun k=>zmj (t:=t) (ps.take k) (fun p hpm=>by have:=hp p (qnh hpm);have h1:=this.1;have h2:=this.2.1;omega)
 have HF:=Hz (fun k=>by have:=hfl k;rw[qmq] at this;exact this);have HR:=Hz h;have HP:=Hz hp;have HO:=Hz o;have HLN:=Hz hln;clear h hp o hln hfl;go_enter Tryz.func90,Tryz.ntmps90
 go_wp2_with fail
 refine PN.out.mono ?_;rintro e w1 ⟨A1,n1,c1,rfl,o1,g1⟩;have hb1:=g1.size;have b1:Below base w w1:=g1.below HO.out (Below.refl _ _) (qmt _) hb;clear PN;go_wp2_with fail
 go_loopw [0,15] (fun v i wr=>∃(k:Nat) (B:Option Addr) (m d:Nat),k<=ps.length/\i= .int .i64 (k:Int)/\v= .slice B m d/\Go.Hm.Own wr base 5 (.slice B m d) (zan .u8 (l++vp ps.length++(ps.take k).flatMap (zfu t)))/\Grows w wr (.slice A n c) (.slice B m d)/\Below base w wr) (fun _ i _=>ps.length-(intOf i).toNat)
 case atStart=>exact⟨0,A1,n1,c1,qmu _,rfl,rfl,by simpa using o1,g1,b1⟩
 case round=>
  obtain⟨k,B,m,d,hk,rfl,rfl,o,g,b⟩:=hrel;clear o1 g1 b1 hb1;have hml:m<=n+10+k*140020:=by have h1:=o.len;rw[zaa,qni,qni] at h1;have h2:=HF.out k;have h3:=HLN.out;omega
  have hsz:=g.size;by_cases hlt:k<ps.length
  ·obtain⟨ad,rfl,hbd,d0,d1,d2,d3,d4,d5,d6,d7,d8,d9,d10,d11,d12,d13⟩:=(HR.out.below b).page14 hlt
   have htk:=zad ps k zbv hlt;have hpn:=HP.out _ (zas zbv hlt);have hpl:(ps.take (k+1)).flatMap (zfu t)=(ps.take k).flatMap (zfu t)++zfu t (ps.getD k zbv):=by rw[htk,qp8];simp
   rw[show zfu t (ps.getD k zbv)=vp (ps.getD k zbv).1.toNat++vp (ps.getD k zbv).2.1.toNat++Go.Hm.putS [] t (ps.getD k zbv).2.2 from rfl] at hpl;have HPL:=Hz hpl;clear htk hpl hbd;generalize ps.getD k zbv=p at*;obtain⟨hp1,hp2,hp3⟩:=hpn;have SP:=fun(W:World)=>z8e (w:=W) (c:=0) (t:=t) (l:=[]) (n:=0) (A:=none) Reads.none_ (by omega) hp3
   have hspl:=z04 (l:=[]) (t:=t) (s:=p.2.2);obtain⟨szI,rwI,nn,bb,⟨p1,p2,p3,p4,p5⟩,⟨q1,q2,q3,q4,q5⟩⟩:=p;dsimp only at hp1 hp2 hp3 SP hspl HPL d0 d1 d2 d3 d4 d5 d6 d7 d8 d9 d10 d11 d12 d13;obtain⟨sz,rfl⟩:=qon hp1.1;obtain⟨rw,rfl⟩:=qon hp2.1;simp only[qng] at HPL;generalize Go.Hm.putS [] t (nn,bb,(p1,p2,p3,p4,p5),(q1,q2,q3,q4,q5))=SB at*;have SP:Hid (∀W,Calls Tryz.prog 113 #[.slice none 0 0,.int .i64 t,.agg #[.int .i64 nn,.bool bb,.bool p1,.int .i64 p2,.string (zae p3),.int .i64 p4,.int .i64 p5,.bool q1,.int .i64 q2,.string (zae q3),.int .i64 q4,.int .i64 q5]] W (zcm SB W)):=Hz SP;have V1:=zap (n:=sz) (by omega);have V2:=zap (n:=rw) (by omega);simp only[qp3] at hspl;have hspl:SB.length<=140000:=by omega
   have ha:New wr (wr.alloc (.cells #[.int .i64 (sz:Int),.int .i64 (rw:Int),.int .i64 nn,.bool bb,.bool p1,.int .i64 p2,.string (zae p3),.int .i64 p4,.int .i64 p5,.bool q1,.int .i64 q2,.string (zae q3),.int .i64 q4,.int .i64 q5] 135)):=(Below.refl _ _).alloc (qmt _) _;have BP:=Blk.new wr 135 #[.int .i64 (sz:Int),.int .i64 (rw:Int),.int .i64 nn,.bool bb,.bool p1,.int .i64 p2,.string (zae p3),.int .i64 p4,.int .i64 p5,.bool q1,.int .i64 q2,.string (zae q3),.int .i64 q4,.int .i64 q5];have o2:=o.later ha;have g2:=g.trans (Grows.of_new ha);have hsz2:=g2.size;have N1:=Hz (zdw (N:=sz) o2 (by omega) (by omega) (by omega));obtain⟨e0,e1,e2,e3,e4,e5,e6,e7,e8,e9,e10,e11,e12,e13⟩:=zdq BP;have hmq:m+140020<=100000000000000:=by omega
   clear o g ha hp3;go_wp2_with fail
   refine N1.out.mono ?_;rintro e w3 ⟨A3,n3,c3,rfl,o3,g3⟩;have BP3:=g3.blk o2 BP (by decide);have g03:=g2.trans g3;have hq3:n3<=m+10:=by have h1:=o3.len;have h2:=o2.len;rw[zaa,qni] at h1;rw[zaa] at h2;omega
   have hsz3:=g03.size;have N2:=Hz (zdw (N:=rw) o3 (by omega) (by omega) (by omega));clear N1 o2 g2 g3 BP e0 e1 e2 e3 e4 e5 e6 e7 e8 e9 e10 e11 e12 e13 d0 d1 d2 d3 d4 d5 d6 d7 d8 d9 d10 d11 d12 d13;obtain⟨e0,e1,e2,e3,e4,e5,e6,e7,e8,e9,e10,e11,e12,e13⟩:=zdq BP3;go_wp2_with fail
   refine N2.out.mono ?_;rintro e w4 ⟨A4,n4,c4,rfl,o4,g4⟩;have BP4:=g4.blk o3 BP3 (by decide);have g04:=g03.trans g4;have hq4:n4<=m+20:=by have h1:=o4.len;have h2:=o3.len;rw[zaa,qni] at h1;rw[zaa] at h2;omega
   have hsz4:=g04.size;clear N2 o3 g03 g4 BP3 e0 e1 e2 e3 e4 e5 e6 e7 e8 e9 e10 e11 e12 e13;obtain⟨e0,e1,e2,e3,e4,e5,e6,e7,e8,e9,e10,e11,e12,e13⟩:=zdq BP4;go_wp2_with fail
   refine(SP.out _).mono ?_;rintro e w5 ⟨A5,n5,c5,rfl,k5,b5⟩;have hq5:n5<=140000:=by have:=k5.len;rw[zaa] at this;omega
   have o5:=o4.later b5;have g05:=g04.trans (Grows.of_new b5);have hsz5:=g05.size;have bb5:Below base w w5:=g05.below HO.out (Below.refl _ _) (qmt _) hb;clear SP o4 g04 BP4 e0 e1 e2 e3 e4 e5 e6 e7 e8 e9 e10 e11 e12 e13 b5
   go_wp2_with (refine zam elB rfl (.tmp 27) (.tmp 31) rfl (W:=w) (B:=base) o5 k5.reads rfl rfl bb5 (qmt _) (by omega) (by omega) (by simp only[maxLen];omega) ?_
                intro A6 c6 w6 _ _ o6 g6 b6 d6)
   go_roundw
   case rel=>exact⟨k+1,A6,_,c6,by omega,by go_num,rfl,by rw[HPL.out];simpa using o6,g05.trans ⟨g6,d6⟩,b6⟩
   case measure=>simp[intOf];omega
  ·obtain rfl:k=ps.length:=by omega
   rw[qql] at o;have HO2:=Hz o;clear o;go_wp2_with fail
   go_ret
   refine⟨_,_,_,rfl,?_,g⟩;have:=HO2.out;rw[qm5] at this;exact this
end Go.Proofs.Y
