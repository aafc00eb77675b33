import Derived.Lib.SmallJoins
import Derived.Test.YtbahbnbpmfgimaaGreatDoorBun21
import Derived.Test.YtbahbnbpmfgimaaGreatDoorBun22
set_option maxHeartbeats 2000000
set_option maxRecDepth 100000
namespace Go.Hm
open Go Go.RowKit
theorem PartsT.keep{e t:TypeId}{w w':World}{D:List zcx}{g:Nat}{cs:Array Value}(h:PartsT e w D)(hg:w.grownBy w' (some g))(hT:Blk w g t cs)(hne:e≠t):PartsT e w' D:=fun d hd=>⟨(h d hd).1.keep hg hT hne,(h d hd).2⟩
theorem zf7(w:World)(g i:Nat)(u:Value):w.grownBy (w.setCell ⟨g,i,none⟩ u) (some g):=(qsc (T:=[g]) u (by simp) w).far
theorem z6c(D:List zcx)(d:zcx)(k m:Nat)(h:D.length=k):(recs zdr D++List.replicate (m+1) (Value.slice none 0 0)).set k (.slice d.1 d.2.2.length d.2.1)=recs zdr (D++[d])++List.replicate m (Value.slice none 0 0):=by have h2:=zhg D;rw[qn5 _ _ (by omega),zl9,h2,h,qn6,qn7,qn8,qmi];rfl
structure TurnsB(B:Nat)(T:List Nat)(w w':World):Prop where
 os:w'.os=w.os
 tape:w'.tape=w.tape
 output:w'.output=w.output
 size:w.heap.size<=w'.heap.size
 block:∀k,k<B->k∉T->w'.heap[k]? =w.heap[k]?
section
variable{B:Nat}{T:List Nat}{w w' w2:World}
theorem TurnsB.refl(B:Nat)(T:List Nat)(w:World):TurnsB B T w w:=⟨rfl,rfl,rfl,ql6 _,fun _ _ _=>rfl⟩
abbrev qsj:=@TurnsB.refl
theorem TurnsB.trans(h:TurnsB B T w w')(k:TurnsB B T w' w2):TurnsB B T w w2:=
 ⟨k.os.trans h.os,k.tape.trans h.tape,k.output.trans h.output,qlw h.size k.size,fun i hi hT=>(k.block i hi hT).trans (h.block i hi hT)⟩
abbrev qsk:=@TurnsB.trans
theorem TurnsB.of(h:Turns T w w')(hB:B<=w.heap.size):TurnsB B T w w':=⟨h.os,h.tape,h.output,h.size,fun k hk hT=>h.block k (qlz hk hB) hT⟩
theorem TurnsB.far{g:Nat}(h:w.grownBy w' (some g))(hg:B<=g)(hB:B<=w.heap.size):TurnsB B T w w':=⟨h.os,h.tape,h.output,h.size,fun k hk _=>h.block k (qlz hk hB) (fun e=>by injection e with e;omega)⟩
theorem TurnsB.alloc(o:Obj)(hB:B<=w.heap.size):TurnsB B T w (w.alloc o):= .of (qr9 ((qq8 _ w).alloc (ql6 _) o)) hB
theorem TurnsB.turns(h:TurnsB w.heap.size T w w'):Turns T w w':=⟨h.os,h.tape,h.output,h.size,h.block⟩
end
end Go.Hm
namespace Go.Proofs.Y
open Go.RowKit Go.Hm
def LogOf(t:TypeId)(w:World)(base g:Nat)(V:Value)(L:List (List Nat)):Prop:=
 ∃A n c D,V= .slice A n c/\Blk w g t #[.slice A n c]/\Own w base 24 (.slice A n c) (recs zdr D)/\PartsT 5 w D/\bytesOf D=L
abbrev LogAt(w:World)(base g:Nat)(V:Value)(L:List (List Nat)):Prop:=LogOf 86 w base g V L
theorem LogOf.new{t:TypeId}{w w':World}{base g:Nat}{V:Value}{L:List (List Nat)}(h:LogOf t w base g V L)(hb:New w w'):LogOf t w' base g V L:=by obtain⟨A,n,c,D,rfl,h1,h2,h3,h4⟩:=h;exact⟨A,n,c,D,rfl,h1.below hb h1.lt,h2.later hb,h3.below hb,h4⟩
theorem LogOf.lt{t:TypeId}{w:World}{base g:Nat}{V:Value}{L:List (List Nat)}(h:LogOf t w base g V L):g<w.heap.size:=by obtain⟨A,n,c,D,rfl,h1,h2,h3,h4⟩:=h;exact h1.lt
theorem LogOf.ge{t:TypeId}{w:World}{base g:Nat}{V:Value}{L:List (List Nat)}(h:LogOf t w base g V L):∀x∈zbg V,base<=x/\x<w.heap.size:=by obtain⟨A,n,c,D,rfl,h1,h2,h3,h4⟩:=h;exact zma h2
theorem LogOf.rows{t:TypeId}{w:World}{base g:Nat}{V:Value}{L:List (List Nat)}(h:LogOf t w base g V L):∃A c D,V= .slice A L.length c/\RowsAt w A L.length c D/\bytesOf D=L/\w.cell? ⟨g,0,none⟩=some (.slice A L.length c):=by obtain⟨A,n,c,D,rfl,h1,h2,h3,rfl⟩:=h;have hn:=h2.len;rw[zhg] at hn;have hc:=h2.cap;rw[zby,<-hn];exact⟨A,c,D,rfl,⟨h2.reads,h3.ins,hc.1⟩,rfl,h1.cell 0⟩
theorem LogOf.turn{t:TypeId}{w w':World}{base g:Nat}{V:Value}{L:List (List Nat)}{T:List Nat}(h:LogOf t w base g V L)(k:Turns T w w')(hg:g∉T)(hV:∀x∈T,V.ownBlock≠some x)(hp:∀x∈T,x<w.heap.size-> ∀cs,¬Blk w x 5 cs):LogOf t w' base g V L:=by
 obtain⟨A,n,c,D,rfl,h1,h2,h3,h4⟩:=h;refine⟨A,n,c,D,rfl,h1.touch k hg,h2.touch k hV,fun d hd=>⟨⟨⟨(h3 d hd).1.1.1,fun hn=>?_⟩,fun hn ad ha=>?_⟩,(h3 d hd).2⟩,h4⟩
 ·obtain⟨ad,e1,hb,hc⟩:=(h3 d hd).1.1.2 hn
  obtain⟨cs,hB⟩:=(h3 d hd).1.2 hn ad e1;have hT:ad.block∉T:=fun hm=>hp _ hm hb cs hB
  refine⟨ad,e1,qlz hb k.size,fun j u hu=>?_⟩;rw[World.cell?_of_block (a:=ad.add j) (k.block (ad.add j).block (by rw[zao];exact hb) (by rw[zao];exact hT))];exact hc j u hu
 ·obtain⟨cs,hB⟩:=(h3 d hd).1.2 hn ad ha
  exact⟨cs,hB.touch k (fun hm=>hp _ hm hB.lt cs hB)⟩
def zc3(t:TypeId)(v:Value)(base g:Nat)(V:Value)(L:List (List Nat))(w:World)(e:Ending)(w':World):Prop:=
 e= .returned v/\ ∃V',LogOf t w' base g V' L/\(V'.ownBlock=V.ownBlock\/ ∃h,V'.ownBlock=some h/\w.heap.size<=h)/\Turns (g::zbg V) w w'
abbrev qge(v:Value)(base g:Nat)(V:Value)(L:List (List Nat))(w:World)(e:Ending)(w':World):Prop:=zc3 86 v base g V L w e w'
theorem zkx{w:World}{base g:Nat}{V:Value}{L:List (List Nat)}(hL:LogAt w base g V L)(hbs:base<=w.heap.size)(hLn:L.length<=10000000){s:List Nat}{A:Option Addr}{n c:Nat}{D:List zcx}(h:RowsAt w A n c D)(hn:n<=9223372036854775806)(hs8:∀x∈s,x<256)(hs:s.length<=140737488351232)(ht:zem (bytesOf D)<=9900000)(hD8:∀p∈bytesOf D,∀x∈p,x<256)(hC2:∀w',Turns (g::zbg V) w w'->ConstIn w'):
 Calls Tryz.prog 40 #[.pointer (some ⟨g,0,none⟩),.string (zai s),.slice A n c] w (qge (zm9 (zdj s (bytesOf D))) base g V (L++(za5 s (bytesOf D)).toList) w):=by
 have c0:New w (w.alloc (.cells (zap .u8 zad).toArray 35)):=(qq8 _ _).alloc (ql6 _) _;have FR:=qrf (zuq (h.later c0) hn hs8 hs (by omega));have HC:=qrf hC2;have HL:=qrf hL;have G0:=qrf (qrv w 35 (zap .u8 zad).toArray);have HO:zdj s (bytesOf D)=zdj s (bytesOf D):=rfl;conv at HO=>rhs;unfold zdj
 replace HO:=qrf HO;have HF8:=qrf (fun f (hf:za5 s (bytesOf D)=some f)=>qok (zfr hs8 hD8 hf) (zew hf ht));generalize za5 s (bytesOf D)=o at*;generalize zdj s (bytesOf D)=ho at*;obtain⟨W0,hW0⟩:∃W,W=w.alloc (.cells (zap .u8 zad).toArray 35):=⟨_,rfl⟩;rw[<-hW0] at FR c0 G0;have HW:=qrf hW0;have C0:=qrf c0;clear h hs8 hs ht hD8 hC2 hW0 c0 hL;go_enter Tryz.func40,Tryz.ntmps40
 go_wp2_with fail
 have F:=FR.out;rw[HW.out] at F;refine F.mono ?_;rintro e w1 hf;obtain⟨A1,n1,c1,rfl,o1,b1⟩:=hf.u;have b1:New W0 w1:=by rw[HW.out];exact b1
 have o1:Own w1 W0.heap.size 5 (.slice A1 n1 c1) (zah .u8 (o.getD [])):=by rw[HW.out];exact o1
 have G1:=qrf (G0.out.below b1 G0.out.lt);have B1:=qrf (qr0 C0.out b1);clear F FR hf HW C0 G0;cases o with
 |none=>
  have hh:ho=zad:=by rw[HO.out];rfl
  subst hh;have H:=qrf (qok (zaf G1.out) (qok (zxd (l:=zad) (by simp[zad])) (qok (zcs .u8 zad) (zau G1.out (zap .u8 zad).toArray))));have BE:=qrf (qr6 B1.out (za3 (g:=w.heap.size) w1 (zap .u8 zad).toArray) (ql6 _));clear G1 B1 b1 o1 HO;go_wp2_with (refine wpList_store_row rfl 35 (.tmp 6) (.tmp 17) rfl w.heap.size (zap .u8 zad).toArray rfl rfl _ _ H.out.1 H.out.2.1 rfl H.out.2.2.1 ?_)
  refine bodyPost_ret (results_cell_row rfl _ _ w.heap.size _ (zap .u8 zad).toArray (0,0) _ rfl H.out.2.2.2 zbp rfl H.out.2.1) rfl ⟨rfl,V,?_,.inl rfl,qr9 BE.out⟩;rw[Option.toList_none,qmg];exact HL.out.new BE.out
 |some f=>
  have hh:ho=zi9 f:=by rw[HO.out,qo5,qnq]
  subst hh;obtain⟨f8,fl⟩:=HF8.out f rfl;obtain rfl:n1=f.length:=by have:=o1.len;rwa[zaa] at this
  obtain⟨Al,nl,cl,Dl,rfl,HG,HO',HP,hLb⟩:=HL.out.new B1.out;have hnl:nl=L.length:=by have:=HO'.len;rw[zhg] at this;rw[<-hLb,zby];exact this
  have hl1:(recs zdr Dl).length=L.length:=by rw[zhg,<-zby,hLb]
  have k1:w1.cell? ⟨g,0,none⟩=some (.slice Al nl cl):=HG.cell 0;have hbs1:base<=w1.heap.size:=qlw hbs B1.out.size;have hW1:=qrf B1.out.size;have hgw:g≠w.heap.size:=by have:=HL.out.lt;omega
  have HLB:=qrf hLb;have HNL:=qrf hnl;have HL1:=qrf hl1;clear HO HF8 hLb hnl hl1;have F8:=qrf f8
  go_wp2_with ((refine zgc elR rfl (.tmp 22) (.tmp 24) rfl (W:=w1) (B:=0) HO' rfl rfl (qq8 _ _) (ql7 _) hbs1 rfl (by rw[HL1.out];omega) (by rw[HL1.out];simp only[maxLen];omega) ?_)
               intro A7 c7 w7 _ _ o7 g7 b7 z7 a7;have e7:(recs zdr Dl).length+1=L.length+1:=by rw[HL1.out]
               rw[e7] at o7 a7⊢;have o7:Own w7 base 24 (.slice A7 (L.length+1) c7) (recs zdr (Dl++[(A1,c1,f)])):=by rw[zl9];exact o7
               have G7:=HG.push HO' g7 (by decide);have G7':=qrf (G1.out.push HO' g7 (by decide));have p7:=((HP.push HO' g7 (by decide)).snoc (d:=(A1,c1,f)) ((qry o1).push HO' g7 (by decide)) o1.cap.1 (by have:=o1.cap.2;simp only[maxLen] at this;omega));have r7:=((qry o1).push HO' g7 (by decide)).1;have k7:w7.cell? ⟨g,0,none⟩=some (.slice Al nl cl):=G7.cell 0;have f7:w7.frozen? ⟨g,0,none⟩=false:=G7.frozen 0;have T7:=qrf (qsi g7);have hc1:=o1.cap.1;have O7:=qrf o7;have P7:=qrf p7;have R7:=qrf r7;have HG7:=qrf G7;have A7':=qrf a7;clear o7 p7 e7 HG HO' HP o1 G7 G1 r7 g7 a7)
  have ts:Turns (g::zbg (.slice Al nl cl)) w (w7.setCell ⟨g,0,none⟩ (.slice A7 (L.length+1) c7)):=
   ((qr9 B1.out).trans (T7.out.more (by intro x hx;simp[hx]))).trans (qsc _ (by simp) w7)
  have P8:=qrf (P7.out.keep (zf7 w7 g 0 (.slice A7 (L.length+1) c7)) HG7.out (by decide));have SU:=qrf (z5r (l:=f) (c:=c1) (P8.out (A1,c1,f) (by simp)).1.1 F8.out hc1 (by omega) (HC.out _ ts));have L8:LogAt (w7.setCell ⟨g,0,none⟩ (.slice A7 (L.length+1) c7)) base g (.slice A7 (L.length+1) c7) (L++[f]):=
   ⟨A7,L.length+1,c7,Dl++[(A1,c1,f)],rfl,HG7.out.set_ 0 _,O7.out.keepT (zf7 _ _ _ _) HG7.out (by decide),P8.out,by rw[zir,HLB.out]⟩
  have G8:=qrf (G7'.out.far (p:=⟨g,0,none⟩) (by exact fun e=>hgw e.symm) (.slice A7 (L.length+1) c7));have L8':=qrf L8;have TS:=qrf ts;clear k1 k7 f7 ts L8 HL1 HLB HC G7' T7 O7 P7 R7 HG7 P8 b1 B1 o1;go_wp2_with fail
  (with_reducible refine SU.out.mono ?_)
  rintro e w9 ⟨rfl,b9⟩;have G9:=G8.out.below b9 G8.out.lt;have L9:=L8'.out.new b9;have T9:=TS.out.trans (qr9 b9);have hz:(zap .u8 zad).toArray.size=(zap .u8 (zi9 f)).toArray.size:=by simp[zap,zad,zhh]
  have H:=qrf (qok (zaf G9) (qok (zxd (zhh f)) (qok hz (qok (zcs .u8 (zi9 f)) (zau G9 (zap .u8 (zi9 f)).toArray)))));have T10:=qrf (qsd (((T9.more (T':=w.heap.size::g::zbg (.slice Al nl cl)) (by intro x hx;simp at hx⊢;simp[hx])).trans (qsa (za3 (g:=w.heap.size) w9 (zap .u8 (zi9 f)).toArray) (by simp)))) (ql6 _));have L10:=qrf (L9.turn (T:=[w.heap.size]) (qsa (za3 (g:=w.heap.size) w9 (zap .u8 (zi9 f)).toArray) (by simp)) (by simpa using hgw)
   (by intro x hx;simp at hx;subst hx;obtain⟨A',n',c',D',e',_,o',_⟩:=L9;rw[e'];exact o'.blk_ne G9 (by decide))
   (by intro x hx _ cs hB;simp at hx;subst hx;exact qrx G9 hB (by decide) rfl))
  obtain⟨cs,hcs⟩:∃cs,cs=(zap .u8 (zi9 f)).toArray:=⟨_,rfl⟩;have hdv:zm9 (zi9 f)= .agg cs:=by rw[hcs];rfl
  have HV:=qrf hdv;rw[<-hcs] at H T10 L10⊢;clear hcs hdv;clear G9 L9 T9 b9 SU hz L8' TS G8;go_wp2_with (refine wpList_store_row rfl 35 (.tmp 6) (.tmp 29) rfl w.heap.size cs rfl rfl _ _ H.out.1 H.out.2.1 H.out.2.2.1 H.out.2.2.2.1 ?_)
  rw[HV.out];exact bodyPost_ret (results_cell_row rfl _ _ w.heap.size _ cs (0,0) _ rfl H.out.2.2.2.2 zbp rfl H.out.2.1) rfl ⟨rfl,_,L10.out,A7'.out.imp id (fun⟨h,h1,h2⟩=>⟨h,h1,qlw (hW1.out) h2⟩),T10.out⟩
def FramesPost(L:List (List Nat))(w:World)(e:Ending)(w':World):Prop:=
 ∃A c D,e= .returned (.slice A L.length c)/\Own w' w.heap.size 24 (.slice A L.length c) (recs zdr D)/\(∀d∈D,Own w' w.heap.size 5 (.slice d.1 d.2.2.length d.2.1) (zah .u8 d.2.2))/\bytesOf D=L/\New w w'
theorem FramesPost.rows{w w':World}{A:Option Addr}{n c:Nat}{D:List zcx}(o:Own w' w.heap.size 24 (.slice A n c) (recs zdr D))(h:∀d∈D,Own w' w.heap.size 5 (.slice d.1 d.2.2.length d.2.1) (zah .u8 d.2.2)):RowsAt w' A n c D:=by have hn:=o.len;rw[zhg] at hn;subst hn;exact⟨o.reads,fun d hd=>⟨(h d hd).reads,(h d hd).cap.1,by have:=(h d hd).cap.2;simp only[maxLen] at this;omega⟩,o.cap.1⟩
theorem zox{w:World}{base g:Nat}{V:Value}{L:List (List Nat)}(hL:LogAt w base g V L)(hLn:L.length<=10000000)(hl:∀p∈L,p.length<=140737488355328):
 Calls Tryz.prog 22 #[.pointer (some ⟨g,0,none⟩)] w (FramesPost L w):=by
 obtain⟨A,c,D,_,HR,hb,hcell⟩:=hL.rows;have hD:D.length=L.length:=by rw[<-hb,zby]
 have HR:=qrf HR;have HB:=qrf hb;have HD:=qrf hD;have H8:=qrf hl;have HC:=qrf (fun(W:World) (hW:New w W)=>(qro hW (p:=⟨g,0,none⟩) hL.lt).trans hcell);obtain⟨n,hn⟩:∃n,n=L.length:=⟨_,rfl⟩;rw[<-hn] at HR hcell HC HD hLn;have HN:=qrf hn;clear hL hl hb hn hD;go_enter Tryz.func22,Tryz.ntmps22
 go_wp2_with (refine zci elR rfl (.tmp 10) (.tmp 10) rfl (W:=w) (B:=w.heap.size) n n rfl rfl rfl rfl (ql6 _) (qq8 _ _) (ql6 _) rfl (by omega) (by simp only[maxLen];omega) ?_
              intro w1 o1 g1 b1 s1;have k1:=HC.out w1 b1;have O1:Hid (∃D2:List zcx,D2.length=0/\Own w1 w.heap.size 24 (.slice (some ⟨w.heap.size,0,none⟩) n n) (recs zdr D2++List.replicate (n-0) (.slice none 0 0))/\(∀d∈D2,Own w1 w.heap.size 5 (.slice d.1 d.2.2.length d.2.1) (zah .u8 d.2.2))/\bytesOf D2=L.take 0):=qrf ⟨[],rfl,o1,(fun d hd=>nomatch hd),rfl⟩;have B1:=qrf b1;clear o1 g1 s1 b1)
 clear k1 hcell;go_loopw [17] (fun i wr=>∃k:Nat,k<=n/\i= .int .i64 (k:Int)/\Hid (∃D2:List zcx,D2.length=k/\Own wr w.heap.size 24 (.slice (some ⟨w.heap.size,0,none⟩) n n) (recs zdr D2++List.replicate (n-k) (.slice none 0 0))/\(∀d∈D2,Own wr w.heap.size 5 (.slice d.1 d.2.2.length d.2.1) (zah .u8 d.2.2))/\bytesOf D2=L.take k)/\Hid (New w wr)) (fun i _=>n-(intOf i).toNat)
 case atStart=>exact⟨0,by omega,rfl,O1,B1⟩
 case round=>
  clear O1 B1;obtain⟨k,hk,rfl,O,b⟩:=hrel;by_cases hlt:k<n
  ·have hkD:k<D.length:=by rw[HD.out];exact hlt
   obtain⟨ad,rfl,_⟩:=HR.out.at_ hkD;have kc:=HR.out.cells hkD wr b.out;have RD:=((HR.out.later b.out).parts.at_ hkD).1;have e1:=zff D k;have tk:=zae L k [] (by rw[<-HN.out];exact hlt);have g1:=H8.out _ (zgu (L:=L) (k:=k) (by rw[<-HN.out];exact hlt));rw[HB.out] at e1;rw[e1] at g1 tk;generalize D.getD k (none,0,[])=d at*;have TK:=qrf tk;have CL:=qrf (z2a (c:=d.2.1) RD g1);clear e1 tk g1 RD
   go_wp2_with (go_at_call 42;refine CL.out.mono ?_;rintro e w5 ⟨A5,n5,c5,rfl,o5,b5⟩
                obtain⟨D2,h1,h2,h3,h4⟩:=O.out;have o2:=h2.later b5;obtain⟨g',u,hA,hge,hlt',hx,k0,f0,st⟩:=o2.at_ (i:=k) hlt;obtain rfl:w.heap.size=g':=by injection hA with hA;injection hA
                have k0:w5.cell? ⟨w.heap.size,k,none⟩=some u:=k0;have f0:w5.frozen? ⟨w.heap.size,k,none⟩=false:=f0;obtain⟨cs,hcs⟩:=Own.row o2 w.heap.size rfl;have s5:=st (.slice A5 n5 c5);have S5:=qrf s5;have CS:=qrf hcs;have O5:=qrf o5;have OO:=qrf (qok h1 (qok h3 h4));have B5:=qrf (qr0 b.out b5);have BB:=qrf b5;clear h1 h2 h3 h4 o2 st s5 hcs o5 b5 hx O)
   clear k0 f0 kc;have hn5:n5=d.2.2.length:=by have:=O5.out.len;rwa[zaa] at this
   subst hn5;have b6:=qrf (B5.out.setCell (p:=⟨w.heap.size,k,none⟩) (ql6 _) (.slice A5 d.2.2.length c5));have O6:Hid (∃D2:List zcx,D2.length=k+1/\Own (w5.setCell ⟨w.heap.size,k,none⟩ (.slice A5 d.2.2.length c5)) w.heap.size 24 (.slice (some ⟨w.heap.size,0,none⟩) n n) (recs zdr D2++List.replicate (n-(k+1)) (.slice none 0 0))/\(∀x∈D2,Own (w5.setCell ⟨w.heap.size,k,none⟩ (.slice A5 d.2.2.length c5)) w.heap.size 5 (.slice x.1 x.2.2.length x.2.1) (zah .u8 x.2.2))/\bytesOf D2=L.take (k+1)):=qrf (by
    obtain⟨h1,h3,h4⟩:=OO.out;refine⟨D2++[(A5,c5,d.2.2)],by rw[qmv,h1];rfl,?_,?_,by rw[zir,h4,TK.out]⟩
    ·have s6:=S5.out
     rw[show n-k=(n-(k+1))+1 by omega] at s6;rw[<-z6c D2 (A5,c5,d.2.2) k _ h1];exact s6
    ·intro x hx
     rcases qnd.1 hx with hx|hx
     ·exact((h3 x hx).later BB.out).keepT (zf7 _ _ _ _) CS.out (by decide)
     ·obtain rfl:=qne.1 hx
      exact((O5.out.base_le (b':=w.heap.size) (b.out.size)).keepT (zf7 _ _ _ _) CS.out (by decide)))
   clear S5 CS O5 OO B5 BB TK;go_roundw
   case rel=>exact⟨k+1,by omega,by go_num,O6,b6⟩
   case measure=>simp[intOf];omega
  ·obtain rfl:k=n:=by omega
   obtain⟨D2,h1,h2,h3,h4⟩:=O.out;rw[qn6,qpq,qmg] at h2;have hL:bytesOf D2=L:=by rw[h4,qm0 (by rw[<-HN.out];omega)]
   have F:Hid (FramesPost L w (.returned (.slice (some ⟨w.heap.size,0,none⟩) k k)) wr):=qrf ⟨_,k,D2,by rw[<-HN.out],by rw[<-HN.out];exact h2,h3,hL,b.out⟩;clear h1 h2 h3 h4 hL O b;go_wp2
   go_ret
   exact F.out
end Go.Proofs.Y
namespace Go.Hm
open Go Go.RowKit
end Go.Hm
namespace Go.Proofs.Y
open Go.RowKit Go.Hm
def TwoPost(o:Option (List Nat × List Nat))(w:World)(e:Ending)(w':World):Prop:=
 ∃A n c B m d,e= .returned (.tuple #[.slice A n c,.slice B m d,.bool o.isSome])/\Reads w' w'.heap.size 1 A n (zah .u8 ((o.map Prod.fst).getD []))/\Reads w' w'.heap.size 1 B m (zah .u8 ((o.map Prod.snd).getD []))/\(n<=c/\c<=9223372036854775807)/\(m<=d/\d<=9223372036854775807)/\New w w'
theorem TwoPost.none_{w w':World}(h:New w w'):TwoPost none w (.returned (.tuple #[.slice none 0 0,.slice none 0 0,.bool false])) w':=
 ⟨none,0,0,none,0,0,rfl,qrs,qrs,⟨by omega,by omega⟩,⟨by omega,by omega⟩,h⟩
end Go.Proofs.Y
namespace Go.Hm
open Go Go.RowKit
theorem zbm{w w1 w2:World}{g:Nat}{V V1:Value}(t1:Turns (g::zbg V) w w1)(a1:V1.ownBlock=V.ownBlock\/ ∃h,V1.ownBlock=some h/\w.heap.size<=h)(t2:Turns (g::zbg V1) w1 w2):Turns (g::zbg V) w w2:=
 ⟨t2.os.trans t1.os,t2.tape.trans t1.tape,t2.output.trans t1.output,qlw t1.size t2.size,fun k hk hT=>by
  refine(t2.block k (qlz hk t1.size) (fun hm=>?_)).trans (t1.block k hk hT);rcases qnu.1 hm with rfl|hm
  ·exact hT (by simp)
  ·rcases a1 with a1|⟨h,a1,a2⟩
   ·refine hT (qps _ ?_)
    unfold zbg at hm⊢;rwa[a1] at hm
   ·unfold zbg at hm
    rw[a1] at hm;simp at hm;omega⟩
theorem zdz{w w1:World}{V V1 V2:Value}(hw:w.heap.size<=w1.heap.size)(a1:V1.ownBlock=V.ownBlock\/ ∃h,V1.ownBlock=some h/\w.heap.size<=h)(a2:V2.ownBlock=V1.ownBlock\/ ∃h,V2.ownBlock=some h/\w1.heap.size<=h):V2.ownBlock=V.ownBlock\/ ∃h,V2.ownBlock=some h/\w.heap.size<=h:=by
 rcases a2 with a2|⟨h,a2,a3⟩
 ·rw[a2];exact a1
 ·exact .inr ⟨h,a2,qlw hw a3⟩
theorem zmb{w:World}{g x:Nat}{V V1:Value}(hx:x∉g::zbg V)(hw:x<w.heap.size)(a1:V1.ownBlock=V.ownBlock\/ ∃h,V1.ownBlock=some h/\w.heap.size<=h):x∉g::zbg V1:=fun hm=>by
 rcases qnu.1 hm with rfl|hm
 ·exact hx (by simp)
 ·rcases a1 with a1|⟨h,a1,a2⟩
  ·refine hx (qps _ ?_)
   unfold zbg at hm⊢;rwa[a1] at hm
  ·unfold zbg at hm
   rw[a1] at hm;simp at hm;omega
def zfh(d:List Nat):List Value:=(List.range 32).map fun i=> .int .u8 ((d.getD i 0:Nat):Int)
theorem zd9(d:List Nat):(zfh d).length=32:=by simp[zfh]
theorem zsw{d:List Nat}(h:d.length=32):zfh d=zah .u8 d:=by
 unfold zfh zah;refine qmk (by simp[h]) fun i h1 h2=>?_
 have hi:i<d.length:=by simpa using h2
 simp[List.getD_eq_getElem?_getD,hi]
def dV(d:List Nat):Value:= .agg (zah .u8 d).toArray
theorem zgg(s:List Nat)(L:List (List Nat)):zm9 (zdj s L)=dV (zb4 s L):=by unfold zm9 dV;rw[z50]
structure LeafIn(w:World)(A:Option Addr)(L:List (List Nat))(T:List Nat):Prop where
 row:Reads w w.heap.size 32 A L.length (recs zfh L)
 digs:Digs L
 far:0<L.length-> ∀ad,A=some ad->ad.block∉T
theorem LeafIn.turn{w w':World}{A:Option Addr}{L:List (List Nat)}{T T':List Nat}(h:LeafIn w A L T)(k:Turns T w w')(hT:∀x,x<w.heap.size->x∉T->x∉T'):LeafIn w' A L T':=by
 refine⟨⟨h.row.1,fun hn=>?_⟩,h.digs,fun hn ad ha=>?_⟩
 ·obtain⟨ad,e,hb,hc⟩:=h.row.2 hn
  refine⟨ad,e,qlz hb k.size,fun j u hu=>?_⟩;rw[World.cell?_of_block (a:=ad.add j) (k.block (ad.add j).block (by rw[zao];exact hb) (by rw[zao];exact h.far hn ad e))];exact hc j u hu
 ·obtain⟨ad',e,hb,_⟩:=h.row.2 hn
  rw[ha] at e;injection e with e;subst e;exact hT _ hb (h.far hn ad ha)
theorem LeafIn.take{w:World}{A:Option Addr}{L:List (List Nat)}{T:List Nat}(h:LeafIn w A L T){k:Nat}(hk:k<=L.length):LeafIn w A (L.take k) T:=by
 have hl:(L.take k).length=k:=by rw[ql2];omega
 refine⟨?_,h.digs.take k,fun hn=>h.far (by omega)⟩;have:=h.row.take hk;rw[ziq (sz:=32) zd9 L k hk] at this;rwa[hl]
theorem LeafIn.drop{w:World}{A:Option Addr}{L:List (List Nat)}{T:List Nat}(h:LeafIn w A L T){k c:Nat}(hk:k<=L.length)(hc:L.length<=c):LeafIn w (if c=k then A else A.map (·.add (k*32))) (L.drop k) T:=by
 have hl:(L.drop k).length=L.length-k:=by rw[ql0]
 refine⟨?_,h.digs.drop k,fun hn ad ha=>?_⟩
 ·have:=h.row.cut hk hc
  rw[zou (sz:=32) zd9 L k hk] at this;rwa[hl]
 ·split at ha
  ·exact h.far (by omega) ad ha
  ·cases A with
   |none=>cases ha
   |some a=>
    simp only[qo5,qll] at ha;rw[<-ha,zao];exact h.far (by omega) a rfl
end Go.Hm
namespace Go.Proofs.Y
open Go.RowKit Go.Hm
theorem LogOf.own{t:TypeId}{w:World}{base g B:Nat}{V:Value}{L:List (List Nat)}(h:LogOf t w base g V L)(hb:B<=base)(hg:B<=g):∀x∈g::zbg V,B<=x:=by
 intro x hx;rcases qnu.1 hx with rfl|hx
 ·exact hg
 ·exact qlw hb (h.ge x hx).1
theorem LogOf.noB{t:TypeId}(ht:t≠5){w:World}{base g:Nat}{V:Value}{L:List (List Nat)}(h:LogOf t w base g V L):∀x∈g::zbg V,x<w.heap.size-> ∀cs,¬Blk w x 5 cs:=by
 obtain⟨A,n,c,D,rfl,h1,h2,_⟩:=h;intro x hx _ cs hB;rcases qnu.1 hx with rfl|hx
 ·exact qrx h1 hB ht rfl
 ·exact zer h2 hB (by decide) hx
theorem LogOf.notT{t u:TypeId}{w:World}{base g x:Nat}{V:Value}{L:List (List Nat)}{cs:Array Value}(h:LogOf t w base g V L)(hB:Blk w x u cs)(h1:t≠u)(h2:24≠u):x∉g::zbg V:=fun hx=>by
 obtain⟨A,n,c,D,rfl,hb,ho,_⟩:=h;rcases qnu.1 hx with rfl|hx
 ·exact qrx hb hB h1 rfl
 ·exact zer ho hB h2 hx
abbrev tL:TypeId:=86
abbrev tR:TypeId:=31
theorem zjc{w:World}{base g:Nat}{V:Value}{L:List (List Nat)}(hL:LogOf tR w base g V L)(hbs:base<=w.heap.size)(hLn:L.length<=10000000){s:List Nat}{A:Option Addr}{n c:Nat}{D:List zcx}(h:∀w',Turns (g::zbg V) w w'->RowsAt w' A n c D)(hn:n<=9223372036854775806)(hs8:∀x∈s,x<256)(hs:s.length<=140737488351232)(ht:zem (bytesOf D)<=9900000)(hD8:∀p∈bytesOf D,∀x∈p,x<256):
 Calls Tryz.prog 41 #[.pointer (some ⟨g,0,none⟩),.string (zai s),.slice A n c] w (zc3 tR (zm9 (zdj s (bytesOf D))) base g V (L++(za5 s (bytesOf D)).toList) w):=by
 have c0:New w (w.alloc (.cells (zap .u8 zad).toArray 35)):=(qq8 _ _).alloc (ql6 _) _;have FR:=qrf (zri ((h w (qr7 _ _)).later c0) hn hs8 hs (by omega));have HA:=qrf (fun w' (k:Turns (g::zbg V) w w')=>z58 (h w' k) hn hs8 hs ht hD8);have HL:=qrf hL;have G0:=qrf (qrv w 35 (zap .u8 zad).toArray);have hl32:=qrf (zfs s (bytesOf D));generalize za5 s (bytesOf D)=o at*;generalize zdj s (bytesOf D)=ho at*;obtain⟨W0,hW0⟩:∃W,W=w.alloc (.cells (zap .u8 zad).toArray 35):=⟨_,rfl⟩;rw[<-hW0] at FR c0 G0;have HW:=qrf hW0;have C0:=qrf c0;have ZS:=qrf (show(zap .u8 zad).toArray.size=(zap .u8 ho).toArray.size by simp[zap,zad,hl32.out]);have I32:=qrf (zxd hl32.out);have ONE:=qrf (zcs .u8 ho);have hgw:g≠w.heap.size:=by have:=hL.lt;omega
 clear h hs8 hs ht hD8 hW0 c0 hL;go_enter Tryz.func41,Tryz.ntmps41
 go_wp2_with fail
 have F:=FR.out;rw[HW.out] at F;refine F.mono ?_;rintro e w1 hf;obtain⟨A1,n1,c1,rfl,o1,b1⟩:=hf.u;have b1:New W0 w1:=by rw[HW.out];exact b1
 have o1:Own w1 W0.heap.size 5 (.slice A1 n1 c1) (zah .u8 (o.getD [])):=by rw[HW.out];exact o1
 have G1:=qrf (G0.out.below b1 G0.out.lt);have B1:=qrf (qr0 C0.out b1);clear F FR hf HW C0 G0;obtain⟨cs,hcs⟩:∃cs,cs=(zap .u8 ho).toArray:=⟨_,rfl⟩;have hdv:zm9 ho= .agg cs:=by rw[hcs];rfl
 have HV:=qrf hdv;rw[<-hcs] at ZS I32 ONE;rw[hdv];clear hcs hdv
 go_upto_if 15 with(fail)
 go_cut [] (fun wx=>∃V',LogOf tR wx base g V' (L++o.toList)/\(V'.ownBlock=V.ownBlock\/ ∃h,V'.ownBlock=some h/\w.heap.size<=h)/\Turns (g::zbg V) w wx/\Blk wx w.heap.size 35 (zap .u8 zad).toArray)
 case first=>
  cases o with
  |none=>
   go_wp2_with fail
   go_meet
   exact⟨V,by rw[Option.toList_none,qmg];exact HL.out.new B1.out,.inl rfl,qr9 B1.out,G1.out⟩
  |some f=>
   obtain rfl:n1=f.length:=by have:=o1.len;rwa[show(some f).getD []=f from rfl,zaa] at this
   obtain⟨Al,nl,cl,Dl,rfl,HG,HO',HP,hLb⟩:=HL.out.new B1.out;have hl1:(recs zdr Dl).length=L.length:=by rw[zhg,<-zby,hLb]
   have k1:w1.cell? ⟨g,0,none⟩=some (.slice Al nl cl):=HG.cell 0;have hbs1:base<=w1.heap.size:=qlw hbs B1.out.size;have HLB:=qrf hLb;have HL1:=qrf hl1;clear hLb hl1
   go_wp2_with ((refine zgc elR rfl (.tmp 20) (.tmp 22) rfl (W:=w1) (B:=0) HO' rfl rfl (qq8 _ _) (ql7 _) hbs1 rfl (by rw[HL1.out];omega) (by rw[HL1.out];simp only[maxLen];omega) ?_)
                intro A7 c7 w7 _ _ o7 g7 b7 z7 a7;have G7:=HG.push HO' g7 (by decide);have G7':=qrf (G1.out.push HO' g7 (by decide));have p7:=((HP.push HO' g7 (by decide)).snoc (d:=(A1,c1,f)) ((qry o1).push HO' g7 (by decide)) o1.cap.1 (by have:=o1.cap.2;simp only[maxLen] at this;omega));have k7:w7.cell? ⟨g,0,none⟩=some (.slice Al nl cl):=G7.cell 0;have f7:w7.frozen? ⟨g,0,none⟩=false:=G7.frozen 0;have T7:=qrf (qsi g7);have O7:=qrf o7;have P7:=qrf p7;have HG7:=qrf G7;have A7':=qrf a7;clear o7 p7 HG HO' HP o1 G7 G1 g7 a7)
   go_meet
   refine⟨.slice A7 ((recs zdr Dl).length+1) c7,⟨A7,(recs zdr Dl).length+1,c7,Dl++[(A1,c1,f)],rfl,HG7.out.set_ 0 _,?_,P7.out.keep (zf7 w7 g 0 _) HG7.out (by decide),by rw[zir,HLB.out];rfl⟩,A7'.out.imp id (fun⟨h,h1,h2⟩=>⟨h,h1,qlw B1.out.size h2⟩),?_,G7'.out.far (p:=⟨g,0,none⟩) (by exact fun e=>hgw e.symm) _⟩
   ·rw[zl9]
    exact O7.out.keepT (zf7 _ _ _ _) HG7.out (by decide)
   ·exact((qr9 B1.out).trans (T7.out.more (by intro x hx;simp[hx]))).trans (qsc _ (by simp) w7)
 case rest=>
  obtain⟨V',L8,a8,t8,G8⟩:=hcut;have HA:=qrf (HA.out wc t8);have L8:=qrf L8;have T8:=qrf t8;have G8:=qrf G8;have A8:=qrf a8;clear t8 a8 G1 B1 b1 o1 HL;rw[HV.out] at HA;go_wp2_with fail
  refine HA.out.mono ?_;rintro e w9 ⟨rfl,b9⟩;have G9:=G8.out.below b9 G8.out.lt;have L9:=L8.out.new b9;have T9:=T8.out.trans (qr9 b9);have H:=qrf (qok (zaf G9) (zau G9 cs));have T10:=qrf (qsd (((T9.more (T':=w.heap.size::g::zbg V) (by intro x hx;simp at hx⊢;simp[hx])).trans (qsa (za3 (g:=w.heap.size) w9 cs) (by simp)))) (ql6 _));have L10:=qrf (L9.turn (T:=[w.heap.size]) (qsa (za3 (g:=w.heap.size) w9 cs) (by simp)) (by simpa using hgw)
   (by intro x hx;simp at hx;subst hx;obtain⟨A',n',c',D',e',_,o',_⟩:=L9;rw[e'];exact o'.blk_ne G9 (by decide))
   (by intro x hx _ cs hB;simp at hx;subst hx;exact qrx G9 hB (by decide) rfl))
  clear G9 L9 T9 b9 T8 G8 L8 HA;go_wp2_with (refine wpList_store_row rfl 35 (.tmp 6) (.tmp 28) rfl w.heap.size cs rfl rfl _ _ H.out.1 I32.out ZS.out ONE.out ?_)
  exact bodyPost_ret (results_cell_row rfl _ _ w.heap.size _ cs (0,0) _ rfl H.out.2 zbp rfl I32.out) rfl ⟨by rw[HV.out],V',L10.out,A8.out,T10.out⟩
end Go.Proofs.Y
namespace Go.Hm
open Go Go.RowKit
theorem zac(w:World)(o:Obj):New w (w.alloc o):=(qq8 _ _).alloc (ql6 _) o
theorem Reads.litM3(w:World)(e:TypeId)(fr:Nat × Nat)(cs:Array Value)(n:Nat)(xs:List Value)(h:cs.toList=xs)(hn:n=xs.length):Reads (w.alloc (.cells cs e fr)) (w.alloc (.cells cs e fr)).heap.size 1 (some ⟨w.heap.size,0,none⟩) n xs:=by subst hn;refine⟨by simp,fun _=>⟨_,rfl,by simp,?_⟩⟩;have:=qq9 (heap_alloc_new w (.cells cs e fr));rwa[h] at this
abbrev qsl:=@Reads.litM3
def u64N_tren(k:Int):Nat:=(k%18446744073709551616).toNat
def leafP(k n:Int)(d:List Nat):List (List Nat):=[low (u64N_tren k) 8,low (u64N_tren n) 8,d]
theorem zdp{w w':World}{T:List Nat}{s n:Nat}{A:Option Addr}{xs:List Value}(h:Reads w w.heap.size s A n xs)(k:Turns T w w')(hT:0<n-> ∀ad,A=some ad->ad.block∉T):Reads w' w'.heap.size s A n xs:=
 ⟨h.1,fun hn=>by obtain⟨ad,e,hb,hc⟩:=h.2 hn;refine⟨ad,e,qlz hb k.size,fun j u hu=>?_⟩;rw[World.cell?_of_block (a:=ad.add j) (k.block (ad.add j).block (by rw[zao];exact hb) (by rw[zao];exact hT hn ad e))];exact hc j u hu⟩
theorem zus{w w':World}{T:List Nat}{A:Option Addr}{n c:Nat}{D:List zcx}(h:RowsAt w A n c D)(k:Turns T w w')(h1:0<n-> ∀ad,A=some ad->ad.block∉T)(h2:∀d∈D,0<d.2.2.length-> ∀ad,d.1=some ad->ad.block∉T):RowsAt w' A n c D:=
 ⟨zdp h.row k h1,fun d hd=>⟨zdp (h.parts d hd).1 k (h2 d hd),(h.parts d hd).2⟩,h.cap⟩
end Go.Hm
namespace Go.Proofs.Y
open Go.RowKit Go.Hm
theorem zbz{t:TypeId}{w w9:World}{base g:Nat}{V V':Value}{L:List (List Nat)}(hg:g<w.heap.size)(l9:LogOf t w9 base g V' L)(a9:V'.ownBlock=V.ownBlock\/ ∃h,V'.ownBlock=some h/\w.heap.size<=h)(t9:Turns (g::zbg V) w w9){old:Array Value}(G9:Blk w9 w.heap.size 35 old)(cs:Array Value):
 ∃V',LogOf t (w9.setRow w.heap.size cs) base g V' L/\(V'.ownBlock=V.ownBlock\/ ∃h,V'.ownBlock=some h/\w.heap.size<=h)/\Turns (g::zbg V) w (w9.setRow w.heap.size cs):=by
 refine⟨V',l9.turn (T:=[w.heap.size]) (qsa (za3 (g:=w.heap.size) w9 cs) (by simp)) (by simp;omega) ?_ ?_,a9,?_⟩
 ·intro x hx
  simp at hx;subst hx;obtain⟨A',n',c',D',e',_,o',_⟩:=l9;rw[e'];exact o'.blk_ne G9 (by decide)
 ·intro x hx _ cs hB
  simp at hx;subst hx;exact qrx G9 hB (by decide) rfl
 ·exact qsd ((t9.more (T':=w.heap.size::g::zbg V) (by intro x hx;simp at hx⊢;simp[hx])).trans (qsa (za3 (g:=w.heap.size) w9 cs) (by simp))) (ql6 _)
theorem zzy{w:World}{base g:Nat}{V:Value}{L:List (List Nat)}(hL:LogOf tL w base g V L)(hbs:base<=w.heap.size)(hLn:L.length<=10000000){s d:List Nat}{k n:Int}{A:Option Addr}{c:Nat}(hs8:∀x∈s,x<256)(hs:s.length<=140737488351232)(hd:Reads w w.heap.size 1 A d.length (zah .u8 d))(hd8:∀x∈d,x<256)(hdl:d.length<=9000000)(hdc:d.length<=c)(hc:c<=9223372036854775807)(hC:∀w',Turns (g::zbg V) w w'->ConstIn w'):
 Calls Tryz.prog 34 #[.pointer (some ⟨g,0,none⟩),.string (zai s),.int .i64 k,.int .i64 n,.slice A d.length c] w (zc3 tL (zm9 (zdj s (leafP k n d))) base g V (L++(za5 s (leafP k n d)).toList) w):=by
 have c0:=zac w (.cells (zap .u8 zad).toArray 35);have G0:=qrf (qrv w 35 (zap .u8 zad).toArray);have HL:=qrf hL;have HD:=qrf hd;have H8:=qrf hd8;have S8:=qrf hs8;have HC:=qrf hC;have hgl:g<w.heap.size:=hL.lt;obtain⟨W0,hW0⟩:∃W,W=w.alloc (.cells (zap .u8 zad).toArray 35):=⟨_,rfl⟩;have U:=qrf (fun(x:Nat) (hx:x<=18446744073709551615) (W:World)=>z6e (w:=W) (A:=none) (n:=0) (c:=0) (l:=[]) x qrs (by omega));have e1:IntKind.u64.wrap k=((u64N_tren k:Nat):Int):=by unfold u64N_tren;rw[qrj];omega
 have e2:IntKind.u64.wrap n=((u64N_tren n:Nat):Int):=by unfold u64N_tren;rw[qrj];omega
 have e3:k%18446744073709551616=((u64N_tren k:Nat):Int):=by unfold u64N_tren;omega
 have e4:n%18446744073709551616=((u64N_tren n:Nat):Int):=by unfold u64N_tren;omega
 have h3:u64N_tren k<=18446744073709551615:=by unfold u64N_tren;omega
 have h4:u64N_tren n<=18446744073709551615:=by unfold u64N_tren;omega
 have LP:=qrf (show leafP k n d=[low (u64N_tren k) 8,low (u64N_tren n) 8,d] from rfl);generalize leafP k n d=lp at*;generalize u64N_tren k=ku at*;generalize u64N_tren n=nu at*;rw[<-hW0] at c0 G0;have HW:=qrf hW0;have C0:=qrf c0;clear hd hd8 hs8 hL c0 hW0 hC;go_enter Tryz.func34,Tryz.ntmps34
 go_wp2_with fail
 refine(U.out ku h3 _).mono ?_;rintro e w1 ⟨A1,n1,c1,rfl,o1,b1⟩;have b1:New W0 w1:=by rw[HW.out];exact b1
 have o1:Own w1 W0.heap.size 5 (.slice A1 n1 c1) (zah .u8 (low ku 8)):=by rw[HW.out];exact o1
 obtain rfl:n1=8:=by have:=o1.len;rwa[zaa,zbe] at this
 have O1:=qrf o1;have B1:=qrf (qr0 C0.out b1);have G1:=qrf (G0.out.below b1 G0.out.lt);clear o1 b1 HW C0 G0 e1 e3;go_wp2_with fail
 refine(U.out nu h4 _).mono ?_;rintro e w2 ⟨A2,n2,c2,rfl,o2,b2⟩;have o2:Own w2 w1.heap.size 5 (.slice A2 n2 c2) (zah .u8 (low nu 8)):=o2;obtain rfl:n2=8:=by have:=o2.len;rwa[zaa,zbe] at this
 have B2:=qrf (qr0 B1.out b2);have G2:=qrf (G1.out.below b2 G1.out.lt);have O1:=qrf (O1.out.later b2);have rr:RowsAt (w2.alloc (.cells #[.slice A1 8 c1,.slice A2 8 c2,.slice A d.length c] 24)) (some ⟨w2.heap.size,0,none⟩) 3 3 [(A1,c1,low ku 8),(A2,c2,low nu 8),(A,c,d)]:=by
  have l1:=zbe ku 8;have l2:=zbe nu 8;refine⟨qsl w2 _ (0,0) _ 3 _ (by simp[recs,zdr,l1,l2]) (by simp[recs,zdr]),fun x hx=>?_,ql6 _⟩;simp only[qnu,qpt,or_false] at hx;have q1:=O1.out.cap;have q2:=o2.cap;simp only[maxLen] at q1 q2;have cN:=zac w2 (.cells #[.slice A1 8 c1,.slice A2 8 c2,.slice A d.length c] 24);rcases hx with rfl|rfl|rfl
  ·exact⟨by show Reads _ _ 1 A1 (low ku 8).length _;rw[l1];exact qsg O1.out.reads cN,by show(low ku 8).length<=c1;omega,by show c1<=_;omega⟩
  ·exact⟨by show Reads _ _ 1 A2 (low nu 8).length _;rw[l2];exact qsg o2.reads cN,by show(low nu 8).length<=c2;omega,by show c2<=_;omega⟩
  ·exact⟨qsg HD.out (qr0 B2.out cN),hdc,hc⟩
 have hbo:bytesOf [(A1,c1,low ku 8),(A2,c2,low nu 8),(A,c,d)]=lp:=by rw[LP.out];rfl
 have c3:=qr0 B2.out (zac w2 (.cells #[.slice A1 8 c1,.slice A2 8 c2,.slice A d.length c] 24));have hp8:∀p∈bytesOf [(A1,c1,low ku 8),(A2,c2,low nu 8),(A,c,d)],∀x∈p,x<256:=by
  intro p hp;simp only[bytesOf,qmp,qmq,qnu,qpt,or_false] at hp;rcases hp with rfl|rfl|rfl
  ·exact zgf ku 8
  ·exact zgf nu 8
  ·exact H8.out
 have hts:zem (bytesOf [(A1,c1,low ku 8),(A2,c2,low nu 8),(A,c,d)])<=9900000:=by simp[bytesOf,zem,zbe];omega
 have lh:=zkx (HL.out.new c3) (qlw hbs c3.size) hLn rr (by omega) S8.out hs hts hp8 (fun w' k=>HC.out w' ((qr9 c3).trans k));rw[hbo] at lh;have LH:=qrf lh;have C3:=qrf c3;have G3:=qrf (G2.out.alloc (.cells #[.slice A1 8 c1,.slice A2 8 c2,.slice A d.length c] 24));clear rr hbo c3 lh o2 b2 e2 e4;go_wp2_with fail
 refine LH.out.mono ?_;rintro e w4 ⟨rfl,V',l4,a4,t4⟩;obtain⟨cs,hcs⟩:∃cs,cs=(zap .u8 (zdj s lp)).toArray:=⟨_,rfl⟩;have hdv:zm9 (zdj s lp)= .agg cs:=by rw[hcs];rfl
 have HV:=qrf hdv;have hl32:=zfs s lp;have I32:(Tryz.prog.info? 35).map (·.size)=some cs.size:=by rw[hcs];exact zxd hl32
 have ZS:(zap .u8 zad).toArray.size=cs.size:=by rw[hcs];simp[zap,zad,hl32]
 have ONE:cs.all (·.oneCell')=true:=by rw[hcs];exact zcs _ _
 have g4:=G3.out.touch t4 ((HL.out.new C3.out).notT G3.out (by decide) (by decide));have PS:=qrf (zbz hgl l4 (a4.imp id fun⟨h,h1,h2⟩=>⟨h,h1,qlw C3.out.size h2⟩) ((qr9 C3.out).trans t4) g4 cs);have H:=qrf (qok (zaf g4) (zau g4 cs));have I32:=qrf I32;have ZS:=qrf ZS;have ONE:=qrf ONE;rw[hdv];clear hcs hdv l4 a4 t4 g4 hl32 LH;go_wp2_with (refine wpList_store_row rfl 35 (.tmp 10) (.tmp 21) rfl w.heap.size cs rfl rfl _ _ H.out.1 I32.out ZS.out ONE.out ?_)
 exact bodyPost_ret (results_cell_row rfl _ _ w.heap.size _ cs (0,0) _ rfl H.out.2 zbp rfl I32.out) rfl ⟨by rw[HV.out],PS.out⟩
theorem z6f{w:World}{base g:Nat}{V:Value}{L:List (List Nat)}(hL:LogOf tR w base g V L)(hbs:base<=w.heap.size)(hLn:L.length<=10000000){s d:List Nat}{k n:Int}{A:Option Addr}{c:Nat}(hs8:∀x∈s,x<256)(hs:s.length<=140737488351232)(hd:Reads w w.heap.size 1 A d.length (zah .u8 d))(hdT:0<d.length-> ∀ad,A=some ad->ad.block∉g::zbg V)(hd8:∀x∈d,x<256)(hdl:d.length<=9000000)(hdc:d.length<=c)(hc:c<=9223372036854775807):
 Calls Tryz.prog 35 #[.pointer (some ⟨g,0,none⟩),.string (zai s),.int .i64 k,.int .i64 n,.slice A d.length c] w (zc3 tR (zm9 (zdj s (leafP k n d))) base g V (L++(za5 s (leafP k n d)).toList) w):=by
 have c0:=zac w (.cells (zap .u8 zad).toArray 35);have G0:=qrf (qrv w 35 (zap .u8 zad).toArray);have HL:=qrf hL;have HD:=qrf hd;have HDT:=qrf hdT;have H8:=qrf hd8;have S8:=qrf hs8;have hgl:g<w.heap.size:=hL.lt;obtain⟨W0,hW0⟩:∃W,W=w.alloc (.cells (zap .u8 zad).toArray 35):=⟨_,rfl⟩;have U:=qrf (fun(x:Nat) (hx:x<=18446744073709551615) (W:World)=>qbn (w:=W) (A:=none) (n:=0) (c:=0) (l:=[]) x 8 qrs (by omega) (by omega) hx);have e1:IntKind.u64.wrap k=((u64N_tren k:Nat):Int):=by unfold u64N_tren;rw[qrj];omega
 have e2:IntKind.u64.wrap n=((u64N_tren n:Nat):Int):=by unfold u64N_tren;rw[qrj];omega
 have e3:k%18446744073709551616=((u64N_tren k:Nat):Int):=by unfold u64N_tren;omega
 have e4:n%18446744073709551616=((u64N_tren n:Nat):Int):=by unfold u64N_tren;omega
 have h3:u64N_tren k<=18446744073709551615:=by unfold u64N_tren;omega
 have h4:u64N_tren n<=18446744073709551615:=by unfold u64N_tren;omega
 have LP:=qrf (show leafP k n d=[low (u64N_tren k) 8,low (u64N_tren n) 8,d] from rfl);generalize leafP k n d=lp at*;generalize u64N_tren k=ku at*;generalize u64N_tren n=nu at*;rw[<-hW0] at c0 G0;have HW:=qrf hW0;have C0:=qrf c0;have C00:=qrf c0.size;clear hd hdT hd8 hs8 hL c0 hW0;go_enter Tryz.func35,Tryz.ntmps35
 go_wp2_with fail
 refine(U.out ku h3 _).mono ?_;rintro e w1 ⟨A1,n1,c1,rfl,o1,b1⟩;have b1:New W0 w1:=by rw[HW.out];exact b1
 have o1:Own w1 W0.heap.size 5 (.slice A1 n1 c1) (zah .u8 (low ku 8)):=by rw[HW.out];exact o1
 obtain rfl:n1=8:=by have:=o1.len;rwa[zaa,zbe] at this
 have O1:=qrf o1;have B1:=qrf (qr0 C0.out b1);have G1:=qrf (G0.out.below b1 G0.out.lt);clear o1 b1 HW C0 G0 e1 e3;go_wp2_with fail
 refine(U.out nu h4 _).mono ?_;rintro e w2 ⟨A2,n2,c2,rfl,o2,b2⟩;have o2:Own w2 w1.heap.size 5 (.slice A2 n2 c2) (zah .u8 (low nu 8)):=o2;obtain rfl:n2=8:=by have:=o2.len;rwa[zaa,zbe] at this
 have B2:=qrf (qr0 B1.out b2);have G2:=qrf (G1.out.below b2 G1.out.lt);have O1:=qrf (O1.out.later b2);have rr:RowsAt (w2.alloc (.cells #[.slice A1 8 c1,.slice A2 8 c2,.slice A d.length c] 24)) (some ⟨w2.heap.size,0,none⟩) 3 3 [(A1,c1,low ku 8),(A2,c2,low nu 8),(A,c,d)]:=by
  have l1:=zbe ku 8;have l2:=zbe nu 8;refine⟨qsl w2 _ (0,0) _ 3 _ (by simp[recs,zdr,l1,l2]) (by simp[recs,zdr]),fun x hx=>?_,ql6 _⟩;simp only[qnu,qpt,or_false] at hx;have q1:=O1.out.cap;have q2:=o2.cap;simp only[maxLen] at q1 q2;have cN:=zac w2 (.cells #[.slice A1 8 c1,.slice A2 8 c2,.slice A d.length c] 24);rcases hx with rfl|rfl|rfl
  ·exact⟨by show Reads _ _ 1 A1 (low ku 8).length _;rw[l1];exact qsg O1.out.reads cN,by show(low ku 8).length<=c1;omega,by show c1<=_;omega⟩
  ·exact⟨by show Reads _ _ 1 A2 (low nu 8).length _;rw[l2];exact qsg o2.reads cN,by show(low nu 8).length<=c2;omega,by show c2<=_;omega⟩
  ·exact⟨qsg HD.out (qr0 B2.out cN),hdc,hc⟩
 have hbo:bytesOf [(A1,c1,low ku 8),(A2,c2,low nu 8),(A,c,d)]=lp:=by rw[LP.out];rfl
 have c3:=qr0 B2.out (zac w2 (.cells #[.slice A1 8 c1,.slice A2 8 c2,.slice A d.length c] 24));have hp8:∀p∈bytesOf [(A1,c1,low ku 8),(A2,c2,low nu 8),(A,c,d)],∀x∈p,x<256:=by
  intro p hp;simp only[bytesOf,qmp,qmq,qnu,qpt,or_false] at hp;rcases hp with rfl|rfl|rfl
  ·exact zgf ku 8
  ·exact zgf nu 8
  ·exact H8.out
 have hts:zem (bytesOf [(A1,c1,low ku 8),(A2,c2,low nu 8),(A,c,d)])<=9900000:=by simp[bytesOf,zem,zbe];omega
 have lg:=HL.out.new c3;have keep:∀w',Turns (g::zbg V) (w2.alloc (.cells #[.slice A1 8 c1,.slice A2 8 c2,.slice A d.length c] 24)) w'->RowsAt w' (some ⟨w2.heap.size,0,none⟩) 3 3 [(A1,c1,low ku 8),(A2,c2,low nu 8),(A,c,d)]:=fun w' k=>by
  have lowT:∀x∈g::zbg V,x<w.heap.size:=fun x hx=>by
   rcases qnu.1 hx with rfl|hx
   ·exact hgl
   ·exact(HL.out.ge x hx).2
  have z0:=C00.out;have q1:=O1.out.lt;have q2:=o2.lt;refine zus rr k (fun _ ad ha=>?_) (fun x hx hn ad ha hm=>?_)
  ·injection ha with ha
   subst ha;exact fun hm=>by have h9:w2.heap.size<w.heap.size:=lowT _ hm;have:=B2.out.size;omega
  ·simp only[qnu,qpt,or_false] at hx
   rcases hx with rfl|rfl|rfl
   ·obtain⟨g',u,hA,hge,_⟩:=O1.out.at_ (i:=0) (by omega)
    rw[show A1=some ad from ha] at hA;injection hA with hA;subst hA;have:g'<w.heap.size:=lowT _ hm;omega
   ·obtain⟨g',u,hA,hge,_⟩:=o2.at_ (i:=0) (by omega)
    rw[show A2=some ad from ha] at hA;injection hA with hA;subst hA;have:g'<w.heap.size:=lowT _ hm;have:=B1.out.size;omega
   ·exact HDT.out hn ad ha hm
 have lh:=zjc lg (qlw hbs c3.size) hLn keep (by omega) S8.out hs hts hp8;rw[hbo] at lh;have LH:=qrf lh;have C3:=qrf c3;have G3:=qrf (G2.out.alloc (.cells #[.slice A1 8 c1,.slice A2 8 c2,.slice A d.length c] 24));clear rr hbo c3 lh o2 b2 e2 e4;go_wp2_with fail
 refine LH.out.mono ?_;rintro e w4 ⟨rfl,V',l4,a4,t4⟩;obtain⟨cs,hcs⟩:∃cs,cs=(zap .u8 (zdj s lp)).toArray:=⟨_,rfl⟩;have hdv:zm9 (zdj s lp)= .agg cs:=by rw[hcs];rfl
 have HV:=qrf hdv;have hl32:=zfs s lp;have I32:(Tryz.prog.info? 35).map (·.size)=some cs.size:=by rw[hcs];exact zxd hl32
 have ZS:(zap .u8 zad).toArray.size=cs.size:=by rw[hcs];simp[zap,zad,hl32]
 have ONE:cs.all (·.oneCell')=true:=by rw[hcs];exact zcs _ _
 have g4:=G3.out.touch t4 ((HL.out.new C3.out).notT G3.out (by decide) (by decide));have PS:=qrf (zbz hgl l4 (a4.imp id fun⟨h,h1,h2⟩=>⟨h,h1,qlw C3.out.size h2⟩) ((qr9 C3.out).trans t4) g4 cs);have H:=qrf (qok (zaf g4) (zau g4 cs));have I32:=qrf I32;have ZS:=qrf ZS;have ONE:=qrf ONE;rw[hdv];clear hcs hdv l4 a4 t4 g4 hl32 LH;go_wp2_with (refine wpList_store_row rfl 35 (.tmp 10) (.tmp 21) rfl w.heap.size cs rfl rfl _ _ H.out.1 I32.out ZS.out ONE.out ?_)
 exact bodyPost_ret (results_cell_row rfl _ _ w.heap.size _ cs (0,0) _ rfl H.out.2 zbp rfl I32.out) rfl ⟨by rw[HV.out],PS.out⟩
end Go.Proofs.Y
namespace Go.Hm
open Go Go.RowKit
theorem z6i(w:World):RowsAt w none 0 0 []:=⟨qrs,(fun _ hd=>nomatch hd),ql6 _⟩
theorem ConstIn.turn{W w w':World}{T:List Nat}(hC:ConstIn W)(b:New W w)(k:Turns T w w')(hT:∀x∈T,W.heap.size<=x):ConstIn w':=hC.new (qse b k hT (ql6 _))
section
variable{P:Program}{w:World}{a:Act}{dst:Option Tmp}{tt:TypeId}{pos:String}{af:Array Edge}{gd:Option (Nat × Bool)}
theorem znx{t t2:TypeId}{x y:Operand}{v:Value}{xs ys:Array Value}(hx:a.eval x= .agg xs)(hy:a.eval y= .agg ys)(hm:P.eqGuardType P.depth t=false)(hv:(binOp .eql t (.agg xs) (.agg ys)).run P w= .ok v w):(execOp a.eval ⟨dst,.binOp .eql t x y t2,tt,pos,af,gd⟩).run P w= .ok (.value v) w:=by unfold execOp;simp only[hx,hy,qrb,run_eqGuard_agg (hm:=hm),hv,qrd,qrc]
end
end Go.Hm
namespace Go.Proofs.Y
open Go.RowKit Go.Hm
theorem LogAt.made(w:World)(base:Nat):LogAt (w.alloc (.cells #[.slice none 0 0] 86)) base w.heap.size (.slice none 0 0) []:=⟨none,0,0,[],rfl,qrv _ _ _,qru,(fun _ hd=>nomatch hd),rfl⟩
end Go.Proofs.Y
namespace Go.Hm
open Go Go.RowKit
theorem z2i{L:List (List Nat)}(h:Digs L):(zel L).2.length=if L.length=0 then 1 else L.length-1:=by
 by_cases h0:L.length=0
 ·obtain rfl:=qmn h0
  rw[zhe];rfl
 ·rw[if_neg h0]
  exact(zfg L h (by omega)).1
theorem z6k{L:List (List Nat)}(h:Digs L):(zel L).2.length<=L.length+1:=by rw[z2i h];split<;> omega
open Go Go.RowKit
theorem qbt(z:Array Value)(n:Nat):(madeCells z (n*z.size)).toList=(List.replicate n z.toList).flatten:=by
 induction n with
 |zero=>simp[madeCells]
 |succ n ih=>
  rw[qon,qpm,<-ih];simp only[madeCells,qpn,qpo,qn2,List.range_add,qpj,qpw,qpx,qmg,qnr];congr 1
  refine qmk (by simp) fun i h1 h2=>?_
  have hi:i<z.size:=by simpa using h1
  have e:(n*z.size+i)%z.size=i:=by rw[qmr,Nat.mul_add_mod,qng hi]
  simp[e,hi]
section
variable{P:Program}{ops:Array Oper}{rest:List Oper}{o:Oper}{a:Act}{Q:Exit->Act->World->Prop}
theorem qgm{w:World}{t e:TypeId}{z:Array Value}{sz bytes:Nat}(E:ElT P t e (.agg z) sz bytes)(hs:z.size=sz){kl kc:IntKind}(n:Nat)(hn:n*bytes<=140737488355328)(hm:n<=maxLen):
 (Instr.makeSlice t (.int kl (n:Int)) (.int kc (n:Int))).run P w= .ok (.slice (some ⟨w.heap.size,0,none⟩) n n) (w.alloc (.cells (List.replicate n z.toList).flatten.toArray e)):=by
 obtain⟨i,hi,hz0,hs1,hb1⟩:=info_parts E.hi;have hmC:(n:Int)<=9223372036854775807:=by have h:=hm;simp only[maxLen] at h;omega
 have hbC:(i.bytes:Int)*(n:Int)<=281474976710656:=by
  have h:((i.bytes*n:Nat):Int)<=281474976710656:=by rw[hb1,qmr];omega
  rwa[qms] at h
 have hrun:=run_make (P:=P) w t e i (.agg z) E.ht hi hz0 kl kc (n:Int) (n:Int) (by omega) (by omega) hbC hmC;have e1:madeCells (Value.agg z).cells (n*i.size)=(List.replicate n z.toList).flatten.toArray:=by apply Array.toList_inj.1;rw[hs1,<-hs];exact qbt z n
 rw[qmt,e1] at hrun;exact hrun
theorem z2k{w:World}{t e:TypeId}{z:Array Value}{sz bytes:Nat}(E:ElT P t e (.agg z) sz bytes)(hs:z.size=sz)(hgd:o.guard=none)(lo co:Operand)(ho:o.op=Op.makeSlice t lo co)
 {kl kc:IntKind}{L C:Int}(n:Nat)(hl:a.eval lo= .int kl L)(hc:a.eval co= .int kc C)(hL:L=(n:Int))(hC:C=(n:Int))(hn:n*bytes<=140737488355328)(hm:n<=maxLen)
 (h:∀w',Blk w' w.heap.size e (List.replicate n z.toList).flatten.toArray->New w w'->w'.heap.size=w.heap.size+1->wpList P ops Q rest (a.put o.dst (.slice (some ⟨w.heap.size,0,none⟩) n n)) w'):
 wpList P ops Q (o::rest) a w:=by
 subst hL hC;have hrun:=qgm (w:=w) E hs (kl:=kl) (kc:=kc) n hn hm;refine wpList_plain hgd fun K hK=>?_
 unfold Oper.wp;simp[execOp,ho,hl,hc,hrun,Result.andThen];exact hK _ _ (h _ (by simpa using qrv w e (List.replicate n z.toList).flatten.toArray) ((qq8 _ _).alloc (ql6 _) _) (by simp))
theorem Blk.setCells{g:Nat}{t:TypeId}:∀(vs:List Value) {w:World} {A old B:List Value},Blk w g t (A++(old++B)).toArray->old.length=vs.length->Blk (w.setCells g A.length vs) g t (A++(vs++B)).toArray
 | [],w,A,old,B,h,hl=>by
   obtain rfl:=qpy.1 hl;exact h
 |v::vs,w,A,[],B,h,hl=>by simp at hl
 |v::vs,w,A,x::old,B,h,hl=>by
  have h1:=h.set_ A.length v;have e:(A++(x::old++B)).toArray.setIfInBounds A.length v=((A++[v])++(old++B)).toArray:=by rw[qoi,qn5 _ _ (ql6 _),qn6];simp
  rw[e] at h1;have h2:=Blk.setCells vs h1 (by simpa using hl);rw[qmv] at h2;show Blk ((w.setCell ⟨g,A.length,none⟩ v).setCells g (A.length+1) vs) g t (A++(v::vs++B)).toArray;simpa using h2
theorem zj1{g:Nat}:∀(vs:List Value) (w:World) (o:Nat),w.grownBy (w.setCells g o vs) (some g)/\(w.setCells g o vs).heap.size=w.heap.size
 | [],w,_=>⟨qlp w _,rfl⟩
 |v::vs,w,o=>by
  have h1:w.grownBy (w.setCell ⟨g,o,none⟩ v) (some g):=⟨rfl,rfl,rfl,by simp[World.setCell],fun k _ hne=>qq7 _ _ _ _ (fun e=>hne (by rw[e]))⟩;obtain⟨h2,h3⟩:=zj1 vs (w.setCell ⟨g,o,none⟩ v) (o+1);exact⟨qlq h1 h2,by show((w.setCell ⟨g,o,none⟩ v).setCells g (o+1) vs).heap.size=_;rw[h3];simp[World.setCell]⟩
theorem zsz{w:World}(hgd:o.guard=none)(ty:TypeId)(x y:Operand)(ho:o.op= .store ty x y)
 (g:Nat)(us:Array Value){A old B:List Value}{m:Nat}(hx:a.eval x= .pointer (some ⟨g,m,none⟩))(hy:a.eval y= .agg us){t:TypeId}(hB:Blk w g t (A++(old++B)).toArray)(hA:A.length=m)(hlen:old.length=us.size)
 (hi:(P.info? ty).map (·.size)=some us.size)(h1:us.all (·.oneCell')=true)
 (h:∀W,Blk W g t (A++(us.toList++B)).toArray->w.grownBy W (some g)->W.heap.size=w.heap.size->wpList P ops Q rest (a.put o.dst undef) W):wpList P ops Q (o::rest) a w:=by
 subst hA;refine wpList_store_mid hgd ty x y ho g A.length us hx hy (fun j hj=>⟨?_,hB.frozen _⟩) hi h1 ?_
 ·rw[hB.cell,qpu (by simp;omega)]
  rfl
 ·obtain⟨g1,g2⟩:=zj1 us.toList w A.length (g:=g)
  exact h _ (Blk.setCells us.toList hB (by simpa using hlen)) g1 g2
end
open Go Go.RowKit
def sl{α:Type}(L:List α)(lo hi:Nat):List α:=(L.drop lo).take (hi-lo)
theorem qe2{α:Type}{L:List α}{lo hi:Nat}(h:hi<=L.length):(sl L lo hi).length=hi-lo:=by unfold sl;rw[ql2,ql0];omega
theorem Digs.sl{L:List (List Nat)}(h:Digs L)(lo hi:Nat):Digs (sl L lo hi):=(h.drop lo).take _
def evIn(f t a b:Nat):Ev->Prop
 | .among lo hi=>a<=lo/\lo<=hi/\hi<=b/\(lo=hi->a=b)/\(lo=hi\/(f<=lo/\hi<=t))
 | .beside lo hi=>a<=lo/\lo<hi/\hi<=b
 | .node=>True
theorem evIn.more{f t a b a' b':Nat}(h1:a'<=a)(h2:b<=b')(h3:a<b){e:Ev}(h:evIn f t a b e):evIn f t a' b' e:=by
 cases e with
 |among lo hi=>obtain⟨x,y,z,u,r⟩:=h;exact⟨by omega,y,by omega,by omega,r⟩
 |beside lo hi=>obtain⟨x,y,z⟩:=h;exact⟨by omega,y,by omega⟩
 |node=>trivial
structure JS where
 made:List (List Nat)
 rest:List (List Nat)
 frames:List (List Nat)
open Go Go.RowKit
def qjc(c:zab):Nat:=if c.1 then 0 else 1
def zfa(l:List zab):List Nat:=l.map qjc
def zed(l:List zab):List zab:=l.filter fun c=> !c.1
theorem zll(l:List zab):(zfa l).length=l.length:=by simp[zfa]
theorem z03(l:List zab):∀x∈zfa l,x<2^1:=by intro x hx;obtain⟨c,_,rfl⟩:=qly.1 hx;unfold qjc;split<;> decide
theorem z3k(l:List zab)(k:Nat)(h:k<l.length):zfa (l.take (k+1))=zfa (l.take k)++[qjc (l.getD k (false,0,[],0,0))]:=by rw[zae l k (false,0,[],0,0) h,zfa,qpj];rfl
theorem z8n(l:List zab)(k:Nat)(h:k<l.length):zed (l.take (k+1))=zed (l.take k)++(if(l.getD k (false,0,[],0,0)).1 then [] else [l.getD k (false,0,[],0,0)]):=by
 rw[zae l k (false,0,[],0,0) h,zed,List.filter_append];congr 1
 generalize l.getD k (false,0,[],0,0)=c;cases hh:c.1<;> simp[hh]
theorem ztx(l:List zab):(zed l).length<=l.length:=List.length_filter_le _ _
end Go.Hm
namespace Go.Proofs.Y
open Go.RowKit Go.Hm
theorem zv0(l:List zab):wid (zfa l)<=1/\ ∀x∈zfa l,x<=18446744073709551615:=by
 have hb:∀x∈zfa l,x<=18446744073709551615:=fun x hx=>by have:=z03 l x hx;omega
 exact⟨(zh4 _ 1 (by omega) hb).2 (z03 l),hb⟩
def zc6(l:List zab):List Nat:=low (pk 1 (zfa l)) ((1*(zfa l).length+7)/8)
theorem z3l{l:List zab}(hl:l.length<=65536):zq1 (zfa l) 1=some (zc6 l):=zf9 (zfa l) 1 (by omega) (by rw[zll];exact hl) (zv0 l).1
def Rd(w:World)(gr gc:Nat)(a:List Nat)(room:Int):Prop:=Blk w gr 261 #[.pointer (some ⟨gc,0,none⟩),.string (zai a),.int .i64 room]
theorem Rd.cells{w:World}{gr gc:Nat}{a:List Nat}{room:Int}(h:Rd w gr gc a room):w.cell? ⟨gr,0,none⟩=some (.pointer (some ⟨gc,0,none⟩))/\w.cell? ⟨gr,1,none⟩=some (.string (zai a))/\w.cell? ⟨gr,2,none⟩=some (.int .i64 room):=
 ⟨by rw[Blk.cell h 0];rfl,by rw[Blk.cell h 1];rfl,by rw[Blk.cell h 2];rfl⟩
theorem Rd.far{w w':World}{gr gc:Nat}{a:List Nat}{room:Int}(h:Rd w gr gc a room)(hW:Far gc w w')(hne:gr≠gc):Rd w' gr gc a room:=Blk.grown h hW (by simpa using hne)
theorem Rd.below{w w':World}{gr gc:Nat}{a:List Nat}{room:Int}(h:Rd w gr gc a room)(hW:New w w'):Rd w' gr gc a room:=qrw h hW (Blk.lt h)
theorem RowsIn.touch{w w':World}{B base sz n:Nat}{e:TypeId}{v:Value}{xs:List Value}{D:List ze9}(h:RowsIn w B D)(h2:w.ownsRow base e sz v n xs)(hne:75≠e)(k:Turns (zbg v) w w'):RowsIn w' B D:=fun d hd=>zkw (h d hd) k (zh1 (h d hd) h2 hne)
end Go.Proofs.Y
