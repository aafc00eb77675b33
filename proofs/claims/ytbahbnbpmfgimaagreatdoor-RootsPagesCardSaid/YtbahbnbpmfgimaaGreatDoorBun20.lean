/- Merged. -/
import Derived.Test.YtbahbnbpmfgimaaGreatDoorBun18
import Derived.Test.YtbahbnbpmfgimaaGreatDoorBun19
set_option maxHeartbeats 4000000
namespace Go.Hm
open Go Go.RowKit
theorem MapF.mono{P:Program}{k:TypeId}{w:World}{b n m:Nat}{f:List Int->Option (Int × Int)}(h:MapF P k w b n f)(hn:n<=m):MapF P k w b m f:=by obtain⟨D,h1,h2⟩:=h;exact⟨D,h1.mono hn,h2⟩
theorem MapF.new{P:Program}{k:TypeId}{w w':World}{b n:Nat}{f:List Int->Option (Int × Int)}(h:MapF P k w b n f)(hb:New w w'):MapF P k w' b n f:=
 h.kept (row:=none) ⟨hb.os,hb.tape,hb.output,hb.size,fun j hj _=>hb.block j hj⟩ (by simp)
end Go.Hm
namespace Go.Proofs.Y
open Go.RowKit Go.Hm
end Go.Proofs.Y
namespace Go.Hm
open Go Go.RowKit
theorem PartsT.keep{e t:TypeId}{w w':World}{D:List zcv}{g:Nat}{cs:Array Value}(h:PartsT e w D)(hg:w.grownBy w' (some g))(hT:Blk w g t cs)(hne:e≠t):PartsT e w' D:=fun d hd=>⟨(h d hd).1.keep hg hT hne,(h d hd).2⟩
theorem zi6(w:World)(g i:Nat)(u:Value):w.grownBy (w.setCell ⟨g,i,none⟩ u) (some g):=(Turns.setCell (T:=[g]) u (by simp) w).far
theorem z6m(D:List zcv)(d:zcv)(k m:Nat)(h:D.length=k):(recs ze1 D++List.replicate (m+1) (Value.slice none 0 0)).set k (.slice d.1 d.2.2.length d.2.1)=recs ze1 (D++[d])++List.replicate m (Value.slice none 0 0):=by have h2:=zik D;rw[qor _ _ (by omega),zrc,h2,h,qos,qot,qou,qm5];rfl
structure TurnsB(B:Nat)(T:List Nat)(w w':World):Prop where
 os:w'.os=w.os
 tape:w'.tape=w.tape
 output:w'.output=w.output
 size:w.heap.size<=w'.heap.size
 block:∀k,k<B->k∉T->w'.heap[k]? =w.heap[k]?
section
variable{B:Nat}{T:List Nat}{w w' w2:World}
theorem TurnsB.refl(B:Nat)(T:List Nat)(w:World):TurnsB B T w w:=⟨rfl,rfl,rfl,qmt _,fun _ _ _=>rfl⟩
theorem TurnsB.trans(h:TurnsB B T w w')(k:TurnsB B T w' w2):TurnsB B T w w2:=
 ⟨k.os.trans h.os,k.tape.trans h.tape,k.output.trans h.output,qml h.size k.size,fun i hi hT=>(k.block i hi hT).trans (h.block i hi hT)⟩
theorem TurnsB.of(h:Turns T w w')(hB:B<=w.heap.size):TurnsB B T w w':=⟨h.os,h.tape,h.output,h.size,fun k hk hT=>h.block k (qmo hk hB) hT⟩
theorem TurnsB.far{g:Nat}(h:w.grownBy w' (some g))(hg:B<=g)(hB:B<=w.heap.size):TurnsB B T w w':=⟨h.os,h.tape,h.output,h.size,fun k hk _=>h.block k (qmo hk hB) (fun e=>by injection e with e;omega)⟩
theorem TurnsB.alloc(o:Obj)(hB:B<=w.heap.size):TurnsB B T w (w.alloc o):= .of (Turns.of_new ((Below.refl _ w).alloc (qmt _) o)) hB
theorem TurnsB.turns(h:TurnsB w.heap.size T w w'):Turns T w w':=⟨h.os,h.tape,h.output,h.size,h.block⟩
end
end Go.Hm
namespace Go.Proofs.Y
open Go.RowKit Go.Hm
def LogOf(t:TypeId)(w:World)(base g:Nat)(V:Value)(L:List (List Nat)):Prop:=
 ∃A n c D,V= .slice A n c/\Blk w g t #[.slice A n c]/\Own w base 24 (.slice A n c) (recs ze1 D)/\PartsT 5 w D/\bytesOf D=L
abbrev LogAt(w:World)(base g:Nat)(V:Value)(L:List (List Nat)):Prop:=LogOf 86 w base g V L
theorem LogOf.new{t:TypeId}{w w':World}{base g:Nat}{V:Value}{L:List (List Nat)}(h:LogOf t w base g V L)(hb:New w w'):LogOf t w' base g V L:=by obtain⟨A,n,c,D,rfl,h1,h2,h3,h4⟩:=h;exact⟨A,n,c,D,rfl,h1.below hb h1.lt,h2.later hb,h3.below hb,h4⟩
theorem LogOf.lt{t:TypeId}{w:World}{base g:Nat}{V:Value}{L:List (List Nat)}(h:LogOf t w base g V L):g<w.heap.size:=by obtain⟨A,n,c,D,rfl,h1,h2,h3,h4⟩:=h;exact h1.lt
theorem LogOf.ge{t:TypeId}{w:World}{base g:Nat}{V:Value}{L:List (List Nat)}(h:LogOf t w base g V L):∀x∈zbi V,base<=x/\x<w.heap.size:=by obtain⟨A,n,c,D,rfl,h1,h2,h3,h4⟩:=h;exact zj4 h2
theorem LogOf.rows{t:TypeId}{w:World}{base g:Nat}{V:Value}{L:List (List Nat)}(h:LogOf t w base g V L):∃A c D,V= .slice A L.length c/\RowsAt w A L.length c D/\bytesOf D=L/\w.cell? ⟨g,0,none⟩=some (.slice A L.length c):=by obtain⟨A,n,c,D,rfl,h1,h2,h3,rfl⟩:=h;have hn:=h2.len;rw[zik] at hn;have hc:=h2.cap;rw[zc0,<-hn];exact⟨A,c,D,rfl,⟨h2.reads,h3.ins,hc.1⟩,rfl,h1.cell 0⟩
theorem LogOf.turn{t:TypeId}{w w':World}{base g:Nat}{V:Value}{L:List (List Nat)}{T:List Nat}(h:LogOf t w base g V L)(k:Turns T w w')(hg:g∉T)(hV:∀x∈T,V.ownBlock≠some x)(hp:∀x∈T,x<w.heap.size-> ∀cs,¬Blk w x 5 cs):LogOf t w' base g V L:=by
 obtain⟨A,n,c,D,rfl,h1,h2,h3,h4⟩:=h;refine⟨A,n,c,D,rfl,h1.touch k hg,h2.touch k hV,fun d hd=>⟨⟨⟨(h3 d hd).1.1.1,fun hn=>?_⟩,fun hn ad ha=>?_⟩,(h3 d hd).2⟩,h4⟩
 ·obtain⟨ad,e1,hb,hc⟩:=(h3 d hd).1.1.2 hn
  obtain⟨cs,hB⟩:=(h3 d hd).1.2 hn ad e1;have hT:ad.block∉T:=fun hm=>hp _ hm hb cs hB
  refine⟨ad,e1,qmo hb k.size,fun j u hu=>?_⟩;rw[World.cell?_of_block (a:=ad.add j) (k.block (ad.add j).block (by rw[zai];exact hb) (by rw[zai];exact hT))];exact hc j u hu
 ·obtain⟨cs,hB⟩:=(h3 d hd).1.2 hn ad ha
  exact⟨cs,hB.touch k (fun hm=>hp _ hm hB.lt cs hB)⟩
def zev(t:TypeId)(v:Value)(base g:Nat)(V:Value)(L:List (List Nat))(w:World)(e:Ending)(w':World):Prop:=
 e= .returned v/\ ∃V',LogOf t w' base g V' L/\(V'.ownBlock=V.ownBlock\/ ∃h,V'.ownBlock=some h/\w.heap.size<=h)/\Turns (g::zbi V) w w'
abbrev qg3(v:Value)(base g:Nat)(V:Value)(L:List (List Nat))(w:World)(e:Ending)(w':World):Prop:=zev 86 v base g V L w e w'
set_option maxRecDepth 100000 in
theorem zku{w:World}{base g:Nat}{V:Value}{L:List (List Nat)}(hL:LogAt w base g V L)(hbs:base<=w.heap.size)(hLn:L.length<=10000000){s:List Nat}{A:Option Addr}{n c:Nat}{D:List zcv}(h:RowsAt w A n c D)(hn:n<=9223372036854775806)(hs8:∀x∈s,x<256)(hs:s.length<=140737488351232)(ht:zfl (bytesOf D)<=9900000)(hD8:∀p∈bytesOf D,∀x∈p,x<256)(hC2:∀w',Turns (g::zbi V) w w'->ConstIn w'):
 Calls Tryz.prog 40 #[.pointer (some ⟨g,0,none⟩),.string (zae s),.slice A n c] w (qg3 (zue (zfk s (bytesOf D))) base g V (L++(zbe s (bytesOf D)).toList) w):=by
 have c0:New w (w.alloc (.cells (za7 .u8 zat).toArray 35)):=(Below.refl _ _).alloc (qmt _) _;have FR:=Hz (zuu (h.later c0) hn hs8 hs (by omega));have HC:=Hz hC2;have HL:=Hz hL;have G0:=Hz (Blk.new w 35 (za7 .u8 zat).toArray);have HO:zfk s (bytesOf D)=zfk s (bytesOf D):=rfl;conv at HO=>rhs;unfold zfk
 replace HO:=Hz HO;have HF8:=Hz (fun f (hf:zbe s (bytesOf D)=some f)=>qo8 (zf5 hs8 hD8 hf) (ze2 hf ht));generalize zbe s (bytesOf D)=o at*;generalize zfk s (bytesOf D)=ho at*;obtain⟨W0,hW0⟩:∃W,W=w.alloc (.cells (za7 .u8 zat).toArray 35):=⟨_,rfl⟩;rw[<-hW0] at FR c0 G0;have HW:=Hz hW0;have C0:=Hz c0;clear h hs8 hs ht hD8 hC2 hW0 c0 hL;go_enter Tryz.func40,Tryz.ntmps40
 go_wp2_with fail
 have F:=FR.out;rw[HW.out] at F;refine F.mono ?_;rintro e w1 hf;obtain⟨A1,n1,c1,rfl,o1,b1⟩:=hf.u;have b1:New W0 w1:=by rw[HW.out];exact b1
 have o1:Own w1 W0.heap.size 5 (.slice A1 n1 c1) (zan .u8 (o.getD [])):=by rw[HW.out];exact o1
 have G1:=Hz (G0.out.below b1 G0.out.lt);have B1:=Hz (New.trans C0.out b1);clear F FR hf HW C0 G0;cases o with
 |none=>
  have hh:ho=zat:=by rw[HO.out];rfl
  subst hh;have H:=Hz (qo8 (zay G1.out) (qo8 (qbx (l:=zat) (by simp[zat])) (qo8 (ze8 .u8 zat) (za5 G1.out (za7 .u8 zat).toArray))));have BE:=Hz (New.far B1.out (zbl (g:=w.heap.size) w1 (za7 .u8 zat).toArray) (qmt _));clear G1 B1 b1 o1 HO;go_wp2_with (refine wpList_store_row rfl 35 (.tmp 6) (.tmp 17) rfl w.heap.size (za7 .u8 zat).toArray rfl rfl _ _ H.out.1 H.out.2.1 rfl H.out.2.2.1 ?_)
  refine bodyPost_ret (results_cell_row rfl _ _ w.heap.size _ (za7 .u8 zat).toArray (0,0) _ rfl H.out.2.2.2 zcn rfl H.out.2.1) rfl ⟨rfl,V,?_,.inl rfl,Turns.of_new BE.out⟩;rw[Option.toList_none,qm3];exact HL.out.new BE.out
 |some f=>
  have hh:ho=znk f:=by rw[HO.out,qpr,qob]
  subst hh;obtain⟨f8,fl⟩:=HF8.out f rfl;obtain rfl:n1=f.length:=by have:=o1.len;rwa[zaa] at this
  obtain⟨Al,nl,cl,Dl,rfl,HG,HO',HP,hLb⟩:=HL.out.new B1.out;have hnl:nl=L.length:=by have:=HO'.len;rw[zik] at this;rw[<-hLb,zc0];exact this
  have hl1:(recs ze1 Dl).length=L.length:=by rw[zik,<-zc0,hLb]
  have k1:w1.cell? ⟨g,0,none⟩=some (.slice Al nl cl):=HG.cell 0;have hbs1:base<=w1.heap.size:=qml hbs B1.out.size;have hW1:=Hz B1.out.size;have hgw:g≠w.heap.size:=by have:=HL.out.lt;omega
  have HLB:=Hz hLb;have HNL:=Hz hnl;have HL1:=Hz hl1;clear HO HF8 hLb hnl hl1;have F8:=Hz f8
  go_wp2_with ((refine zj2 elR rfl (.tmp 22) (.tmp 24) rfl (W:=w1) (B:=0) HO' rfl rfl (Below.refl _ _) (qmu _) hbs1 rfl (by rw[HL1.out];omega) (by rw[HL1.out];simp only[maxLen];omega) ?_)
               intro A7 c7 w7 _ _ o7 g7 b7 z7 a7;have e7:(recs ze1 Dl).length+1=L.length+1:=by rw[HL1.out]
               rw[e7] at o7 a7⊢;have o7:Own w7 base 24 (.slice A7 (L.length+1) c7) (recs ze1 (Dl++[(A1,c1,f)])):=by rw[zrc];exact o7
               have G7:=HG.push HO' g7 (by decide);have G7':=Hz (G1.out.push HO' g7 (by decide));have p7:=((HP.push HO' g7 (by decide)).snoc (d:=(A1,c1,f)) ((TR.of_own o1).push HO' g7 (by decide)) o1.cap.1 (by have:=o1.cap.2;simp only[maxLen] at this;omega));have r7:=((TR.of_own o1).push HO' g7 (by decide)).1;have k7:w7.cell? ⟨g,0,none⟩=some (.slice Al nl cl):=G7.cell 0;have f7:w7.frozen? ⟨g,0,none⟩=false:=G7.frozen 0;have T7:=Hz (Turns.row g7);have hc1:=o1.cap.1;have O7:=Hz o7;have P7:=Hz p7;have R7:=Hz r7;have HG7:=Hz G7;have A7':=Hz a7;clear o7 p7 e7 HG HO' HP o1 G7 G1 r7 g7 a7)
  have ts:Turns (g::zbi (.slice Al nl cl)) w (w7.setCell ⟨g,0,none⟩ (.slice A7 (L.length+1) c7)):=
   ((Turns.of_new B1.out).trans (T7.out.more (by intro x hx;simp[hx]))).trans (Turns.setCell _ (by simp) w7)
  have P8:=Hz (P7.out.keep (zi6 w7 g 0 (.slice A7 (L.length+1) c7)) HG7.out (by decide));have SU:=Hz (z58 (l:=f) (c:=c1) (P8.out (A1,c1,f) (by simp)).1.1 F8.out hc1 (by omega) (HC.out _ ts));have L8:LogAt (w7.setCell ⟨g,0,none⟩ (.slice A7 (L.length+1) c7)) base g (.slice A7 (L.length+1) c7) (L++[f]):=
   ⟨A7,L.length+1,c7,Dl++[(A1,c1,f)],rfl,HG7.out.set_ 0 _,O7.out.keepT (zi6 _ _ _ _) HG7.out (by decide),P8.out,by rw[zmx,HLB.out]⟩
  have G8:=Hz (G7'.out.far (p:=⟨g,0,none⟩) (by exact fun e=>hgw e.symm) (.slice A7 (L.length+1) c7));have L8':=Hz L8;have TS:=Hz ts;clear k1 k7 f7 ts L8 HL1 HLB HC G7' T7 O7 P7 R7 HG7 P8 b1 B1 o1;go_wp2_with fail
  (with_reducible refine SU.out.mono ?_)
  rintro e w9 ⟨rfl,b9⟩;have G9:=G8.out.below b9 G8.out.lt;have L9:=L8'.out.new b9;have T9:=TS.out.trans (Turns.of_new b9);have hz:(za7 .u8 zat).toArray.size=(za7 .u8 (znk f)).toArray.size:=by simp[za7,zat,zkt]
  have H:=Hz (qo8 (zay G9) (qo8 (qbx (zkt f)) (qo8 hz (qo8 (ze8 .u8 (znk f)) (za5 G9 (za7 .u8 (znk f)).toArray)))));have T10:=Hz (Turns.new_ (((T9.more (T':=w.heap.size::g::zbi (.slice Al nl cl)) (by intro x hx;simp at hx⊢;simp[hx])).trans (Turns.of_far (zbl (g:=w.heap.size) w9 (za7 .u8 (znk f)).toArray) (by simp)))) (qmt _));have L10:=Hz (L9.turn (T:=[w.heap.size]) (Turns.of_far (zbl (g:=w.heap.size) w9 (za7 .u8 (znk f)).toArray) (by simp)) (by simpa using hgw)
   (by intro x hx;simp at hx;subst hx;obtain⟨A',n',c',D',e',_,o',_⟩:=L9;rw[e'];exact o'.blk_ne G9 (by decide))
   (by intro x hx _ cs hB;simp at hx;subst hx;exact Blk.ne_ G9 hB (by decide) rfl))
  obtain⟨cs,hcs⟩:∃cs,cs=(za7 .u8 (znk f)).toArray:=⟨_,rfl⟩;have hdv:zue (znk f)= .agg cs:=by rw[hcs];rfl
  have HV:=Hz hdv;rw[<-hcs] at H T10 L10⊢;clear hcs hdv;clear G9 L9 T9 b9 SU hz L8' TS G8;go_wp2_with (refine wpList_store_row rfl 35 (.tmp 6) (.tmp 29) rfl w.heap.size cs rfl rfl _ _ H.out.1 H.out.2.1 H.out.2.2.1 H.out.2.2.2.1 ?_)
  rw[HV.out];exact bodyPost_ret (results_cell_row rfl _ _ w.heap.size _ cs (0,0) _ rfl H.out.2.2.2.2 zcn rfl H.out.2.1) rfl ⟨rfl,_,L10.out,A7'.out.imp id (fun⟨h,h1,h2⟩=>⟨h,h1,qml (hW1.out) h2⟩),T10.out⟩
def FramesPost(L:List (List Nat))(w:World)(e:Ending)(w':World):Prop:=
 ∃A c D,e= .returned (.slice A L.length c)/\Own w' w.heap.size 24 (.slice A L.length c) (recs ze1 D)/\(∀d∈D,Own w' w.heap.size 5 (.slice d.1 d.2.2.length d.2.1) (zan .u8 d.2.2))/\bytesOf D=L/\New w w'
theorem FramesPost.rows{w w':World}{A:Option Addr}{n c:Nat}{D:List zcv}(o:Own w' w.heap.size 24 (.slice A n c) (recs ze1 D))(h:∀d∈D,Own w' w.heap.size 5 (.slice d.1 d.2.2.length d.2.1) (zan .u8 d.2.2)):RowsAt w' A n c D:=by have hn:=o.len;rw[zik] at hn;subst hn;exact⟨o.reads,fun d hd=>⟨(h d hd).reads,(h d hd).cap.1,by have:=(h d hd).cap.2;simp only[maxLen] at this;omega⟩,o.cap.1⟩
set_option maxRecDepth 100000 in
theorem zxz{w:World}{base g:Nat}{V:Value}{L:List (List Nat)}(hL:LogAt w base g V L)(hLn:L.length<=10000000)(hl:∀p∈L,p.length<=140737488355328):
 Calls Tryz.prog 22 #[.pointer (some ⟨g,0,none⟩)] w (FramesPost L w):=by
 obtain⟨A,c,D,_,HR,hb,hcell⟩:=hL.rows;have hD:D.length=L.length:=by rw[<-hb,zc0]
 have HR:=Hz HR;have HB:=Hz hb;have HD:=Hz hD;have H8:=Hz hl;have HC:=Hz (fun(W:World) (hW:New w W)=>(Below.cell hW (p:=⟨g,0,none⟩) hL.lt).trans hcell);obtain⟨n,hn⟩:∃n,n=L.length:=⟨_,rfl⟩;rw[<-hn] at HR hcell HC HD hLn;have HN:=Hz hn;clear hL hl hb hn hD;go_enter Tryz.func22,Tryz.ntmps22
 go_wp2_with (refine zca elR rfl (.tmp 10) (.tmp 10) rfl (W:=w) (B:=w.heap.size) n n rfl rfl rfl rfl (qmt _) (Below.refl _ _) (qmt _) rfl (by omega) (by simp only[maxLen];omega) ?_
              intro w1 o1 g1 b1 s1;have k1:=HC.out w1 b1;have O1:Hid (∃D2:List zcv,D2.length=0/\Own w1 w.heap.size 24 (.slice (some ⟨w.heap.size,0,none⟩) n n) (recs ze1 D2++List.replicate (n-0) (.slice none 0 0))/\(∀d∈D2,Own w1 w.heap.size 5 (.slice d.1 d.2.2.length d.2.1) (zan .u8 d.2.2))/\bytesOf D2=L.take 0):=Hz ⟨[],rfl,o1,(fun d hd=>nomatch hd),rfl⟩;have B1:=Hz b1;clear o1 g1 s1 b1)
 clear k1 hcell;go_loopw [17] (fun i wr=>∃k:Nat,k<=n/\i= .int .i64 (k:Int)/\Hid (∃D2:List zcv,D2.length=k/\Own wr w.heap.size 24 (.slice (some ⟨w.heap.size,0,none⟩) n n) (recs ze1 D2++List.replicate (n-k) (.slice none 0 0))/\(∀d∈D2,Own wr w.heap.size 5 (.slice d.1 d.2.2.length d.2.1) (zan .u8 d.2.2))/\bytesOf D2=L.take k)/\Hid (New w wr)) (fun i _=>n-(intOf i).toNat)
 case atStart=>exact⟨0,by omega,rfl,O1,B1⟩
 case round=>
  clear O1 B1;obtain⟨k,hk,rfl,O,b⟩:=hrel;by_cases hlt:k<n
  ·have hkD:k<D.length:=by rw[HD.out];exact hlt
   obtain⟨ad,rfl,_⟩:=HR.out.at_ hkD;have kc:=HR.out.cells hkD wr b.out;have RD:=((HR.out.later b.out).parts.at_ hkD).1;have e1:=zi4 D k;have tk:=zad L k [] (by rw[<-HN.out];exact hlt);have g1:=H8.out _ (zgo (L:=L) (k:=k) (by rw[<-HN.out];exact hlt));rw[HB.out] at e1;rw[e1] at g1 tk;generalize D.getD k (none,0,[])=d at*;have TK:=Hz tk;have CL:=Hz (z2o (c:=d.2.1) RD g1);clear e1 tk g1 RD
   go_wp2_with (go_at_call 42;refine CL.out.mono ?_;rintro e w5 ⟨A5,n5,c5,rfl,o5,b5⟩
                obtain⟨D2,h1,h2,h3,h4⟩:=O.out;have o2:=h2.later b5;obtain⟨g',u,hA,hge,hlt',hx,k0,f0,st⟩:=o2.at_ (i:=k) hlt;obtain rfl:w.heap.size=g':=by injection hA with hA;injection hA
                have k0:w5.cell? ⟨w.heap.size,k,none⟩=some u:=k0;have f0:w5.frozen? ⟨w.heap.size,k,none⟩=false:=f0;obtain⟨cs,hcs⟩:=Own.row o2 w.heap.size rfl;have s5:=st (.slice A5 n5 c5);have S5:=Hz s5;have CS:=Hz hcs;have O5:=Hz o5;have OO:=Hz (qo8 h1 (qo8 h3 h4));have B5:=Hz (New.trans b.out b5);have BB:=Hz b5;clear h1 h2 h3 h4 o2 st s5 hcs o5 b5 hx O)
   clear k0 f0 kc;have hn5:n5=d.2.2.length:=by have:=O5.out.len;rwa[zaa] at this
   subst hn5;have b6:=Hz (B5.out.setCell (p:=⟨w.heap.size,k,none⟩) (qmt _) (.slice A5 d.2.2.length c5));have O6:Hid (∃D2:List zcv,D2.length=k+1/\Own (w5.setCell ⟨w.heap.size,k,none⟩ (.slice A5 d.2.2.length c5)) w.heap.size 24 (.slice (some ⟨w.heap.size,0,none⟩) n n) (recs ze1 D2++List.replicate (n-(k+1)) (.slice none 0 0))/\(∀x∈D2,Own (w5.setCell ⟨w.heap.size,k,none⟩ (.slice A5 d.2.2.length c5)) w.heap.size 5 (.slice x.1 x.2.2.length x.2.1) (zan .u8 x.2.2))/\bytesOf D2=L.take (k+1)):=Hz (by
    obtain⟨h1,h3,h4⟩:=OO.out;refine⟨D2++[(A5,c5,d.2.2)],by rw[qni,h1];rfl,?_,?_,by rw[zmx,h4,TK.out]⟩
    ·have s6:=S5.out
     rw[show n-k=(n-(k+1))+1 by omega] at s6;rw[<-z6m D2 (A5,c5,d.2.2) k _ h1];exact s6
    ·intro x hx
     rcases qny.1 hx with hx|hx
     ·exact((h3 x hx).later BB.out).keepT (zi6 _ _ _ _) CS.out (by decide)
     ·obtain rfl:=qnz.1 hx
      exact((O5.out.base_le (b':=w.heap.size) (b.out.size)).keepT (zi6 _ _ _ _) CS.out (by decide)))
   clear S5 CS O5 OO B5 BB TK;go_roundw
   case rel=>exact⟨k+1,by omega,by go_num,O6,b6⟩
   case measure=>simp[intOf];omega
  ·obtain rfl:k=n:=by omega
   obtain⟨D2,h1,h2,h3,h4⟩:=O.out;rw[qos,qqd,qm3] at h2;have hL:bytesOf D2=L:=by rw[h4,qnn (by rw[<-HN.out];omega)]
   have F:Hid (FramesPost L w (.returned (.slice (some ⟨w.heap.size,0,none⟩) k k)) wr):=Hz ⟨_,k,D2,by rw[<-HN.out],by rw[<-HN.out];exact h2,h3,hL,b.out⟩;clear h1 h2 h3 h4 hL O b;go_wp2
   go_ret
   exact F.out
open Go.RowKit Go.Hm
def zl3(t:Int)(l:List zab):Option (List Nat):=
 match plO t (zic l).1 with
 |none=>none
 |some V=>if l.length<=65536 then some (vp (zic l).1.length++vp V.length++V++z0v (zic l).2) else none
structure IsDic(t:Int)(b:List Nat)(n:Int)(o:Option (List zab)):Prop where
 sound:∀l,o=some l->(l.length:Int)=n/\zl3 t l=some b/\ ∀c∈l,zaq c
 compl:∀l,(∀c∈l,zaq c)->(l.length:Int)=n->zl3 t l=some b->o=some l
theorem IsDic.uniq{t:Int}{b:List Nat}{n:Int}{o p:Option (List zab)}(h:IsDic t b n o)(k:IsDic t b n p):o=p:=by
 cases o with
 |some l=>obtain⟨a,b,c⟩:=h.sound l rfl;exact(k.compl l c a b).symm
 |none=>
  cases p with
  |none=>rfl
  |some l=>obtain⟨a,b,c⟩:=k.sound l rfl;exact h.compl l c a b
theorem zo4{l:List zab}(hl:l.length<=65536):∀x∈(zic l).2,x<=18446744073709551615:=fun x hx=>by have:=(zow l).lt x hx;have:=zs8 l;omega
open Go.RowKit Go.Hm
theorem z8i{t:Int}{b:List Nat}{n:Int}(h: ¬(0<=t/\t<=3/\0<=n/\n<=65536)):IsPl zaq t b n none:=
 ⟨fun l e=>(by cases e),fun l _ hl hp=>by have:=(plOk_iff.1 (plO_iff.1 hp).1).1;omega⟩
set_option maxRecDepth 100000 in
theorem zyw{w:World}{A:Option Addr}{c m:Nat}{b:List Nat}{t n:Int}(h:Reads w w.heap.size 1 A m (zan .u8 b))(h8:∀x∈b,x<256)(hm:m<=140737488351232):
 Calls Tryz.prog 154 #[.int .i64 t,.slice A m c,.int .i64 n] w (qly t b n w):=by
 by_cases hk:0<=t/\t<=3/\0<=n/\n<=65536
 ·obtain⟨n,rfl⟩:=qon hk.2.2.1
  by_cases h1:t=1
  ·subst h1
   have KN:=zk6 (w:=w) (t:=1) (n:=(n:Int));rw[decide_eq_true hk] at KN;have KN:=Hz KN;have U:=Hz (zpb (c:=c) (n:=n) h h8 hm (by omega));have HI:=Hz (zvp (n:=(n:Int)) h8);clear h h8 hk;generalize(zfm b 1 (n:Int)).map (fun l=>l.map zvo)=O at*;go_enter Tryz.func154,Tryz.ntmps154
   go_wp2_with fail
   refine KN.out.mono ?_;rintro e w1 ⟨rfl,rfl⟩;go_wp2_with fail
   refine U.out.mono ?_;intro e w2 h2;cases O with
   |none=>
    obtain⟨rfl,b2⟩:=h2;go_wp2_with fail
    go_ret2
    exact⟨none,HI.out,rfl,b2⟩
   |some l=>
    obtain⟨A2,n2,c2,rfl,o2,b2⟩:=h2;go_wp2_with fail
    go_ret2
    exact⟨some l,HI.out,_,_,_,rfl,o2,b2⟩
  ·exact zyi h h8 hm (by omega) (by omega)
 ·have KN:=zk6 (w:=w) (t:=t) (n:=n)
  rw[decide_eq_false hk] at KN;have KN:=Hz KN;have HI:=Hz (z8i (b:=b) hk);clear h h8 hk;go_enter Tryz.func154,Tryz.ntmps154
  go_wp2_with fail
  refine KN.out.mono ?_;rintro e w1 ⟨rfl,rfl⟩;go_wp2_with fail
  go_ret2
  exact⟨none,HI.out,rfl,New.refl _⟩
end Go.Proofs.Y
namespace Go.Hm
open Go Go.RowKit
abbrev ChD:=Option Addr × Nat × List za6
def chV(x:ChD):List Value:=[.slice x.1 x.2.2.length x.2.1]
abbrev GrD:=Int × Option Addr × Nat × List ChD
def grV(g:GrD):List Value:=[.int .i64 g.1,.slice g.2.1 g.2.2.2.length g.2.2.1]
def grP(g:GrD):za4:=(g.1,g.2.2.2.map (·.2.2))
theorem zdq{w:World}{g:Nat}{ty:TypeId}{a0 a1 a2 a3 a4 a5 a6 a7 a8 a9 a10 a11 a12 a13:Value}(h:Blk w g ty #[a0,a1,a2,a3,a4,a5,a6,a7,a8,a9,a10,a11,a12,a13]):w.cell? ⟨g,0,none⟩=some a0/\w.cell? ⟨g,1,none⟩=some a1/\w.cell? ⟨g,2,none⟩=some a2/\w.cell? ⟨g,3,none⟩=some a3/\w.cell? ⟨g,4,none⟩=some a4/\w.cell? ⟨g,5,none⟩=some a5/\w.cell? ⟨g,6,none⟩=some a6/\w.cell? ⟨g,7,none⟩=some a7/\w.cell? ⟨g,8,none⟩=some a8/\w.cell? ⟨g,9,none⟩=some a9/\w.cell? ⟨g,10,none⟩=some a10/\w.cell? ⟨g,11,none⟩=some a11/\w.cell? ⟨g,12,none⟩=some a12/\w.cell? ⟨g,13,none⟩=some a13:=by have h0:=h.cell 0;have h1:=h.cell 1;have h2:=h.cell 2;have h3:=h.cell 3;have h4:=h.cell 4;have h5:=h.cell 5;have h6:=h.cell 6;have h7:=h.cell 7;have h8:=h.cell 8;have h9:=h.cell 9;have h10:=h.cell 10;have h11:=h.cell 11;have h12:=h.cell 12;have h13:=h.cell 13;simp at h0 h1 h2 h3 h4 h5 h6 h7 h8 h9 h10 h11 h12 h13;exact⟨h0,h1,h2,h3,h4,h5,h6,h7,h8,h9,h10,h11,h12,h13⟩
def ztr(p:za6):Value:= .agg (zhb p).toArray
def ql0(c:zbb):Value:= .agg (zly c).toArray
end Go.Hm
namespace Go.Proofs.Y
open Go.RowKit Go.Hm
def PageFine(p:za6):Prop:=((CellFine p.2.2.2.2.1/\CellFine p.2.2.2.2.2)/\ -9223372036854775808<=p.2.2.1/\p.2.2.1<=9223372036854775807)/\(-9223372036854775808<=p.1/\p.1<=9223372036854775807)/\ -9223372036854775808<=p.2.1/\p.2.1<=9223372036854775807
theorem PageFine.stat{p:za6}(h:PageFine p):zeb p.2.2:=⟨h.1.1.1.1,h.1.1.2.1⟩
set_option maxRecDepth 100000 in
theorem zts{w:World}{c:zbb}{p:za6}{most:Int}(hp:zeb p.2.2):
 Calls Tryz.prog 131 #[ql0 c,ztr p,.int .i64 most] w (zal (.bool (zh9 c.2.1 c.2.2 p most)) w):=by
 obtain⟨nm,t,nu⟩:=c;have SR:=fun(W:World)=>zha (w:=W) (t:=t) hp
 clear hp;obtain⟨M,hM⟩:∃M,M=zh9 t nu p most:=⟨_,rfl⟩;dsimp only;rw[<-hM];unfold zh9 at hM;generalize zcc t p.2.2=R at*;obtain⟨sz,rw,nn,bb,⟨p1,p2,p3,p4,p5⟩,⟨q1,q2,q3,q4,q5⟩⟩:=p;dsimp only at hM SR;have SR:Hid (∀W,Calls Tryz.prog 133 #[.int .i64 t,.agg #[.int .i64 nn,.bool bb,.bool p1,.int .i64 p2,.string (zae p3),.int .i64 p4,.int .i64 p5,.bool q1,.int .i64 q2,.string (zae q3),.int .i64 q4,.int .i64 q5]] W (zal (.bool R) W)):=Hz SR;show Calls Tryz.prog 131 #[.agg #[.string (zae nm),.int .i64 t,.bool nu],.agg #[.int .i64 sz,.int .i64 rw,.int .i64 nn,.bool bb,.bool p1,.int .i64 p2,.string (zae p3),.int .i64 p4,.int .i64 p5,.bool q1,.int .i64 q2,.string (zae q3),.int .i64 q4,.int .i64 q5],.int .i64 most] w (zal (.bool M) w);have B0:=(Blk.new w 71 #[.string (zae nm),.int .i64 t,.bool nu]).alloc (.cells #[.int .i64 sz,.int .i64 rw,.int .i64 nn,.bool bb,.bool p1,.int .i64 p2,.string (zae p3),.int .i64 p4,.int .i64 p5,.bool q1,.int .i64 q2,.string (zae q3),.int .i64 q4,.int .i64 q5] 135);have B1:=Blk.new (w.alloc (.cells #[.string (zae nm),.int .i64 t,.bool nu] 71)) 135 #[.int .i64 sz,.int .i64 rw,.int .i64 nn,.bool bb,.bool p1,.int .i64 p2,.string (zae p3),.int .i64 p4,.int .i64 p5,.bool q1,.int .i64 q2,.string (zae q3),.int .i64 q4,.int .i64 q5];have b0:=zye w (.cells #[.string (zae nm),.int .i64 t,.bool nu] 71) (.cells #[.int .i64 sz,.int .i64 rw,.int .i64 nn,.bool bb,.bool p1,.int .i64 p2,.string (zae p3),.int .i64 p4,.int .i64 p5,.bool q1,.int .i64 q2,.string (zae q3),.int .i64 q4,.int .i64 q5] 135);simp only[World.size_alloc] at B1;obtain⟨x0,x1,x2,x3,x4,x5,x6,x7,x8,x9,x10,x11,x12,x13⟩:=zdq B1;obtain⟨y0,y1,y2⟩:=zao B0;by_cases hbad:rw<1\/most<rw\/sz<1\/268435456<sz
 ·rw[if_pos hbad] at hM
  have HM:=Hz hM;clear hM SR;by_cases h1:rw<1;all_goals try by_cases h2:most<rw
  all_goals try by_cases h3:sz<1
  all_goals try(have h4:268435456<sz:=by omega)
  all_goals
   clear hbad;go_enter Tryz.func131,Tryz.ntmps131
   go_wp2
   go_ret
   exact⟨by rw[HM.out];rfl,b0⟩
 ·rw[if_neg hbad] at hM
  have h1: ¬rw<1:=fun h=>hbad (by omega)
  have h2: ¬most<rw:=fun h=>hbad (by omega)
  have h3: ¬sz<1:=fun h=>hbad (by omega)
  have h4: ¬268435456<sz:=fun h=>hbad (by omega)
  have HM:=Hz hM;clear hM hbad;have hs:New ((w.alloc (.cells #[.string (zae nm),.int .i64 t,.bool nu] 71)).alloc (.cells #[.int .i64 sz,.int .i64 rw,.int .i64 nn,.bool bb,.bool p1,.int .i64 p2,.string (zae p3),.int .i64 p4,.int .i64 p5,.bool q1,.int .i64 q2,.string (zae q3),.int .i64 q4,.int .i64 q5] 135)) (((w.alloc (.cells #[.string (zae nm),.int .i64 t,.bool nu] 71)).alloc (.cells #[.int .i64 sz,.int .i64 rw,.int .i64 nn,.bool bb,.bool p1,.int .i64 p2,.string (zae p3),.int .i64 p4,.int .i64 p5,.bool q1,.int .i64 q2,.string (zae q3),.int .i64 q4,.int .i64 q5] 135)).alloc (.cells #[.int .i64 nn,.bool bb,.bool p1,.int .i64 p2,.string (zae p3),.int .i64 p4,.int .i64 p5,.bool q1,.int .i64 q2,.string (zae q3),.int .i64 q4,.int .i64 q5] 133)):=(Below.refl _ _).alloc (qmt _) _;have B2:=Blk.new ((w.alloc (.cells #[.string (zae nm),.int .i64 t,.bool nu] 71)).alloc (.cells #[.int .i64 sz,.int .i64 rw,.int .i64 nn,.bool bb,.bool p1,.int .i64 p2,.string (zae p3),.int .i64 p4,.int .i64 p5,.bool q1,.int .i64 q2,.string (zae q3),.int .i64 q4,.int .i64 q5] 135)) 133 #[.int .i64 nn,.bool bb,.bool p1,.int .i64 p2,.string (zae p3),.int .i64 p4,.int .i64 p5,.bool q1,.int .i64 q2,.string (zae q3),.int .i64 q4,.int .i64 q5];simp only[World.size_alloc] at B2;obtain⟨z0,z1,z2,z3,z4,z5,z6,z7,z8,z9,z10,z11⟩:=za9 B2;have B0:=B0.below hs B0.lt;have B1:=B1.below hs B1.lt;have b2:=New.trans b0 hs;obtain⟨v0,v1,v2⟩:=zao B0;have HB0:=Hz B0;have HB1:=Hz B1;have HB2:=Hz B2;have Hb2:=Hz b2;clear hs b0 B0 B1 B2 b2;go_enter Tryz.func131,Tryz.ntmps131
  go_wp2_with fail
  refine(SR.out _).mono ?_;rintro e w1 ⟨rfl,b1⟩;have B0:=HB0.out.below b1 HB0.out.lt;have B1:=HB1.out.below b1 HB1.out.lt;have B2:=HB2.out.below b1 HB2.out.lt;have b01:=New.trans Hb2.out b1;clear x0 x1 x2 x3 x4 x5 x6 x7 x8 x9 x10 x11 x12 x13 y0 y1 y2 v0 v1 v2 z0 z1 z2 z3 z4 z5 z6 z7 z8 z9 z10 z11 HB0 HB1 HB2 Hb2 b1 SR;obtain⟨x0,x1,x2,x3,x4,x5,x6,x7,x8,x9,x10,x11,x12,x13⟩:=zdq B1;obtain⟨z0,z1,z2,z3,z4,z5,z6,z7,z8,z9,z10,z11⟩:=za9 B2;obtain⟨y0,y1,y2⟩:=zao B0;cases R with
  |false=>
   go_wp2
   go_ret
   exact⟨by rw[HM.out];rfl,b01⟩
  |true=>
   generalize k1:decide (nn<=rw)=d1 at*;generalize k2:decide (nn<rw)=d2 at*;generalize k3:decide (nn=0)=d3 at*;have k4:(nn==0)=d3:=by rw[<-k3];rfl
   cases d1<;> cases d2<;> cases d3<;> cases bb<;> cases nu;all_goals
    go_wp2
    go_ret
    exact⟨by rw[HM.out];rfl,b01⟩
open Go.RowKit Go.Hm Go.WideShapes Go.ChangeShapes Go.Deep
theorem CellFine.data{c:zab}(h:CellFine c):zaq c:=⟨h.1,h.2.1⟩
section
variable{H:Type}{enc:TypeId × Value->H}{W:World}{base:Nat}{v:Value}{d:DataW H}{ps:List MemPlace}
end
open Go.RowKit Go.Hm
def zfb(F:FootS):Prop:=(∀c∈F.cols,∀z∈c.1,z<256)/\ ∀g∈F.groups,∀l∈g.2,∀p∈l,statData p.2.2
open Go.RowKit Go.Hm
theorem ql8:Tryz.prog.underlying 57=some (.slice (Tryz.prog.elem 57)):=by kernel_rfl
theorem ql9(w:World):(sizeOf (Tryz.prog.elem 57)).run Tryz.prog w= .ok 1 w:=by kernel_rfl
theorem z9j(k:IntKind)(l:List Int)(i:Nat):(za7 k l).drop i=za7 k (l.drop i):=by simp[za7]
theorem zqy(k:IntKind)(l:List Int)(i:Nat):(za7 k l).take i=za7 k (l.take i):=by simp[za7]
theorem Reads.part{w:World}{B n cap:Nat}{A:Option Addr}{l:List Int}(h:Reads w B 1 A n (za7 .i64 l)){f e:Nat}(hf:f<=e)(he:e<=n)(hc:n<=cap):
 Reads w B 1 (if cap=f then A else A.map (·.add (f*1))) (e-f) (za7 .i64 ((l.drop f).take (e-f))):=by
 have r1:=(h.cut (k:=f) (cap:=cap) (by omega) hc).take (k:=e-f) (by omega);rw[qm0,qm0,z9j,zqy] at r1;rw[qm0];exact r1
set_option maxRecDepth 100000 in
theorem zi0{w:World}{A:Option Addr}{n c:Nat}{l:List Int}(h:Reads w w.heap.size 1 A n (za7 .i64 l))(hl:∀x∈l,zja x)(hn:n<=9223372036854775807):
 Calls Tryz.prog 179 #[.slice A n c] w (OptB (zu6 l) w):=by
 obtain rfl:=h.lenI;obtain⟨X,hX⟩:∃X,X=zu6 l:=⟨_,rfl⟩;rw[<-hX];unfold zu6 at hX;by_cases h1:65536<l.length
 ·rw[if_pos h1] at hX
  have HX:=Hz hX;have i1:(65536:Int)<(l.length:Int):=by omega
  clear hX h hl;go_enter Tryz.func179,Tryz.ntmps179
  go_wp2
  go_ret2
  rw[HX.out];exact⟨rfl,New.refl _⟩
 rw[if_neg h1] at hX;by_cases h0:l.length=0
 ·rw[if_pos h0] at hX
  have HX:=Hz hX;have i1: ¬(65536:Int)<(l.length:Int):=by omega
  have e0:((l.length:Int)==0)=true:=by rw[h0];rfl
  have H0:=Hz h0;clear hX h hl h0;go_enter Tryz.func179,Tryz.ntmps179
  go_wp2
  go_ret2
  rw[HX.out];exact⟨none,0,0,rfl,Own.nil_,New.refl _⟩
 rw[if_neg h0] at hX;have i1: ¬(65536:Int)<(l.length:Int):=by omega
 have e0:((l.length:Int)==0)=false:=by rw[beq_eq_false_iff_ne];omega
 have i0:(0:Int)<(l.length:Int):=by omega
 obtain⟨ad,rfl,_,c0⟩:=h.int (i:=0) (by omega);rw[zel] at c0;have hx:=hl _ (zim (show 0<l.length by omega));have ZG:=Hz (fun W:World=>zot (l.getD 0 0) W hx.1 hx.2);have PT:=Hz (fun W:World=>zc1 none 0 0 [] (zig (l.getD 0 0)) W Reads.none_ (by omega) (by have:=zou hx;omega));have hvl:=zap (zou hx);have SP:=Hz (fun(W:World) (hW:New w W)=>z4c (c:=c) (Reads.later h hW) (by omega));have hin:=zky l;have hsl:=zjb l;have B0:=Hz (zkz (zd8 l));have BS:=Hz (zk0 (zd8 l));have hbl:=zin hin;have hpart:=fun k=>(show∀x∈blk (zd8 l) k,zja x from z0l hin k)
 have hbk:=fun k (hk:k<nblk (zd8 l).length)=>show(blockD (blk (zd8 l) k)).length<=268 from zrh (z0l hin k) (by rw[zs6];unfold nblk at hk;omega) (by rw[zs6];omega)
 have hNB:Hid (nblk (l.length-1)=nblk (zd8 l).length):=Hz (by rw[hsl]);have HX:=Hz hX;have HBL:=Hz hbl;have HPT:=Hz hpart;have HBK:=Hz hbk;have HSL:=Hz hsl;have hs65:(zd8 l).length<=65536:=by omega
 clear hX h hl hin hsl hbl hpart hbk hx h0 h1;generalize zd8 l=s at*;generalize l.getD 0 0=x at*;generalize hV:vp (zig x)=V at*;clear hV;go_enter Tryz.func179,Tryz.ntmps179
 go_wp2_with fail
 refine(ZG.out _).mono ?_;rintro e w1 ⟨rfl,rfl⟩;go_wp2_with fail
 refine(PT.out _).mono ?_;rintro e w1 ⟨A1,n1,c1,rfl,o1,b1⟩;rw[qnk] at o1;obtain rfl:n1=V.length:=by have:=o1.len;rwa[zaa] at this
 clear ZG PT c0;go_wp2_with fail
 refine(SP.out _ b1).mono ?_;rintro e w2 ⟨A2,n2,c2,rfl,o2,b2⟩;obtain rfl:n2=s.length:=by have:=o2.len;rwa[zhn] at this
 have h21:=zhx o2 (o1.base_le (qmu _));have o1:=o1.later b2;have b02:=New.trans b1 b2;have o2:=o2.base_le (b':=w.heap.size) b1.size;have hc2:=o2.cap.1;clear SP b1 b2;have KB1:=Hz (fun W=>z4d s.length W (by omega));have hK:nblk s.length<=2048:=by unfold nblk;omega
 have HK:Hid (nblk s.length=(s.length+31)/32):=Hz rfl;go_wp2_with fail
 refine(KB1.out _).mono ?_;rintro e w3 ⟨rfl,rfl⟩;clear KB1;generalize hKK:nblk s.length=K at*;have HKK:=Hz hKK;clear hKK;go_wp2_with fail
 go_loopw [4,26] (fun v i wr=>∃(k:Nat) (AE:Option Addr) (cE:Nat),k<=K/\i= .int .i64 (k:Int)/\v= .slice AE (V++zcq s k).length cE/\Go.Hm.Own wr w.heap.size 5 (.slice AE (V++zcq s k).length cE) (zan .u8 (V++zcq s k))/\Go.Hm.Own wr w.heap.size 3 (.slice A2 s.length c2) (za7 .i64 s)/\(Value.ownBlock (.slice A2 s.length c2)=none\/Value.ownBlock (.slice A2 s.length c2)≠Value.ownBlock (.slice AE (V++zcq s k).length cE))/\New w wr) (fun _ i _=>K-(intOf i).toNat)
 case atStart=>exact⟨0,A1,c1,qmu _,rfl,by rw[B0.out,qm3],by rw[B0.out,qm3];exact o1,o2,by rw[B0.out,qm3];exact h21,b02⟩
 case round=>
  clear o1 o2 h21 b02;obtain⟨k,AE,cE,hk,rfl,rfl,o,u,hap,b⟩:=hrel;by_cases hlt:k<K
  ·have hK2:=HK.out
   obtain⟨f,hf⟩:∃f,f=k*32:=⟨_,rfl⟩;obtain⟨g,hg⟩:∃g,g=f+32:=⟨_,rfl⟩;obtain⟨e,he⟩:∃e,e=min g s.length:=⟨_,rfl⟩;have hfs:f<s.length:=by omega
   have w1:IntKind.i64.wrap ((k:Int)*32)=(f:Int):=by rw[IntKind.wrap_i64];omega
   have w2:IntKind.i64.wrap ((f:Int)+32)=(g:Int):=by rw[IntKind.wrap_i64];omega
   have m1:min (g:Int) (s.length:Int)=(e:Int):=by omega
   have m2:(if(s.length:Int)<(g:Int) then(s.length:Int) else(g:Int))=(e:Int):=by split<;> omega
   have m3:(if s.length<g then(s.length:Int) else(g:Int))=(e:Int):=by split<;> omega
   have SL:=fun W=>zhi ql8 ql9 A2 s.length c2 f e (by omega) (by omega) W
   have RP:=Reads.part (cap:=c2) u.reads (f:=f) (e:=e) (by omega) (by omega) hc2;have hbe:(s.drop f).take (e-f)=blk s k:=by
    unfold blk;rw[<-hf];by_cases q:g<=s.length
    ·rw[show e-f=32 by omega]
    ·rw[qnn (by rw[qmp];omega),qnn (by rw[qmp];omega)]
   rw[hbe] at RP;obtain⟨A',hA'⟩:∃A',A'=(if c2=f then A2 else A2.map (·.add (f*1))):=⟨_,rfl⟩;rw[<-hA'] at SL RP;have LB:=Hz (zwj (c:=c2-f) RP (HPT.out k) (by omega) (by omega));have hkb:=HBK.out k hlt;have hb2:=HBL.out k (by omega);have BSk:=Hz (show V++zcq s (k+1)=V++zcq s k++blockD (blk s k) by rw[BS.out k,qm5]);have hkl:(V++zcq s k).length=V.length+(zcq s k).length:=qni;have hbq:(V++zcq s k).length<=600000:=by omega
   have HO:=Hz (qo8 hf (qo8 hg he));clear hbe hA' RP hf hg he hK2 hb2 hkl;generalize V++zcq s k=VB at*;generalize blockD (blk s k)=BD at*;generalize e-f=ef at*;generalize c2-f=cf at*;have hki:(k:Int)<(K:Int):=by omega
   go_wp2_with fail
   refine LB.out.mono ?_;rintro e w3 ⟨A3,n3,c3,rfl,o3,b3⟩;obtain rfl:n3=BD.length:=by have:=o3.len;rwa[zaa] at this
   have u3:=u.later b3;have oo3:=o.later b3;have b03:=New.trans b b3;have z3:=b03.size;clear u o b b3 LB SL m1 m2 m3;go_wp2_with (first
    |(refine zam elB rfl (.tmp 45) (.tmp 46) rfl (W:=w) (B:=w.heap.size) oo3 o3.reads rfl rfl b03 (qmt _) z3 (by omega) (by simp only[maxLen];omega) ?_
      intro A5 c5 w5 _ _ o5 g5 b5 d5;have u5:=u3.kept g5 hap;have hap5:=zlb hap d5 u3))
   go_roundw
   have hq5:=o5.len;rw[zaa] at hq5;rw[hq5] at o5 hap5;case rel=>exact⟨k+1,A5,c5,by omega,by go_num,by rw[BSk.out,<-hq5],by rw[BSk.out];exact o5,u5,by rw[BSk.out];exact hap5,b5⟩
   case measure=>simp[intOf];omega
  ·obtain rfl:k=K:=by omega
   have hXe:X=some (V++zcq s k):=by rw[HX.out,hNB.out]
   go_wp2_with fail
   go_ret2
   rw[hXe];exact⟨_,_,_,rfl,o,b⟩
end Go.Proofs.Y
namespace Go.Hm
open Go Go.RowKit
theorem zzc(l:List (Int × Int))(p:Int × Int):zdk (l++[p])=zdk l++[.int .i64 p.1,.int .i64 p.2]:=by simp[zdk]
theorem z4i{h:Int × Int}{l:List (Int × Int)}{k:Nat}(hk:k<l.length):
 zgd h (l.drop k)=if inBox (l.getD k (0,0)).1 (l.getD k (0,0)).2 then(zgd (l.getD k (0,0)) (l.drop (k+1))).map (((l.getD k (0,0)).1-h.1,(l.getD k (0,0)).2-h.2):: ·) else none:=by
 rw[zjt l k (0,0) hk,zgd]
theorem zwk{α:Type}{o:Option (List α)}{x:α}{acc:List α}:(o.map (x:: ·)).map (acc++ ·)=o.map ((acc++[x])++ ·):=by cases o<;> simp
section
variable{P:Program}{ops:Array Oper}{rest:List Oper}{o:Oper}{a:Act}{Q:Exit->Act->World->Prop}
theorem z4j{w:World}{t e:TypeId}{z:Value}{sz bytes:Nat}(E:ElT P t e z sz bytes)(hgd:o.guard=none)(lo co:Operand)(ho:o.op=Op.makeSlice t lo co)
 {W:World}{B:Nat}{kl kc:IntKind}{L C:Int}(n:Nat)(hl:a.eval lo= .int kl L)(hc:a.eval co= .int kc C)(hL:L=0)(hC:C=(n:Int))(hb:Below B W w)(hbase:B<=w.heap.size)
 (hn:n*bytes<=140737488355328)(hm:n<=maxLen)
 (h:∀w',w'.ownsRow w.heap.size e sz (.slice (some ⟨w.heap.size,0,none⟩) 0 n) 0 []->w.grownBy w' none->Below B W w'->w'.heap.size=w.heap.size+1->wpList P ops Q rest (a.put o.dst (.slice (some ⟨w.heap.size,0,none⟩) 0 n)) w'):
 wpList P ops Q (o::rest) a w:=by
 obtain⟨i,hi,hz0,hs1,hb1⟩:=info_parts E.hi;subst hL hC;have hmC:(n:Int)<=9223372036854775807:=by have h:=hm;simp only[maxLen] at h;omega
 have hbC:(i.bytes:Int)*(n:Int)<=281474976710656:=by
  have h:((i.bytes*n:Nat):Int)<=281474976710656:=by rw[hb1,qne];omega
  rwa[qnf] at h
 have hrun:=run_make (P:=P) w t e i z E.ht hi hz0 kl kc 0 (n:Int) (by omega) (by omega) hbC hmC;rw[qng,hs1] at hrun;refine wpList_plain hgd fun K hK=>?_
 unfold Oper.wp;simp[execOp,ho,hl,hc,hrun,Result.andThen];refine hK _ _ (h _ ?_ (World.grownBy_alloc _ _ _) (hb.alloc hbase _) (by simp));exact⟨by simp,.inr ⟨_,n,_,rfl,qmt _,heap_alloc_new w _,qmu _,hm,by simp[size_madeCells],by simp⟩⟩
end
end Go.Hm
namespace Go.Proofs.Y
open Go.RowKit Go.Hm
theorem qlh:ElT Tryz.prog 251 73 (.agg #[.int .i64 0,.int .i64 0]) 2 16:=⟨by kernel_rfl,by kernel_rfl,rfl,by omega⟩
def qf4(o:Option (List (Int × Int)))(w:World)(e:Ending)(w':World):Prop:=
 ∃A n c,e= .returned (.slice A n c)/\w'.ownsRow w.heap.size 73 2 (.slice A n c) n (zdk (o.getD []))/\New w w'
set_option maxRecDepth 100000 in
theorem z4k{w:World}{A:Option Addr}{n c:Nat}{l:List (Int × Int)}(h:Reads w w.heap.size 2 A n (zdk l))(hn:n<=1000000):
 Calls Tryz.prog 194 #[.slice A n c] w (qf4 (zgd (0,0) l) w):=by
 obtain rfl:=h.lenP;have Z:=Hz (show∀z,(zgd (0,0) (l.drop 0)).map ([]++ ·)=z->zgd (0,0) l=z by intro z hz;rw[<-hz];cases hw:zgd (0,0) l<;> simp[hw])
 generalize zgd (0,0) l=O at*;go_enter Tryz.func194,Tryz.ntmps194
 go_wp2_with (refine z4j qlh rfl _ _ rfl (W:=w) (B:=w.heap.size) l.length rfl rfl rfl rfl (Below.refl _ _) (qmt _) (by omega) (by simp only[maxLen];omega) ?_;intro w1 o1 g1 b1 z1)
 obtain⟨W2,hW2⟩:∃W,W=w1.alloc (.cells #[.int .i64 0,.int .i64 0] 73):=⟨_,rfl⟩;have B2:Blk W2 (w.heap.size+1) 73 #[.int .i64 0,.int .i64 0]:=by rw[hW2,<-z1];exact Blk.new _ _ _
 have b2:New w W2:=by rw[hW2];exact b1.alloc (by omega) _
 have o2:W2.ownsRow w.heap.size 73 2 (.slice (some ⟨w.heap.size,0,none⟩) 0 l.length) 0 (zdk []):=by rw[hW2];exact World.ownsRow.alloc o1 _
 have HB2:=Hz B2;have HR:=Hz h;have Z2:=Hz z1;rw[z1] at*;have HW2:=Hz hW2;clear hW2 B2 h o1 g1 b1 z1;go_wp2
 rw[<-HW2.out];go_loopw [3,12] (fun v i wr=>∃(k:Nat) (A:Option Addr) (c:Nat) (acc:List (Int × Int)) (hx hy:Int),k<=l.length/\i= .int .i64 (k:Int)/\v= .slice A k c/\Hid (wr.ownsRow w.heap.size 73 2 (.slice A k c) k (zdk acc))/\Hid ((Value.slice A k c).ownBlock≠some (w.heap.size+1))/\Hid (Blk wr (w.heap.size+1) 73 #[.int .i64 hx,.int .i64 hy])/\New w wr/\Hid (inBox hx hy=true)/\Hid ((zgd (hx,hy) (l.drop k)).map (acc++ ·)=O)) (fun _ i _=>l.length-(intOf i).toNat)
 case atStart=>exact⟨0,_,_,[],0,0,by omega,rfl,rfl,Hz o2,Hz (by simp[Value.ownBlock]),HB2,b2,Hz rfl,Hz (Z.out _ rfl).symm⟩
 case round=>
  obtain⟨k,A1,c1,acc,hx,hy,hk,rfl,rfl,o,N,B,b,I,E⟩:=hrel;by_cases hlt:k<l.length
  ·have hst:=z4i (h:=(hx,hy)) hlt
   have E2:=Hz (E.out.symm.trans (congrArg (fun z=>z.map (acc++ ·)) hst));obtain⟨ad,rfl,hbk,x0,x1⟩:=(Reads.later HR.out b).pair2 hlt;have hpp:l.getD k (0,0)=((l.getD k (0,0)).1,(l.getD k (0,0)).2):=rfl;rw[hpp] at E2;generalize(l.getD k (0,0)).1=x at*;generalize(l.getD k (0,0)).2=y at*;obtain⟨W3,hW3⟩:∃W,W=wr.alloc (.cells #[.int .i64 x,.int .i64 y] 73):=⟨_,rfl⟩;have b3:New wr W3:=by rw[hW3];exact(Below.refl _ _).alloc (qmt _) _
   have T3:Blk W3 wr.heap.size 73 #[.int .i64 x,.int .i64 y]:=by rw[hW3];exact Blk.new _ _ _
   have B3:=B.out.below b3 B.out.lt;have F3:=Hz (fun(W:World) (hW:New W3 W)=>qo8 (zbz (T3.below hW T3.lt)) (zbz (B3.below hW B3.lt)));obtain⟨⟨t0,t1⟩,y0,y1⟩:=F3.out W3 (New.refl _);have HW3:=Hz hW3;have HT3:=Hz T3;have HB3:=Hz B3;have WT:=Hz (fun W:World=>zrj (w:=W) x y);rw[hW3] at t0 t1 y0 y1;clear hst hW3 T3 B3 hpp;go_wp2_with fail
   rw[<-HW3.out]
   (with_reducible refine(WT.out _).mono ?_)
   rintro e w4 ⟨rfl,b4⟩;clear x0 x1 t0 t1 y0 y1 WT HW3;obtain⟨⟨t0,t1⟩,y0,y1⟩:=F3.out w4 b4;cases hnb:inBox x y with
   |false=>
    have hO:O=none:=by rw[E2.out,hnb];simp
    have HO:=Hz hO;have bE:=New.trans b (New.trans b3 b4);clear hO hnb;go_wp2
    go_ret
    exact⟨_,_,_,rfl,by rw[HO.out];exact zc3,bE⟩
   |true=>
    have nb:=inBox_iff.1 hnb;have ib:=inBox_iff.1 I.out;have PA:=Hz (fun W:World=>qem (w:=W) (x:=x) (y:=y) (u:=hx) (v:=hy) (by omega) (by omega) (by omega) (by omega));have HNB:=Hz hnb;have E3:=Hz (show(zgd (x,y) (l.drop (k+1))).map ((acc++[(x-hx,y-hy)])++ ·)=O by rw[E2.out,hnb,<-zwk];simp);clear nb ib hnb E2 E;go_wp2_with fail
    (with_reducible refine(PA.out _).mono ?_)
    rintro e w5 ⟨rfl,b5⟩;have b35:=New.trans b4 b5;clear t0 t1 y0 y1 PA;generalize x-hx=px at*;generalize y-hy=py at*;have o5:=za1 o.out (New.trans b3 b35);have b05:=New.trans b (New.trans b3 b35);have z0:=b05.size;have hle:w.heap.size+1<wr.heap.size:=B.out.lt;have hz5:wr.heap.size<w5.heap.size:=by have:=HT3.out.lt;have:=b35.size;omega
    obtain⟨W6,hW6⟩:∃W,W=w5.alloc (.cells #[.int .i64 px,.int .i64 py] 73):=⟨_,rfl⟩;have T5:=HT3.out.below b35 HT3.out.lt;have B5:=HB3.out.below b35 HB3.out.lt;have HT5:=Hz T5;have HB5:=Hz B5;clear T5 B5 hW6;have NT:(Value.slice A1 k c1).ownBlock≠some wr.heap.size:=by intro e;have:=(World.ownsRow.lt o.out _ e).2;omega
    have FT:=Hz (fun(W:World) (hW:w5.grownBy W (Value.slice A1 k c1).ownBlock)=>qo8 (HT5.out.grown hW (fun e=>NT e.symm)) (HB5.out.grown hW (fun e=>N.out e.symm)));clear NT
    go_wp2_with (refine zdo qlh rfl (.tmp 19) (.tmp 23) rfl (W:=w) (B:=w.heap.size) (base:=w.heap.size) (n:=k) o5 rfl rfl b05 (qmt _) z0 rfl (by simp[Value.oneCell']) (by omega) (by simp only[maxLen];omega) ?_
                 intro A' c' w8 _ _ o' g' b' hsz hat;obtain⟨t0,t1⟩:=zbz (FT.out w8 g').1;obtain⟨y0,y1⟩:=zbz (FT.out w8 g').2;have f0:=(FT.out w8 g').2.frozen 0;have f1:=(FT.out w8 g').2.frozen 1)
    have N8:(Value.slice A' (k+1) c').ownBlock≠some (w.heap.size+1):=by
     rcases hat with e1|⟨gg,e1,e2⟩
     ·rw[e1];exact N.out
     ·rw[e1];simp;omega
    have g6:=z1l (g:=w.heap.size+1) (.int .i64 x) (.int .i64 y) w8;have o9:=World.ownsRow.kept o' g6 (.inr N8);have B9:=qf3 (FT.out w8 g').2 (a:= .int .i64 x) (b:= .int .i64 y);have b9:=New.far b' g6 (by omega);go_roundw
    case rel=>exact⟨k+1,A',c',acc++[(px,py)],x,y,by omega,by go_num,rfl,Hz (by rw[zzc];exact o9),Hz N8,Hz B9,b9,HNB,E3⟩
    case measure=>simp[intOf];omega
  ·obtain rfl:k=l.length:=by omega
   have HO:=Hz (show O=some acc by rw[<-E.out,qq3,zgd];simp);clear E;go_wp2
   go_ret
   exact⟨_,_,_,rfl,by rw[HO.out];exact o.out,b⟩
end Go.Proofs.Y
namespace Go.Hm
open Go Go.RowKit
inductive Plan3 where
 |done
 |quiet (i:Nat) (p:Plan3)
 |alone (i:Nat) (p:Plan3)
 |two (i:Nat) (p:Plan3) (j:Nat) (q:Plan3)
 |three (i:Nat) (p:Plan3) (j:Nat) (q:Plan3) (k:Nat) (r:Plan3)
section
variable{P:Program}{ops:Array Oper}{Q:Exit->Act->World->Prop}
def Plan3.ok(ops:Array Oper):Array Bool->Plan3->Bool
 |listed,.done=>(Region.ready .any ops listed).isEmpty
 |listed,.quiet i p=>(Region.ready .any ops listed).contains i&&(Region.free .any ops listed i&&p.ok ops (listed.setIfInBounds i true))
 |listed,.alone i p=>decide (Region.ready .any ops listed=[i])&&p.ok ops (listed.setIfInBounds i true)
 |listed,.two i p j q=>decide (Region.ready .any ops listed=[i,j])&&(p.ok ops (listed.setIfInBounds i true)&&q.ok ops (listed.setIfInBounds j true))
 |listed,.three i p j q k r=>decide (Region.ready .any ops listed=[i,j,k])&&(p.ok ops (listed.setIfInBounds i true)&&(q.ok ops (listed.setIfInBounds j true)&&r.ok ops (listed.setIfInBounds k true)))
def Plan3.size:Plan3->Nat
 | .done=>0
 | .quiet _ p=>p.size+1
 | .alone _ p=>p.size+1
 | .two _ p _ q=>Nat.max p.size q.size+1
 | .three _ p _ q _ r=>Nat.max p.size (Nat.max q.size r.size)+1
def zgg(P:Program)(ops:Array Oper)(R:World->World->Prop)(Q:Exit->Act->World->Prop)(i:Nat)(K:Act->World->Prop)(a:Act)(w:World):Prop:=
 ∃o,ops[i]? =some o/\if Region.wanted o (yielded ops a.tmps) then o.wp P a w (fun a' w'=>R w w'/\K a' w') (NoPanic Q) else K (a.put o.dst undef) w
def zc7(P:Program)(ops:Array Oper)(R:World->World->Prop)(Q:Exit->Act->World->Prop):Plan3->Act->World->Prop
 | .done,a,w=>Q .normal a w
 | .quiet i p,a,w=>∃o v,ops[i]? =some o/\((Region.wanted o (yielded ops a.tmps)=true/\ ∀w',R w w'->(execOp a.eval o).run P w'= .ok (.value v) w')\/(Region.wanted o (yielded ops a.tmps)=false/\v=undef))/\zc7 P ops R Q p (a.put o.dst v) w
 | .alone i p,a,w=>zgg P ops R Q i (zc7 P ops R Q p) a w
 | .two i p j q,a,w=>zgg P ops R Q i (zc7 P ops R Q p) a w/\zgg P ops R Q j (zc7 P ops R Q q) a w
 | .three i p j q k r,a,w=>zgg P ops R Q i (zc7 P ops R Q p) a w/\(zgg P ops R Q j (zc7 P ops R Q q) a w/\zgg P ops R Q k (zc7 P ops R Q r) a w)
variable{R:World->World->Prop}
theorem zp1(hrefl:∀w,R w w)(htrans:∀{x y z},R x y->R y z->R x z)(hs:Region.noSelect ops=true):
 ∀(p:Plan3) (fuel:Nat) (listed:Array Bool) (a:Act) (w:World),p.size<=fuel->p.ok ops listed=true->zc7 P ops R Q p a w->wpAnyH P .any ops (NoPanic Q) (R w) fuel listed a w:=by
 have key:∀(p:Plan3),(∀(fuel:Nat) (listed:Array Bool) (a:Act) (w:World),p.size<=fuel->p.ok ops listed=true->zc7 P ops R Q p a w->wpAnyH P .any ops (NoPanic Q) (R w) fuel listed a w)->
  ∀(j:Nat) (fuel:Nat) (listed:Array Bool) (a:Act) (w:World),p.size<=fuel->p.ok ops (listed.setIfInBounds j true)=true->zgg P ops R Q j (zc7 P ops R Q p) a w->
   wpOp P ops (NoPanic Q) j (fun a' w'=>R w w'/\wpAnyH P .any ops (NoPanic Q) (R w) fuel (listed.setIfInBounds j true) a' w') a w:=by
  intro p ih j fuel listed a w hl h3 hc;obtain⟨o,ho,hc⟩:=hc;unfold wpOp;simp only[ho];split
  ·rename_i hw
   rw[if_pos hw] at hc;exact .inl (Oper.wp_mono (fun a' w' hh=>⟨hh.1,zfr (fun z hz=>htrans hh.1 hz) fuel _ a' w' (ih fuel _ a' w' hl h3 hh.2)⟩) hc)
  ·rename_i hw
   rw[if_neg hw] at hc;exact⟨hrefl w,ih fuel _ _ w hl h3 hc⟩
 intro p;induction p with
 |done=>
  intro fuel listed a w _ hok h;exact wpAnyH_done (by simpa[Plan3.ok] using hok) (NoPanic.normal h) fuel
 |quiet i p ih=>
  intro fuel listed a w hl hok h;obtain⟨fuel,rfl⟩:∃k,fuel=k+1:=⟨fuel-1,by simp[Plan3.size] at hl;omega⟩;obtain⟨o,v,ho,hv,hr⟩:=h;simp only[Plan3.ok,qoe] at hok;obtain⟨h1,h2,h3⟩:=hok;exact wpAnyH_take ho hs h2 h1 (fun _ _ _ hp=>hp) hv (hrefl w) (ih fuel _ _ w (by simp[Plan3.size] at hl;omega) h3 hr)
 |alone i p ih=>
  intro fuel listed a w hl hok h;obtain⟨fuel,rfl⟩:∃k,fuel=k+1:=⟨fuel-1,by simp[Plan3.size] at hl;omega⟩;simp only[Plan3.ok,qoe,decide_eq_true_eq] at hok;obtain⟨h1,h3⟩:=hok;refine wpAnyH_all h1 (by simp) ?_;intro j hj;obtain rfl:j=i:=by simpa using hj
  exact key p ih j fuel listed a w (by simp[Plan3.size] at hl;omega) h3 h
 |two i p j q ihp ihq=>
  intro fuel listed a w hl hok h;obtain⟨fuel,rfl⟩:∃k,fuel=k+1:=⟨fuel-1,by simp[Plan3.size] at hl;omega⟩;simp only[Plan3.ok,qoe,decide_eq_true_eq] at hok;obtain⟨h1,h3,h4⟩:=hok;have hl':Nat.max p.size q.size<=fuel:=by simp[Plan3.size] at hl;exact hl
  refine wpAnyH_all h1 (by simp) ?_;intro k hk;have hk:k=i\/k=j:=by simpa using hk
  rcases hk with rfl|rfl
  ·exact key p ihp k fuel listed a w (qml (qrm _ _) hl') h3 h.1
  ·exact key q ihq k fuel listed a w (qml (qrn _ _) hl') h4 h.2
 |three i p j q l r ihp ihq ihr=>
  intro fuel listed a w hl hok h;obtain⟨fuel,rfl⟩:∃k,fuel=k+1:=⟨fuel-1,by simp[Plan3.size] at hl;omega⟩;simp only[Plan3.ok,qoe,decide_eq_true_eq] at hok;obtain⟨h1,h3,h4,h5⟩:=hok;have hl':Nat.max p.size (Nat.max q.size r.size)<=fuel:=by simp[Plan3.size] at hl;exact hl
  refine wpAnyH_all h1 (by simp) ?_;intro k hk;have hk:k=i\/k=j\/k=l:=by simpa using hk
  rcases hk with rfl|rfl|rfl
  ·exact key p ihp k fuel listed a w (qml (qrm _ _) hl') h3 h.1
  ·exact key q ihq k fuel listed a w (qml (qml (qrm _ _) (qrn _ _)) hl') h4 h.2.1
  ·exact key r ihr k fuel listed a w (qml (qml (qrn _ _) (qrn _ _)) hl') h5 h.2.2
theorem zp2{id:Nat}{a:Act}{w:World}(R:World->World->Prop)(p:Plan3)(hrefl:∀w,R w w)(htrans:∀{x y z},R x y->R y z->R x z)(hm:P.follows .mixedOrders=true)
 (hs:Region.noSelect ops=true)(hl:decide (p.size<=ops.size)=true)(hok:p.ok ops (Array.replicate ops.size false)=true)(h:zc7 P ops R Q p a w.drew):(Code.region id ops true).wp P Q a w:=
 wp_region_noPanic (wp_region_held hm (zp1 hrefl htrans hs p ops.size _ a _ (by simpa using hl) hok h))
variable{i j:Nat}{p q:Plan3}{a:Act}{w:World}{v:Value}
theorem zsb(h:Q .normal a w):zc7 P ops R Q .done a w:=h
section
variable{dst:Option Tmp}{op:Op}{ty:TypeId}{pos:String}{af:Array Edge}{gd:Option (Nat × Bool)}
theorem zkf(ho:ops[i]? =some ⟨dst,op,ty,pos,af,gd⟩)(hw:Region.wanted ⟨dst,op,ty,pos,af,gd⟩ (yielded ops a.tmps)=true)(hv:∀w',R w w'->(execOp a.eval ⟨dst,op,ty,pos,af,gd⟩).run P w'= .ok (.value v) w')(h:zc7 P ops R Q p (a.put dst v) w):zc7 P ops R Q (.quiet i p) a w:=
 ⟨_,v,ho,.inl ⟨hw,hv⟩,h⟩
theorem zjq{K0:Act->World->Prop}(ho:ops[i]? =some ⟨dst,op,ty,pos,af,gd⟩)(hw:Region.wanted ⟨dst,op,ty,pos,af,gd⟩ (yielded ops a.tmps)=true)(h:∀K:Act->World->Prop,(∀a' w',R w w'->K0 a' w'->K a' w')->Oper.wp P ⟨dst,op,ty,pos,af,gd⟩ a w K (NoPanic Q)):zgg P ops R Q i K0 a w:=
 ⟨_,ho,by rw[if_pos hw];exact h _ fun _ _ h1 h2=>⟨h1,h2⟩⟩
theorem zh2(h:zgg P ops R Q i (zc7 P ops R Q p) a w):zc7 P ops R Q (.alone i p) a w:=h
theorem z93(h:zgg P ops R Q i (zc7 P ops R Q p) a w)(h2:zgg P ops R Q j (zc7 P ops R Q q) a w):zc7 P ops R Q (.two i p j q) a w:=⟨h,h2⟩
end
end
end Go.Hm
namespace Go.Proofs.Y
open Go.RowKit Go.Hm
def qid(c:zbb)(g:Nat)(S:St)(w:World)(e:Ending)(w':World):Prop:=e= .returned (.agg #[.string (zae c.1),.int .i64 c.2.1,.bool c.2.2])/\CurS w' g S/\w.grownBy w' (some g)
set_option maxRecDepth 100000 in
theorem z4r{w:World}{g:Nat}{S:St}(h:CurS w g S):Calls Tryz.prog 115 #[.pointer (some ⟨g,0,none⟩)] w (qid (ztx S).1 g (ztx S).2 w):=by
 have hok:=h.ok;have hg:=h.lt;obtain⟨W0,hW0⟩:∃W,W=w.alloc (.cells #[.string ⟨#[]⟩,.int .i64 0,.bool false] 71):=⟨_,rfl⟩;have b0:New w W0:=by rw[hW0];exact(Below.refl _ _).alloc (qmt _) _
 have G0:w.grownBy W0 (some g):=by rw[hW0];exact World.grownBy_alloc _ _ _
 have B0:Blk W0 w.heap.size 71 #[.string ⟨#[]⟩,.int .i64 0,.bool false]:=by rw[hW0];exact Blk.new _ _ _
 have h0:=h.below b0;have hne:w.heap.size≠g:=by omega
 have P1:=Hz (zdt (m:=100) h0 (by omega) (by omega));have hl:=zdg (m:=100) S (by omega) hok;have ok1:=zb4 (m:=100) hok;rw[hW0] at P1;have HW:=Hz hW0;clear h h0 hok hW0 b0;generalize hS:ztx S=R;unfold ztx at hS;generalize lenS 100 S=R1 at*;obtain⟨n1,S1⟩:=R1;simp only at hl ok1 hS P1;have HS:=Hz hS;clear hS;go_enter Tryz.func115,Tryz.ntmps115
 go_wp2_with fail
 refine P1.out.mono ?_;rintro e w1 ⟨rfl,C1,G1⟩;rw[<-HW.out] at G1;have B1:=B0.grown G1 (by simpa using hne);have G01:=G0.trans G1;have P2:=Hz (zo2 (n:=(n1:Int)) C1 (by omega) (by omega));obtain⟨ok2,l2⟩:=zi9 (n:=(n1:Int)) ok1;replace HS:=HS.out;generalize zeq (n1:Int) S1=R2 at*;obtain⟨s2,S2⟩:=R2;simp only at ok2 l2 HS P2;replace HS:=Hz HS;clear P1 B0 G0 G1 C1;go_wp2_with fail
 refine P2.out.mono ?_;rintro e w2 ⟨A2,n2,c2,rfl,e2,k2,C2,G2⟩;have B2:=B1.grown G2 (by simpa using hne);have G02:=G01.trans G2;have X2:=zni (c:=c2) k2.reads;have P3:=Hz (zis C2);have ok3:=zs4 ok2;have lt3:=zno ok2;replace HS:=HS.out;generalize zcf S2=R3 at*;obtain⟨t3,S3⟩:=R3;simp only at ok3 lt3 HS P3;replace HS:=Hz HS;clear P2 B1 G01 G2 C2 k2 e2;go_wp2_with fail
 refine P3.out.mono ?_;rintro e w3 ⟨rfl,C3,G3⟩;have B3:=B2.grown G3 (by simpa using hne);have G03:=G02.trans G3;have P4:=Hz (zis C3);have lt4:=zno ok3;replace HS:=HS.out;generalize zcf S3=R4 at*;obtain⟨u4,S4⟩:=R4;simp only at lt4 HS P4;replace HS:=Hz HS;clear P3 B2 G02 G3 C3 X2;go_wp2_with fail
 refine P4.out.mono ?_;rintro e w4 ⟨rfl,C4,G4⟩;have B4:=B3.grown G4 (by simpa using hne);have G04:=G03.trans G4;clear P4 B3 G03 G4;by_cases hu:1<u4
 ·have P5:=Hz (zo1 C4)
  go_wp2_with fail
  refine P5.out.mono ?_;rintro e w5 ⟨rfl,C5,G5⟩;have B5:=B4.grown G5 (by simpa using hne);have G05:=G04.trans G5;clear P5 B4 G04 G5 C4;obtain⟨p0,p1,p2⟩:=zao B5;have f0:=B5.frozen 0;have f1:=B5.frozen 1;have f2:=B5.frozen 2;have HB:=Hz B5;clear B5;go_wp2
  obtain⟨W3,hW3,R10,G10,K10⟩:=z6l HB.out (a:= .string (zae s2)) (b:= .int .i64 (t3:Int)) (c:= .bool ((u4:Int)==1)) G05 (qmt _);rw[<-hW3];have s0:=R10.cell 0;have s1:=R10.cell 1;have s2':=R10.cell 2;simp at s0 s1 s2';have CW:CurS W3 g none:=by rw[hW3];exact((C5.keep zb9 HB.out (by omega) (by decide)).keep zb9 (HB.out.set_ 0 _) (by omega) (by decide)).keep zb9 ((HB.out.set_ 0 _).set_ 1 _) (by omega) (by decide)
  refine bodyPost_ret (v:= .agg #[.string (zae s2),.int .i64 (t3:Int),.bool ((u4:Int)==1)]) (by simp[results,Tryz.results115,go_sem,s0,s1,s2']) rfl ⟨?_,?_,G10⟩
  ·rw[<-HS.out,show((u4:Int)==1)=decide (u4=1) by rw[qm6];simp;omega]
  ·rw[<-HS.out,if_pos hu]
   exact CW
 ·
  obtain⟨p0,p1,p2⟩:=zao B4;have f0:=B4.frozen 0;have f1:=B4.frozen 1;have f2:=B4.frozen 2;have HB:=Hz B4;clear B4;go_wp2
  obtain⟨W3,hW3,R10,G10,K10⟩:=z6l HB.out (a:= .string (zae s2)) (b:= .int .i64 (t3:Int)) (c:= .bool ((u4:Int)==1)) G04 (qmt _);rw[<-hW3];have s0:=R10.cell 0;have s1:=R10.cell 1;have s2':=R10.cell 2;simp at s0 s1 s2';have CW:CurS W3 g S4:=by rw[hW3];exact((C4.keep zb9 HB.out (by omega) (by decide)).keep zb9 (HB.out.set_ 0 _) (by omega) (by decide)).keep zb9 ((HB.out.set_ 0 _).set_ 1 _) (by omega) (by decide)
  refine bodyPost_ret (v:= .agg #[.string (zae s2),.int .i64 (t3:Int),.bool ((u4:Int)==1)]) (by simp[results,Tryz.results115,go_sem,s0,s1,s2']) rfl ⟨?_,?_,G10⟩
  ·rw[<-HS.out,show((u4:Int)==1)=decide (u4=1) by rw[qm6];simp;omega]
  ·rw[<-HS.out,if_neg hu]
   exact CW
theorem zi1{w w1 w2:World}{row:Option Nat}(h:w.grownBy w1 row)(h2:w1.grownBy w2 row):w.grownBy w2 row:=h.trans h2
def qew(l:List zbb)(g:Nat)(S:St)(w:World)(e:Ending)(w':World):Prop:=∃A n c,e= .returned (.slice A n c)/\n<=c/\c<=maxLen/\w'.ownsRow w.heap.size 71 3 (.slice A n c) n (recs zly l)/\CurS w' g S/\w.grownBy w' (some g)
theorem elC:ElT Tryz.prog 53 71 (.agg #[.string ⟨#[]⟩,.int .i64 0,.bool false]) 3 32:=⟨by kernel_rfl,by kernel_rfl,rfl,by omega⟩
set_option maxRecDepth 100000 in
theorem qex{w:World}{g:Nat}{S:St}(h:CurS w g S):Calls Tryz.prog 96 #[.pointer (some ⟨g,0,none⟩)] w (qew (getC S).1 g (getC S).2 w):=by
 have hok:=h.ok;have hg:=h.lt;have P1:=Hz (zdt (m:=64) h (by omega) (by omega));have hl:=zdg (m:=64) S (by omega) hok;have ok1:=zb4 (m:=64) hok;have G1:=Hz (show getC S=_ from rfl);generalize hR:getC S=R at*;unfold getC at hR;generalize lenS 64 S=R1 at*;obtain⟨n,S1⟩:=R1;simp only at hl ok1 hR P1;have HR:=Hz hR;clear hR G1 h hok;go_enter Tryz.func96,Tryz.ntmps96
 go_wp2_with fail
 refine P1.out.mono ?_;rintro e w1 ⟨rfl,C1,G1⟩;have z1:=G1.size;clear P1;have g1:g<w1.heap.size:=C1.lt
 go_wp2_with (refine z2q elC rfl (.tmp 8) (.tmp 8) rfl (W:=w1) (B:=w1.heap.size) n rfl rfl rfl rfl (Below.refl _ w1) (qmt _) (by omega) (by simp only[maxLen];omega) ?_
              intro w2 o2 g2 b2 s2)
 have C2:=C1.below b2;have G2:w.grownBy w2 (some g):=zhu G1 b2;obtain⟨gm,hgm⟩:∃gm,gm=w1.heap.size:=⟨_,rfl⟩;rw[<-hgm] at o2⊢;have hgm1:w.heap.size<=gm/\g≠gm:=by omega
 have o2:=zeo o2 hgm1.1;clear hgm C1 G1 z1 g2 b2 s2 g1;go_loopw [12] (fun i wr=>∃k:Nat,i= .int .i64 (k:Int)/\k<=n/\CurS wr g (zej k S1).2/\wr.ownsRow w.heap.size 71 3 (.slice (some ⟨gm,0,none⟩) n n) n (recs zly ((zej k S1).1++List.replicate (n-k) ([],0,false)))/\w.grownBy wr (some g)) (fun i _=>n-(intOf i).toNat)
 case atStart=>exact⟨0,rfl,by omega,C2,by simpa[recs,zej,List.flatMap_replicate,zly,zae] using o2,G2⟩
 case round=>
  obtain⟨k,rfl,hk,C3,o3,G3⟩:=hrel;by_cases hlt:k<n
  ·have P4:=Hz (z4r C3)
   obtain⟨q1,q2⟩:=zrx k S1;have okk:=z1f k ok1;have hlen:=zlp k S1;have fin:=zv7 okk;have HQ1:=Hz q1;have HQ2:=Hz q2;clear q1 q2;generalize(zej k S1).1=pre at*;generalize(zej k S1).2=Sk at*;generalize ztx Sk=R4 at*;obtain⟨⟨nm4,t4,u4⟩,S4⟩:=R4;simp only at P4;have hrep:List.replicate (n-k) (([],0,false):zbb)=([],0,false)::List.replicate (n-(k+1)) ([],0,false):=by rw[show n-k=(n-(k+1))+1 by omega];rfl
   rw[hrep,za2,zg4] at o3;have hpl:(recs zly pre).length=k*3:=by rw[zau (sz:=3) (fun _=>rfl),hlen]
   have hiz:(k:Int)<(n:Int):=by omega
   have HO3:=Hz o3;clear o3 C3 hrep;go_wp2_with fail
   refine P4.out.mono ?_;rintro e w4 ⟨rfl,C4,G4⟩;have o4:=World.ownsRow.kept HO3.out G4 (.inr (by simp[Value.ownBlock];exact fun e=>hgm1.2 e.symm));have G04:=zi1 G3 G4;obtain⟨cs,B4⟩:=zxy o4;have c0:=o4.cellAt (k*3) (by omega);have c1:=o4.cellAt (k*3+1) (by omega);have c2:=o4.cellAt (k*3+2) (by omega);rw[qpk (by omega),hpl] at c0 c1 c2;simp[zly] at c0 c1 c2;have f0:=o4.frozenAt (k*3);have f1:=o4.frozenAt (k*3+1);have f2:=o4.frozenAt (k*3+2);have HO4:=Hz o4;clear o4 P4 HO3;go_wp2
   obtain⟨W5,hW5,o5,g5⟩:=qcd (a:= .string (zae nm4)) (b:= .int .i64 t4) (d:= .bool u4) HO4.out hpl;rw[<-hW5];clear hW5;go_roundw
   case rel=>exact⟨k+1,by go_num,by omega,by rw[HQ2.out];exact C4.keep g5 B4 hgm1.2 (by decide),by rw[HQ1.out,qm5,za2];exact o5,z6k G04 g5 hgm1.1⟩
   case measure=>simp[intOf];omega
  ·obtain rfl:k=n:=by omega
   rw[qos,qqd,qm3] at o3;have hfin:=zry k ok1;have HR:=HR.out;have hlen:=zlp k S1;generalize zej k S1=R5 at*;obtain⟨L,S5⟩:=R5;simp only at o3 hfin HR hlen C3;subst hlen;have r3:=Reads.of_own o3;have P6:=Hz (znu (c:=L.length) r3 (fun x hx=>⟨(hfin x hx).1,by have:=(hfin x hx).2;omega⟩) (qmt _) (by omega));have P5:=Hz (qfq C3);rcases S5 with _|l5
   ·rw[if_pos (.inl rfl)] at HR
    subst HR;go_wp2_with fail
    refine P5.out.mono ?_;rintro e w5 ⟨rfl,rfl⟩;have P7:=Hz (zo1 C3);go_wp2_with fail
    refine P7.out.mono ?_;rintro e w7 ⟨rfl,C7,G7⟩;go_wp2
    go_ret
    exact⟨none,0,0,rfl,by omega,by simp[maxLen],zc3,C7,zi1 G3 G7⟩
   ·by_cases hck:zcy L=0
    ·rw[if_neg (by simp[hck])] at HR
     subst HR;rw[hck] at P6;go_wp2_with fail
     refine P5.out.mono ?_;rintro e w5 ⟨rfl,rfl⟩;go_wp2_with fail
     refine P6.out.mono ?_;rintro e w6 ⟨rfl,b6⟩;go_wp2
     go_ret
     exact⟨_,_,_,rfl,qmt _,by simp only[maxLen];omega,za1 o3 b6,C3.below b6,zhu G3 b6⟩
    ·rw[if_pos (.inr hck)] at HR
     subst HR;generalize zcy L=ck at*;have e1:(ck != 0)=true:=by simpa using hck
     clear hck;go_wp2_with fail
     refine P5.out.mono ?_;rintro e w5 ⟨rfl,rfl⟩;go_wp2_with fail
     refine P6.out.mono ?_;rintro e w6 ⟨rfl,b6⟩;have P7:=Hz (zo1 (C3.below b6));go_wp2_with fail
     refine P7.out.mono ?_;rintro e w7 ⟨rfl,C7,G7⟩;go_wp2
     go_ret
     exact⟨none,0,0,rfl,by omega,by simp[maxLen],zc3,C7,zi1 (zhu G3 b6) G7⟩
end Go.Proofs.Y
