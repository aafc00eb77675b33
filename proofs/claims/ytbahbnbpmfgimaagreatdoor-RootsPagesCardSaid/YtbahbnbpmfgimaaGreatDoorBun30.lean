/- Merged. -/
import Derived.Test.YtbahbnbpmfgimaaGreatDoorBun29
set_option maxHeartbeats 4000000
namespace Go.Hm
open Go Go.RowKit
theorem zhj{T T':List Nat}{w W W2:World}(h:Turns T w W)(k:Turns T' W W2)(hT:∀x∈T',w.heap.size<=x):Turns T w W2:=
 ⟨k.os.trans h.os,k.tape.trans h.tape,k.output.trans h.output,qml h.size k.size,fun j hj hn=>(k.block j (qmo hj h.size) (fun hm=>by have:=hT _ hm;omega)).trans (h.block j hj hn)⟩
theorem zn5(n:Int)(h: -9223372036854775808<=n/\n<=9223372036854775807):IntKind.i64.wrap n=n:=by rw[IntKind.wrap_i64];omega
theorem qe8{w:World}{base sz n c k:Nat}{e:TypeId}{a:Addr}{xs:List Value}(h:w.ownsRow base e sz (.slice (some a) n c) n xs)(hk:k<=n):w.ownsRow base e sz (.slice (some a) k c) k (xs.take (k*sz)):=by
 rcases h.2 with⟨hn,_⟩|⟨g,cap,cur,hv,hbg,hgg,h1,h2,h3,h4⟩
 ·cases hn
 ·injection hv with e1 e2 e3
  injection e1 with e1;subst e1;subst e3;refine⟨?_,.inr ⟨g,c,cur,rfl,hbg,hgg,by omega,h2,h3,?_⟩⟩
  ·rw[qmq,h.1,qmr (qms sz hk)]
  ·rw[<-h4,qrs,qmr (qms sz hk)]
theorem zlx(l:List (List Nat)):∀u∈recs zet l,u.oneCell'=true:=by intro u hu;obtain⟨x,_,hx⟩:=qpe.1 hu;simp only[zet,qmn,qpi] at hx;obtain⟨i,_,rfl⟩:=hx;rfl
end Go.Hm
namespace Go.Proofs.Y
open Go.RowKit Go.Hm
abbrev tS:TypeId:=23
abbrev tD:TypeId:=35
set_option maxRecDepth 100000 in
theorem elD:ElT Tryz.prog tS tD (.agg (Array.replicate 32 (.int .u8 0))) 32 32:=⟨by kernel_rfl,by kernel_rfl,rfl,by omega⟩
def KeepX(B bo:Nat)(W W':World):Prop:=W.heap.size<=W'.heap.size/\ ∀t b cs,t≠tL->t≠24->(t≠tD\/b<B)->b≠bo->Blk W b t cs->Blk W' b t cs
theorem KeepX.refl(B bo:Nat)(W:World):KeepX B bo W W:=⟨qmt _,fun _ _ _ _ _ _ _ h=>h⟩
theorem KeepX.trans{B bo:Nat}{a b c:World}(h:KeepX B bo a b)(k:KeepX B bo b c):KeepX B bo a c:=⟨qml h.1 k.1,fun t x cs h1 h2 h3 h4 hb=>k.2 t x cs h1 h2 h3 h4 (h.2 t x cs h1 h2 h3 h4 hb)⟩
theorem KeepX.new{B bo:Nat}{W W':World}(h:New W W'):KeepX B bo W W':=⟨h.size,fun _ _ _ _ _ _ _ hb=>hb.below h hb.lt⟩
def KeepL(B:Nat)(W W':World):Prop:=W.heap.size<=W'.heap.size/\ ∀t b cs,t≠tL->t≠24->(t≠tD\/b<B)->Blk W b t cs->Blk W' b t cs
theorem KeepL.refl{B:Nat}(W:World):KeepL B W W:=⟨qmt _,fun _ _ _ _ _ _ h=>h⟩
theorem KeepL.trans{B:Nat}{a b c:World}(h:KeepL B a b)(k:KeepL B b c):KeepL B a c:=⟨qml h.1 k.1,fun t x cs h1 h2 h3 hb=>k.2 t x cs h1 h2 h3 (h.2 t x cs h1 h2 h3 hb)⟩
theorem KeepL.new{B:Nat}{W W':World}(h:New W W'):KeepL B W W':=⟨h.size,fun _ _ _ _ _ _ hb=>hb.below h hb.lt⟩
theorem KeepL.x{B bo:Nat}{W W':World}(h:KeepL B W W'):KeepX B bo W W':=⟨h.1,fun t b cs h1 h2 h3 _=>h.2 t b cs h1 h2 h3⟩
theorem KeepL.row{B n:Nat}{v:Value}{xs:List Value}{W W':World}(o:W.ownsRow B tD 32 v n xs)(gr:W.grownBy W' v.ownBlock):KeepL B W W':=
 ⟨gr.size,fun _ b _ _ _ h3 hb=>hb.touch (Turns.row gr) (by
  rcases h3 with h3|h3
  ·exact zda o hb (qo0 h3)
  ·exact fun hm=>by have:=(zj4 o b hm).1;omega)⟩
def KeepC(W W':World):Prop:=W.heap.size<=W'.heap.size/\ ∀t b cs,t≠tL->t≠24->Blk W b t cs->Blk W' b t cs
theorem KeepC.refl(W:World):KeepC W W:=⟨qmt _,fun _ _ _ _ _ h=>h⟩
theorem KeepC.trans{a b c:World}(h:KeepC a b)(k:KeepC b c):KeepC a c:=⟨qml h.1 k.1,fun t x cs h1 h2 hb=>k.2 t x cs h1 h2 (h.2 t x cs h1 h2 hb)⟩
theorem KeepC.new{W W':World}(h:New W W'):KeepC W W':=⟨h.size,fun _ _ _ _ _ hb=>hb.below h hb.lt⟩
theorem KeepC.l{B:Nat}{W W':World}(h:KeepC W W'):KeepL B W W':=⟨h.1,fun t b cs h1 h2 _=>h.2 t b cs h1 h2⟩
theorem KeepC.log{base g:Nat}{V:Value}{F:List (List Nat)}{W W':World}(l:LogOf tL W base g V F)(t:Turns (g::zbi V) W W'):KeepC W W':=
 ⟨t.size,fun _ _ _ h1 h2 hb=>hb.touch t (l.notT hb (qo0 h1) (qo0 h2))⟩
theorem KeepC.row{base n:Nat}{v:Value}{xs:List Value}{W W':World}(o:W.ownsRow base tD 32 v n xs)(k:KeepC W W'):W'.ownsRow base tD 32 v n xs:=by
 refine⟨o.1,?_⟩;rcases o.2 with hn|⟨g,cap,cur,rfl,hbg,hgg,rest⟩
 ·exact .inl hn
 ·exact .inr ⟨g,cap,cur,rfl,hbg,k.2 tD g cur (by decide) (by decide) hgg,rest⟩
def DrSt(w:World)(B base g:Nat)(V0:Value)(bo:Nat)(F P:List (List Nat))(W:World):Prop:=
 ∃V v,LogOf tL W base g V F/\(V.ownBlock=V0.ownBlock\/ ∃h,V.ownBlock=some h/\w.heap.size<=h)/\Turns (g::zbi V0) w W/\(w.heap.size<=B/\B<=bo)/\Blk W bo tS #[v]/\W.ownsRow B tD 32 v P.length (recs zet P)
section
variable{w W:World}{B base g bo:Nat}{V0:Value}{F P:List (List Nat)}
theorem DrSt.new(h:DrSt w B base g V0 bo F P W){W':World}(k:New W W'):DrSt w B base g V0 bo F P W':=by obtain⟨V,v,l,a,t,hb,Bb,o⟩:=h;exact⟨V,v,l.new k,a,t.trans (Turns.of_new k),hb,Bb.below k Bb.lt,za1 o k⟩
theorem DrSt.turns(h:DrSt w B base g V0 bo F P W):Turns (g::zbi V0) w W:=by obtain⟨V,v,l,a,t,hb,Bb,o⟩:=h;exact t
def qao(x:Value)(w:World)(B base g:Nat)(V0:Value)(bo:Nat)(F P:List (List Nat))(W:World)(e:Ending)(W':World):Prop:=e= .returned x/\DrSt w B base g V0 bo F P W'/\KeepX B bo W W'
def qap(x:Value)(w:World)(B base g:Nat)(V0:Value)(bo:Nat)(F P:List (List Nat))(W:World)(e:Ending)(W':World):Prop:=e= .returned x/\DrSt w B base g V0 bo F P W'/\KeepC W W'
theorem DrSt.call(h:DrSt w B base g V0 bo F P W){x:Value}{F2:List (List Nat)}{e:Ending}{W':World}{V:Value}(hv:∀V1,LogOf tL W base g V1 F->V1=V)(p:zev tL x base g V F2 W e W'):qap x w B base g V0 bo F2 P W e W':=by
 obtain⟨V1,v,l1,a,t,hb,Bb,o⟩:=h;obtain rfl:=hv V1 l1;obtain⟨rfl,V',l',a',t'⟩:=p;refine⟨rfl,⟨V',v,l',zf7 t.size a a',zbp t a t',hb,Bb.touch t' (l1.notT Bb (by decide) (by decide)),zil o t' (fun x hx=>?_)⟩,KeepC.log l1 t'⟩;obtain⟨A,n,c,D,rfl,hg,ho,_⟩:=l1;rcases qof.1 hx with rfl|hx
 ·exact zaj o hg (by decide)
 ·exact zj5 o ho (by decide) x hx
theorem zt7{V V1:Value}(l:LogOf tL W base g V F){F1:List (List Nat)}(l1:LogOf tL W base g V1 F1):V1=V:=by obtain⟨A,n,c,D,rfl,hg,_⟩:=l;obtain⟨A1,n1,c1,D1,rfl,hg1,_⟩:=l1;have:=hg.symm.trans hg1;simp at this;obtain⟨rfl,rfl,rfl⟩:=this;rfl
theorem qaq(h:DrSt w B base g V0 bo F P W)(hbs:base<=w.heap.size){L:List (List Nat)}(hF:F.length+L.length<=9000000){A:Option Addr}{c:Nat}(hlv:LeafIn w A L (g::zbi V0))(hc:L.length<=c)(hcm:c<=9223372036854775807)(hC:∀w',Turns (g::zbi V0) w w'->ConstIn w'):
 Calls Tryz.prog 36 #[.pointer (some ⟨g,0,none⟩),.slice A L.length c] W (qap (dV (zb8 L).1) w B base g V0 bo (F++(zb8 L).2) P W):=by
 have h':=h;obtain⟨V,v,l,a,t,hb,Bb,o⟩:=h;exact(zso (L.length+1) (by omega) l (qml hbs t.size) hF (hlv.turn t (fun x hx hn=>zok hn hx a)) hc hcm (fun w' k=>hC w' (zbp t a k))).mono
  fun _ _ p=>h'.call (fun _ l1=>zt7 l l1) p
theorem qis(h:DrSt w B base g V0 bo F P W)(hbs:base<=w.heap.size){x y:List Nat}(hx:zh4 x)(hy:zh4 y)(hF:F.length<=10000000)(hC:∀w',Turns (g::zbi V0) w w'->ConstIn w'):
 Calls Tryz.prog 61 #[.pointer (some ⟨g,0,none⟩),dV x,dV y] W (qap (dV (zb6 zbs [x,y])) w B base g V0 bo (F++[zcu zbs [x,y]]) P W):=by
 have h':=h;obtain⟨V,v,l,a,t,hb,Bb,o⟩:=h;exact(z0a l (qml hbs t.size) hF hx hy (fun w' k=>hC w' (zbp t a k))).mono
  fun _ _ p=>h'.call (fun _ l1=>zt7 l l1) p
theorem zn6{V v:Value}(l:LogOf tL W base g V F)(a:V.ownBlock=V0.ownBlock\/ ∃h,V.ownBlock=some h/\w.heap.size<=h)(t:Turns (g::zbi V0) w W)(hb:w.heap.size<=B/\B<=bo)(Bb:Blk W bo tS #[v]){n:Nat}{xs:List Value}(o:W.ownsRow B tD 32 v n xs)
 {w':World}{A':Option Addr}{c' m:Nat}{P2:List (List Nat)}(o':w'.ownsRow B tD 32 (.slice A' m c') m (recs zet P2))(hm:m=P2.length)(gr:W.grownBy w' v.ownBlock):
 DrSt w B base g V0 bo F P2 (w'.setCell ⟨bo,0,none⟩ (.slice A' m c'))/\KeepX B bo W (w'.setCell ⟨bo,0,none⟩ (.slice A' m c')):=by
 subst hm;have T1:Turns (zbi v) W w':=Turns.row gr;have T2:Turns [bo] w' (w'.setCell ⟨bo,0,none⟩ (.slice A' P2.length c')):=Turns.setCell _ (by simp) w';have B1:Blk w' bo tS #[v]:=Bb.touch T1 (zda o Bb (by decide));obtain⟨Al,nl,cl,D,rfl,hg,ho,hp,hD⟩:=l;have l:LogOf tL W base g (.slice Al nl cl) F:=⟨Al,nl,cl,D,rfl,hg,ho,hp,hD⟩;have l1:=l.turn T1 (zda o hg (by decide)) (zj5 ho o (by decide)) (fun x hx _ cs hB=>zda o hB (by decide) hx);have ho1:Own w' base 24 (.slice Al nl cl) (recs ze1 D):=ho.touch T1 (zj5 ho o (by decide));have hg1:Blk w' g tL #[.slice Al nl cl]:=hg.touch T1 (zda o hg (by decide));have l2:=l1.turn T2 (by simp;exact Blk.ne_ hg1 B1 (by decide)) (by simp;exact zaj ho1 B1 (by decide)) (fun x hx _ cs hB=>by simp at hx;subst hx;exact Blk.ne_ B1 hB (by decide) rfl);refine⟨⟨_,_,l2,a,zhj (zhj t T1 (fun x hx=>qml hb.1 (zj4 o x hx).1)) T2 (by simpa using qml hb.1 hb.2),hb,B1.set_ 0 _,zil o' T2 (by simp;exact zaj o' B1 (by decide))⟩,?_⟩;refine⟨qml T1.size T2.size,fun t b cs h1 h2 h3 h4 hb=>?_⟩;exact((KeepL.row o gr).2 t b cs h1 h2 h3 hb).touch T2 (by simpa using h4)
end
set_option maxRecDepth 100000 in
theorem zqd(A:Option Addr)(n c l h:Nat)(h1:l<=h)(h2:h<=c)(w:World):(Instr.sliceAt tS (.slice A n c) (some (.int .i64 (l:Int))) (some (.int .i64 (h:Int))) none).run Tryz.prog w= .ok (.slice (if c=l then A else A.map (·.add (l*32))) (h-l) (c-l)) w:=by rw[run_sliceAt_slice w _ _ _ _ _ sD,run_slice_lh w _ A n c sD .i64 .i64 (l:Int) (h:Int) (by omega) (by omega) (by omega),zD];simp[Result.andThen,sliced]
theorem DrSt.setBox{w W:World}{B base g bo bq:Nat}{V0:Value}{F P:List (List Nat)}(h:DrSt w B base g V0 bo F P W){cs:Array Value}(Bq:Blk W bq tS cs)(hbq:w.heap.size<=bq)(hne:bo≠bq)(u:Value):DrSt w B base g V0 bo F P (W.setCell ⟨bq,0,none⟩ u):=by obtain⟨V,v,l,a,t,hb,Bb,o⟩:=h;have T2:Turns [bq] W (W.setCell ⟨bq,0,none⟩ u):=Turns.setCell _ (by simp) W;obtain⟨Al,nl,cl,D,rfl,hg,ho,hp,hD⟩:=l;have l:LogOf tL W base g (.slice Al nl cl) F:=⟨Al,nl,cl,D,rfl,hg,ho,hp,hD⟩;have l2:=l.turn T2 (by simp;exact Blk.ne_ hg Bq (by decide)) (by simp;exact zaj ho Bq (by decide)) (fun x hx _ cs hB=>by simp at hx;subst hx;exact Blk.ne_ Bq hB (by decide) rfl);exact⟨_,v,l2,a,zhj t T2 (by simpa using hbq),hb,Bb.touch T2 (by simpa using hne),zil o T2 (by simp;exact zaj o Bq (by decide))⟩
theorem qar{W:World}{base n c i:Nat}{A:Option Addr}{P:List (List Nat)}(o:W.ownsRow base tD 32 (.slice A n c) n (recs zet P))(hP:Digs P)(hi:i<n):
 ∃ad,A=some ad/\ ∀W',KeepC W W'-> ∀j u,(zan .u8 (P.getD i []))[j]? =some u->W'.cell? ((ad.add (i*32)).add j)=some u:=by
 obtain⟨ad,e,hb,hl,hc⟩:=Reads.rec_ (f:=zet) (sz:=32) zdi [] (Reads.of_own o) hi (by omega);refine⟨ad,e,fun W' k j u hu=>?_⟩;subst e;obtain⟨ad',e',hb',hl',hc'⟩:=Reads.rec_ (f:=zet) (sz:=32) zdi [] (Reads.of_own (k.row o)) hi (by omega);injection e' with e';subst e';rw[za3];have hd:zh4 (P.getD i []):=hP _ (zgo hl);rw[<-zol hd.1] at hu;exact hc' j u hu
open Go.RowKit Go.Hm
theorem zxb{w:World}{A:Option Addr}{L:List (List Nat)}{T:List Nat}(h:LeafIn w A L T){lo hi c:Nat}(h1:lo<=hi)(h2:hi<=L.length)(hc:L.length<=c):LeafIn w (if c=lo then A else A.map (·.add (lo*32))) (sl L lo hi) T:=by have:=(h.drop (k:=lo) (c:=c) (by omega) hc).take (k:=hi-lo) (by rw[qmp];omega);exact this
def Box1(g bl bv:Nat)(A:Option Addr)(n c:Nat)(W:World):Prop:=Blk W bl 27 #[.pointer (some ⟨g,0,none⟩)]/\Blk W bv tS #[.slice A n c]
theorem Box1.keep{g B bo bl bv:Nat}{A:Option Addr}{n c:Nat}{W W':World}(h:Box1 g bl bv A n c W)(k:KeepX B bo W W')(h1:bl≠bo)(h2:bv≠bo):Box1 g bl bv A n c W':=
 ⟨k.2 _ _ _ (by decide) (by decide) (.inl (by decide)) h1 h.1,k.2 _ _ _ (by decide) (by decide) (.inl (by decide)) h2 h.2⟩
set_option maxRecDepth 100000 in
theorem z5a{w W:World}{B base g bo bl bv:Nat}{V0:Value}{F P L:List (List Nat)}{A:Option Addr}{c lo hi:Nat}(h:DrSt w B base g V0 bo F P W)(hx:Box1 g bl bv A L.length c W)(hbs:base<=w.heap.size)(hF:F.length+L.length<=9000000)(hP:P.length<=10000000)(hlv:LeafIn w A L (g::zbi V0))(hc:L.length<=c)(hcm:c<=9223372036854775807)(h1:lo<=hi)(h2:hi<=L.length)(hC:∀w',Turns (g::zbi V0) w w'->ConstIn w'):
 Calls Tryz.prog 65 #[.int .i64 (lo:Int),.int .i64 (hi:Int),.pointer (some ⟨bo,0,none⟩),.pointer (some ⟨bl,0,none⟩),.pointer (some ⟨bv,0,none⟩)] W
  (qao (.tuple #[]) w B base g V0 bo (F++(zb8 (sl L lo hi)).2) (P++[(zb8 (sl L lo hi)).1]) W):=by
 have h':=h;obtain⟨V,v,l,a,t,hb,Bb,o⟩:=h;obtain⟨x1,x2⟩:=hx;have hd:=zdn _ (hlv.digs.sl lo hi);have hfew:=zux (hlv.digs.sl lo hi);have hlen:(sl L lo hi).length=hi-lo:=zlv h2;have RT:=Hz (qaq (L:=sl L lo hi) (A:=if c=lo then A else A.map (·.add (lo*32))) (c:=c-lo) (h'.new (New.drew W)) hbs (by rw[hlen];omega) (zxb hlv h1 h2 hc) (by rw[hlen];omega) (by omega) hC);rw[hlen] at RT;have T0:∀W',KeepL B W.drew W'->Hid (Blk W' bo tS #[v]/\Blk W' bl 27 #[.pointer (some ⟨g,0,none⟩)]/\Blk W' bv tS #[.slice A L.length c]):=fun W' k=>
  Hz ⟨k.2 _ _ _ (by decide) (by decide) (.inl (by decide)) Bb,k.2 _ _ _ (by decide) (by decide) (.inl (by decide)) x1,k.2 _ _ _ (by decide) (by decide) (.inl (by decide)) x2⟩
 have SL:=fun W=>zqd A L.length c lo hi h1 (by omega) W
 go_enter Tryz.func65,Tryz.ntmps65
 go_wp2_with fail
 refine zb2 (KeepL B) 9 [(0,0),(0,1),(0,2),(1,3),(1,4),(1,5),(2,6),(2,7),(2,8),(2,9)]
  KeepL.refl KeepL.trans (by kernel_rfl) (by kernel_rfl) (by kernel_rfl) (by kernel_rfl) ?_
 iterate 3 (
  refine zbm rfl rfl (v:=?_) (fun W' hW=>?_) ?_;rotate_left
  ·obtain⟨y1,y2,y3⟩:=(T0 W' hW).out
   have z1:W'.cell? ⟨bo,0,none⟩=some v:=y1.cell 0;have z2:W'.cell? ⟨bl,0,none⟩=some (.pointer (some ⟨g,0,none⟩)):=y2.cell 0;have z3:W'.cell? ⟨bv,0,none⟩=some (.slice A L.length c):=y3.cell 0;go_simp<;> with_reducible rfl
  simp only[Act.put,qo6,qou,qo7])
 iterate 2 (
  refine zbh rfl rfl (v:=?_) (fun W'=>?_) ?_;rotate_left
  ·go_simp<;> with_reducible rfl
  simp only[Act.put,qo6,qou,qo7])
 refine zbh rfl rfl (v:= .slice (if c=lo then A else A.map (·.add (lo*32))) (hi-lo) (c-lo)) (fun W'=>by have q:=SL W';go_simp) ?_;simp only[Act.put,qo6,qou,qo7];obtain⟨d,hdd⟩:∃d,d=(zb8 (sl L lo hi)).1:=⟨_,rfl⟩;obtain⟨fr,hfr⟩:∃d,d=(zb8 (sl L lo hi)).2:=⟨_,rfl⟩;rw[<-hdd] at hd;rw[<-hdd,<-hfr] at RT⊢;have Bb:=Hz Bb;clear hdd hfr SL T0 hfew x1 x2 l a t o h';refine zav rfl rfl (fun K hK=>?_);go_simp
 (with_reducible refine RT.out.mono ?_)
 rintro e w1 ⟨rfl,d1,k1⟩;have k1:=k1.l (B:=B);refine hK _ _ (.inr (.inr k1)) ?_;clear hK RT;obtain⟨V1,v1,l1,a1,t1,hb1,B1,o1⟩:=d1;obtain rfl:v1=v:=by have:=(k1.2 _ _ _ (by decide) (by decide) (.inl (by decide)) (Bb.out.drew)).symm.trans B1;simpa using this.symm
 have hds:Digs [d]:=fun x hx=>by obtain rfl:=qnz.1 hx;exact hd
 refine zav rfl rfl (fun K hK=>?_);refine zsp 1 _ rfl [d] hds rfl (by omega) (by omega) (by rw[qnc,qnd,qqa];rfl) ?_;have k2:KeepL B w1 (w1.alloc (.cells (recs zet [d]).toArray 35)):=KeepL.new (zac _ _);refine hK _ _ (.inr (.inr k2)) ?_;clear hK;have lv:=(zfy (w:=w1) hds (T:=[]) (by simp)).row;have n2:=zac w1 (.cells (recs zet [d]).toArray 35);have K2:=KeepX.trans (B:=B) (bo:=bo) (KeepX.new (New.drew W)) (KeepX.trans k1.x (KeepX.new n2));have l2:=l1.new n2;have t2:=t1.trans (Turns.of_new (T:=g::zbi V0) n2);have B2:=B1.below n2 B1.lt;have o2:=za1 o1 n2;obtain⟨w2,hw2⟩:∃W,W=w1.alloc (.cells (recs zet [d]).toArray 35):=⟨_,rfl⟩;obtain⟨q,hq⟩:∃q,q=w1.heap.size:=⟨_,rfl⟩;rw[<-hw2,<-hq] at lv;rw[<-hw2] at K2 l2 t2 B2 o2;rw[<-hw2,<-hq];clear hw2 hq n2 k2 l1 t1 B1 o1 k1 Bb;refine zav rfl rfl (fun K hK=>?_);refine zj3 elD (.tmp 7) (.tmp 14) rfl (W:=w2) (B:=0) o2 lv rfl rfl (Below.refl _ _) (qmu _) (qml hb1.2 (qrx B2.lt)) (zlx _) (by simp;omega) (by simp only[maxLen,qnu,qp3];omega) ?_;intro A3 c3 w3 _ _ o3 g3 _;rw[<-za2] at o3;have ST:=zn6 l2 a1 t2 hb1 B2 o2 o3 (by simp) g3;have k3:=KeepL.row o2 g3;have B3:=k3.2 _ _ _ (by decide) (by decide) (.inl (by decide)) B2;refine hK _ _ (.inr (.inr k3)) ?_;clear hK o3 g3 k3 lv;have c3:w3.cell? ⟨bo,0,none⟩=some v1:=B3.cell 0;have f3:w3.frozen? ⟨bo,0,none⟩=false:=B3.frozen 0;have ST:=Hz ST;have K2:=Hz K2;clear B2 o2 l2 t2 B3;refine zav rfl rfl (fun K hK=>?_);go_simp
 refine hK _ _ (.inr (.inl rfl)) ?_;clear hK;refine zed ?_
 go_end0
 exact⟨rfl,ST.out.1,K2.out.trans ST.out.2⟩
theorem KeepX.t{B bo:Nat}{W W':World}(h:KeepX B bo W W'){cs:Array Value}(Bb:Blk W bo tS cs):KeepT tW W W':=
 ⟨h.1,fun b _ hb=>h.2 _ _ _ (by decide) (by decide) (.inl (by decide)) (Blk.ne_ hb Bb (by decide)) hb⟩
theorem DrSt.box{w W:World}{B base g bo:Nat}{V0:Value}{F P:List (List Nat)}(h:DrSt w B base g V0 bo F P W):∃v,Blk W bo tS #[v]/\W.ownsRow B tD 32 v P.length (recs zet P):=by obtain⟨V,v,l,a,t,hb,Bb,o⟩:=h;exact⟨v,Bb,o⟩
def provP(L:List (List Nat))(f t:Int):List (List Nat):=if needI (L.length:Nat) f t<0 then [] else prD L (evs f.toNat t.toNat 0 L.length)
def provF(L:List (List Nat))(f t:Int):List (List Nat):=if needI (L.length:Nat) f t<0 then [] else prF L (evs f.toNat t.toNat 0 L.length)
def zt8(P:List (List Nat))(base g:Nat)(V:Value)(F:List (List Nat))(w:World)(e:Ending)(w':World):Prop:=
 ∃v,e= .returned v/\w'.ownsRow w.heap.size tD 32 v P.length (recs zet P)/\ ∃V',LogOf tL w' base g V' F/\(V'.ownBlock=V.ownBlock\/ ∃h,V'.ownBlock=some h/\w.heap.size<=h)/\Turns (g::zbi V) w w'
theorem DrSt.post{w W:World}{B base g bo:Nat}{V0:Value}{F P:List (List Nat)}(h:DrSt w B base g V0 bo F P W){v:Value}(hv:∀v',Blk W bo tS #[v']->v'=v):zt8 P base g V0 F w (.returned v) W:=by obtain⟨V,v',l,a,t,hb,Bb,o⟩:=h;obtain rfl:=hv v' Bb;exact⟨_,rfl,zeo o hb.1,V,l,a,t⟩
def qkw(w:World)(base g:Nat)(V:Value)(bo:Nat)(F L:List (List Nat))(A:Option Addr)(c:Nat)(es:List Ev)(W:World):Prop:=
 DrSt w w.heap.size base g V bo (F++prF L es) (prD L es) W/\Box1 g w.heap.size (w.heap.size+1) A L.length c W
set_option maxRecDepth 100000 in
theorem qas{w:World}{base g:Nat}{V:Value}{F L:List (List Nat)}{A:Option Addr}{c:Nat}(f t:Int)(hL:LogOf tL w base g V F)(hbs:base<=w.heap.size)(hF:F.length+2*L.length<=9000000)(hlv:LeafIn w A L (g::zbi V))(hc:L.length<=c)(hcm:c<=9223372036854775807)(hC:∀w',Turns (g::zbi V) w w'->ConstIn w'):
 Calls Tryz.prog 30 #[.pointer (some ⟨g,0,none⟩),.slice A L.length c,.int .i64 f,.int .i64 t] w (zt8 (provP L f t) base g V (F++provF L f t) w):=by
 have ND:=Hz (fun W=>zxa (L.length:Nat) f t W (by omega) (by omega));obtain⟨W1,hW1⟩:∃W,W=(w.alloc (.cells #[.pointer (some ⟨g,0,none⟩)] 27)).alloc (.cells #[.slice A L.length c] tS):=⟨_,rfl⟩;have n1:New w W1:=by rw[hW1];exact New.trans (zac _ _) (zac _ _)
 have x1:Box1 g w.heap.size (w.heap.size+1) A L.length c W1:=by rw[hW1];refine⟨(Blk.new w _ _).alloc _,?_⟩;have:=Blk.new (w.alloc (.cells #[.pointer (some ⟨g,0,none⟩)] 27)) tS #[.slice A L.length c];rwa[World.size_alloc] at this
 have z1:W1.heap.size=w.heap.size+2:=by rw[hW1];simp
 have HW1:=Hz hW1;have X1:=Hz x1;have N1:=Hz n1;by_cases hneg:needI (L.length:Nat) f t<0
 ·have PN:=Hz (show provP L f t=[] from if_pos hneg)
  have PF:=Hz (show provF L f t=[] from if_pos hneg);obtain⟨y,hy⟩:∃y,y=needI (L.length:Nat) f t:=⟨_,rfl⟩;rw[<-hy] at hneg ND;have q1:decide (y<0)=true:=decide_eq_true hneg;have HL:=Hz hL;clear hy x1 n1 hW1 hlv hC hL;go_enter Tryz.func30,Tryz.ntmps30
  go_wp2_with fail
  have N:=ND.out W1;rw[HW1.out] at N;refine N.mono ?_;clear N;rintro e w2 ⟨rfl,b2⟩;have b2:New W1 w2:=by rw[HW1.out];exact b2
  have B2:=Hz (New.trans N1.out b2);clear b2;go_wp2
  go_ret
  rw[PN.out,PF.out,qm3];exact⟨_,by simp,zc3,V,HL.out.new B2.out,.inl rfl,Turns.of_new B2.out⟩
 have PN:=Hz (show provP L f t=_ from if_neg hneg);have PF:=Hz (show provF L f t=_ from if_neg hneg);have hok:0<=f/\f<=t/\t<=(L.length:Nat)/\(L.length:Nat)<=65536:=by
  unfold needI at hneg;split at hneg
  ·omega
  ·omega
 obtain⟨f,rfl⟩:∃m:Nat,f=(m:Int):=⟨f.toNat,by omega⟩;obtain⟨t,rfl⟩:∃m:Nat,t=(m:Int):=⟨t.toNat,by omega⟩;rw[qng,qng] at PN PF;obtain⟨y,hy⟩:∃y,y=needI (L.length:Nat) f t:=⟨_,rfl⟩;rw[<-hy] at hneg ND;have q1:decide (y<0)=false:=decide_eq_false hneg;have hfl:=qan hlv.digs 0 L.length (qmu _) (qmt _) (f:=f) (t:=t);have hcl:=qf9 0 L.length (qmu _) (f:=f) (t:=t);have OV:=Hz (fun(bo:Nat) (W:World) (hbo:w.heap.size+2<=bo) (hr:qkw w base g V bo F L A c [] W)=>
  zqa (f:=f) (t:=t) (kA:=63) (kB:=65) (kC:=64) (eA:= #[]) (eB:= #[.pointer (some ⟨bo,0,none⟩),.pointer (some ⟨w.heap.size,0,none⟩),.pointer (some ⟨w.heap.size+1,0,none⟩)]) (eC:= #[]) (total:=evs f t 0 L.length)
  (R:=qkw w base g V bo F L A c)
  (by rintro k (rfl|rfl|rfl) args w<;> go_simp)
  (fun es w1 w2 h k=>⟨h.1.new k,h.2.keep (KeepX.new (B:=0) (bo:=bo) k) (by omega) (by omega)⟩)
  (fun es lo hi w1 hp h=>(zqb lo hi w1).mono (by rintro e w' ⟨rfl,rfl⟩;refine⟨rfl,?_,KeepT.refl _ _⟩;unfold qkw at h⊢;rw[zkg,zmo];simpa[prF,prD] using h))
  (fun es lo hi w1 hp h=>by have hin:=z18 hp;have h1:=qip (L:=L) hp;have h2:=zzq hp;rw[zkg,qni] at h1;rw[zgi] at h2;have h3:(prD L es).length=cnt es:=zt6 L es;obtain⟨v,B,_⟩:=h.1.box;refine(z5a h.1 h.2 hbs (by simp;omega) (by omega) hlv hc hcm (by have:=hin.2.1;omega) hin.2.2 hC).mono ?_;rintro e w' ⟨rfl,d,k⟩;refine⟨rfl,⟨?_,h.2.keep k (by omega) (by omega)⟩,k.t B⟩;rw[zkg,zmo];simpa[prF,prD] using d)
  (fun es w1 hp h=>(zqc w1).mono (by rintro e w' ⟨rfl,rfl⟩;refine⟨rfl,?_,KeepT.refl _ _⟩;unfold qkw at h⊢;rw[zkg,zmo];simpa[prF,prD] using h))
  (L.length+1) 0 L.length [] W (by omega) (by omega) (by omega) (qrw _) hr)
 have HL:=Hz hL;clear hy x1 n1 hW1 hlv hC hL hfl hcl hneg;have hmf:∀(fn:Fn) (first cap:Array Value) (w:World),(Instr.makeFunc fn first cap).run Tryz.prog w= .ok (.func fn first cap) w:=fun _ _ _ _=>rfl
 go_enter Tryz.func30,Tryz.ntmps30
 go_wp2_with fail
 have N:=ND.out W1;rw[HW1.out] at N;refine N.mono ?_;clear N;rintro e w2 ⟨rfl,b2⟩;have b2:New W1 w2:=by rw[HW1.out];exact b2
 have B2:=Hz (New.trans N1.out b2);have z2:w.heap.size+2<=w2.heap.size:=by have:=b2.size;omega
 have x2:=X1.out.keep (KeepX.new (B:=0) (bo:=w2.heap.size) b2) (by omega) (by omega);have k2:w2.cell? ⟨w.heap.size+1,0,none⟩=some (.slice A L.length c):=x2.2.cell 0;have X2:=Hz x2;have kW:((w2.alloc (.cells #[.slice none 0 0] tS)).alloc (.cells #[.int .i64 (f:Int),.int .i64 (t:Int),.func (.func 63) #[] #[],.func (.func 65) #[] #[.pointer (some ⟨w2.heap.size,0,none⟩),.pointer (some ⟨w.heap.size,0,none⟩),.pointer (some ⟨w.heap.size+1,0,none⟩)],.func (.func 64) #[] #[]] tW)).cell? ⟨w.heap.size+1,0,none⟩=some (.slice A L.length c):=by rw[World.cell?_alloc_lt _ _ _ (by simp;omega),World.cell?_alloc_lt _ _ _ (by show w.heap.size+1<w2.heap.size;omega)];exact k2
 have R3:qkw w base g V w2.heap.size F L A c [] ((w2.alloc (.cells #[.slice none 0 0] tS)).alloc (.cells #[.int .i64 (f:Int),.int .i64 (t:Int),.func (.func 63) #[] #[],.func (.func 65) #[] #[.pointer (some ⟨w2.heap.size,0,none⟩),.pointer (some ⟨w.heap.size,0,none⟩),.pointer (some ⟨w.heap.size+1,0,none⟩)],.func (.func 64) #[] #[]] tW)):=by
  have n3:∀o1 o2,New w2 ((w2.alloc o1).alloc o2):=fun _ _=>New.trans (zac _ _) (zac _ _)
  refine⟨⟨V,.slice none 0 0,?_,.inl rfl,Turns.of_new (New.trans B2.out (n3 _ _)),⟨qmt _,by omega⟩,(Blk.new w2 _ _).alloc _,zc3⟩,x2.keep (KeepX.new (B:=0) (bo:=w2.heap.size) (n3 _ _)) (by omega) (by omega)⟩;rw[show prF L []=[] from rfl,qm3];exact HL.out.new (New.trans B2.out (n3 _ _))
 have R3:=Hz R3;clear b2 x2 ND HW1 X1 N1 z1 HL;go_wp2_with fail
 refine(OV.out w2.heap.size _ z2 R3.out).mono ?_;rintro e w4 ⟨rfl,r,-⟩;rw[qnk] at r;obtain⟨d,-⟩:=r;obtain⟨v,B,o⟩:=d.box;have c4:w4.cell? ⟨w2.heap.size,0,none⟩=some v:=B.cell 0;have D:=Hz (d.post (v:=v) (fun v' B'=>by have:=B.symm.trans B';simpa using this.symm));clear d B o R3 OV kW;go_wp2
 go_ret
 rw[PN.out,PF.out];simpa using D.out
end Go.Proofs.Y
