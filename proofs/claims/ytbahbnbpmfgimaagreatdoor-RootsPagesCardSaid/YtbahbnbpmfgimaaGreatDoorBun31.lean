/- Merged. -/
import Derived.Test.YtbahbnbpmfgimaaGreatDoorBun30
set_option maxHeartbeats 4000000
namespace Go.Proofs.Y
open Go Go.RowKit Go.Hm
def zbn:List Nat:=[112,97,103,101]
def zew:List Nat:=[99,104,117,110,107]
def zep:List Nat:=[103,114,111,117,112]
def ze3:List Nat:=[102,105,108,101]
def lvD(s:List Nat)(D:List (List Nat)):List (List Nat):=(List.range D.length).map fun(k:Nat)=>zb6 s (leafP (k:Int) (D.length:Int) (D.getD k []))
def lvF(s:List Nat)(D:List (List Nat)):List (List Nat):=(List.range D.length).flatMap fun(k:Nat)=>(zbe s (leafP (k:Int) (D.length:Int) (D.getD k []))).toList
theorem zl1(s:List Nat)(D:List (List Nat)):(lvD s D).length=D.length:=by simp[lvD]
theorem zss(s:List Nat)(D:List (List Nat)):(lvF s D).length<=D.length:=by
 unfold lvF;have:∀n,((List.range n).flatMap fun(k:Nat)=>(zbe s (leafP (k:Int) (D.length:Int) (D.getD k []))).toList).length<=n:=fun n=>by
  induction n with
  |zero=>simp
  |succ n ih=>
   rw[qqc,qp8,qni];have:(([n].flatMap fun(k:Nat)=>(zbe s (leafP (k:Int) (D.length:Int) (D.getD k []))).toList)).length<=1:=by simp only[qp1,qqi,qm3];cases zbe s (leafP (n:Int) (D.length:Int) (D.getD n []))<;> simp
   omega
 exact this D.length
def z2y(s:List Nat)(D:List (List Nat))(k:Nat):List (List Nat):=(List.range k).map fun(i:Nat)=>zb6 s (leafP (i:Int) (D.length:Int) (D.getD i []))
def qbd(s:List Nat)(D:List (List Nat))(k:Nat):List (List Nat):=(List.range k).flatMap fun(i:Nat)=>(zbe s (leafP (i:Int) (D.length:Int) (D.getD i []))).toList
theorem qcg(s:List Nat)(D:List (List Nat))(k:Nat):(z2y s D k).length=k:=by simp[z2y]
theorem z6t(s:List Nat)(D:List (List Nat))(k:Nat):z2y s D (k+1)=z2y s D k++[zb6 s (leafP (k:Int) (D.length:Int) (D.getD k []))]:=by unfold z2y;rw[qqc,qp6];rfl
theorem zuy(s:List Nat)(D:List (List Nat))(k:Nat):qbd s D (k+1)=qbd s D k++(zbe s (leafP (k:Int) (D.length:Int) (D.getD k []))).toList:=by unfold qbd;rw[qqc,qp8];simp
theorem qch(s:List Nat)(D:List (List Nat))(k:Nat):(qbd s D k).length<=k:=by
 induction k with
 |zero=>simp[qbd]
 |succ k ih=>
  rw[zuy,qni];have:(zbe s (leafP (k:Int) (D.length:Int) (D.getD k []))).toList.length<=1:=by cases zbe s (leafP (k:Int) (D.length:Int) (D.getD k []))<;> simp
  omega
theorem zhr(s:List Nat)(D:List (List Nat)):Digs (lvD s D):=by intro d hd;unfold lvD at hd;obtain⟨k,_,rfl⟩:=qmn.1 hd;exact zb3 _ _
def ovD(s:List Nat)(D:List (List Nat)):List Nat:=(zb8 (lvD s D)).1
def ovF(s:List Nat)(D:List (List Nat)):List (List Nat):=lvF s D++(zb8 (lvD s D)).2
theorem zhs(s:List Nat)(D:List (List Nat)):zh4 (ovD s D):=zdn _ (zhr s D)
theorem zst(s:List Nat)(D:List (List Nat)):(ovF s D).length<=2*D.length+1:=by have h1:=zss s D;have h2:=zux (zhr s D);have h3:=zl1 s D;unfold ovF;rw[qni];omega
def zqq(X:List (List (List Nat))):List Nat:=ovD zew (X.map (ovD zbn))
def zrf(X:List (List (List Nat))):List (List Nat):=X.flatMap (ovF zbn)++ovF zew (X.map (ovD zbn))
def z5k(C:List (List (List (List Nat)))):List Nat:=ovD zep (C.map zqq)
def qbe(C:List (List (List (List Nat)))):List (List Nat):=C.flatMap zrf++ovF zep (C.map zqq)
def z6u(own:List Nat)(d:List Nat):List Nat:=zb6 ze3 [own,d]
def zqr(own:List Nat)(d:List Nat):List (List Nat):=[zcu ze3 [own,d]]
theorem z0g(X:List (List (List Nat))):zh4 (zqq X):=zhs _ _
theorem znl(C:List (List (List (List Nat)))):zh4 (z5k C):=zhs _ _
end Go.Proofs.Y
namespace Go.Hm
open Go Go.RowKit
theorem qe5(z:Array Value)(n:Nat):(madeCells z (n*z.size)).toList=(List.replicate n z.toList).flatten:=by
 induction n with
 |zero=>simp[madeCells]
 |succ n ih=>
  rw[qpz,qp9,<-ih];simp only[madeCells,qqa,qqb,qoo,List.range_add,qp6,qq0,qrj,qm3,qoc];congr 1
  refine qm7 (by simp) fun i h1 h2=>?_
  have hi:i<z.size:=by simpa using h1
  have e:(n*z.size+i)%z.size=i:=by rw[qne,Nat.mul_add_mod,qn1 hi]
  simp[e,hi]
section
variable{P:Program}{ops:Array Oper}{rest:List Oper}{o:Oper}{a:Act}{Q:Exit->Act->World->Prop}
theorem qim{w:World}{t e:TypeId}{z:Array Value}{sz bytes:Nat}(E:ElT P t e (.agg z) sz bytes)(hs:z.size=sz){kl kc:IntKind}(n:Nat)(hn:n*bytes<=140737488355328)(hm:n<=maxLen):
 (Instr.makeSlice t (.int kl (n:Int)) (.int kc (n:Int))).run P w= .ok (.slice (some ⟨w.heap.size,0,none⟩) n n) (w.alloc (.cells (List.replicate n z.toList).flatten.toArray e)):=by
 obtain⟨i,hi,hz0,hs1,hb1⟩:=info_parts E.hi;have hmC:(n:Int)<=9223372036854775807:=by have h:=hm;simp only[maxLen] at h;omega
 have hbC:(i.bytes:Int)*(n:Int)<=281474976710656:=by
  have h:((i.bytes*n:Nat):Int)<=281474976710656:=by rw[hb1,qne];omega
  rwa[qnf] at h
 have hrun:=run_make (P:=P) w t e i (.agg z) E.ht hi hz0 kl kc (n:Int) (n:Int) (by omega) (by omega) hbC hmC;have e1:madeCells (Value.agg z).cells (n*i.size)=(List.replicate n z.toList).flatten.toArray:=by apply Array.toList_inj.1;rw[hs1,<-hs];exact qe5 z n
 rw[qng,e1] at hrun;exact hrun
theorem z45{w:World}{t e:TypeId}{z:Array Value}{sz bytes:Nat}(E:ElT P t e (.agg z) sz bytes)(hs:z.size=sz)(hgd:o.guard=none)(lo co:Operand)(ho:o.op=Op.makeSlice t lo co)
 {kl kc:IntKind}{L C:Int}(n:Nat)(hl:a.eval lo= .int kl L)(hc:a.eval co= .int kc C)(hL:L=(n:Int))(hC:C=(n:Int))(hn:n*bytes<=140737488355328)(hm:n<=maxLen)
 (h:∀w',Blk w' w.heap.size e (List.replicate n z.toList).flatten.toArray->New w w'->w'.heap.size=w.heap.size+1->wpList P ops Q rest (a.put o.dst (.slice (some ⟨w.heap.size,0,none⟩) n n)) w'):
 wpList P ops Q (o::rest) a w:=by
 subst hL hC;have hrun:=qim (w:=w) E hs (kl:=kl) (kc:=kc) n hn hm;refine wpList_plain hgd fun K hK=>?_
 unfold Oper.wp;simp[execOp,ho,hl,hc,hrun,Result.andThen];exact hK _ _ (h _ (by simpa using Blk.new w e (List.replicate n z.toList).flatten.toArray) ((Below.refl _ _).alloc (qmt _) _) (by simp))
theorem Blk.setCells{g:Nat}{t:TypeId}:∀(vs:List Value) {w:World} {A old B:List Value},Blk w g t (A++(old++B)).toArray->old.length=vs.length->Blk (w.setCells g A.length vs) g t (A++(vs++B)).toArray
 | [],w,A,old,B,h,hl=>by
   obtain rfl:=qqr.1 hl;exact h
 |v::vs,w,A,[],B,h,hl=>by simp at hl
 |v::vs,w,A,x::old,B,h,hl=>by
  have h1:=h.set_ A.length v;have e:(A++(x::old++B)).toArray.setIfInBounds A.length v=((A++[v])++(old++B)).toArray:=by rw[qo6,qor _ _ (qmt _),qos];simp
  rw[e] at h1;have h2:=Blk.setCells vs h1 (by simpa using hl);rw[qni] at h2;show Blk ((w.setCell ⟨g,A.length,none⟩ v).setCells g (A.length+1) vs) g t (A++(v::vs++B)).toArray;simpa using h2
theorem zjz{g:Nat}:∀(vs:List Value) (w:World) (o:Nat),w.grownBy (w.setCells g o vs) (some g)/\(w.setCells g o vs).heap.size=w.heap.size
 | [],w,_=>⟨World.grownBy.refl w _,rfl⟩
 |v::vs,w,o=>by
  have h1:w.grownBy (w.setCell ⟨g,o,none⟩ v) (some g):=⟨rfl,rfl,rfl,by simp[World.setCell],fun k _ hne=>Below.heap_setCell _ _ _ _ (fun e=>hne (by rw[e]))⟩;obtain⟨h2,h3⟩:=zjz vs (w.setCell ⟨g,o,none⟩ v) (o+1);exact⟨World.grownBy.trans h1 h2,by show((w.setCell ⟨g,o,none⟩ v).setCells g (o+1) vs).heap.size=_;rw[h3];simp[World.setCell]⟩
theorem zt5{w:World}(hgd:o.guard=none)(ty:TypeId)(x y:Operand)(ho:o.op= .store ty x y)
 (g:Nat)(us:Array Value){A old B:List Value}{m:Nat}(hx:a.eval x= .pointer (some ⟨g,m,none⟩))(hy:a.eval y= .agg us){t:TypeId}(hB:Blk w g t (A++(old++B)).toArray)(hA:A.length=m)(hlen:old.length=us.size)
 (hi:(P.info? ty).map (·.size)=some us.size)(h1:us.all (·.oneCell')=true)
 (h:∀W,Blk W g t (A++(us.toList++B)).toArray->w.grownBy W (some g)->W.heap.size=w.heap.size->wpList P ops Q rest (a.put o.dst undef) W):wpList P ops Q (o::rest) a w:=by
 subst hA;refine wpList_store_mid hgd ty x y ho g A.length us hx hy (fun j hj=>⟨?_,hB.frozen _⟩) hi h1 ?_
 ·rw[hB.cell,qqh (by simp;omega)]
  rfl
 ·obtain⟨g1,g2⟩:=zjz us.toList w A.length (g:=g)
  exact h _ (Blk.setCells us.toList hB (by simpa using hlen)) g1 g2
end
open Go Go.RowKit
theorem zxc{w:World}{g n sz:Nat}{e:TypeId}{xs:List Value}(h:Blk w g e xs.toArray)(hl:xs.length=n*sz)(hm:n<=maxLen):w.ownsRow g e sz (.slice (some ⟨g,0,none⟩) n n) n xs:=
 ⟨hl,.inr ⟨g,n,xs.toArray,rfl,qmt _,h,qmt _,hm,by simpa using hl,by rw[qnn (by simp[hl])]⟩⟩
end Go.Hm
namespace Go.Proofs.Y
open Go.RowKit Go.Hm
structure DataF(w:World)(A:Option Addr)(D:List ziy)(T:List Nat):Prop where
 row:Reads w w.heap.size 1 A D.length (recs zie D)
 far:0<D.length-> ∀ad,A=some ad->ad.block∉T
 at_:∀d∈D,BytIn w d/\(0<d.2.2.length-> ∀ad,d.1=some ad->ad.block∉T)/\d.2.2.length<=d.2.1/\d.2.1<=9223372036854775807/\(∀x∈d.2.2,x<256)/\d.2.2.length<=9000000
theorem DataF.turn{w w':World}{A:Option Addr}{D:List ziy}{T T':List Nat}(h:DataF w A D T)(k:Turns T w w')(hT:∀x,x<w.heap.size->x∉T->x∉T'):DataF w' A D T':=by
 refine⟨zg6 h.row k h.far,fun hn ad ha=>?_,fun d hd=>?_⟩
 ·obtain⟨ad',e,hb,_⟩:=h.row.2 hn
  rw[ha] at e;injection e with e;subst e;exact hT _ hb (h.far hn ad ha)
 ·obtain⟨a1,a2,a3,a4,a5,a6⟩:=h.at_ d hd
  refine⟨zg6 a1 k a2,fun hn ad ha=>?_,a3,a4,a5,a6⟩;obtain⟨ad',e,hb,_⟩:=a1.2 hn;rw[ha] at e;injection e with e;subst e;exact hT _ hb (a2 hn ad ha)
theorem LogOf.keepB{t u:TypeId}{w w':World}{base g x:Nat}{V:Value}{L:List (List Nat)}{cs:Array Value}(h:LogOf t w base g V L)(B:Blk w x u cs)(h1:t≠u)(h2:24≠u)(h3:5≠u)(k:w.grownBy w' (some x)):LogOf t w' base g V L:=by
 have hx:=h.notT B h1 h2;refine h.turn (T:=[x]) (Turns.of_far k (by simp)) (fun hm=>?_) (fun y hy e=>?_) (fun y hy _ cs' hB=>?_)
 ·obtain rfl:=qnz.1 hm
  exact hx (by simp)
 ·obtain rfl:=qnz.1 hy
  exact hx (qqf _ (z0e e))
 ·obtain rfl:=qnz.1 hy
  exact Blk.ne_ hB B h3 rfl
theorem Turns.behind{w w1 w2:World}{T:List Nat}{x:Nat}(h:Turns T w w1)(k:w1.grownBy w2 (some x))(hx:w.heap.size<=x):Turns T w w2:=
 ⟨k.os.trans h.os,k.tape.trans h.tape,k.output.trans h.output,qml h.size k.size,fun i hi hT=>(k.block i (qmo hi h.size) (fun e=>by injection e with e;omega)).trans (h.block i hi hT)⟩
def z5b:List Value:=List.replicate 32 (.int .u8 0)
def qln(w:World)(base g go:Nat)(V:Value)(F:List (List Nat))(s:List Nat)(Dl:List (List Nat))(k:Nat)(W:World):Prop:=
 ∃V',LogOf tL W base g V' (F++qbd s Dl k)/\(V'.ownBlock=V.ownBlock\/ ∃h,V'.ownBlock=some h/\w.heap.size<=h)/\Turns (g::zbi V) w W/\Blk W go tD (recs zet (z2y s Dl k)++(List.replicate (Dl.length-k) z5b).flatten).toArray
set_option maxRecDepth 100000 in
theorem zmp{w:World}{base g:Nat}{V:Value}{F:List (List Nat)}(hL:LogOf tL w base g V F)(hbs:base<=w.heap.size){s:List Nat}{A:Option Addr}{c:Nat}{D:List ziy}(hs8:∀x∈s,x<256)(hs:s.length<=140737488351232)(hD:DataF w A D (g::zbi V))(hF:F.length+D.length<=9000000)(hC:∀w',Turns (g::zbi V) w w'->ConstIn w'):
 Calls Tryz.prog 10 #[.pointer (some ⟨g,0,none⟩),.string (zae s),.slice A D.length c] w (zt8 (lvD s (D.map (·.2.2))) base g V (F++lvF s (D.map (·.2.2))) w):=by
 obtain⟨Dl,hDl⟩:∃Dl,Dl=D.map (·.2.2):=⟨_,rfl⟩;rw[<-hDl];have hdl:Dl.length=D.length:=by rw[hDl,qpg]
 have HD:=Hz hD;have HL:=Hz hL;have HC:=Hz hC;have HB:=Hz hbs;have HDl:=Hz hDl;have HSs:=Hz (qo8 hs8 hs);have hdn:=Hz hdl;clear hD hL hC hbs hDl hs8 hs hdl;go_enter Tryz.func10,Tryz.ntmps10
 go_wp2_with (refine z45 elD (by simp) rfl (.tmp 11) (.tmp 11) rfl D.length rfl rfl rfl rfl (by omega) (by simp only[maxLen];omega) ?_
              intro w1 B1 n1 z1)
 have hdn:=hdn;have S0:qln w base g w.heap.size V F s Dl 0 w1:=by
  refine⟨V,by simpa[qbd] using HL.out.new n1,.inl rfl,Turns.of_new n1,?_⟩;have e:recs zet (z2y s Dl 0)++(List.replicate (Dl.length-0) z5b).flatten=(List.replicate D.length (Array.replicate 32 (Value.int .u8 0)).toList).flatten:=by rw[hdn.out];simp[z2y,recs,z5b]
  rw[e];exact B1
 have S0:=Hz S0;have HF:=hF;clear B1 z1 n1;go_wp2_with fail
 go_loopw [15] (fun i wr=>∃k:Nat,k<=D.length/\i= .int .i64 (k:Int)/\Hid (qln w base g w.heap.size V F s Dl k wr)) (fun i _=>D.length-(intOf i).toNat)
 case atStart=>exact⟨0,qmu _,rfl,S0⟩
 case round=>
  obtain⟨k,hk,rfl,HS⟩:=hrel;clear S0;by_cases hlt:k<D.length
  ·obtain⟨V1,l1,a1,t1,B1⟩:=HS.out
   have hD1:=HD.out.turn t1 (T':=g::zbi V1) (fun x hx hm=>zok hm hx a1);obtain⟨ad,rfl,hb,hc⟩:=z9b hD1.row hlt;obtain⟨p1,p2,p3,p4,p5,p6⟩:=hD1.at_ _ (zd9 (none,0,[]) hlt);have hfl:(F++qbd s Dl k).length<=10000000:=by have:=qch s Dl k;rw[qni];omega
   have hg:Dl.getD k []=(D.getD k (none,0,[])).2.2:=by rw[HDl.out,qoa,qpf,qmm hlt,qoa,qmm hlt];rfl
   have LF:=zz9 (k:=(k:Int)) (n:=(D.length:Int)) (s:=s) l1 (qml HB.out t1.size) hfl HSs.out.1 HSs.out.2 p1 p5 p6 p3 p4 (fun w' q=>HC.out w' (zbp t1 a1 q));rw[zj6] at LF;have e1:=z6t s Dl k;have e2:=zuy s Dl k;rw[hdn.out,hg] at e1 e2;have E1:=Hz e1;have E2:=Hz e2;clear hg;generalize D.getD k (none,0,[])=d at*;obtain⟨da,dc,db⟩:=d;dsimp only at hc LF E1 E2;have hHd:=zb3 s (leafP (k:Int) (D.length:Int) db);have hki:(k:Int)<(D.length:Int):=by omega
   generalize zb6 s (leafP (k:Int) (D.length:Int) db)=hd at*;generalize(zbe s (leafP (k:Int) (D.length:Int) db)).toList=fr at*;have LF:=Hz LF;have B1:=Hz B1;have l1:=Hz l1;have t1:=Hz t1;have a1:=Hz a1;have hHd:=Hz hHd;clear hD1 hb p1 p2 p3 p4 p5 p6 hfl e1 e2;go_wp2_with fail
   refine LF.out.mono ?_;rintro e w2 ⟨rfl,V2,l2,a2,t2⟩;have B2:=B1.out.touch t2 (l1.out.notT B1.out (by decide) (by decide));have e4:D.length-k=(D.length-(k+1))+1:=by omega
   rw[hdn.out,e4,qot,qq0] at B2;have hlA:(recs zet (z2y s Dl k)).length=k*32:=by rw[zau (sz:=32) zdi,qcg]
   have hA1:=Hz l1;have B2:=Hz B2;clear LF B1 e4
   go_wp2_with (refine zt5 rfl tD (.tmp 29) (.tmp 28) rfl w.heap.size (zan .u8 hd).toArray rfl rfl B2.out hlA (by simp[z5b,zan,hHd.out.1]) (z6p hHd.out.1) (zuv _) ?_
                intro W3 B3 g3 z3)
   have HSn:qln w base g w.heap.size V F s Dl (k+1) W3:=by
    refine⟨V2,?_,zf7 t1.out.size a1.out a2,Turns.behind (zbp t1.out a1.out t2) g3 (qmt _),?_⟩
    ·rw[E2.out,<-qm5]
     exact l2.keepB B2.out (by decide) (by decide) (by decide) g3
    ·have e5:recs zet (z2y s Dl (k+1))++(List.replicate (Dl.length-(k+1)) z5b).flatten=recs zet (z2y s Dl k)++((zan .u8 hd).toArray.toList++(List.replicate (D.length-(k+1)) z5b).flatten):=by
      rw[E1.out,hdn.out,za2,qm5];congr 2
      show zet hd++[]=_;rw[qm3,zol hHd.out.1]
     rw[e5];exact B3
   have HSn:=Hz HSn;clear HS HD HL HC HSs l2 a2 t2 B2 B3 g3 z3 hA1 t1 a1 E1 E2;go_wp2_with fail
   go_roundw
   case rel=>exact⟨k+1,by omega,by go_num,HSn⟩
   case measure=>simp[intOf];omega
  ·obtain rfl:k=D.length:=by omega
   obtain⟨V1,l1,a1,t1,B1⟩:=HS.out;have hlen:(lvD s Dl).length=D.length:=by rw[zl1,hdn.out]
   have e6:z2y s Dl D.length=lvD s Dl:=by unfold z2y lvD;rw[hdn.out]
   have e7:qbd s Dl D.length=lvF s Dl:=by unfold qbd lvF;rw[hdn.out]
   rw[hdn.out,qos,qqd,qrj,qm3,e6] at B1;rw[e7] at l1;have R:=zxc (n:=(lvD s Dl).length) (sz:=32) B1 (by rw[zau (sz:=32) zdi]) (by rw[hlen];simp only[maxLen];omega);have R:=Hz R;have HP:=Hz (qo8 l1 (qo8 a1 t1));have hlen:=Hz hlen;clear HS HD HL HC HSs B1 l1 a1 t1 e6 e7;go_wp2_with fail
   go_ret
   exact⟨_,rfl,by have:=R.out;rw[hlen.out] at this⊢;exact this,V1,HP.out.1,HP.out.2.1,HP.out.2.2⟩
open Go.RowKit Go.Hm
set_option maxRecDepth 100000 in
theorem qa2{w W:World}{B base g bo bl bp bf:Nat}{V0:Value}{F P L:List (List Nat)}{A:Option Addr}{c f lo hi:Nat}(h:DrSt w B base g V0 bo F P W)(x1:Blk W bl 27 #[.pointer (some ⟨g,0,none⟩)])(x2:Blk W bp tS #[.slice A L.length c])(x3:Blk W bf 3 #[.int .i64 (f:Int)])
 (hbs:base<=w.heap.size)(hF:F.length+L.length<=9000000)(hP:P.length<=10000000)(hlv:LeafIn w A L (g::zbi V0))(hc:L.length<=c)(hcm:c<=9223372036854775807)(h0:f<=lo)(h1:lo<=hi)(h2:hi-f<=L.length)(hhi:hi<=10000000)(hC:∀w',Turns (g::zbi V0) w w'->ConstIn w'):
 Calls Tryz.prog 58 #[.int .i64 (lo:Int),.int .i64 (hi:Int),.pointer (some ⟨bo,0,none⟩),.pointer (some ⟨bl,0,none⟩),.pointer (some ⟨bp,0,none⟩),.pointer (some ⟨bf,0,none⟩)] W
  (qao (.tuple #[]) w B base g V0 bo (F++(zb8 (sl L (lo-f) (hi-f))).2) (P++[(zb8 (sl L (lo-f) (hi-f))).1]) W):=by
 have h':=h;obtain⟨V,v,l,a,t,hb,Bb,o⟩:=h;obtain⟨lo',rfl⟩:∃x,lo=f+x:=⟨lo-f,by omega⟩;obtain⟨hi',rfl⟩:∃x,hi=f+x:=⟨hi-f,by omega⟩;rw[show f+lo'-f=lo' by omega,show f+hi'-f=hi' by omega] at*;have h1:lo'<=hi':=by omega
 have hd:=zdn _ (hlv.digs.sl lo' hi');have hlen:(sl L lo' hi').length=hi'-lo':=zlv h2;have RT:=Hz (qaq (L:=sl L lo' hi') (A:=if c=lo' then A else A.map (·.add (lo'*32))) (c:=c-lo') (h'.new (New.drew W)) hbs (by rw[hlen];omega) (zxb hlv h1 h2 hc) (by rw[hlen];omega) (by omega) hC);rw[hlen] at RT;have T0:∀W',KeepL B W.drew W'->Hid (Blk W' bo tS #[v]/\Blk W' bl 27 #[.pointer (some ⟨g,0,none⟩)]/\Blk W' bp tS #[.slice A L.length c]/\Blk W' bf 3 #[.int .i64 (f:Int)]):=fun W' k=>
  Hz ⟨k.2 _ _ _ (by decide) (by decide) (.inl (by decide)) Bb,k.2 _ _ _ (by decide) (by decide) (.inl (by decide)) x1,k.2 _ _ _ (by decide) (by decide) (.inl (by decide)) x2,k.2 _ _ _ (by decide) (by decide) (.inl (by decide)) x3⟩
 have SL:=fun W=>zqd A L.length c lo' hi' h1 (by omega) W
 have e1:((f+lo':Nat):Int)-(f:Int)=(lo':Int):=by omega
 have e2:((f+hi':Nat):Int)-(f:Int)=(hi':Int):=by omega
 have w1:IntKind.i64.wrap (((f+lo':Nat):Int)-(f:Int))=(lo':Int):=by rw[e1];exact zn5 _ ⟨by omega,by omega⟩
 have w2:IntKind.i64.wrap (((f+hi':Nat):Int)-(f:Int))=(hi':Int):=by rw[e2];exact zn5 _ ⟨by omega,by omega⟩
 generalize hfl:f+lo'=fl at*;generalize hfh:f+hi'=fh at*;clear hfl hfh e1 e2;go_enter Tryz.func58,Tryz.ntmps58
 go_wp2_with fail
 refine zb2 (KeepL B) 13 [(0,0),(0,1),(0,2),(1,3),(0,4),(1,5),(1,6),(0,7),(1,8),(1,9),(2,10),(2,11),(2,12),(2,13)]
  KeepL.refl KeepL.trans (by kernel_rfl) (by kernel_rfl) (by kernel_rfl) (by kernel_rfl) ?_
 iterate 9 (first
  |(refine zbm rfl rfl (v:=?_) (fun W' hW=>?_) ?_
    rotate_left
    ·obtain⟨y1,y2,y3,y4⟩:=(T0 W' hW).out
     have z1:W'.cell? ⟨bo,0,none⟩=some v:=y1.cell 0;have z2:W'.cell? ⟨bl,0,none⟩=some (.pointer (some ⟨g,0,none⟩)):=y2.cell 0;have z3:W'.cell? ⟨bp,0,none⟩=some (.slice A L.length c):=y3.cell 0;have z4:W'.cell? ⟨bf,0,none⟩=some (.int .i64 (f:Int)):=y4.cell 0;go_simp<;> with_reducible rfl
    simp only[Act.put,qo6,qou,qo7])
  |(refine zbh rfl rfl (v:=?_) (fun W'=>?_) ?_
    rotate_left
    ·go_simp<;> with_reducible rfl
    simp only[Act.put,qo6,qou,qo7]))
 refine zbh rfl rfl (v:= .slice (if c=lo' then A else A.map (·.add (lo'*32))) (hi'-lo') (c-lo')) (fun W'=>by have q:=SL W';go_simp) ?_;simp only[Act.put,qo6,qou,qo7];obtain⟨d,hdd⟩:∃d,d=(zb8 (sl L lo' hi')).1:=⟨_,rfl⟩;obtain⟨fr,hfr⟩:∃d,d=(zb8 (sl L lo' hi')).2:=⟨_,rfl⟩;rw[<-hdd] at hd;rw[<-hdd,<-hfr] at RT⊢;have Bb:=Hz Bb;clear hdd hfr SL T0 x1 x2 x3 l a t o h';refine zav rfl rfl (fun K hK=>?_);go_simp
 (with_reducible refine RT.out.mono ?_)
 rintro e w1 ⟨rfl,d1,k1⟩;have k1:=k1.l (B:=B);refine hK _ _ (.inr (.inr k1)) ?_;clear hK RT;obtain⟨V1,v1,l1,a1,t1,hb1,B1,o1⟩:=d1;obtain rfl:v1=v:=by have:=(k1.2 _ _ _ (by decide) (by decide) (.inl (by decide)) (Bb.out.drew)).symm.trans B1;simpa using this.symm
 have hds:Digs [d]:=fun x hx=>by obtain rfl:=qnz.1 hx;exact hd
 refine zav rfl rfl (fun K hK=>?_);refine zsp 1 _ rfl [d] hds rfl (by omega) (by omega) (by rw[qnc,qnd,qqa];rfl) ?_;have k2:KeepL B w1 (w1.alloc (.cells (recs zet [d]).toArray 35)):=KeepL.new (zac _ _);refine hK _ _ (.inr (.inr k2)) ?_;clear hK;have lv:=(zfy (w:=w1) hds (T:=[]) (by simp)).row;have n2:=zac w1 (.cells (recs zet [d]).toArray 35);have K2:=KeepX.trans (B:=B) (bo:=bo) (KeepX.new (New.drew W)) (KeepX.trans k1.x (KeepX.new n2));have l2:=l1.new n2;have t2:=t1.trans (Turns.of_new (T:=g::zbi V0) n2);have B2:=B1.below n2 B1.lt;have o2:=za1 o1 n2;obtain⟨w2,hw2⟩:∃W,W=w1.alloc (.cells (recs zet [d]).toArray 35):=⟨_,rfl⟩;obtain⟨q,hq⟩:∃q,q=w1.heap.size:=⟨_,rfl⟩;rw[<-hw2,<-hq] at lv;rw[<-hw2] at K2 l2 t2 B2 o2;rw[<-hw2,<-hq];clear hw2 hq n2 k2 l1 t1 B1 o1 k1 Bb;refine zav rfl rfl (fun K hK=>?_);refine zj3 elD (.tmp 8) (.tmp 19) rfl (W:=w2) (B:=0) o2 lv rfl rfl (Below.refl _ _) (qmu _) (qml hb1.2 (qrx B2.lt)) (zlx _) (by simp;omega) (by simp only[maxLen,qnu,qp3];omega) ?_;intro A3 c3 w3 _ _ o3 g3 _;rw[<-za2] at o3;have ST:=zn6 l2 a1 t2 hb1 B2 o2 o3 (by simp) g3;have k3:=KeepL.row o2 g3;have B3:=k3.2 _ _ _ (by decide) (by decide) (.inl (by decide)) B2;refine hK _ _ (.inr (.inr k3)) ?_;clear hK o3 g3 k3 lv;have c3:w3.cell? ⟨bo,0,none⟩=some v1:=B3.cell 0;have f3:w3.frozen? ⟨bo,0,none⟩=false:=B3.frozen 0;have ST:=Hz ST;have K2:=Hz K2;clear B2 o2 l2 t2 B3;refine zav rfl rfl (fun K hK=>?_);go_simp
 refine hK _ _ (.inr (.inl rfl)) ?_;clear hK;refine zed ?_
 go_end0
 exact⟨rfl,ST.out.1,K2.out.trans ST.out.2⟩
def RestIn(w:World)(g:Nat)(V0:Value)(bq:Nat)(R:List (List Nat))(W:World):Prop:=∃A c,Blk W bq tS #[.slice A R.length c]/\R.length<=c/\c<=9223372036854775807/\LeafIn w A R (g::zbi V0)
def qa3(w:World)(B base g:Nat)(V0:Value)(bo bq:Nat)(F P R:List (List Nat))(W:World)(e:Ending)(W':World):Prop:=
 e= .returned (.tuple #[])/\DrSt w B base g V0 bo F P W'/\RestIn w g V0 bq R W'/\W.heap.size<=W'.heap.size/\ ∀t b cs,t≠tL->t≠24->(t≠tD\/b<B)->b≠bo->b≠bq->Blk W b t cs->Blk W' b t cs
set_option maxRecDepth 100000 in
theorem qa4{w W:World}{B base g bo bq:Nat}{V0:Value}{F P R:List (List Nat)}(lo hi:Int)(h:DrSt w B base g V0 bo F P W)(hR:RestIn w g V0 bq R W)(hP:P.length<=10000000)(hn:1<=R.length)(hbq:w.heap.size<=bq)(hne:bo≠bq):
 Calls Tryz.prog 59 #[.int .i64 lo,.int .i64 hi,.pointer (some ⟨bo,0,none⟩),.pointer (some ⟨bq,0,none⟩)] W
  (qa3 w B base g V0 bo bq F (P++[R.getD 0 []]) (R.drop 1) W):=by
 have h':=h;obtain⟨V,v,l,a,t,hb,Bb,o⟩:=h;obtain⟨A,c,Bq,hc,hcm,lv⟩:=hR;have hd:zh4 (R.getD 0 []):=lv.digs _ (zgo hn);obtain⟨ad,rfl,-⟩:=lv.at_ hn;have T0:∀W',Turns (zbi v) W.drew W'->Hid (Blk W' bo tS #[v]/\Blk W' bq tS #[.slice (some ad) R.length c]/\ ∀j u,(zan .u8 (R.getD 0 []))[j]? =some u->W'.cell? (ad.add j)=some u):=fun W' k=>by have k':=(Turns.drew _ W).trans k;refine Hz ⟨Bb.touch k' (zda o Bb (by decide)),Bq.touch k' (zda o Bq (by decide)),?_⟩;have tw:=zhj t k' (fun x hx=>qml hb.1 (zj4 o x hx).1);obtain⟨ad',e',hc'⟩:=(lv.turn (T':=[]) tw (by simp)).at_ hn;injection e' with e';subst e';intro j u hu;have:=hc' W' (Below.refl _ _) j u hu;rwa[qpj,zel] at this
 have SL:=fun W=>z0c (some ad) R.length c 1 hn W
 have HD0:(0:Nat)<R.length:=hn;obtain⟨d,hdd⟩:∃d,d=R.getD 0 []:=⟨_,rfl⟩;rw[<-hdd] at hd T0⊢;have hds:Digs [d]:=fun x hx=>by obtain rfl:=qnz.1 hx;exact hd
 have lvR:=(lv.drop (k:=1) hn hc);have lR2:(R.drop 1).length=R.length-1:=qmp;generalize R.drop 1=R2 at*;have LR2:=Hz lR2;clear lR2;have I32:=Hz (qla hd.1);clear hdd;go_enter Tryz.func59,Tryz.ntmps59
 go_wp2_with fail
 refine zb2 (Turns (zbi v)) 6 [(0,0),(0,1),(1,2),(0,3),(2,4),(2,5),(2,6)]
  (Turns.refl _) Turns.trans (by kernel_rfl) (by kernel_rfl) (by kernel_rfl) (by kernel_rfl) ?_
 iterate 2 (
  refine zbm rfl rfl (v:=?_) (fun W' hW=>?_) ?_;rotate_left
  ·obtain⟨y1,y2,-⟩:=(T0 W' hW).out
   have z1:W'.cell? ⟨bo,0,none⟩=some v:=y1.cell 0;have z2:W'.cell? ⟨bq,0,none⟩=some (.slice (some ad) R.length c):=y2.cell 0;go_simp<;> with_reducible rfl
  simp only[Act.put,qo6,qou,qo7])
 refine zbh rfl rfl (v:=?_) (fun W'=>?_) ?_;rotate_left
 ·go_simp<;> with_reducible rfl
 simp only[Act.put,qo6,qou,qo7];refine zbm rfl rfl (v:= .agg (zan .u8 d).toArray) (fun W' hW=>zfd rfl (T0 W' hW).out.2.2 zcn rfl I32.out) ?_;simp only[Act.put,qo6,qou,qo7];refine zav rfl rfl (fun K hK=>?_);refine zsp 1 _ rfl [d] hds rfl (by omega) (by omega) (by rw[qnc,qnd,qqa];rfl) ?_;have n2:New W.drew (W.drew.alloc (.cells (recs zet [d]).toArray 35)):=zac _ _;have lvn:=(zfy (w:=W.drew) hds (T:=[]) (by simp)).row;have n02:=New.trans (New.drew W) n2;have l2:=l.new n02;have t2:=t.trans (Turns.of_new (T:=g::zbi V0) n02);have B2:=Bb.below n02 Bb.lt;have Bq2:=Bq.below n02 Bq.lt;have o2:=za1 o n02;refine hK _ _ (.inr (.inr (Turns.of_new n2))) ?_;clear hK;obtain⟨w2,hw2⟩:∃W2,W2=W.drew.alloc (.cells (recs zet [d]).toArray 35):=⟨_,rfl⟩;obtain⟨q,hq⟩:∃q,q=W.drew.heap.size:=⟨_,rfl⟩;rw[<-hw2,<-hq] at lvn;rw[<-hw2] at l2 t2 B2 Bq2 o2 n02;rw[<-hw2,<-hq];clear hw2 hq n2 T0;refine zav rfl rfl (fun K hK=>?_);refine zj3 elD (.tmp 6) (.tmp 10) rfl (W:=w2) (B:=0) o2 lvn rfl rfl (Below.refl _ _) (qmu _) (qml hb.2 (qrx B2.lt)) (zlx _) (by simp;omega) (by simp only[maxLen,qnu,qp3];omega) ?_;intro A3 c3 w3 _ _ o3 g3 _;rw[<-za2] at o3;have ST:=zn6 l2 a t2 hb B2 o2 o3 (by simp) g3;have k3:=KeepL.row o2 g3;have B3:=k3.2 _ _ _ (by decide) (by decide) (.inl (by decide)) B2;refine hK _ _ (.inr (.inr (Turns.row g3))) ?_;clear hK o3 g3 k3 lvn;have z3:w3.cell? ⟨bo,0,none⟩=some v:=B3.cell 0;have f3:w3.frozen? ⟨bo,0,none⟩=false:=B3.frozen 0;have Bq4:=ST.2.2 _ _ _ (by decide) (by decide) (.inl (by decide)) (qo0 hne) Bq2;obtain⟨w4,hw4⟩:∃W4,W4=w3.setCell ⟨bo,0,none⟩ (.slice A3 (P.length+1) c3):=⟨_,rfl⟩;have HW4:=Hz hw4;have ST4:=Hz (show DrSt w B base g V0 bo F (P++[d]) w4/\KeepX B bo W w4 by rw[hw4];exact⟨ST.1,(KeepX.new n02).trans ST.2⟩)
 have Bq4:Blk w4 bq tS #[.slice (some ad) R.length c]:=by rw[hw4];exact Bq4
 clear hw4 ST B2 o2 l2 t2 B3 Bq2 n02 Bb Bq o l t a h';refine zav rfl rfl (fun K hK=>?_);go_simp
 refine hK _ _ (.inr (.inl rfl)) ?_;clear hK;have hw4:w3.setCell ⟨bo,0,none⟩ (.slice A3 (P.length+1) c3)=w4:=HW4.out.symm;refine zed ?_;rw[hw4];have z4:w4.cell? ⟨bq,0,none⟩=some (.slice (some ad) R.length c):=Bq4.cell 0;have f4:w4.frozen? ⟨bq,0,none⟩=false:=Bq4.frozen 0;have DN:=Hz (show DrSt w B base g V0 bo F (P++[d]) (w4.setCell ⟨bq,0,none⟩ (.slice (if c=1 then some ad else(some ad).map (·.add (1*32))) (R.length-1) (c-1)))/\RestIn w g V0 bq R2 (w4.setCell ⟨bq,0,none⟩ (.slice (if c=1 then some ad else(some ad).map (·.add (1*32))) (R.length-1) (c-1)))/\W.heap.size<=(w4.setCell ⟨bq,0,none⟩ (.slice (if c=1 then some ad else(some ad).map (·.add (1*32))) (R.length-1) (c-1))).heap.size/\ ∀t b cs,t≠tL->t≠24->(t≠tD\/b<B)->b≠bo->b≠bq->Blk W b t cs->Blk (w4.setCell ⟨bq,0,none⟩ (.slice (if c=1 then some ad else(some ad).map (·.add (1*32))) (R.length-1) (c-1))) b t cs by
  refine⟨ST4.out.1.setBox Bq4 hbq hne _,⟨_,c-1,?_,by rw[LR2.out];omega,by omega,lvR⟩,by simpa using ST4.out.2.1,fun t b cs h1 h2 h3 h4 h5 hB=>?_⟩
  ·rw[LR2.out]
   exact Bq4.set_ 0 _
  ·exact(ST4.out.2.2 t b cs h1 h2 h3 h4 hB).far (p:=⟨bq,0,none⟩) h5 _)
 clear Bq4 ST4 HW4 hw4 lvR lv;clear SL;go_wp2
 ·go_end0
  have:=DN.out;rw[if_pos (by assumption),show c-1=0 by omega] at this;exact⟨rfl,this⟩
 ·go_end0
  have:=DN.out;rw[if_neg (by assumption)] at this;exact⟨rfl,this⟩
set_option maxRecDepth 100000 in
theorem qa5{w W:World}{B base g bo bl k:Nat}{V0:Value}{F P:List (List Nat)}(h:DrSt w B base g V0 bo F P W)(x1:Blk W bl 27 #[.pointer (some ⟨g,0,none⟩)])(hbs:base<=w.heap.size)(hF:F.length<=10000000)(hD:Digs P)(hk:P.length=k+2)(hP:P.length<=10000000)(hC:∀w',Turns (g::zbi V0) w w'->ConstIn w'):
 Calls Tryz.prog 60 #[.pointer (some ⟨bo,0,none⟩),.pointer (some ⟨bl,0,none⟩)] W
  (qao (.tuple #[]) w B base g V0 bo (F++[zcu zbs [P.getD k [],P.getD (k+1) []]]) (P.take k++[zb6 zbs [P.getD k [],P.getD (k+1) []]]) W):=by
 have h':=h;obtain⟨V,v,l,a,t,hb,Bb,o⟩:=h;obtain⟨A,c,rfl,hlc,hcm⟩:=zcw o;obtain⟨ad,rfl,hx⟩:=qar o hD (i:=k) (by omega);obtain⟨ad',e',hy⟩:=qar o hD (i:=k+1) (by omega);injection e' with e';subst e';have hdx:zh4 (P.getD k []):=hD _ (zgo (by omega));have hdy:zh4 (P.getD (k+1) []):=hD _ (zgo (by omega));have NT:=Hz (qis (h'.new (New.drew W)) hbs hdx hdy hF hC);have hz:=zb3 zbs [P.getD k [],P.getD (k+1) []];have T0:∀W',KeepC W.drew W'->Hid (Blk W' bo tS #[.slice (some ad) P.length c]/\Blk W' bl 27 #[.pointer (some ⟨g,0,none⟩)]/\(∀j u,(zan .u8 (P.getD k []))[j]? =some u->W'.cell? ((ad.add (k*32)).add j)=some u)/\(∀j u,(zan .u8 (P.getD (k+1) []))[j]? =some u->W'.cell? ((ad.add ((k+1)*32)).add j)=some u)):=fun W' q=>
  Hz ⟨q.2 _ _ _ (by decide) (by decide) Bb,q.2 _ _ _ (by decide) (by decide) x1,hx W' ((KeepC.new (New.drew W)).trans q),hy W' ((KeepC.new (New.drew W)).trans q)⟩
 have SL:=fun W=>z0b (some ad) P.length c k (by omega) W
 have IX:=Hz (qla hdx.1);have IY:=Hz (qla hdy.1);have O:=Hz o;have Bb:=Hz Bb;have z0:W.cell? ⟨bo,0,none⟩=some (.slice (some ad) P.length c):=Bb.out.cell 0;obtain⟨x,hxx⟩:∃x,x=P.getD k []:=⟨_,rfl⟩;obtain⟨y,hyy⟩:∃y,y=P.getD (k+1) []:=⟨_,rfl⟩;rw[<-hxx] at hdx IX T0 NT hz⊢;rw[<-hyy] at hdy IY T0 NT hz⊢;generalize zb6 zbs [x,y]=d at*;generalize zcu zbs [x,y]=fr at*;have HPk:=Hz hk;obtain⟨n,hn⟩:∃n,n=P.length:=⟨_,rfl⟩;have HNP:=Hz hn;rw[<-hn] at z0 T0 SL hk hlc hP;subst hk;clear hxx hyy x1 l a t o h' hx hy hn;go_enter Tryz.func60,Tryz.ntmps60
 go_wp2_with fail
 have wk1:IntKind.i64.wrap ((k:Int)+1)=(k:Int)+1:=zn5 _ ⟨by omega,by omega⟩;have kb1:(k:Int)<(k:Int)+2:=by omega
 have kb2:(k:Int)+1<(k:Int)+2:=by omega
 have kb3:(0:Int)<=(k:Int)+1:=by omega
 have kt:((k:Int)+1).toNat=k+1:=by omega
 refine zub KeepC 15 [(0,0),(1,1),(1,2),(0,3),(0,4),(1,5),(1,6),(0,7),(0,8),(1,9),(1,10),(1,11),(0,12),(2,13),(2,14),(2,15),(2,16)]
  KeepC.refl KeepC.trans (by kernel_rfl) (by kernel_rfl) (by kernel_rfl) (by kernel_rfl) ?_
 iterate 1 (
  refine zbm rfl rfl (v:=?_) (fun W' hW=>?_) ?_;rotate_left
  ·obtain⟨y1,y2,-⟩:=(T0 W' hW).out
   have u1:W'.cell? ⟨bo,0,none⟩=some (.slice (some ad) (k+2) c):=y1.cell 0;have u2:W'.cell? ⟨bl,0,none⟩=some (.pointer (some ⟨g,0,none⟩)):=y2.cell 0;go_simp<;> with_reducible rfl
  simp only[Act.put,qo6,qou,qo7])
 iterate 1 (
  refine zbh rfl rfl (v:=?_) (fun W'=>?_) ?_;rotate_left
  ·go_simp<;> with_reducible rfl
  simp only[Act.put,qo6,qou,qo7])
 refine zbh rfl rfl (v:= .slice (some ad) k c) (fun W'=>zg3 (SL W')) ?_;simp only[Act.put,qo6,qou,qo7];iterate 2 (
  refine zbm rfl rfl (v:=?_) (fun W' hW=>?_) ?_;rotate_left
  ·obtain⟨y1,y2,-⟩:=(T0 W' hW).out
   have u1:W'.cell? ⟨bo,0,none⟩=some (.slice (some ad) (k+2) c):=y1.cell 0;have u2:W'.cell? ⟨bl,0,none⟩=some (.pointer (some ⟨g,0,none⟩)):=y2.cell 0;go_simp<;> with_reducible rfl
  simp only[Act.put,qo6,qou,qo7])
 iterate 2 (
  refine zbh rfl rfl (v:=?_) (fun W'=>?_) ?_;rotate_left
  ·go_simp<;> with_reducible rfl
  simp only[Act.put,qo6,qou,qo7])
 refine zbm rfl rfl (v:= .agg (zan .u8 x).toArray) (fun W' hW=>zfd rfl (T0 W' hW).out.2.2.1 zcn rfl IX.out) ?_;simp only[Act.put,qo6,qou,qo7];iterate 1 (
  refine zbm rfl rfl (v:=?_) (fun W' hW=>?_) ?_;rotate_left
  ·obtain⟨y1,y2,-⟩:=(T0 W' hW).out
   have u1:W'.cell? ⟨bo,0,none⟩=some (.slice (some ad) (k+2) c):=y1.cell 0;have u2:W'.cell? ⟨bl,0,none⟩=some (.pointer (some ⟨g,0,none⟩)):=y2.cell 0;go_simp<;> with_reducible rfl
  simp only[Act.put,qo6,qou,qo7])
 iterate 3 (
  refine zbh rfl rfl (v:=?_) (fun W'=>?_) ?_;rotate_left
  ·go_simp<;> with_reducible rfl
  simp only[Act.put,qo6,qou,qo7])
 refine zbm rfl rfl (v:= .agg (zan .u8 y).toArray) (fun W' hW=>zfd rfl (T0 W' hW).out.2.2.2 zcn rfl IY.out) ?_;simp only[Act.put,qo6,qou,qo7];refine zav rfl rfl (fun K hK=>?_);go_simp
 refine Calls.mono (show Calls _ _ #[.pointer (some ⟨g,0,none⟩),.agg (zan .u8 x).toArray,.agg (zan .u8 y).toArray] _ _ from NT.out) ?_;rintro e w1 ⟨rfl,d1,k1⟩;refine hK _ _ (.inr (.inr k1)) ?_;clear hK NT;obtain⟨V1,v1,l1,a1,t1,hb1,B1,o1⟩:=d1;obtain rfl:v1= .slice (some ad) (k+2) c:=by have:=(k1.2 _ _ _ (by decide) (by decide) (Bb.out.drew)).symm.trans B1;rw[<-HNP.out] at this;simpa using this.symm
 have hds:Digs [d]:=fun x hx=>by obtain rfl:=qnz.1 hx;exact hz
 refine zav rfl rfl (fun K hK=>?_);refine zsp 1 _ rfl [d] hds rfl (by omega) (by omega) (by rw[qnc,qnd,qqa];rfl) ?_;refine hK _ _ (.inr (.inr (KeepC.new (zac _ _)))) ?_;clear hK;have lvn:=(zfy (w:=w1) hds (T:=[]) (by simp)).row;have n2:=zac w1 (.cells (recs zet [d]).toArray 35);have K2:=KeepX.trans (B:=B) (bo:=bo) (KeepX.new (New.drew W)) (KeepX.trans k1.l.x (KeepX.new n2));have l2:=l1.new n2;have t2:=t1.trans (Turns.of_new (T:=g::zbi V0) n2);have B2:=B1.below n2 B1.lt;have o2:=za1 o1 n2;rw[<-HNP.out] at o2;have o2k:=qe8 o2 (k:=k) (by omega);rw[zg5 (sz:=32) zdi P k (by rw[<-HNP.out];omega)] at o2k;obtain⟨w2,hw2⟩:∃W,W=w1.alloc (.cells (recs zet [d]).toArray 35):=⟨_,rfl⟩;obtain⟨q,hq⟩:∃q,q=w1.heap.size:=⟨_,rfl⟩;rw[<-hw2,<-hq] at lvn;rw[<-hw2] at K2 l2 t2 B2 o2 o2k;rw[<-hw2,<-hq];have lk:(P.take k).length=k:=by rw[qmq,<-HNP.out];omega
 clear hw2 hq n2 l1 t1 B1 o1 k1 T0 SL;refine zav rfl rfl (fun K hK=>?_);refine zj3 elD (.tmp 8) (.tmp 20) rfl (W:=w2) (B:=0) o2k lvn rfl rfl (Below.refl _ _) (qmu _) (qml hb1.2 (qrx B2.lt)) (zlx _) (by simp;omega) (by simp only[maxLen,qnu,qp3];omega) ?_;intro A3 c3 w3 _ _ o3 g3 _;rw[<-za2] at o3;have ST:=zn6 l2 a1 t2 hb1 B2 o2 o3 (by rw[qni,lk]) g3;have B3:=(KeepL.row o2 g3).2 _ _ _ (by decide) (by decide) (.inl (by decide)) B2;refine hK _ _ (.inr (.inl rfl)) ?_;clear hK o3 g3 lvn;have c3:w3.cell? ⟨bo,0,none⟩=some (.slice (some ad) (k+2) c):=B3.cell 0;have f3:w3.frozen? ⟨bo,0,none⟩=false:=B3.frozen 0;have ST:=Hz ST;have K2:=Hz K2;clear B2 o2 o2k l2 t2 B3 lk;refine zav rfl rfl (fun K hK=>?_);go_simp
 refine hK _ _ (.inl rfl) ?_;clear hK;refine zed ?_
 go_end0
 exact⟨rfl,ST.out.1,K2.out.trans ST.out.2⟩
end Go.Proofs.Y
