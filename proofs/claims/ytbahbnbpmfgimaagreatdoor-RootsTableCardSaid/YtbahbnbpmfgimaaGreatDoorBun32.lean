import Derived.Test.YtbahbnbpmfgimaaGreatDoorBun31
set_option maxHeartbeats 4000000
set_option maxRecDepth 100000
namespace Go.Hm
open Go Go.RowKit
theorem zrn{P:Program}{s:Array Oper}{rest:List Oper}{u:Oper}{a:Act}{w:World}{Q:Exit->Act->World->Prop}(z:u.guard=none)(ty:TypeId)(x y:Operand)(C:u.op= .store ty x y)
 (g o:Nat){d e f k l m n p q r b c:Value}(F:a.eval x= .pointer (some ⟨g,o,none⟩))(G:a.eval y= .agg #[d,e,f,k,l,m,n,p,q,r,b,c]){t:TypeId}{cs:Array Value}(v:Blk w g t cs)(D:o+12<=cs.size)
 (hi:(P.info? ty).map (·.size)=some 12)(B:(#[d,e,f,k,l,m,n,p,q,r,b,c]:Array Value).all (·.oneCell')=true)
 (h:∀W,Blk W g t ((((((((((((cs.setIfInBounds (o) d).setIfInBounds (o+1) e).setIfInBounds (o+1+1) f).setIfInBounds (o+1+1+1) k).setIfInBounds (o+1+1+1+1) l).setIfInBounds (o+1+1+1+1+1) m).setIfInBounds (o+1+1+1+1+1+1) n).setIfInBounds (o+1+1+1+1+1+1+1) p).setIfInBounds (o+1+1+1+1+1+1+1+1) q).setIfInBounds (o+1+1+1+1+1+1+1+1+1) r).setIfInBounds (o+1+1+1+1+1+1+1+1+1+1) b).setIfInBounds (o+1+1+1+1+1+1+1+1+1+1+1) c)->w.grownBy W (some g)->wpList P s Q rest (a.put u.dst undef) W):wpList P s Q (u::rest) a w:=by
 have E:w.there g o (#[d,e,f,k,l,m,n,p,q,r,b,c]:Array Value).size:=by intro j A;have A:j<12:=A;refine⟨?_,v.frozen _⟩;rw[v.cell,qus (by omega)];rfl
 refine wpList_store_mid z ty x y C g o #[d,e,f,k,l,m,n,p,q,r,b,c] F G E hi B ?_;exact h _ ((((((((((((v.set_ (o) d).set_ (o+1) e).set_ (o+1+1) f).set_ (o+1+1+1) k).set_ (o+1+1+1+1) l).set_ (o+1+1+1+1+1) m).set_ (o+1+1+1+1+1+1) n).set_ (o+1+1+1+1+1+1+1) p).set_ (o+1+1+1+1+1+1+1+1) q).set_ (o+1+1+1+1+1+1+1+1+1) r).set_ (o+1+1+1+1+1+1+1+1+1+1) b).set_ (o+1+1+1+1+1+1+1+1+1+1+1) c) ((((((((((((zaz (w:=w) (g:=g) (i:=o) (x:=d)).trans zaz).trans zaz).trans zaz).trans zaz).trans zaz).trans zaz).trans zaz).trans zaz).trans zaz).trans zaz).trans zaz)
end Go.Hm
namespace Go.Proofs.Y
open Go.RowKit Go.Hm
theorem z3f{t:Int}{S:St}(a:S.ok):((getA t S).2.getD []).length<=(S.getD []).length:=by
 cases h:(getA t S).2 with
 |none=>simp
 |some r=>
  have:=(zq8 a (show getA t S=((getA t S).1,some r) by rw[<-h])).1;rw[this];simp
def qch(l:List za3)(g:Nat)(S:St)(w:World)(e:Ending)(w':World):Prop:=∃A n c,e= .returned (.slice A n c)/\w'.ownsRow w.heap.size 135 14 (.slice A n c) n (recs zh1 l)/\CurS w' g S/\w.grownBy w' (some g)
theorem qp9:ElT Tryz.prog 136 135 (.agg #[.int .i64 0,.int .i64 0,.int .i64 0,.bool false,.bool false,.int .i64 0,.string ⟨#[]⟩,.int .i64 0,.int .i64 0,.bool false,.int .i64 0,.string ⟨#[]⟩,.int .i64 0,.int .i64 0]) 14 128:=⟨by kernel_rfl,by kernel_rfl,rfl,by omega⟩
theorem z03{t m:Int}{j:Nat}{b:List Nat}:zc1 t m (j+1) (some b)=((zhk t m (some b)).1::(zc1 t m j (zhk t m (some b)).2).1,(zc1 t m j (zhk t m (some b)).2).2):=rfl
theorem zx9{w:World}{g:Nat}{S:St}{t m:Int}(h:CurS w g S)(hl:(S.getD []).length<=140737488351232)(hm:0<=m/\m<=65536):
 Calls Tryz.prog 118 #[.pointer (some ⟨g,0,none⟩),.int .i64 t,.int .i64 m] w (qch (zdl t m S).1 g (zdl t m S).2 w):=by
 obtain⟨X,a⟩:∃X,X=zdl t m S:=⟨_,rfl⟩;rw[<-a];unfold zdl at a;have a9:=zdo (m:=m) S hm.1 h.ok;have a1:=zbo (m:=m) h.ok;have V:=zev (m:=m) h.ok;have a8:=h.lt;have L1:=qwk (zei (m:=m) h (by omega) (by omega));generalize lenS m S=H at*;obtain⟨N,S1⟩:=H;dsimp only at*;have y:=qwk (show X=([]++(zc1 t m N S1).1,(zc1 t m N S1).2) from a);clear a h;go_enter Tryz.func118,Tryz.ntmps118
 go_wp2_with fail
 refine L1.out.mono ?_;rintro e w1 ⟨rfl,s1,g1⟩;clear L1;go_wp2_with fail
 go_loopw [7,8] (fun v i wr=>∃(j q c:Nat) (A:Option Addr) (x:List za3) (F:St),i= .int .i64 (j:Int)/\v= .slice A q c/\wr.ownsRow w.heap.size 135 14 (.slice A q c) q (recs zh1 x)/\q+j=N/\CurS wr g F/\(F.getD []).length<=140737488351232
  /\w.grownBy wr (some g)/\Hid (X=(x++(zc1 t m j F).1,(zc1 t m j F).2))) (fun _ i _=>(intOf i).toNat)
 case atStart=>exact⟨N,0,0,none,[],S1,rfl,rfl,zd8,by omega,s1,by omega,g1,y⟩
 case round=>
  obtain⟨j,q,c,A,x,F,rfl,rfl,o,b0,s,U,G,l⟩:=hrel;clear y s1 g1 a1 V;have O:=qwk (qir s);have a7:=G.size;by_cases hj:0<j
  ·cases F with
   |none=>
    simp only[Option.isNone_none] at O;have a:=l.out;rw[z0m,qra] at a;have y:=qwk a;clear a l;go_wp2_with fail
    refine O.out.mono ?_;rintro e w2 ⟨rfl,rfl⟩;go_wp2_with fail
    go_ret
    rw[y.out];exact⟨_,_,_,rfl,o,s,G⟩
   |some b=>
    simp only[qvc] at O;obtain⟨j,rfl⟩:∃k,j=k+1:=⟨j-1,by omega⟩;have a:=l.out;rw[z03] at a;have d:=s.ok;have f:=zpj (t:=t) (m:=m) d;unfold zhk at a f;have b1:=zev (m:=268435456) d;have Z:=zbo (m:=268435456) d;have b3:=zdo (m:=268435456) (some b) (by omega) d;have M:=fun b e=>(qqj o b e).2
    have ha:New wr (wr.alloc (.cells #[.int .i64 0,.int .i64 0,.int .i64 0,.bool false,.bool false,.int .i64 0,.string ⟨#[]⟩,.int .i64 0,.int .i64 0,.bool false,.int .i64 0,.string ⟨#[]⟩,.int .i64 0,.int .i64 0] 135)):=(qwd _ _).alloc (qq0 _) _;have BP:=qw1 wr 135 #[.int .i64 0,.int .i64 0,.int .i64 0,.bool false,.bool false,.int .i64 0,.string ⟨#[]⟩,.int .i64 0,.int .i64 0,.bool false,.int .i64 0,.string ⟨#[]⟩,.int .i64 0,.int .i64 0];have s2:=s.below ha;have o2:=zba o ha;have G2:=zgt G (zdq (row:=none) ha) (by simp);have a6:=s.lt;have L2:=qwk (zei (m:=268435456) s2 (by omega) (by omega));generalize lenS 268435456 (some b)=H2 at*;obtain⟨Y,S2⟩:=H2;dsimp only at a f b1 Z b3 L2;have b4:=zev (m:=m) Z;have b5:=zbo (m:=m) Z;have b6:=zdo (m:=m) S2 hm.1 Z;clear l o G s;go_wp2_with fail
    refine O.out.mono ?_;rintro e w2 ⟨rfl,rfl⟩;go_wp2_with fail
    refine L2.out.mono ?_;rintro e w3 ⟨rfl,s3,P⟩;have a3:=P.size;simp only[qww] at a3;have p:=BP.grown P (by intro e;injection e with e;omega);have o3:=o2.kept P (.inr (fun e=>by have:=(qqj o2 _ e).1;omega));have G3:=G2.trans P;obtain⟨x0,x1,x2,x3,x4,x5,x6,x7,x8,x9,z,C,D,E⟩:=zec p;have f0:=p.frozen 0;have u:w3.grownBy (w3.setCell ⟨wr.heap.size,0,none⟩ (.int .i64 (Y:Int))) (some wr.heap.size):=zaz;have c1:w3.heap.size<=(w3.setCell ⟨wr.heap.size,0,none⟩ (.int .i64 (Y:Int))).heap.size:=u.size;have s4:=s3.keep u p (by omega) (by decide);have o4:=o3.kept u (.inr (fun e=>by have:=M _ e;omega));have I:=p.set_ 0 (.int .i64 (Y:Int));simp only[qta,qs1] at I;have G4:=zbf G3 u (by omega);have L4:=qwk (zei (m:=m) s4 (by omega) (by omega));generalize lenS m S2=H4 at*;obtain⟨rw,S4⟩:=H4;dsimp only at a f b4 b5 b6 L4;clear L2 o2 G2 P BP s2 s3 o3 G3 p u O;go_wp2_with fail
    refine L4.out.mono ?_;rintro e w5 ⟨rfl,s5,Q⟩;have b7:=Q.size;have r:=I.grown Q (by intro e;injection e with e;omega);have o5:=o4.kept Q (.inr (fun e=>by have:=(qqj o4 _ e).1;omega));have G5:=G4.trans Q;clear x0 x1 x2 x3 x4 x5 x6 x7 x8 x9 z C D E f0 L4 o4 G4 Q I s4;obtain⟨x0,x1,x2,x3,x4,x5,x6,x7,x8,x9,z,C,D,E⟩:=zec r;have f1:=r.frozen 1;have u:w5.grownBy (w5.setCell ⟨wr.heap.size,1,none⟩ (.int .i64 (rw:Int))) (some wr.heap.size):=zaz;have a4:w5.heap.size<=(w5.setCell ⟨wr.heap.size,1,none⟩ (.int .i64 (rw:Int))).heap.size:=u.size;have s6:=s5.keep u r (by omega) (by decide);have o6:=o5.kept u (.inr (fun e=>by have:=M _ e;omega));have J:=r.set_ 1 (.int .i64 (rw:Int));simp only[qta,qs1,qtb] at J;have G6:=zbf G5 u (by omega);have L6:=qwk (qau (t:=t) s6 (by simp only[qsi] at U b1;omega));have a2:=z3f (t:=t) b5;generalize getA t S4=H6 at*;obtain⟨⟨nn,bb,⟨p1,p2,p3,p4,p5⟩,⟨q1,q2,q3,q4,q5⟩⟩,S6⟩:=H6;dsimp only at a f L6 a2;have y:=qwk a;clear s5 o5 u r G5 a;go_wp2_with fail
    refine L6.out.mono ?_;rintro e w7 ⟨rfl,s7,R⟩;rw[show zcm (nn,bb,(p1,p2,p3,p4,p5),(q1,q2,q3,q4,q5))= .agg #[.int .i64 nn,.bool bb,.bool p1,.int .i64 p2,.string (zaf p3),.int .i64 p4,.int .i64 p5,.bool q1,.int .i64 q2,.string (zaf q3),.int .i64 q4,.int .i64 q5] from rfl];have b8:=R.size;have K:=J.grown R (by intro e;injection e with e;omega);have o7:=o6.kept R (.inr (fun e=>by have:=(qqj o6 _ e).1;omega));have G7:=G6.trans R;clear x0 x1 x2 x3 x4 x5 x6 x7 x8 x9 z C D E f1 L6 o6 G6 R J s6;go_wp2_with (first
     |(refine zrn rfl 133 (.tmp 32) (.tmp 31) rfl wr.heap.size 2 rfl rfl K (by simp) (by kernel_rfl) (by simp[Value.oneCell']) ?_
       intro w8 L T;simp only[qta,qs1,qtb] at L;have s8:=s7.keep T K (by omega) (by decide);have o8:=o7.kept T (.inr (fun e=>by have:=M _ e;omega));have b9:=T.size;have G8:=zbf G7 T (by omega);obtain⟨x0,x1,x2,x3,x4,x5,x6,x7,x8,x9,z,C,D,E⟩:=zec L;clear K s7 o7 G7 T)
     |(refine zd9 qp9 rfl (.tmp 33) (.tmp 35) rfl (W:=w) (B:=0) (base:=w.heap.size) (n:=q) o8 rfl rfl (zsy G8) (qq1 _) (by omega) rfl (by simp[Value.oneCell']) (by omega) (by simp only[maxLen];omega) ?_
       intro A9 c9 w9 a5 _ o9 g9 _ c0 _;have s9:=s8.pushRow o8 g9 (by decide) (by decide);have G9:=zgt G8 g9 (fun b e=>(qqj o8 b e).1);have o9:w9.ownsRow w.heap.size 135 14 (.slice A9 (q+1) c9) (q+1) (recs zh1 (x++[((Y:Int),(rw:Int),(nn,bb,(p1,p2,p3,p4,p5),(q1,q2,q3,q4,q5)))])):=by rw[zbe];exact o9
       have a0:Hid (X=((x++[((Y:Int),(rw:Int),(nn,bb,(p1,p2,p3,p4,p5),(q1,q2,q3,q4,q5)))])++(zc1 t m j S6).1,(zc1 t m j S6).2)):=qwk (by rw[y.out];simp);clear o8 s8 G8 g9 y L))
    go_roundw
    case rel=>exact⟨j,q+1,c9,A9,_,S6,by go_num,rfl,o9,by omega,s9,by simp only[qsi] at U b1;omega,G9,a0⟩
    case measure=>simp[intOf]
  ·obtain rfl:j=0:=by omega
   have a:=l.out;have e0:zc1 t m 0 F=([],F):=rfl;rw[e0,qra] at a;have y:=qwk a;clear a l e0;go_wp2_with fail
   go_ret
   rw[y.out];exact⟨_,_,_,rfl,o,s,G⟩
end Go.Proofs.Y
namespace Go.Hm
open Go Go.RowKit
theorem zem{w:World}{base a sz c n l:Nat}{e f:TypeId}{v g:Value}{xs d:List Value}(h:w.ownsRow base e sz v n xs)(i:w.ownsRow a f c g l d)(b:e≠f):v.ownBlock=none\/v.ownBlock≠g.ownBlock:=by
 rcases hu:v.ownBlock with _|k
 ·exact .inl rfl
 ·refine .inr fun j=>zp8 h i b k ?_ hu
  unfold zbt;rw[<-j];simp
theorem zvk(D:List ChD)(x:ChD):recs chV (D++[x])=recs chV D++[.slice x.1 x.2.2.length x.2.1]:=by rw[zbe];rfl
end Go.Hm
namespace Go.Proofs.Y
open Go.RowKit Go.Hm
theorem zow{m:Int}:∀(cs:List za2) (c:za2) (S:St),zbk m (cs++[c]) S=((zbk m cs S).1++[(zdl c.2.1 m (zbk m cs S).2).1],(zdl c.2.1 m (zbk m cs S).2).2)
 | [],_,_=>rfl
 |x::cs,c,S=>by
  have:=zow (m:=m) cs c (zdl x.2.1 m S).2;simp only[qr0,zbk,this]
theorem ztv{t m:Int}:∀(k:Nat) {S:St},S.ok->((zc1 t m k S).2.getD []).length<=(S.getD []).length
 |0,_,_=>qq0 _
 |_+1,none,_=>qq0 _
 |k+1,some b,h=>by
  have h1:=ztv (t:=t) (m:=m) k (zpj (t:=t) (m:=m) h);have e:((zhk t m (some b)).2.getD []).length<=((some b:St).getD []).length:=by unfold zhk;have a:=zev (m:=268435456) h;have d:=zev (m:=m) (zbo (m:=268435456) h);have c:=z3f (t:=t) (zbo (m:=m) (zbo (m:=268435456) h));dsimp only;omega
  simp only[zc1];omega
theorem ztw{t m:Int}{S:St}(h:S.ok):((zdl t m S).2.getD []).length<=(S.getD []).length:=by have a:=zev (m:=m) h;have b:=ztv (t:=t) (m:=m) (lenS m S).1 (zbo (m:=m) h);unfold zdl;omega
structure ChOwn(w:World)(B:Nat)(A:Option Addr)(d:Nat)(D:List ChD):Prop where
 row:w.ownsRow B 136 1 (.slice A D.length d) D.length (recs chV D)
 pages:∀x∈D,w.ownsRow B 135 14 (.slice x.1 x.2.2.length x.2.1) x.2.2.length (recs zh1 x.2.2)
theorem ChOwn.later{w w':World}{B:Nat}{A:Option Addr}{d:Nat}{D:List ChD}(h:ChOwn w B A d D)(b:New w w'):ChOwn w' B A d D:=⟨zba h.row b,fun x a=>zba (h.pages x a) b⟩
theorem ChOwn.far{w w':World}{B g:Nat}{A:Option Addr}{d:Nat}{D:List ChD}(h:ChOwn w B A d D)(a:w.grownBy w' (some g))(c:g<B):ChOwn w' B A d D:=
 ⟨h.row.kept a (.inr (fun e=>by have:=(qqj h.row _ e).1;omega)),fun x b=>(h.pages x b).kept a (.inr (fun e=>by have:=(qqj (h.pages x b) _ e).1;omega))⟩
theorem ChOwn.blk{w w':World}{B g:Nat}{A:Option Addr}{d:Nat}{D:List ChD}{t:TypeId}{cs:Array Value}(h:ChOwn w B A d D)(a:Blk w g t cs)(b:w.grownBy w' (some g))(e:136≠t)(f:135≠t):ChOwn w' B A d D:=
 ⟨h.row.kept b (.inr (zat h.row a e)),fun x c=>(h.pages x c).kept b (.inr (zat (h.pages x c) a f))⟩
def qci(G:za6)(g:Nat)(S:St)(w:World)(e:Ending)(w':World):Prop:=
 ∃A d D,e= .returned (.agg #[.int .i64 G.1,.slice A D.length d])/\D.map (·.2.2)=G.2/\ChOwn w' w.heap.size A d D/\CurS w' g S/\w.grownBy w' (some g)
theorem qqa:ElT Tryz.prog 112 136 (.slice none 0 0) 1 24:=⟨by kernel_rfl,by kernel_rfl,rfl,by omega⟩
theorem zya{w:World}{g base cc:Nat}{S:St}{m:Int}{Ac:Option Addr}{L:List za2}(h:CurS w g S)(hl:(S.getD []).length<=140737488351232)(hm:0<=m/\m<=65536)
 (hL:w.ownsRow base 71 3 (.slice Ac L.length cc) L.length (recs zle L))(e0:L.length<=100000):
 Calls Tryz.prog 99 #[.pointer (some ⟨g,0,none⟩),.slice Ac L.length cc,.int .i64 m] w (qci (zdx (fun r=>r) L m S).1 g (zdx (fun r=>r) L m S).2 w):=by
 obtain⟨X,M⟩:∃X,X=zdx (fun r=>r) L m S:=⟨_,rfl⟩;rw[<-M];unfold zdx at M;have d5:=h.lt;have e7:=zdo (m:=m) S hm.1 h.ok;have P:=zbo (m:=m) h.ok;have c1:=zev (m:=m) h.ok;obtain⟨cb,b6⟩:=h.blk;have V:=zat hL b6 (by decide);have d0:=qwk (fun(W:World) (G:w.grownBy W (some g))=>hL.kept G (.inr V));have z:New w (w.alloc (.cells #[.int .i64 0,.slice none 0 0] 114)):=(qwd _ _).alloc (qq0 _) _;have C:=qw1 w 114 #[.int .i64 0,.slice none 0 0];have s0:=h.below z;have L1:=qwk (zei (m:=m) s0 (by omega) (by omega));generalize lenS m S=H at*;obtain⟨N,S1⟩:=H;dsimp only at*;have HX:=qwk M;clear M h hL b6 V s0;go_enter Tryz.func99,Tryz.ntmps99
 go_wp2_with fail
 refine L1.out.mono ?_;rintro e w1 ⟨rfl,s1,g1⟩;have d7:=g1.size;simp only[qww] at d7;have l:=C.grown g1 (by intro e;injection e with e;omega);have O:New w1 (w1.alloc (.cells #[.int .i64 (N:Int),.slice none 0 0] 114)):=(qwd _ _).alloc (qq0 _) _;have BQ:=qw1 w1 114 #[.int .i64 (N:Int),.slice none 0 0];have n:=l.below O l.lt;have s2:=s1.below O;have G2:=zgt ((zdq (row:=some g) z).trans g1) (zdq (row:=none) O) (by simp);have e6:w.heap.size<w1.heap.size:=by omega
 clear L1 C l s1 g1 z O;go_wp2_with fail
 generalize w1.heap.size=gq at*;go_loopw [16] (fun i wr=>∃(k d:Nat) (A:Option Addr) (D:List ChD),k<=L.length/\i= .int .i64 (k:Int)/\Blk wr gq 114 #[.int .i64 (N:Int),.slice A D.length d]/\Blk wr w.heap.size 114 #[.int .i64 0,.slice none 0 0]
  /\ChOwn wr w.heap.size A d D/\Hid (D.map (·.2.2)=(zbk (N:Int) (L.take k) S1).1)/\Hid (D.length=k)/\CurS wr g (zbk (N:Int) (L.take k) S1).2/\((zbk (N:Int) (L.take k) S1).2.getD []).length<=140737488351232/\w.grownBy wr (some g)) (fun i _=>L.length-(intOf i).toNat)
 case atStart=>exact⟨0,0,none,[],qq1 _,rfl,BQ,n,⟨zd8,by simp⟩,qwk rfl,qwk rfl,s2,by simp only[qrq,zbk];omega,G2⟩
 case round=>
  obtain⟨k,d,A,D,hk,rfl,B,C,CO,HD,b5,s,d6,G⟩:=hrel;clear BQ n s2 G2 P c1;have e2:D.length<=100000:=by have:=b5.out;omega
  have e5:=G.size;by_cases b8:k<L.length
  ·have oL:=d0.out wr G
   obtain⟨al,rfl,d4,f0,f1,f2⟩:=(qwz oL).colT b8;have c2:=zac L k zeo b8;have o:=zow (m:=(N:Int)) (L.take k) (L.getD k zeo) S1;rw[<-c2] at o;have P:=s.ok;generalize(zbk (N:Int) (L.take k) S1).2=Sk at*;have b7:=ztw (t:=(L.getD k zeo).2.1) (m:=(N:Int)) P;have J:=fun(W:World) (hs:CurS W g Sk)=>zx9 (t:=(L.getD k zeo).2.1) (m:=(N:Int)) hs d6 (by omega)
   rw[<-HD.out] at o;generalize L.getD k zeo=d2 at*;obtain⟨nm,t,nu⟩:=d2;dsimp only at f0 f1 f2 o b7 J;generalize zdl t (N:Int) Sk=H at*;obtain⟨Z,S5⟩:=H;dsimp only at o b7 J;have z:New wr (wr.alloc (.cells #[.string (zaf nm),.int .i64 t,.bool nu] 71)):=(qwd _ _).alloc (qq0 _) _;have BC:=qw1 wr 71 #[.string (zaf nm),.int .i64 t,.bool nu];have B1:=B.below z B.lt;have l:=C.below z C.lt;have I:=CO.later z;have s1:=s.below z;have G1:=zgt G (zdq (row:=none) z) (by simp);have a4:=qwk o;have e4:=s.lt;have e3:=fun b e=>(qqj CO.row b e).2
   clear B C CO s G d4 c2 o HD oL P z;have c4:wr.heap.size<(wr.alloc (.cells #[.string (zaf nm),.int .i64 t,.bool nu] 71)).heap.size:=by simp
   obtain⟨y0,y1,y2⟩:=zan BC;obtain⟨z0,z1⟩:=zb3 B1;have b9:gq∉(g::zbt (.slice A D.length d)):=by
    intro hm;rcases qsm.1 hm with e|e
    ·omega
    ·exact zfo I.row B1 (by decide) e
   have c0:wr.heap.size∉(g::zbt (.slice A D.length d)):=by
    intro hm;rcases qsm.1 hm with e|e
    ·omega
    ·exact zfo I.row BC (by decide) e
   go_wp2_with fail
   refine zc6 (Turns (g::zbt (.slice A D.length d))) 11 [(1,0),(0,1),(1,2),(1,3),(0,4),(1,5),(0,6),(2,7),(2,8),(2,9),(1,10),(2,11)]
    (qxc _) qxd (by kernel_rfl) (by kernel_rfl) (by kernel_rfl) (by kernel_rfl) ?_
   have F:=qwk (fun(W:World) (hW:Turns (g::zbt (.slice A D.length d)) (wr.alloc (.cells #[.string (zaf nm),.int .i64 t,.bool nu] 71)).drew W)=>qtc (B1.drew.touch hW b9) (BC.drew.touch hW c0));have s2:=s1.below (qw6 _);have a1:=I.later (qw6 _);have B2:=B1.drew;have n:=l.drew;have G2:=zgt G1 (zdq (row:=none) (qw6 _)) (by simp);have a2:=qwk (J _ s2);clear y0 y1 y2 z0 z1 B1 l I s1 G1 J;obtain⟨wa,a6⟩:∃wa,wa=(wr.alloc (.cells #[.string (zaf nm),.int .i64 t,.bool nu] 71)).drew:=⟨_,rfl⟩;have e1:wr.heap.size<wa.heap.size:=by rw[a6];exact c4
   rw[<-a6] at F s2 a1 B2 n G2 a2⊢;clear a6 BC c4;repeat(first
    |(refine zc7 rfl rfl (v:=?_) (fun W hW=>?_) ?_;rotate_left;(obtain⟨F1,F2⟩:=F.out W hW;obtain⟨y0,y1,y2⟩:=zan F2;obtain⟨z0,z1⟩:=zb3 F1;clear F1 F2;go_simp<;> with_reducible rfl);simp only[Act.put,qta,qs1,qtb])
    |(refine zb8 rfl rfl (v:=?_) (fun W=>?_) ?_;rotate_left;(go_simp<;> with_reducible rfl);simp only[Act.put,qta,qs1,qtb]))
   refine zbh rfl rfl (fun K u=>?_);go_simp
   (with_reducible refine a2.out.mono ?_)
   rintro e w8 ⟨A8,n8,c8,rfl,o8,s8,g8⟩;refine u _ _ (.inr (.inr (qxf g8 (by simp)))) ?_;clear u;obtain rfl:n8=Z.length:=(qwz o8).lenPage;have e8:=g8.size;have b2:=a1.far g8 d5;have B8:=B2.grown g8 (by intro e;injection e with e;omega);have a0:=n.grown g8 (by intro e;injection e with e;omega);have G8:=G2.trans g8;have o8:=zfd o8 (show w.heap.size<=wa.heap.size by omega);clear F a2 a1 B2 n G2 s2 g8;refine zbh rfl rfl (fun K u=>?_);go_simp
   refine u _ _ (.inr (.inr (qxe ((qwd _ _).alloc (qq0 _) _)))) ?_;clear u;have RL:=qxk w8 136 #[.slice A8 Z.length c8] 1 1 [.slice A8 Z.length c8] rfl rfl;have j:New w8 (w8.alloc (.cells #[.slice A8 Z.length c8] 136)):=(qwd _ _).alloc (qq0 _) _;have a:=b2.later j;have o9:=zba o8 j;have s9:=s8.below j;have B9:=B8.below j B8.lt;have E:=a0.below j a0.lt;have T:=zgt G8 (zdq (row:=none) j) (by simp);have d8:=j.size;clear b2 o8 s8 B8 a0 G8 j;obtain⟨wb,c3⟩:∃wb,wb=w8.alloc (.cells #[.slice A8 Z.length c8] 136):=⟨_,rfl⟩;rw[<-c3] at RL a o9 s9 B9 E T d8⊢;have d3:(Value.ownBlock (.slice (some ⟨w8.heap.size,0,none⟩) 1 1))=some w8.heap.size:=rfl;clear c3 d3;refine zbh rfl rfl (fun K u=>?_);refine zy9 qqa (.tmp 21) (.tmp 28) rfl (W:=w) (B:=0) (base:=w.heap.size) a.row RL rfl rfl (zsy T) (qq1 _) (by omega) (by simp[Value.oneCell']) (by omega) (by simp only[maxLen];omega) ?_;intro p q Q _ _ a7 f _;refine u _ _ (.inr (.inr ((qxl f).more (fun x y=>quq _ y)))) ?_;clear u;have c:=B9.touch (qxl f) (zfo a.row B9 (by decide));have R:=E.touch (qxl f) (zfo a.row E (by decide));have c5:=s9.pushRow a.row f (by decide) (by decide);have b3:=zgt T f (fun b e=>(qqj a.row b e).1);have a5:∀x∈D,Q.ownsRow w.heap.size 135 14 (.slice x.1 x.2.2.length x.2.1) x.2.2.length (recs zh1 x.2.2):=fun x y=>(a.pages x y).kept f (zem (a.pages x y) a.row (by decide))
   have a8:=o9.kept f (zem o9 a.row (by decide));have x0:=c.cell 1;have y0:=c.frozen 1;simp at x0;have gS:Q.grownBy (Q.setCell ⟨gq,1,none⟩ (.slice p (D.length+1) q)) (some gq):=zaz;clear a o9 s9 B9 E T f RL;refine zb8 rfl rfl (v:=?_) (fun W=>?_) ?_;rotate_left
   ·go_simp<;> with_reducible rfl
   simp only[Act.put,qta,qs1,qtb];refine zbh rfl rfl (fun K u=>?_);go_simp
   refine u _ _ (.inr (.inl rfl)) ?_;clear u x0 y0;refine zgm ?_;have b1:ChOwn (Q.setCell ⟨gq,1,none⟩ (.slice p (D.length+1) q)) w.heap.size p q (D++[(A8,c8,Z)]):=by
    constructor
    ·rw[zvk,qrp]
     exact a7.kept gS (.inr (zat a7 c (by decide)))
    ·intro x y
     rcases qr5.1 y with y|y
     ·exact(a5 x y).kept gS (.inr (zat (a5 x y) c (by decide)))
     ·rw[qr6.1 y]
      exact a8.kept gS (.inr (zat a8 c (by decide)))
   have a9:=c.set_ 1 (.slice p (D.length+1) q);simp only[qta,qs1,qtb] at a9;have b0:=R.grown gS (by intro e;injection e with e;omega);have d9:=c5.keep gS c (by omega) (by decide);have c6:=zbf b3 gS (by omega);have b4:Hid ((D++[(A8,c8,Z)]).map (fun x:ChD=>x.2.2)=(zbk (N:Int) (L.take (k+1)) S1).1):=qwk (by rw[a4.out,que];rfl);have Y:(zbk (N:Int) (L.take (k+1)) S1).2=S5:=by rw[a4.out]
   have U:=qwk Y;clear gS a5 a7 a8 c5 b3 R c a4 Y;go_wp2_with fail
   go_roundw
   case rel=>exact⟨k+1,q,p,D++[(A8,c8,Z)],by omega,by go_num,by rw[qrp];exact a9,b0,b1,b4,qwk (by rw[qrp,b5.out];rfl),by rw[U.out];exact d9,by rw[U.out];omega,c6⟩
   case measure=>simp[intOf];omega
  ·obtain rfl:k=L.length:=by omega
   obtain⟨z0,z1⟩:=zb3 B;have M:=HX.out;rw[quw] at s;have a3:=HD.out;rw[quw] at a3;have d1:=qwk M;have HS:=qwk s;have c9:=qwk a3;have HG:=qwk G;have c7:=qwk CO;clear M s HD a3 G CO
   go_wp2_with (refine zal rfl 114 (.tmp 6) (.tmp 32) rfl w.heap.size _ rfl rfl C (by kernel_rfl) rfl (by simp[Value.oneCell']) ?_
                intro W9 BR T;obtain⟨s0,s1⟩:=zb3 BR)
   have M:=d1.out;subst M;exact bodyPost_ret (v:= .agg #[.int .i64 (N:Int),.slice A D.length d]) (by simp[results,Tryz.results99,go_sem,s0,s1]) rfl ⟨A,d,D,rfl,c9.out,c7.out.blk C T (by decide) (by decide),HS.out.keep T C (by omega) (by decide),zbf HG.out T (qq0 _)⟩
end Go.Proofs.Y
