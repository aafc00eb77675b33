import Derived.Test.YtbahbnbpmfgimaaGreatDoorBun41
import Derived.Test.YtbahbnbpmfgimaaGreatDoorBun42
set_option maxHeartbeats 2000000
set_option maxRecDepth 100000
namespace Go.Hm
open Go Go.RowKit
abbrev dZ:ze9:=(none,0,[])
def zsh(d:ze9):Value:= .slice d.1 d.2.2.length d.2.1
theorem zqj{α:Type}{f:α->List Value}(hf:∀x,(f x).length=1):∀(X:List α) (x:α) (k:Nat) {v:Value},f x=[v]->(recs f X).toArray.setIfInBounds k v=(recs f (X.set k x)).toArray
 | [],x,k,v,hv=>by simp[recs]
 |y::X,x,0,v,hv=>by
  have h1:=hf y
  match hy:f y,h1 with
  | [a],_=>simp[recs,hy,hv]
 |y::X,x,k+1,v,hv=>by
  have h1:=hf y;have h2:=zqj hf X x k hv
  match hy:f y,h1 with
  | [a],_=>
    have e:∀Z:List α,recs f (y::Z)=a::recs f Z:=fun Z=>by simp[recs,hy]
    rw[qoj,e,e];rw[qoi] at h2⊢;rw[qoj];have:=congrArg Array.toList h2;simp only at this;rw[this]
theorem qej{α:Type}{f:α->List Value}(hf:∀x,(f x).length=1)(X:List α)(d:α)(k:Nat)(h:k<X.length){v:Value}(hv:f (X.getD k d)=[v]):(recs f X).toArray[k]? =some v:=by have e:=zot (f:=f) (sz:=1) hf X d k 0 h (by omega);rw[qmd,qph] at e;rw[List.getElem?_toArray,e,hv];rfl
theorem zt9{α:Type}{D:List α}{j:Nat}{d x:α}(h:j<D.length):(D.set j x).getD j d=x:=by rw[qnp,qol h];rfl
theorem z1q{α:Type}{D:List α}{i j:Nat}{d x:α}(h:i≠j):(D.set j x).getD i d=D.getD i d:=by rw[qnp,List.getElem?_set_ne (by omega),qnp]
end Go.Hm
namespace Go.Proofs.Y
open Go.RowKit Go.Hm
structure ColsIn(w:World)(B:Nat)(D:List ze9):Prop where
 rows:RowsIn w B D
 apart:∀i j,i<D.length->j<D.length->i≠j->(zsh (D.getD i dZ)).ownBlock=none\/(zsh (D.getD i dZ)).ownBlock≠(zsh (D.getD j dZ)).ownBlock
theorem ColsIn.later{w w':World}{B:Nat}{D:List ze9}(h:ColsIn w B D)(hb:New w w'):ColsIn w' B D:=⟨h.rows.later hb,h.apart⟩
theorem ColsIn.keepT{w w':World}{B g:Nat}{t:TypeId}{cs:Array Value}{D:List ze9}(h:ColsIn w B D)(hT:Blk w g t cs)(hne:75≠t)(hg:w.grownBy w' (some g)):ColsIn w' B D:=⟨h.rows.keepT hT hne hg,h.apart⟩
theorem ColsIn.nil{w:World}{B n:Nat}:ColsIn w B (List.replicate n dZ):=by
 refine⟨fun d hd=>?_,fun i j hi hj hne=>?_⟩
 ·rw[qq0 hd]
  exact zdx
 ·rw[qom] at hi
  left;rw[qnp,qq1,if_pos hi];rfl
theorem ColsIn.at_{w:World}{B j:Nat}{D:List ze9}(h:ColsIn w B D)(hj:j<D.length):w.ownsRow B 75 5 (zsh (D.getD j dZ)) (D.getD j dZ).2.2.length (recs za4 (D.getD j dZ).2.2):=h.rows _ (zax dZ hj)
theorem ColsIn.put{w w':World}{B j:Nat}{D:List ze9}{d:ze9}(h:ColsIn w B D)(hj:j<D.length)(hd:w'.ownsRow B 75 5 (zsh d) d.2.2.length (recs za4 d.2.2))(hg:w.grownBy w' (zsh (D.getD j dZ)).ownBlock)
 (hat:(zsh d).ownBlock=(zsh (D.getD j dZ)).ownBlock\/ ∃g,(zsh d).ownBlock=some g/\w.heap.size<=g):ColsIn w' B (D.set j d):=by
 have hap:∀i,i<D.length->i≠j->(zsh (D.getD i dZ)).ownBlock=none\/(zsh (D.getD i dZ)).ownBlock≠(zsh d).ownBlock:=by
  intro i hi hne;rcases hat with hat|⟨g,hat,hgg⟩
  ·rw[hat]
   exact h.apart i j hi hj hne
  ·rcases hu:(zsh (D.getD i dZ)).ownBlock with _|k
   ·exact .inl rfl
   ·right
    rw[hat];intro e;injection e with e;have:=(qln (h.at_ hi) _ hu).2;omega
 refine⟨fun x hx=>?_,fun i k hi hk hne=>?_⟩
 ·obtain⟨i,hi,rfl⟩:=qo4 hx
  have e:(D.set j d)[i]'hi=(D.set j d).getD i dZ:=by rw[qnp,qlx hi];rfl
  have hi:i<D.length:=by simpa using hi
  rw[e];by_cases hij:i=j
  ·subst hij
   rw[zt9 hj];exact hd
  ·rw[z1q hij]
   exact qlm (h.at_ hi) hg (h.apart i j hi hj hij)
 ·rw[ql9] at hi hk
  by_cases hij:i=j
  ·subst hij
   rw[zt9 hi,z1q (fun e=>hne e.symm)];exact zgj (hap k hk (fun e=>hne e.symm))
  ·rw[z1q hij]
   by_cases hkj:k=j
   ·subst hkj
    rw[zt9 hk];exact hap i hi hij
   ·rw[z1q hkj]
    exact h.apart i k hi hk hne
structure TabSt(w0:World)(B gt gd:Nat)(L:List zbi)(Aq:Option Addr)(cq:Nat)(r:Int)(fa:Array Value)(w:World)(D:List ze9):Prop where
 new:New w0 w
 tab:Blk w gt 56 #[.slice Aq L.length cq,.int .i64 r,.slice (some ⟨gd,0,none⟩) L.length L.length]
 cols:w.ownsRow B 71 3 (.slice Aq L.length cq) L.length (recs zl3 L)
 data:Blk w gd 76 (recs zle D).toArray
 rows:ColsIn w B D
 res:Blk w (w0.heap.size+1) 56 #[.slice none 0 0,.int .i64 0,.slice none 0 0]
 foot:Blk w w0.heap.size 79 fa
theorem TabSt.later{w0 w w':World}{B gt gd:Nat}{L:List zbi}{Aq:Option Addr}{cq:Nat}{r:Int}{fa:Array Value}{D:List ze9}(h:TabSt w0 B gt gd L Aq cq r fa w D)(hb:New w w'):TabSt w0 B gt gd L Aq cq r fa w' D:=
 ⟨qr0 h.new hb,h.tab.below hb h.tab.lt,za8 h.cols hb,h.data.below hb h.data.lt,h.rows.later hb,h.res.below hb h.res.lt,h.foot.below hb h.foot.lt⟩
theorem TabSt.put{w0 w w6 w7:World}{B gt gd j:Nat}{L:List zbi}{Aq:Option Addr}{cq:Nat}{r:Int}{fa:Array Value}{D:List ze9}{d:ze9}(h:TabSt w0 B gt gd L Aq cq r fa w D)(hj:j<D.length)(hB:w0.heap.size<=gd)
 (hn:New w0 w6)(o6:w6.ownsRow B 75 5 (zsh d) d.2.2.length (recs za4 d.2.2))(g6:w.grownBy w6 (zsh (D.getD j dZ)).ownBlock)
 (hat:(zsh d).ownBlock=(zsh (D.getD j dZ)).ownBlock\/ ∃g,(zsh d).ownBlock=some g/\w.heap.size<=g)
 (BD7:Blk w7 gd 76 ((recs zle D).toArray.setIfInBounds j (zsh d)))(g7:w6.grownBy w7 (some gd)):TabSt w0 B gt gd L Aq cq r fa w7 (D.set j d):=by
 have row:=h.rows.at_ hj;have BD6:=h.data.grown g6 (fun e=>zav row h.data (by decide) e.symm);have BT6:=h.tab.grown g6 (fun e=>zav row h.tab (by decide) e.symm);have BR6:=h.res.grown g6 (fun e=>zav row h.res (by decide) e.symm);have BF6:=h.foot.grown g6 (fun e=>zav row h.foot (by decide) e.symm);have C6:=qlm h.cols g6 (zef h.cols row (by decide));refine⟨zbo hn g7 hB (ql6 _),BT6.grown g7 (fun e=>by injection e with e;exact qrx BT6 BD6 (by decide) e),qlm C6 g7 (.inr (zav C6 BD6 (by decide))),?_,(h.rows.put hj o6 g6 hat).keepT BD6 (by decide) g7,
  BR6.grown g7 (fun e=>by injection e with e;exact qrx BR6 BD6 (by decide) e),BF6.grown g7 (fun e=>by injection e with e;exact qrx BF6 BD6 (by decide) e)⟩
 have e:=zqj (f:=zle) (fun _=>rfl) D d j (v:=zsh d) rfl;rw[e] at BD7;exact BD7
structure PgsIn(w:World)(A:Option Addr)(c:Nat)(R:List zgp):Prop where
 row:Reads w w.heap.size 1 A R.length (recs zgq R)
 cap:R.length<=c
 pages:∀d∈R,BytIn w d/\(∀x∈d.2.2,x<256)/\d.2.2.length<=140737488351232
theorem PgsIn.later{w w':World}{A:Option Addr}{c:Nat}{R:List zgp}(h:PgsIn w A c R)(hb:New w w'):PgsIn w' A c R:=⟨qsg h.row hb,h.cap,fun d hd=>⟨(h.pages d hd).1.later hb,(h.pages d hd).2⟩⟩
theorem PgsIn.cut{w:World}{A:Option Addr}{c m:Nat}{R:List zgp}(h:PgsIn w A c R)(hm:m<=R.length):PgsIn w (if c=m then A else A.map (·.add (m*1))) (c-m) (R.drop m):=by
 refine⟨?_,by have:=h.cap;rw[ql0];omega,fun d hd=>h.pages d (qoo hd)⟩;have:=h.row.cut (k:=m) hm h.cap;rw[ql0];have e:(recs zgq R).drop (m*1)=recs zgq (R.drop m):=by
  rw[qmd];clear this h;induction R generalizing m with
  |nil=>simp[recs]
  |cons x R ih=>
   cases m with
   |zero=>rfl
   |succ m=>
    have:=ih (m:=m) (by simpa using hm);simpa[recs,zgq] using this
 rw[e] at this;exact this
structure WrT where
 Ac:Option Addr
 cc:Nat
 L:List zbi
 r:Int
 Ad:Option Addr
 cd:Nat
 D:List ze9
 gr:Int
 pr:Int
 Ae:Option Addr
 ce:Nat
 E:List Int
abbrev WrT.dat(T:WrT):List (List zab):=T.D.map (·.2.2)
structure WrIn(w:World)(T:WrT):Prop where
 tab:TabIn w T.Ac T.cc T.L T.Ad T.D
 encs:Reads w w.heap.size 1 T.Ae T.E.length (zap .i64 T.E)
 len:T.D.length=T.L.length
 elen:T.E.length=T.L.length
 few:T.L.length<=64
 rows:0<=T.r/\T.r<=65536
 all:∀d∈T.D,((d.2.2.length:Nat):Int)=T.r
 right:∀c,c<T.L.length-> ∀y∈(T.D.getD c dZ).2.2,zam y (T.L.getD c zf5).2.1 (T.L.getD c zf5).2.2=true
 data:∀d∈T.D,∀y∈d.2.2,CellFine y
 conf:(1<=T.gr/\T.gr<=65536)/\1<=T.pr/\T.pr<=65536
theorem WrIn.later{w w':World}{T:WrT}(h:WrIn w T)(hb:New w w'):WrIn w' T:=⟨h.tab.later hb,qsg h.encs hb,h.len,h.elen,h.few,h.rows,h.all,h.right,h.data,h.conf⟩
def wrC(T:WrT)(V:Value)(z:Int):Array Value:= #[.slice T.Ac T.L.length T.cc,.int .i64 T.r,.slice T.Ad T.D.length T.cd,.int .i64 T.gr,.int .i64 T.pr,.slice T.Ae T.E.length T.ce,V,.int .i64 z]
structure WrOf(w:World)(base g:Nat)(T:WrT)(V:Value)(F:List (List Nat))(z:Int):Prop where
 blk:Blk w g 107 (wrC T V z)
 pages:∃A c P,V= .slice A P.length c/\w.ownsRow base 24 1 (.slice A P.length c) P.length (recs zgq P)/\P.map byP=F/\ ∀d∈P,TR w 5 d.1 d.2.2.length (zah .u8 d.2.2)
def KeepW(W W':World):Prop:=W.heap.size<=W'.heap.size/\ ∀t b cs,t≠107->t≠24->Blk W b t cs->Blk W' b t cs
theorem KeepW.refl(W:World):KeepW W W:=⟨ql6 _,fun _ _ _ _ _ h=>h⟩
theorem KeepW.trans{a b c:World}(h:KeepW a b)(k:KeepW b c):KeepW a c:=⟨qlw h.1 k.1,fun t x cs h1 h2 hb=>k.2 t x cs h1 h2 (h.2 t x cs h1 h2 hb)⟩
theorem KeepW.new{W W':World}(h:New W W'):KeepW W W':=⟨h.size,fun _ _ _ _ _ hb=>hb.below h hb.lt⟩
abbrev qst:=@KeepW.new
theorem KeepW.of{W W':World}{g:Nat}{t:TypeId}{cs:Array Value}(hg:W.grownBy W' (some g))(hB:Blk W g t cs)(ht:t=107\/t=24):KeepW W W':=
 ⟨hg.size,fun t' x cs' h1 h2 hb=>hb.grown hg (fun e=>by
  injection e with e;subst e;unfold Blk at hb hB;rw[hb] at hB;injection hB with hB;injection hB with _ hB;rcases ht with ht|ht
  ·exact h1 (hB.trans ht)
  ·exact h2 (hB.trans ht))⟩
theorem KeepW.row{W W':World}{base n:Nat}{v:Value}{xs:List Value}(o:W.ownsRow base 24 1 v n xs)(hg:W.grownBy W' v.ownBlock):KeepW W W':=by
 rcases hu:v.ownBlock with _|k
 ·rw[hu] at hg
  exact⟨hg.size,fun _ _ _ _ _ hb=>hb.grown hg (by simp)⟩
 ·rw[hu] at hg
  refine⟨hg.size,fun t' x cs' h1 h2 hb=>hb.grown hg (fun e=>?_)⟩;injection e with e;subst e;exact zav o hb (fun e=>h2 e.symm) hu
theorem zet{w:World}{g:Nat}{ty:TypeId}{a0 a1 a2 a3 a4 a5 a6 a7:Value}(h:Blk w g ty #[a0,a1,a2,a3,a4,a5,a6,a7]):
 w.cell? ⟨g,0,none⟩=some a0/\w.cell? ⟨g,1,none⟩=some a1/\w.cell? ⟨g,2,none⟩=some a2/\w.cell? ⟨g,3,none⟩=some a3/\w.cell? ⟨g,4,none⟩=some a4/\w.cell? ⟨g,5,none⟩=some a5/\w.cell? ⟨g,6,none⟩=some a6/\w.cell? ⟨g,7,none⟩=some a7:=by
 have h0:=h.cell 0;have h1:=h.cell 1;have h2:=h.cell 2;have h3:=h.cell 3;have h4:=h.cell 4;have h5:=h.cell 5;have h6:=h.cell 6;have h7:=h.cell 7;simp at h0 h1 h2 h3 h4 h5 h6 h7;exact⟨h0,h1,h2,h3,h4,h5,h6,h7⟩
theorem WrOf.new{w w':World}{base g:Nat}{T:WrT}{V:Value}{F:List (List Nat)}{z:Int}(h:WrOf w base g T V F z)(hb:New w w'):WrOf w' base g T V F z:=by obtain⟨h1,A,c,P,e,h2,h3,h4⟩:=h;exact⟨h1.below hb h1.lt,A,c,P,e,za8 h2 hb,h3,fun d hd=>(h4 d hd).below hb⟩
def z96(T:WrT)(c:Nat)(s:Int × Int)(w0:World)(base g:Nat)(F:List (List Nat))(z:Int)(w:World)(e:Ending)(w':World):Prop:=
 match pgW T.L T.E T.dat c (some (F,z)) s with
 |none=>e= .returned (.tuple #[zty (0,0,zb7),.bool false])/\KeepW w w'/\New w0 w'
 |some x=>e= .returned (.tuple #[zty (zeh T.L T.E T.dat c s),.bool true])/\(∃V',WrOf w' base g T V' x.1 x.2)/\KeepW w w'/\New w0 w'
theorem qjt:Tryz.prog.underlying 76=some (.slice (Tryz.prog.elem 76)):=by kernel_rfl
theorem qju(w:World):(sizeOf (Tryz.prog.elem 76)).run Tryz.prog w= .ok 5 w:=by kernel_rfl
theorem qhv:ElT Tryz.prog 22 24 (.slice none 0 0) 1 24:=⟨by kernel_rfl,by kernel_rfl,rfl,by omega⟩
theorem TR.rowK{w w':World}{e e':TypeId}{A:Option Addr}{n n' sz base:Nat}{xs ys:List Value}{v:Value}(h:TR w e A n xs)(o:w.ownsRow base e' sz v n' ys)(hg:w.grownBy w' v.ownBlock)(hne:e≠e'):TR w' e A n xs:=by
 rcases qmm n with h0|h0
 ·subst h0
  exact⟨⟨h.1.1,fun hn=>absurd hn (by omega)⟩,fun hn=>absurd hn (by omega)⟩
 ·refine h.grown hg (fun ad k ha hk e1=>?_)
  obtain⟨cs,hB⟩:=h.2 h0 ad ha;rw[e1] at hB;exact zav o hB (fun e2=>hne e2.symm) hk
abbrev qsu:=@TR.rowK
theorem z97{w0 w:World}{base g:Nat}{T:WrT}{V:Value}{F:List (List Nat)}{z:Int}{c a b:Nat}(HT:WrIn w0 T)(hn:New w0 w)(hw:WrOf w base g T V F z)(hb0:w0.heap.size<=base)(hb1:base<=w.heap.size)(hg:w0.heap.size<=g)
 (hz:0<=z/\z<=1073741824)(hc:c<T.L.length)(hab:a<=b)(hbr:(b:Int)<=T.r)(hfl:(F.length:Int)<=z):
 Calls Tryz.prog 86 #[.pointer (some ⟨g,0,none⟩),.int .i64 (c:Int),.agg #[.int .i64 (a:Int),.int .i64 (b:Int)]] w (z96 T c ((a:Int),(b:Int)) w0 base g F z w):=by
 obtain⟨hblk,hpages⟩:=hw;have hdm:T.D.getD c dZ∈T.D:=zax dZ (by rw[HT.len];exact hc);have hdl:=HT.all _ hdm;obtain⟨rd,rfine,rcap,rcap2,_⟩:=HT.tab.within _ hdm;have rdat:=HT.data _ hdm;have rright:=HT.right c hc;have hcells:zcd T.dat c ((a:Int),(b:Int))=((T.D.getD c dZ).2.2.drop a).take (b-a):=by unfold zcd WrT.dat;rw[zbw (fun d:ze9=>d.2.2) T.D dZ [] (by rw[HT.len];exact hc)];dsimp only;rw[show((b:Int)-(a:Int)).toNat=b-a by omega,qmt]
 obtain⟨X,hX⟩:∃X,X=pgW T.L T.E T.dat c (some (F,z)) ((a:Int),(b:Int)):=⟨_,rfl⟩;have hB2:zik T.L T.E T.dat c ((a:Int),(b:Int))=pgE (T.L.getD c zf5).2.1 (T.L.getD c zf5).2.2 (T.E.getD c 0) (((T.D.getD c dZ).2.2.drop a).take (b-a)):=by unfold zik;rw[hcells]
 have hI:zeh T.L T.E T.dat c ((a:Int),(b:Int))=(((pgE (T.L.getD c zf5).2.1 (T.L.getD c zf5).2.2 (T.E.getD c 0) (((T.D.getD c dZ).2.2.drop a).take (b-a))).2.length:Int),((((T.D.getD c dZ).2.2.drop a).take (b-a)).length:Int),zmz (T.L.getD c zf5).2.1 (((T.D.getD c dZ).2.2.drop a).take (b-a))):=by unfold zeh;rw[hB2,hcells]
 unfold z96;rw[<-hX,hI];unfold pgW at hX;dsimp only at hX;rw[hB2] at hX;obtain⟨ac,hAc,hac,f0,f1,f2⟩:=(qsg HT.tab.cols hn).colT (i:=c) hc;obtain⟨ad,hAd,hadb,d0⟩:=(qsg HT.tab.data hn).colD (i:=c) (by rw[HT.len];exact hc);obtain⟨ae,hAe,haeb,e0⟩:=(qsg HT.encs hn).int (i:=c) (by rw[HT.elen];exact hc);have hL64:=HT.few;have hlen:=HT.len;have helen:=HT.elen;have hr:=HT.rows;clear HT hcells hB2 hI hdm;obtain⟨Ac,cc,L,r,Ad,cd,D,gr,pr,Ae,ce,E⟩:=T;unfold wrC at hblk;dsimp only at*;subst hAc hAd hAe;have e0z:E.getD c 0=E.getD c 0:=rfl;generalize hEE:E.getD c 0=en at*;generalize D.getD c dZ=d at*;generalize L.getD c ([],0,false)=col at*;obtain⟨dA,dcap,dl⟩:=d;obtain⟨nm,t,nu⟩:=col;dsimp only at*;have hbl:b<=dl.length:=by omega
 have hCl:((dl.drop a).take (b-a)).length=b-a:=by rw[ql2,ql0];omega
 have S1:=qrf (fun(W:World)=>zhu qjt qju dA dl.length dcap a b hab (by omega) W);have RP:Reads w0 w0.heap.size 5 (if dcap=a then dA else dA.map (·.add (a*5))) (b-a) (recs za4 ((dl.drop a).take (b-a))):=by have h1:=rd.cut (k:=a) (cap:=dcap) (by omega) rcap;rw[zou (sz:=5) (fun _=>rfl) dl a (by omega)] at h1;have h2:=h1.take (k:=b-a) (by omega);rwa[ziq (sz:=5) (fun _=>rfl) _ (b-a) (by rw[ql0];omega)] at h2
 have hmem:∀y∈(dl.drop a).take (b-a),y∈dl:=fun y hy=>qoo (qmu hy)
 generalize(if dcap=a then dA else dA.map (·.add (a*5)))=A2 at*;generalize dcap-a=c2 at*;generalize hCs:(dl.drop a).take (b-a)=Cs at*;have hq1:∀y∈Cs,CellFine y:=fun y hy=>rdat y (hmem y hy)
 have hq2:∀y∈Cs,zam y t nu=true:=fun y hy=>rright y (hmem y hy)
 have EN:=qrf (fun(W:World) (hW:New w0 W)=>zzg (cn:=nm) (t:=t) (nu:=nu) (e:=en) (c:=c2) (qsg RP hW) hq1 (by omega));have SO:=qrf (fun(W:World) (hW:New w0 W)=>qjn (t:=t) (c:=c2) (qsg RP hW) (fun y hy=>(by have:=zmm (hq2 y hy);exact this)) (by omega));have SU:=qrf (fun s (hs:IsStat t Cs s)=>IsStat.uniq (fun y hy=>zsg (hq2 y hy)) (fun y hy z hz=>(hq1 y hy).1.2 z hz) hs (zof t Cs));have PLn:=qrf (fun k bb (he:pgE t nu en Cs=(k,bb))=>zzb (fun y hy=>zlh (hq1 y hy)) he);generalize zmz t Cs=sF at*;generalize pgE t nu en Cs=pg at*;obtain⟨pk,pb⟩:=pg;have hpbl:=PLn.out pk pb rfl;generalize b-a=m at*;have HX:=qrf hX;have HCl:=qrf hCl;clear hCs hq1 hq2 hmem rdat rright rd rfine RP hX hCl PLn;obtain⟨w1,hw1⟩:∃w1,w1=(w.alloc (.cells #[.int .i64 (a:Int),.int .i64 (b:Int)] 111)).alloc (.cells #[.int .i64 0,.int .i64 0,.int .i64 0,.bool false,.bool false,.int .i64 0,.string ⟨#[]⟩,.int .i64 0,.int .i64 0,.bool false,.int .i64 0,.string ⟨#[]⟩,.int .i64 0,.int .i64 0] 135):=⟨_,rfl⟩;have n1:New w w1:=by rw[hw1];exact((qq8 _ _).alloc (ql6 _) _).alloc (by simp) _
 have BS:Blk w1 w.heap.size 111 #[.int .i64 (a:Int),.int .i64 (b:Int)]:=by rw[hw1];exact(qrv _ _ _).alloc _
 have BZ:Blk w1 (w.heap.size+1) 135 #[.int .i64 0,.int .i64 0,.int .i64 0,.bool false,.bool false,.int .i64 0,.string ⟨#[]⟩,.int .i64 0,.int .i64 0,.bool false,.int .i64 0,.string ⟨#[]⟩,.int .i64 0,.int .i64 0]:=by rw[hw1];have:=qrv (w.alloc (.cells #[.int .i64 (a:Int),.int .i64 (b:Int)] 111)) 135 #[.int .i64 0,.int .i64 0,.int .i64 0,.bool false,.bool false,.int .i64 0,.string ⟨#[]⟩,.int .i64 0,.int .i64 0,.bool false,.int .i64 0,.string ⟨#[]⟩,.int .i64 0,.int .i64 0];rwa[qrq] at this
 have BW:=hblk.below n1 hblk.lt;have CK:∀(x:Addr) (u:Value),x.block<w.heap.size->w.cell? x=some u->w1.cell? x=some u:=fun x u hx hu=>(qro n1 hx).trans hu
 have hab1:∀n,(ac.add n).block<w.heap.size:=fun n=>by rw[zao];exact hac
 have k0:=CK _ _ (hab1 (c*3)) f0;have k1:=CK ⟨(ac.add (c*3)).block,(ac.add (c*3)).off+1,none⟩ _ (hab1 (c*3)) f1;have k2:=CK ⟨(ac.add (c*3)).block,(ac.add (c*3)).off+2,none⟩ _ (hab1 (c*3)) f2;have k3:=CK _ _ (by rw[zao];exact hadb) d0;have k4:=CK _ _ (by rw[zao];exact haeb) e0;have hz1:=n1.size;have F:=qrf (fun(W:World) (hW:Below w1.heap.size w1 W)=>qok (BW.below hW BW.lt) (qok (BS.below hW BS.lt) (qok ((qro hW (by have:=hab1 (c*3);omega)).trans k0) (qok ((qro hW (p:=⟨(ac.add (c*3)).block,(ac.add (c*3)).off+1,none⟩) (by have:=hab1 (c*3);dsimp only;omega)).trans k1) (qok ((qro hW (p:=⟨(ac.add (c*3)).block,(ac.add (c*3)).off+2,none⟩) (by have:=hab1 (c*3);dsimp only;omega)).trans k2) (qok ((qro hW (by rw[zao];omega)).trans k3) ((qro hW (by rw[zao];omega)).trans k4)))))));have HW1:=qrf hw1;have BZ:=qrf BZ;have BW:=qrf BW;have HP:=qrf hpages;have n01:=qrf (qr0 hn n1);have N1:=qrf n1;have hci:(c:Int)<(L.length:Int):=by omega
 have hcd:(c:Int)<(D.length:Int):=by omega
 have hce:(c:Int)<(E.length:Int):=by omega
 have HBB:=qrf (qok hb0 (qok hb1 hg));clear hw1 n1 BS CK hab1 k0 k1 k2 k3 k4 f0 f1 f2 d0 e0 hac hadb haeb hpages hblk hn hb0 hb1 hg;go_enter Tryz.func86,Tryz.ntmps86
 go_wp2_with fail
 rw[<-HW1.out];refine zaw (Below w1.heap.size) [(true,0),(true,1),(true,2),(true,3),(true,4),(true,5),(true,6),(true,7),(true,8),(true,9),(true,10),(true,11),(true,12),(true,13),(true,14),(true,15),(true,16),(true,17),(true,18),(true,19),(true,20),(false,21),(false,22),(true,23)]
  (qq8 _) qrh (by kernel_rfl) (by kernel_rfl) (by kernel_rfl) (by kernel_rfl) ?_
 obtain⟨wq,hwq⟩:∃wq,wq=w1.drew:=⟨_,rfl⟩;have hU:Below w1.heap.size w1 wq:=by rw[hwq];exact(qq8 _ _).drew
 have HSQ:=qrf (show wq.heap.size=w1.heap.size by rw[hwq];rfl);rw[<-hwq];clear hwq;iterate 21 (refine zaj rfl rfl (v:=?_) (fun W hQ=>?_) ?_;rotate_left;(obtain⟨F1,F2,g0,g1,g2,g3,g4⟩:=F.out W (qrh hU hQ);obtain⟨x0,x1,x2,x3,x4,x5,x6,x7⟩:=zet F1;obtain⟨y0,y1⟩:=zb6 F2;have S2:=S1.out W;clear F1 F2;go_simp<;> with_reducible rfl);simp only[Act.put,qoi,qn8,qoj])
 refine za6 rfl rfl (fun K hK=>?_);go_simp
 have ha:Below w1.heap.size wq (wq.alloc (.cells #[.string ⟨#[]⟩,.int .i64 0,.bool false] 71)):=(qq8 _ _).alloc (qqg HSQ.out.symm) _;refine hK _ _ ha ?_;clear hK;have BCz:=qrv wq 71 #[.string ⟨#[]⟩,.int .i64 0,.bool false];refine za6 rfl rfl (fun K hK=>?_);refine zlw 71 (.tmp 8) (.tmp 19) rfl wq.heap.size #[.string (zai nm),.int .i64 t,.bool nu] rfl rfl BCz (by kernel_rfl) (by simp) (by simp[Value.oneCell']) ?_;intro w2 BC G2;refine hK _ _ (zbo (qq8 _ _) G2 (qqg HSQ.out.symm) (by have:=HSQ.out;simp;omega)) ?_;clear hK;simp only[Act.put];refine zaj rfl rfl (v:=?_) (fun W hQ=>?_) ?_;rotate_left;(go_simp<;> with_reducible rfl);simp only[Act.put,qoi,qn8,qoj];refine zda ?_;have b2:New w1 w2:=zbo (qrh hU ha) G2 (qqg HSQ.out.symm) (ql6 _);have F2:=qrf (fun(W:World) (hW:New w2 W)=>qok (F.out W (qr0 b2 hW)) (BC.below hW BC.lt));have B2:=qrf b2;clear F BCz G2 hU ha;go_wp2_with fail
 refine zaw New [(true,0),(true,1),(true,2),(true,3),(true,4),(true,5),(true,6),(true,7),(true,8),(true,9),(false,10),(true,11),(true,12),(true,13),(true,14),(true,15)]
  qrz qr0 (by kernel_rfl) (by kernel_rfl) (by kernel_rfl) (by kernel_rfl) ?_
 iterate 10 (refine zaj rfl rfl (v:=?_) (fun W hQ=>?_) ?_;rotate_left;(obtain⟨⟨F1,_,_,_,_,_,g4⟩,F3⟩:=F2.out W (qr0 (qr1 _) hQ);obtain⟨x0,x1,x2,x3,x4,x5,x6,x7⟩:=zet F1;obtain⟨y0,y1,y2⟩:=zar F3;clear F1 F3;go_simp<;> with_reducible rfl);simp only[Act.put,qoi,qn8,qoj])
 refine za6 rfl rfl (fun K hK=>?_);go_simp
 (with_reducible refine(EN.out w2.drew (qr0 n01.out (qr0 b2 (qr1 _)))).mono ?_)
 rintro e w3 ⟨A3,m3,c3,rfl,o3,b3⟩;refine hK _ _ b3 ?_;clear hK;obtain rfl:m3=pb.length:=by have:=o3.len;rwa[zaa] at this
 iterate 5 (refine zaj rfl rfl (v:=?_) (fun W hQ=>?_) ?_;rotate_left;(go_simp<;> with_reducible rfl);simp only[Act.put,qoi,qn8,qoj])
 refine zda ?_;have b23:New w2 w3:=qr0 (qr1 _) b3;have b13:=qr0 b2 b23;have BW3:=BW.out.below b13 BW.out.lt;have BZ3:=BZ.out.below b13 BZ.out.lt;have BC3:=BC.below b23 BC.lt;have n03:=qr0 n01.out b13;have n13:=qr0 N1.out b13;obtain⟨x0,x1,x2,x3,x4,x5,x6,x7⟩:=zet BW3;have TR3:=qrf (qry o3);have hbs:=n13.size;clear F2 BW BZ EN N1 n01 b3 b2 B2 BC b13 b23 o3
 go_upto_region 4 with(refine ze5 rfl 3 (.tmp 55) (.tmp 53) rfl g 7 (.int .i64 (z+(pb.length:Int))) rfl rfl BW3 (by simp) (by kernel_rfl) rfl ?_
                       intro w4 BW4 g4 z4;simp only[qoi,qn8,qoj] at BW4)
 have BZ4:=BZ3.grown g4 (by intro e;injection e with e;exact qrx BZ3 BW3 (by decide) e);have BC4:=BC3.grown g4 (by intro e;injection e with e;exact qrx BC3 BW3 (by decide) e);have n04:=zbo n03 g4 HBB.out.2.2 (ql6 _);have k4:KeepW w w4:=(qst n13).trans (KeepW.of g4 BW3 (.inl rfl));have HT4:=qrf (show∀(A:Option Addr) (n:Nat) (xs:List Value),TR w3 5 A n xs->TR w4 5 A n xs from fun _ _ _ h=>h.keep g4 BW3 (by decide));have HR4:=qrf (show∀(v:Value) (n:Nat) (xs:List Value),w.ownsRow base 24 1 v n xs->w4.ownsRow base 24 1 v n xs from fun _ _ _ o=>qlm (za8 o n13) g4 (.inr (zav (za8 o n13) BW3 (by decide))));have HTw:=qrf (show∀(A:Option Addr) (n:Nat) (xs:List Value),TR w 5 A n xs->TR w3 5 A n xs from fun _ _ _ h=>h.below n13);clear x0 x1 x2 x3 x4 x5 x6 x7 BZ3 BC3 n03 n13;have hz4:=g4.size;clear g4 z4 BW3;obtain⟨x0,x1,x2,x3,x4,x5,x6,x7⟩:=zet BW4;by_cases hall:pk=0/\pb.length<=268435456/\z+pb.length<=1073741824
 ·obtain rfl:X=some (F++[pb],z+(pb.length:Int)):=by rw[HX.out,if_pos hall]
  obtain⟨rfl,h2,h3⟩:=hall;have h2:(pb.length:Int)<=268435456:=by omega
  obtain⟨Av,cv,P,rfl,oP,hPF,hPT⟩:=HP.out;have o4:=HR4.out _ _ _ oP;have T4:=qrf (fun d hd=>HT4.out _ _ _ (HTw.out _ _ _ (hPT d hd)));have T4b:=qrf (HT4.out _ _ _ TR3.out);have hPl:P.length<=1073741824:=by rw[<-hPF,qos] at hfl;omega
  have hbl2:=zp8 P;have o4:Go.Hm.Own w4 base 24 (.slice Av P.length cv) (recs zgq P):=by unfold Go.Hm.Own;rw[hbl2];exact o4
  have hbase4:base<=w4.heap.size:=by have:=HBB.out;omega
  have HPF:=qrf hPF;have NO:=qrf n04;have K4:=qrf k4;have HBZ:=qrf BZ4;have HBC:=qrf BC4;have hll:P.length+1<=1073741825:=by omega
  clear HX HT4 HR4 HTw HP TR3 k4 n04 oP hPF hPT hfl hz1 hz4 hbs hpbl hci hcd hce hL64 hlen helen hr hbl hab hbr rcap rcap2 hPl BZ4 BC4 hz;go_upto_region 6 with fail
  clear h2 h3;go_upto_region 7 with(first
   |(at_builtin;refine zgc qhv rfl (.tmp 75) (.tmp 77) rfl (W:=w0) (B:=w0.heap.size) o4 rfl rfl NO.out HBB.out.1 hbase4 rfl (by rw[hbl2];omega) (by rw[hbl2];simp only[maxLen];omega) ?_
     intro A5 c5 w5 _ _ o5 g5 b5 z5 a5;rw[hbl2] at o5⊢;have BW5:=BW4.push o4 g5 (by decide))
   |(refine ze5 rfl 22 (.tmp 80) (.tmp 78) rfl g 6 (.slice A5 (P.length+1) c5) rfl rfl BW5 (by simp) (by kernel_rfl) rfl ?_
     intro w6 BW6 g6 _;simp only[qoi,qn8,qoj] at BW6))
  have o4r:w4.ownsRow base 24 1 (.slice Av P.length cv) P.length (recs zgq P):=by have h:=o4;unfold Go.Hm.Own at h;rwa[hbl2] at h
  have T5:=qrf (fun d hd=>qsu (T4.out d hd) o4r g5 (by decide));have T5b:=qrf (qsu T4b.out o4r g5 (by decide));have BZ5:=qrf (HBZ.out.push o4 g5 (by decide));have BC5:=qrf (HBC.out.push o4 g5 (by decide));have K5:=qrf (K4.out.trans (KeepW.row o4r g5));have hz5:=g5.size;replace b5:=qrf b5;replace o5:=qrf o5;clear g5 o4 BW4 z5 a5 o4r;have BZ6:=BZ5.out.grown g6 (by intro e;injection e with e;exact qrx BZ5.out BW5 (by decide) e);have BC6:=BC5.out.grown g6 (by intro e;injection e with e;exact qrx BC5.out BW5 (by decide) e);have n06:=zbo b5.out g6 HBB.out.2.2 (ql6 _);have WO:WrOf w6 base g ⟨some ac,cc,L,r,some ad,cd,D,gr,pr,some ae,ce,E⟩ (.slice A5 (P.length+1) c5) (F++[pb]) (z+(pb.length:Int)):=by
   refine⟨BW6,A5,c5,P++[(A3,c3,pb)],by rw[qmv];rfl,?_,by rw[qpj,HPF.out];rfl,fun d hd=>?_⟩
   ·have:=qlm (show w5.ownsRow base 24 1 (.slice A5 (P.length+1) c5) (P.length+1) (recs zgq P++[.slice A3 pb.length c3]) by
     have h:=o5.out;unfold Go.Hm.Own at h;rwa[qmv,hbl2] at h) g6 (.inr (fun e=>by obtain⟨cs,hc⟩:=Own.row o5.out _ e;exact qrx hc BW5 (by decide) rfl))
    rw[za7,qmv];exact this
   ·rcases qnd.1 hd with hd|hd
    ·exact(T5.out d hd).keep g6 BW5 (by decide)
    ·obtain rfl:=qne.1 hd
     exact T5b.out.keep g6 BW5 (by decide)
  have K6:=K5.out.trans (KeepW.of g6 BW5 (.inl rfl));have HWO:=qrf WO;have HK6:=qrf K6;have SO6:=qrf (SO.out w6 n06);have N6:=qrf n06;obtain⟨y0,y1,y2⟩:=zar BC6;clear WO K6 BW6 g6 BC6 n06 T5 T5b BZ5 BC5 K5 b5 o5 SO BW5 K4 HBZ HBC T4 T4b NO hbl2 hll;go_wp2_with fail
  refine SO6.out.mono ?_;rintro e w7 ⟨s,rfl,hs,b7⟩;obtain rfl:s=sF:=SU.out s hs;have BZ7:=BZ6.below b7 BZ6.lt;have HS:=qrf (qok (HWO.out.new b7) (qok (HK6.out.trans (qst b7)) (qr0 N6.out b7)));clear SO6 SU HWO HK6 N6 hs b7 BZ6 y0 y1 y2;obtain⟨sn,sb,⟨p1,p2,p3,p4,p5⟩,⟨q1,q2,q3,q4,q5⟩⟩:=s;have e12:zcp (sn,sb,(p1,p2,p3,p4,p5),(q1,q2,q3,q4,q5))= .agg #[.int .i64 sn,.bool sb,.bool p1,.int .i64 p2,.string (zai p3),.int .i64 p4,.int .i64 p5,.bool q1,.int .i64 q2,.string (zai q3),.int .i64 q4,.int .i64 q5]:=rfl;rw[e12];clear e12
  go_wp2_with (refine zan rfl 135 (.tmp 6) (.tmp 89) rfl (w.heap.size+1) #[.int .i64 (pb.length:Int),.int .i64 (m:Int),.int .i64 sn,.bool sb,.bool p1,.int .i64 p2,.string (zai p3),.int .i64 p4,.int .i64 p5,.bool q1,.int .i64 q2,.string (zai q3),.int .i64 q4,.int .i64 q5] rfl rfl BZ7 (by kernel_rfl) rfl (by simp[Value.oneCell']) ?_
               intro w8 BR G8;obtain⟨r0,r1,r2,r3,r4,r5,r6,r7,r8,r9,r10,r11,r12,r13⟩:=zd6 BR)
  obtain⟨h1,h2,h3⟩:=HS.out;refine bodyPost_ret (v:= .tuple #[zty ((pb.length:Int),(m:Int),(sn,sb,(p1,p2,p3,p4,p5),(q1,q2,q3,q4,q5))),.bool true]) (by simp[results,Tryz.results86,go_sem,r0,r1,r2,r3,r4,r5,r6,r7,r8,r9,r10,r11,r12,r13,zty,zhn,zcj,za4]) rfl ⟨by rw[HCl.out],⟨.slice A5 (P.length+1) c5,?_⟩,⟨qlw h2.1 G8.size,fun t' x cs' q1 q2 hb=>(h2.2 t' x cs' q1 q2 hb).grown G8 (by intro e;injection e with e;have:=hb.lt;omega)⟩,zbo h3 G8 (by have:=HBB.out;omega) (ql6 _)⟩;obtain⟨hw7,A9,c9,P9,e9,o9,hP9,hT9⟩:=h1;exact⟨hw7.grown G8 (by intro e;injection e with e;exact qrx hw7 BZ7 (by decide) e),A9,c9,P9,e9,qlm o9 G8 (.inr (zav o9 BZ7 (by decide))),hP9,fun d hd=>(hT9 d hd).keep G8 BZ7 (by decide)⟩
 ·obtain rfl:X=none:=by rw[HX.out,if_neg hall]
  have NO:=qrf n04;have hcase:(pk != 0)=true\/((pk != 0)=false/\(268435456:Int)<(pb.length:Int))\/((pk != 0)=false/\(pb.length:Int)<=268435456/\(1073741824:Int)<z+(pb.length:Int)):=by
   by_cases h1:pk=0
   ·subst h1
    right;by_cases h2:pb.length<=268435456
    ·right
     exact⟨rfl,by omega,by omega⟩
    ·left
     exact⟨rfl,by omega⟩
   ·left
    simpa using h1
  have K4:=qrf k4;clear hall HX HT4 HR4 HTw SO SU HP TR3 k4 n04;rcases hcase with q1|⟨q1,q2⟩|⟨q1,q2,q3⟩;all_goals
   go_wp2_with (refine zan rfl 135 (.tmp 6) (.tmp 70) rfl (w.heap.size+1) _ rfl rfl BZ4 (by kernel_rfl) rfl (by simp[Value.oneCell']) ?_
                intro w5 BR G5;obtain⟨r0,r1,r2,r3,r4,r5,r6,r7,r8,r9,r10,r11,r12,r13⟩:=zd6 BR)
   exact bodyPost_ret (v:= .tuple #[zty (0,0,zb7),.bool false]) (by simp[results,Tryz.results86,go_sem,r0,r1,r2,r3,r4,r5,r6,r7,r8,r9,r10,r11,r12,r13,zty,zhn,zcj,za4,zb7,zbf];rfl) rfl ⟨rfl,⟨qlw K4.out.1 G5.size,fun t' x cs' q1 q2 hb=>(K4.out.2 t' x cs' q1 q2 hb).grown G5 (by intro e;injection e with e;have:=hb.lt;omega)⟩,zbo NO.out G5 (by have:=HBB.out;omega) (ql6 _)⟩
theorem KeepW.far{w W W':World}{g:Nat}(h:KeepW w W)(k:W.grownBy W' (some g))(hg:w.heap.size<=g):KeepW w W':=
 ⟨qlw h.1 k.size,fun t x cs h1 h2 hb=>(h.2 t x cs h1 h2 hb).grown k (by intro e;injection e with e;have:=hb.lt;omega)⟩
theorem KeepW.row2{w W W':World}{base n sz:Nat}{t:TypeId}{v:Value}{xs:List Value}(h:KeepW w W)(o:W.ownsRow base t sz v n xs)(hg:W.grownBy W' v.ownBlock)(hb:w.heap.size<=base):KeepW w W':=
 ⟨qlw h.1 hg.size,fun t' x cs' h1 h2 hb'=>(h.2 t' x cs' h1 h2 hb').grown hg (fun e=>by have:=(qln o _ e.symm).1;have:=hb'.lt;omega)⟩
theorem KeepW.own{w W:World}{base n sz:Nat}{t:TypeId}{v:Value}{xs:List Value}(h:KeepW w W)(o:w.ownsRow base t sz v n xs)(h1:t≠107)(h2:t≠24):W.ownsRow base t sz v n xs:=by
 refine⟨o.1,?_⟩;rcases o.2 with hn|⟨g,cap,cur,rfl,hbg,hgg,rest⟩
 ·exact .inl hn
 ·exact .inr ⟨g,cap,cur,rfl,hbg,h.2 _ _ _ h1 h2 hgg,rest⟩
abbrev zGr:Array Value:= #[.int .i64 0,.slice none 0 0]
structure GrSt(w0:World)(B gt gcs rz:Nat)(rows:Int)(n:Nat)(As:Option Addr)(cs:Nat)(sp:List (Int × Int))(w:World)(D:List ChD):Prop where
 new:New w0 w
 tab:Blk w gt 114 #[.int .i64 rows,.slice (some ⟨gcs,0,none⟩) n n]
 data:Blk w gcs 136 (recs chV D).toArray
 rows:RowsAp 135 14 zhn w B D
 res:Blk w rz 114 zGr
 spans:w.ownsRow B 111 2 (.slice As sp.length cs) sp.length (zdu sp)
theorem GrSt.later{w0 w w':World}{B gt gcs rz n:Nat}{rows:Int}{As:Option Addr}{cs:Nat}{sp:List (Int × Int)}{D:List ChD}(h:GrSt w0 B gt gcs rz rows n As cs sp w D)(hb:New w w'):GrSt w0 B gt gcs rz rows n As cs sp w' D:=
 ⟨qr0 h.new hb,h.tab.below hb h.tab.lt,h.data.below hb h.data.lt,h.rows.later hb,h.res.below hb h.res.lt,za8 h.spans hb⟩
theorem GrSt.keep{w0 w w':World}{B gt gcs rz n:Nat}{rows:Int}{As:Option Addr}{cs:Nat}{sp:List (Int × Int)}{D:List ChD}(h:GrSt w0 B gt gcs rz rows n As cs sp w D)(hk:KeepW w w')(hn:New w0 w'):GrSt w0 B gt gcs rz rows n As cs sp w' D:=
 ⟨hn,hk.2 _ _ _ (by decide) (by decide) h.tab,hk.2 _ _ _ (by decide) (by decide) h.data,⟨fun d hd=>hk.own (h.rows.rows d hd) (by decide) (by decide),h.rows.apart⟩,hk.2 _ _ _ (by decide) (by decide) h.res,hk.own h.spans (by decide) (by decide)⟩
theorem GrSt.put{w0 w w6 w7:World}{B gt gcs rz n j:Nat}{rows:Int}{As:Option Addr}{cs:Nat}{sp:List (Int × Int)}{D:List ChD}{d:ChD}(h:GrSt w0 B gt gcs rz rows n As cs sp w D)(hj:j<D.length)(hB:w0.heap.size<=gcs)
 (hn:New w0 w6)(o6:w6.ownsRow B 135 14 (zm0 d) d.2.2.length (recs zhn d.2.2))(g6:w.grownBy w6 (zm0 (D.getD j (none,0,[]))).ownBlock)
 (hat:(zm0 d).ownBlock=(zm0 (D.getD j (none,0,[]))).ownBlock\/ ∃g,(zm0 d).ownBlock=some g/\w.heap.size<=g)
 (BD7:Blk w7 gcs 136 ((recs chV D).toArray.setIfInBounds j (zm0 d)))(g7:w6.grownBy w7 (some gcs)):GrSt w0 B gt gcs rz rows n As cs sp w7 (D.set j d):=by
 have row:=h.rows.at_ hj;have BD6:=h.data.grown g6 (fun e=>zav row h.data (by decide) e.symm);have BT6:=h.tab.grown g6 (fun e=>zav row h.tab (by decide) e.symm);have BR6:=h.res.grown g6 (fun e=>zav row h.res (by decide) e.symm);have S6:=qlm h.spans g6 (zef h.spans row (by decide));refine⟨zbo hn g7 hB (ql6 _),BT6.grown g7 (fun e=>by injection e with e;exact qrx BT6 BD6 (by decide) e),?_,(h.rows.put hj o6 g6 hat).keepT BD6 (by decide) g7,BR6.grown g7 (fun e=>by injection e with e;exact qrx BR6 BD6 (by decide) e),qlm S6 g7 (.inr (zav S6 BD6 (by decide)))⟩;have e:=zqj (f:=chV) (fun _=>rfl) D d j (v:=zm0 d) rfl;rw[e] at BD7;exact BD7
theorem WrOf.far{w w':World}{base g k:Nat}{t:TypeId}{cs:Array Value}{T:WrT}{V:Value}{F:List (List Nat)}{z:Int}(h:WrOf w base g T V F z)(hg:w.grownBy w' (some k))(hB:Blk w k t cs)(h1:107≠t)(h2:24≠t)(h3:5≠t):WrOf w' base g T V F z:=by obtain⟨hw7,A9,c9,P9,e9,o9,hP9,hT9⟩:=h;exact⟨hw7.grown hg (by intro e;injection e with e;exact qrx hw7 hB h1 e),A9,c9,P9,e9,qlm o9 hg (.inr (zav o9 hB h2)),hP9,fun d hd=>(hT9 d hd).keep hg hB h3⟩
theorem WrOf.row{w w':World}{base g b2 n sz:Nat}{t:TypeId}{v:Value}{xs:List Value}{T:WrT}{V:Value}{F:List (List Nat)}{z:Int}(h:WrOf w base g T V F z)(o:w.ownsRow b2 t sz v n xs)(hg:w.grownBy w' v.ownBlock)(h1:107≠t)(h2:24≠t)(h3:5≠t):WrOf w' base g T V F z:=by obtain⟨hw7,A9,c9,P9,e9,o9,hP9,hT9⟩:=h;exact⟨hw7.grown hg (fun e=>zav o hw7 h1.symm e.symm),A9,c9,P9,e9,qlm o9 hg (zef o9 o h2),hP9,fun d hd=>qsu (hT9 d hd) o hg h3⟩
def z99(T:WrT)(s:Int × Int)(w0:World)(base g:Nat)(S:List (List Nat) × Int)(w:World)(e:Ending)(w':World):Prop:=
 match grW T.L T.E T.dat T.pr (some S) s with
 |none=>e= .returned (.tuple #[.agg zGr,.bool false])/\New w0 w'
 |some x=>∃A D,e= .returned (.tuple #[.agg #[.int .i64 (s.2-s.1),.slice A D.length D.length],.bool true])/\D.map (·.2.2)=(zd7 T.L T.E T.dat T.pr s).2/\ChOwn w' w.heap.size A D.length D/\(∃V',WrOf w' base g T V' x.1 x.2)/\KeepW w w'/\New w0 w'
end Go.Proofs.Y
