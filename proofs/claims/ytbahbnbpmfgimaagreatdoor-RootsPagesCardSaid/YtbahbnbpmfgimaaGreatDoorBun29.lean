/- Merged. -/
import Derived.Laws.EntriesVeiled
import Derived.Test.YtbahbnbpmfgimaaGreatDoorBun28
set_option maxHeartbeats 4000000
namespace Go.Hm
open Go Go.RowKit
theorem z0f{k n:Int}{d:List Nat}(h:∀x∈d,x<256):∀p∈leafP k n d,∀x∈p,x<256:=by
 intro p hp;unfold leafP at hp;simp only[qof,qqg,or_false] at hp;rcases hp with rfl|rfl|rfl
 ·exact zg1 _ _
 ·exact zg1 _ _
 ·exact h
end Go.Hm
namespace Go.Proofs.Y
open Go.RowKit Go.Hm
theorem z6s{a b:List Nat}(ha:zh4 a)(hb:zh4 b):∀f,zbe zbs [a,b]=some f->(∀x∈f,x<256)/\f.length<=10000000:=fun f hf=>
 ⟨zf5 (by decide) (by intro p hp;simp at hp;rcases hp with rfl|rfl;exact ha.2;exact hb.2) hf,ze2 hf (by simp[zfl,ha.1,hb.1])⟩
theorem z2w{L:List (List Nat)}(h:Digs L):GoodF (zb8 L).2:=by
 intro f hf;by_cases h0:L.length=0
 ·obtain rfl:=qna h0
  rw[zih] at hf;obtain rfl:=qnz.1 hf;exact⟨zf5 (by decide) (by simp) zl0,ze2 zl0 (by simp[zfl])⟩
 ·obtain⟨a,b,ha,hb,e⟩:=(zf6 L h (by omega)).2 f hf
  exact z6s ha hb f e
theorem GoodF.app{F G:List (List Nat)}(h:GoodF F)(k:GoodF G):GoodF (F++G):=fun p hp=>(qny.1 hp).elim (h p) (k p)
set_option maxRecDepth 100000 in
theorem qk9{a b:List Nat}(ha:zh4 a)(hb:zh4 b)(W:World):(binOp .eql 35 (dV a) (dV b)).run Tryz.prog W= .ok (.bool (decide (a=b))) W:=by
 have h:=zx0 (P:=Tryz.prog) (k:= .u8) zcn (by kernel_rfl) (by kernel_rfl) (by kernel_rfl) (by kernel_rfl) (a.map fun n:Nat=>(n:Int)) (b.map fun n:Nat=>(n:Int)) (by simp[ha.1]) (by simp[hb.1]) W;have e:((a.map fun n:Nat=>(n:Int))==(b.map fun n:Nat=>(n:Int)))=decide (a=b):=by
  rw[qm6];simp only[beq_iff_eq,decide_eq_true_eq];constructor
  ·intro h
   have:=congrArg (List.map Int.toNat) h;simpa[List.map_map,Function.comp_def] using this
  ·rintro rfl;rfl
 rw[e] at h;simpa[dV,zan,za7,List.map_map,Function.comp_def] using h
set_option maxRecDepth 100000 in
theorem zg7{d:List Nat}(h:zh4 d):∃cs:Array Value,dV d= .agg cs/\(Tryz.prog.info? 35).map (·.size)=some cs.size/\(za7 .u8 zat).toArray.size=cs.size/\cs.all (·.oneCell')=true/\cs=(zan .u8 d).toArray:=by refine⟨(zan .u8 d).toArray,rfl,z6p h.1,by simp[za7,zan,zat,h.1],zuv _,rfl⟩
section
variable{ops:Array Oper}{rest:List Oper}{o:Oper}{a:Act}{Q:Exit->Act->World->Prop}
end
theorem LogOf.beside{t u:TypeId}(ht:24≠t)(hu:24≠u)(hu8:u≠5){w w':World}{base base' g g':Nat}{V V':Value}{L L':List (List Nat)}(h:LogOf t w base g V L)(h':LogOf u w base' g' V' L')(hne:g≠g')(hd:∀x∈zbi V',V.ownBlock≠some x)(k:Turns (g'::zbi V') w w'):LogOf t w' base g V L:=by
 refine h.turn k (fun hx=>?_) (fun x hx=>?_) (h'.noB hu8)
 ·rcases qof.1 hx with e|hx
  ·exact hne e
  ·obtain⟨A,n,c,D,rfl,h1,h2,_⟩:=h
   obtain⟨A',n',c',D',rfl,h1',h2',_⟩:=h';exact zda h2' h1 ht hx
 ·rcases qof.1 hx with rfl|hx
  ·obtain⟨A,n,c,D,rfl,h1,h2,_⟩:=h
   obtain⟨A',n',c',D',rfl,h1',h2',_⟩:=h';exact h2.blk_ne h1' hu
  ·exact hd x hx
theorem z2x{w:World}{V V1 V':Value}(h:∀x∈zbi V',V.ownBlock≠some x)(hl:∀x∈zbi V',x<w.heap.size)(a:V1.ownBlock=V.ownBlock\/ ∃h,V1.ownBlock=some h/\w.heap.size<=h):∀x∈zbi V',V1.ownBlock≠some x:=fun x hx e=>by
 rcases a with a|⟨h1,a1,a2⟩
 ·exact h x hx (a▸e)
 ·rw[a1] at e
  injection e with e;have:=hl x hx;omega
theorem zre{V V':Value}(h:∀x∈zbi V',V.ownBlock≠some x):∀x∈zbi V,V'.ownBlock≠some x:=fun x hx e=>by
 have hv:V.ownBlock=some x:=by
  unfold zbi at hx;cases hq:V.ownBlock with
  |none=>rw[hq] at hx;simp at hx
  |some y=>rw[hq] at hx;simp at hx;rw[hx]
 exact h x (z0e e) hv
theorem Digs.at_{L:List (List Nat)}(h:Digs L){k:Nat}(hk:k<L.length):zh4 (L.getD k []):=h _ (zgo hk)
set_option maxRecDepth 100000 in
theorem qla{d:List Nat}(h:d.length=32):(Tryz.prog.info? 35).map (·.size)=some (zan .u8 d).length:=by simpa using z6p h
def LogSt(w:World)(g:Nat)(W:World)(F:List (List Nat))(K:List (Nat × Array Value)):Prop:=
 ∃V,LogOf tL W w.heap.size g V F/\New w W/\ ∀p∈K,Blk W p.1 35 p.2
theorem LogSt.new{w W W':World}{g:Nat}{F:List (List Nat)}{K:List (Nat × Array Value)}(h:LogSt w g W F K)(n:New W W'):LogSt w g W' F K:=by obtain⟨V,l,b,k⟩:=h;exact⟨V,l.new n,New.trans b n,fun p hp=>(k p hp).below n (k p hp).lt⟩
theorem LogSt.news{w W:World}{g:Nat}{F:List (List Nat)}{K:List (Nat × Array Value)}(h:LogSt w g W F K):New w W:=h.elim fun _ h=>h.2.1
theorem LogSt.blk{w W:World}{g:Nat}{F:List (List Nat)}{K:List (Nat × Array Value)}(h:LogSt w g W F K){b:Nat}{cs:Array Value}(hp:(b,cs)∈K):Blk W b 35 cs:=h.elim fun _ h=>h.2.2 _ hp
theorem LogSt.add{w W:World}{g:Nat}{F:List (List Nat)}{K:List (Nat × Array Value)}(h:LogSt w g W F K)(cs:Array Value):LogSt w g (W.alloc (.cells cs 35)) F ((W.heap.size,cs)::K):=by
 obtain⟨V,l,b,k⟩:=h.new (zac W (.cells cs 35));refine⟨V,l,b,fun p hp=>?_⟩;rcases qof.1 hp with rfl|hp
 ·exact Blk.new _ _ _
 ·exact k p hp
end Go.Proofs.Y
namespace Go.Hm
open Go Go.RowKit
def KeepT(t:TypeId)(w w':World):Prop:=w.heap.size<=w'.heap.size/\ ∀b cs,Blk w b t cs->Blk w' b t cs
theorem KeepT.refl(t:TypeId)(w:World):KeepT t w w:=⟨qmt _,fun _ _ h=>h⟩
theorem KeepT.trans{t:TypeId}{w w1 w2:World}(h:KeepT t w w1)(k:KeepT t w1 w2):KeepT t w w2:=⟨qml h.1 k.1,fun b cs hb=>k.2 b cs (h.2 b cs hb)⟩
theorem KeepT.new{t:TypeId}{w w':World}(h:New w w'):KeepT t w w':=⟨h.size,fun _ _ hb=>hb.below h hb.lt⟩
end Go.Hm
namespace Go.Proofs.Y
open Go.RowKit Go.Hm
abbrev tW:TypeId:=125
def OvPost(R:List Ev->World->Prop)(es:List Ev)(w:World)(e:Ending)(w':World):Prop:=e= .returned (.tuple #[])/\R es w'/\KeepT tW w w'
theorem OvPost.after{R:List Ev->World->Prop}{es:List Ev}{w w1:World}(k:KeepT tW w w1){e:Ending}{w':World}(h:OvPost R es w1 e w'):OvPost R es w e w':=⟨h.1,h.2.1,k.trans h.2.2⟩
set_option maxRecDepth 100000 in
theorem zqa{f t kA kB kC:Nat}{eA eB eC:Array Value}{total:List Ev}{R:List Ev->World->Prop}
 (hk:∀k,k=kA\/k=kB\/k=kC-> ∀args w,(callFunc k args).run Tryz.prog w= .ok (.enter k args) w)
 (hR:∀es w w',R es w->New w w'->R es w')
 (hA:∀es lo hi w,(es++[.among lo hi]) <+: total->R es w->Calls Tryz.prog kA (#[.int .i64 (lo:Int),.int .i64 (hi:Int)]++eA) w (OvPost R (es++[.among lo hi]) w))
 (hB:∀es lo hi w,(es++[.beside lo hi]) <+: total->R es w->Calls Tryz.prog kB (#[.int .i64 (lo:Int),.int .i64 (hi:Int)]++eB) w (OvPost R (es++[.beside lo hi]) w))
 (hC:∀es w,(es++[.node]) <+: total->R es w->Calls Tryz.prog kC eC w (OvPost R (es++[.node]) w)):
 ∀(m lo hi:Nat) (es:List Ev) (w:World),hi-lo<m->lo<=hi->hi<=10000000->(es++evs f t lo hi) <+: total->R es w->
  Calls Tryz.prog 62 #[.agg #[.int .i64 (f:Int),.int .i64 (t:Int),.func (.func kA) #[] eA,.func (.func kB) #[] eB,.func (.func kC) #[] eC],.int .i64 (lo:Int),.int .i64 (hi:Int)] w (OvPost R (es++evs f t lo hi) w):=by
 intro m;induction m with
 |zero=>intro lo hi es w h;omega
 |succ m ih=>
  intro lo hi es w hm hl hh hp hr;obtain⟨W,hW⟩:∃W,W=w.alloc (.cells #[.int .i64 (f:Int),.int .i64 (t:Int),.func (.func kA) #[] eA,.func (.func kB) #[] eB,.func (.func kC) #[] eC] tW):=⟨_,rfl⟩;have n1:New w W:=by rw[hW];exact(Below.refl _ _).alloc (qmt _) _
  have g1:Blk W w.heap.size tW #[.int .i64 (f:Int),.int .i64 (t:Int),.func (.func kA) #[] eA,.func (.func kB) #[] eB,.func (.func kC) #[] eC]:=by rw[hW];exact Blk.new _ _ _
  have R1:=Hz (hR es w W hr n1);have N1:=Hz n1;have hW':=hW;have HW:=Hz hW;have HH:=Hz (qo8 hA (qo8 hB hC));have IH:=Hz ih;have HP:=Hz hp;have EV:=Hz (@zgh f t lo hi);have EB:=Hz (@zei f t lo hi);have EN:=Hz (@zgv f t lo hi);have c0:W.cell? ⟨w.heap.size,0,none⟩=some (.int .i64 (f:Int)):=g1.cell 0;have c1:W.cell? ⟨w.heap.size,1,none⟩=some (.int .i64 (t:Int)):=g1.cell 1;have c2:W.cell? ⟨w.heap.size,2,none⟩=some (.func (.func kA) #[] eA):=g1.cell 2;have c3:W.cell? ⟨w.heap.size,3,none⟩=some (.func (.func kB) #[] eB):=g1.cell 3;rw[hW] at c0 c1 c2 c3;have G1:=Hz g1;clear hr hA hB hC ih g1 hp hW n1;have kA1:=hk kA (by simp);have kB1:=hk kB (by simp);have kC1:=hk kC (by simp);clear hk;go_enter Tryz.func62,Tryz.ntmps62
  have AM:(lo=hi\/(f<=lo/\hi<=t))->Hid (Calls Tryz.prog kA (#[.int .i64 (lo:Int),.int .i64 (hi:Int)]++eA) (w.alloc (.cells #[.int .i64 (f:Int),.int .i64 (t:Int),.func (.func kA) #[] eA,.func (.func kB) #[] eB,.func (.func kC) #[] eC] tW)) (OvPost R (es++evs f t lo hi) w)):=fun h=>Hz (by rw[<-HW.out,EV.out h];refine(HH.out.1 es lo hi W (by rw[<-EV.out h];exact HP.out) R1.out).mono fun _ _ p=>p.after (KeepT.new N1.out))
  by_cases a0:lo=hi
  ·subst a0
   have AM2:=AM (.inl rfl);clear AM;clear EV EB EN IH HH HP;go_wp2_with fail
   refine AM2.out.mono ?_;rintro e w' hpost;obtain rfl:=hpost.1;have HPO:=Hz hpost;clear hpost AM2;go_wp2_with fail
   go_end0
   exact HPO.out
  have q0:((lo:Int)==(hi:Int))=false:=by simp;omega
  by_cases aa:f<=lo/\hi<=t
  ·have q1:decide (f<=lo)=true:=by simp;omega
   have q2:decide (hi<=t)=true:=by simp;omega
   have AM2:=AM (.inr aa);clear AM;clear EV EB EN IH HH HP;go_wp2_with fail
   refine AM2.out.mono ?_;rintro e w' hpost;obtain rfl:=hpost.1;have HPO:=Hz hpost;clear hpost AM2;go_wp2_with fail
   go_end0
   exact HPO.out
  clear AM EV;have na: ¬(lo=hi\/(f<=lo/\hi<=t)):=by omega
  have NA:=Hz na;by_cases bb:min hi t<=max lo f
  ·have BE:Hid (Calls Tryz.prog kB (#[.int .i64 (lo:Int),.int .i64 (hi:Int)]++eB) (w.alloc (.cells #[.int .i64 (f:Int),.int .i64 (t:Int),.func (.func kA) #[] eA,.func (.func kB) #[] eB,.func (.func kC) #[] eC] tW)) (OvPost R (es++evs f t lo hi) w)):=Hz (by
    rw[<-HW.out,EB.out na bb];refine(HH.out.2.1 es lo hi W (by rw[<-EB.out na bb];exact HP.out) R1.out).mono fun _ _ p=>p.after (KeepT.new N1.out))
   clear EB EN IH HH HP;have q4:decide (min (hi:Int) (t:Int)<=max (lo:Int) (f:Int))=true:=by simp;omega
   have q5:decide (f<=lo)=true\/decide (f<=lo)=false:=by cases decide (f<=lo)<;> simp
   rcases q5 with q5|q5
   ·have q6:decide (hi<=t)=false:=by simp at q5⊢;omega
    clear na aa;go_wp2_with fail
    refine BE.out.mono ?_;rintro e w' hpost;obtain rfl:=hpost.1;have HPO:=Hz hpost;clear hpost BE;go_wp2_with fail
    go_end0
    exact HPO.out
   ·clear na aa
    go_wp2_with fail
    refine BE.out.mono ?_;rintro e w' hpost;obtain rfl:=hpost.1;have HPO:=Hz hpost;clear hpost BE;go_wp2_with fail
    go_end0
    exact HPO.out
  have q4:decide (min (hi:Int) (t:Int)<=max (lo:Int) (f:Int))=false:=by simp;omega
  have hn:2<=hi-lo:=by omega
  have hs:=zd5 hn;have SP:=Hz (zuj ((hi:Int)-(lo:Int)) W (by omega) (by omega));rw[show((hi:Int)-(lo:Int)).toNat=hi-lo by omega,hW'] at SP;have EN:=EN.out hl na bb;obtain⟨k,hk⟩:∃k,k=zbf (hi-lo):=⟨_,rfl⟩;rw[<-hk] at hs SP EN;have EN:=Hz EN;have q5:decide (f<=lo)=true\/decide (f<=lo)=false:=by cases decide (f<=lo)<;> simp
  have q6:decide (f<=lo)=true->decide (hi<=t)=false:=by simp;omega
  have W4:∀w',KeepT tW W w'->Hid (Blk w' w.heap.size tW #[.int .i64 (f:Int),.int .i64 (t:Int),.func (.func kA) #[] eA,.func (.func kB) #[] eB,.func (.func kC) #[] eC]):=fun w' h=>Hz (h.2 _ _ G1.out)
  have I1:=Hz (fun w'=>IH.out lo (lo+k) es w' (by omega) (by omega) (by omega) (by refine List.IsPrefix.trans ?_ HP.out;rw[EN.out];exact(qrv _).2 (qru _ _)))
  have I2:=Hz (fun w'=>IH.out (lo+k) hi (es++evs f t lo (lo+k)) w' (by omega) (by omega) (by omega) (by refine List.IsPrefix.trans ?_ HP.out;rw[EN.out,qm5];exact(qrv _).2 ((qrv _).2 (qru _ _))))
  have I3:=Hz (fun w'=>HH.out.2.2 (es++evs f t lo (lo+k)++evs f t (lo+k) hi) w' (by rw[qm5,qm5,<-EN.out];exact HP.out))
  have hcast:((lo+k:Nat):Int)=(lo:Int)+(k:Int):=by omega
  rw[hcast] at I1 I2;have ER:=Hz (show es++evs f t lo hi=es++evs f t lo (lo+k)++evs f t (lo+k) hi++[.node] by rw[EN.out];simp only[qm5]);clear EB EN IH HH HP na aa bb hk hcast;rcases q5 with q5|q5
  ·have q6:=q6 q5
   go_wp2_with fail
   refine SP.out.mono ?_;rintro e w1 ⟨rfl,rfl⟩;go_wp2_with fail
   have J1:=I1.out W R1.out;rw[HW.out] at J1;refine J1.mono ?_;clear J1;rintro e w1 hpost;obtain rfl:=hpost.1;have R2:=Hz hpost.2.1;have k1:KeepT tW W w1:=by rw[HW.out];exact hpost.2.2
   have K1:=Hz k1;have g2:=(W4 w1 k1).out;have d0:w1.cell? ⟨w.heap.size,0,none⟩=some (.int .i64 (f:Int)):=g2.cell 0;have d1:w1.cell? ⟨w.heap.size,1,none⟩=some (.int .i64 (t:Int)):=g2.cell 1;have d2:w1.cell? ⟨w.heap.size,2,none⟩=some (.func (.func kA) #[] eA):=g2.cell 2;have d3:w1.cell? ⟨w.heap.size,3,none⟩=some (.func (.func kB) #[] eB):=g2.cell 3;have d4:w1.cell? ⟨w.heap.size,4,none⟩=some (.func (.func kC) #[] eC):=g2.cell 4;clear hpost k1 g2;go_wp2_with fail
   refine(I2.out w1 R2.out).mono ?_;rintro e w2 hpost;obtain rfl:=hpost.1;have R3:=Hz hpost.2.1;have k2:KeepT tW W w2:=K1.out.trans hpost.2.2;have K2:=Hz k2;have g2:=(W4 w2 k2).out;have f4:w2.cell? ⟨w.heap.size,4,none⟩=some (.func (.func kC) #[] eC):=g2.cell 4;clear hpost k2 g2 d0 d1 d2 d3 d4;go_wp2_with fail
   refine(I3.out w2 R3.out).mono ?_;rintro e w3 hpost;obtain rfl:=hpost.1;have HPO:=Hz (show OvPost R (es++evs f t lo hi) w _ w3 by rw[ER.out];exact hpost.after ((KeepT.new N1.out).trans K2.out));clear hpost;go_wp2_with fail
   go_end0
   exact HPO.out
  ·clear q6
   go_wp2_with fail
   refine SP.out.mono ?_;rintro e w1 ⟨rfl,rfl⟩;go_wp2_with fail
   have J1:=I1.out W R1.out;rw[HW.out] at J1;refine J1.mono ?_;clear J1;rintro e w1 hpost;obtain rfl:=hpost.1;have R2:=Hz hpost.2.1;have k1:KeepT tW W w1:=by rw[HW.out];exact hpost.2.2
   have K1:=Hz k1;have g2:=(W4 w1 k1).out;have d0:w1.cell? ⟨w.heap.size,0,none⟩=some (.int .i64 (f:Int)):=g2.cell 0;have d1:w1.cell? ⟨w.heap.size,1,none⟩=some (.int .i64 (t:Int)):=g2.cell 1;have d2:w1.cell? ⟨w.heap.size,2,none⟩=some (.func (.func kA) #[] eA):=g2.cell 2;have d3:w1.cell? ⟨w.heap.size,3,none⟩=some (.func (.func kB) #[] eB):=g2.cell 3;have d4:w1.cell? ⟨w.heap.size,4,none⟩=some (.func (.func kC) #[] eC):=g2.cell 4;clear hpost k1 g2;go_wp2_with fail
   refine(I2.out w1 R2.out).mono ?_;rintro e w2 hpost;obtain rfl:=hpost.1;have R3:=Hz hpost.2.1;have k2:KeepT tW W w2:=K1.out.trans hpost.2.2;have K2:=Hz k2;have g2:=(W4 w2 k2).out;have f4:w2.cell? ⟨w.heap.size,4,none⟩=some (.func (.func kC) #[] eC):=g2.cell 4;clear hpost k2 g2 d0 d1 d2 d3 d4;go_wp2_with fail
   refine(I3.out w2 R3.out).mono ?_;rintro e w3 hpost;obtain rfl:=hpost.1;have HPO:=Hz (show OvPost R (es++evs f t lo hi) w _ w3 by rw[ER.out];exact hpost.after ((KeepT.new N1.out).trans K2.out));clear hpost;go_wp2_with fail
   go_end0
   exact HPO.out
end Go.Proofs.Y
namespace Go.Hm
open Go Go.RowKit
def needI(n f t:Int):Int:=if 65536<n\/f<0\/t<f\/n<t then-1 else(cnt (evs f.toNat t.toNat 0 n.toNat):Nat)
theorem KeepT.set_{t t':TypeId}{w:World}{b:Nat}{cs:Array Value}(h:Blk w b t' cs)(hne:t'≠t)(i:Nat)(u:Value):KeepT t w (w.setCell ⟨b,i,none⟩ u):=
 ⟨by simp,fun b' cs' h'=>h'.far (p:=⟨b,i,none⟩) (fun e=>Blk.ne_ h h' hne e.symm) u⟩
theorem zzs{a b:List Ev}{x:Ev}(h:(a++[x]) <+: b):cnt (a++[x])<=cnt b:=zzq h
end Go.Hm
namespace Go.Proofs.Y
open Go.RowKit Go.Hm
def z2a(w:World)(e:Ending)(w':World):Prop:=e= .returned (.tuple #[])/\w'=w
set_option maxRecDepth 100000 in
theorem zqb(lo hi:Int)(w:World):Calls Tryz.prog 63 #[.int .i64 lo,.int .i64 hi] w (z2a w):=by
 go_enter Tryz.func63,Tryz.ntmps63
 go_wp2
 go_end0
 exact⟨rfl,rfl⟩
set_option maxRecDepth 100000 in
theorem zqc(w:World):Calls Tryz.prog 64 #[] w (z2a w):=by
 go_enter Tryz.func64,Tryz.ntmps64
 go_wp2
 go_end0
 exact⟨rfl,rfl⟩
def zw9(c:Nat)(w:World)(b:Nat)(e:Ending)(w':World):Prop:=e= .returned (.tuple #[])/\w'=w.setCell ⟨b,0,none⟩ (.int .i64 ((c+1:Nat):Int))
set_option maxRecDepth 100000 in
theorem z49(lo hi:Int){w:World}{b c:Nat}(h:Blk w b 3 #[.int .i64 (c:Int)])(hc:c<=10000000):Calls Tryz.prog 93 #[.int .i64 lo,.int .i64 hi,.pointer (some ⟨b,0,none⟩)] w (zw9 c w b):=by
 have c0:w.cell? ⟨b,0,none⟩=some (.int .i64 (c:Int)):=h.cell 0;have f0:w.frozen? ⟨b,0,none⟩=false:=h.frozen 0;clear h;go_enter Tryz.func93,Tryz.ntmps93
 go_wp2
 go_end0
 exact⟨rfl,by simp⟩
def qkv(w:World)(b:Nat)(es:List Ev)(W:World):Prop:=Blk W b 3 #[.int .i64 (cnt es:Int)]/\Below w.heap.size w W
set_option maxRecDepth 100000 in
theorem zxa(n f t:Int)(w:World)(n0: -9223372036854775808<=n)(n1:n<=9223372036854775807):Calls Tryz.prog 57 #[.int .i64 n,.int .i64 f,.int .i64 t] w (zal (.int .i64 (needI n f t)) w):=by
 have hv:∀x,needI n f t=x->Hid (needI n f t=x):=fun x h=>Hz h
 by_cases a1:65536<n
 ·have HV:=hv (-1) (if_pos (.inl a1))
  have q1:decide (65536<n)=true:=decide_eq_true a1;clear hv;go_enter Tryz.func57,Tryz.ntmps57
  go_wp2
  go_ret
  exact⟨by rw[HV.out];simp,Below.refl _ _⟩
 by_cases a2:f<0
 ·have HV:=hv (-1) (if_pos (.inr (.inl a2)))
  have q1:decide (65536<n)=false:=decide_eq_false a1;have q2:decide (f<0)=true:=decide_eq_true a2;clear hv;go_enter Tryz.func57,Tryz.ntmps57
  go_wp2
  go_ret
  exact⟨by rw[HV.out];simp,Below.refl _ _⟩
 by_cases a3:t<f
 ·have HV:=hv (-1) (if_pos (.inr (.inr (.inl a3))))
  have q1:decide (65536<n)=false:=decide_eq_false a1;have q2:decide (f<0)=false:=decide_eq_false a2;have q3:decide (t<f)=true:=decide_eq_true a3;clear hv;go_enter Tryz.func57,Tryz.ntmps57
  go_wp2
  go_ret
  exact⟨by rw[HV.out];simp,Below.refl _ _⟩
 by_cases a4:n<t
 ·have HV:=hv (-1) (if_pos (.inr (.inr (.inr a4))))
  have q1:decide (65536<n)=false:=decide_eq_false a1;have q2:decide (f<0)=false:=decide_eq_false a2;have q3:decide (t<f)=false:=decide_eq_false a3;have q4:decide (n<t)=true:=decide_eq_true a4;clear hv;go_enter Tryz.func57,Tryz.ntmps57
  go_wp2
  go_ret
  exact⟨by rw[HV.out];simp,Below.refl _ _⟩
 have HV:=hv _ (if_neg (by omega));clear hv;obtain⟨n,rfl⟩:∃m:Nat,n=(m:Int):=⟨n.toNat,by omega⟩;obtain⟨f,rfl⟩:∃m:Nat,f=(m:Int):=⟨f.toNat,by omega⟩;obtain⟨t,rfl⟩:∃m:Nat,t=(m:Int):=⟨t.toNat,by omega⟩;rw[qng,qng,qng] at HV;have q1:decide ((65536:Int)<(n:Int))=false:=decide_eq_false a1;have q2:decide ((f:Int)<0)=false:=decide_eq_false a2;have q3:decide (t<f)=false:=by simp;omega
 have q4:decide (n<t)=false:=by simp;omega
 have OV:=Hz (fun(W:World) (hW:qkv w w.heap.size [] W)=>zqa (f:=f) (t:=t) (kA:=63) (kB:=93) (kC:=64) (eA:= #[]) (eB:= #[.pointer (some ⟨w.heap.size,0,none⟩)]) (eC:= #[]) (total:=evs f t 0 n) (R:=qkv w w.heap.size)
  (by rintro k (rfl|rfl|rfl) args w<;> go_simp)
  (fun es w1 w2 h k=>⟨h.1.below k h.1.lt,h.2.trans (k.mono h.2.size)⟩)
  (fun es lo hi w1 hp h=>(zqb lo hi w1).mono (by rintro e w' ⟨rfl,rfl⟩;exact⟨rfl,by unfold qkv;rw[zgi];exact h,KeepT.refl _ _⟩))
  (fun es lo hi w1 hp h=>(z49 lo hi h.1 (by have:=zzs hp;have:=qf9 0 n (qmu n) (f:=f) (t:=t);rw[zgi] at*;omega)).mono (by rintro e w' ⟨rfl,rfl⟩;refine⟨rfl,⟨?_,h.2.setCell (p:=⟨w.heap.size,0,none⟩) (qmt _) _⟩,KeepT.set_ h.1 (by decide) _ _⟩;rw[zgi];exact h.1.set_ 0 _))
  (fun es w1 hp h=>(zqc w1).mono (by rintro e w' ⟨rfl,rfl⟩;exact⟨rfl,by unfold qkv;rw[zgi];exact h,KeepT.refl _ _⟩))
  (n+1) 0 n [] W (by omega) (by omega) (by omega) (qrw _) hW)
 clear a1 a2 a3 a4;have hmf:∀(fn:Fn) (first cap:Array Value) (w:World),(Instr.makeFunc fn first cap).run Tryz.prog w= .ok (.func fn first cap) w:=fun _ _ _ _=>rfl
 go_enter Tryz.func57,Tryz.ntmps57
 go_wp2_with fail
 have C0:qkv w w.heap.size [] ((w.alloc (.cells #[.int .i64 0] 3)).alloc (.cells #[.int .i64 (f:Int),.int .i64 (t:Int),.func (.func 63) #[] #[],.func (.func 93) #[] #[.pointer (some ⟨w.heap.size,0,none⟩)],.func (.func 64) #[] #[]] tW)):=
  ⟨(Blk.new w _ _).alloc _,New.trans ((Below.refl _ _).alloc (qmt _) _) ((Below.refl _ _).alloc (qmt _) _)⟩
 refine(OV.out _ C0).mono ?_;rintro e w1 ⟨rfl,r,-⟩;rw[qnk] at r;have c1:w1.cell? ⟨w.heap.size,0,none⟩=some (.int .i64 (cnt (evs f t 0 n):Int)):=r.1.cell 0;have B1:=Hz r.2;clear r C0 OV;go_wp2
 go_ret
 exact⟨by rw[HV.out];simp,B1.out⟩
end Go.Proofs.Y
