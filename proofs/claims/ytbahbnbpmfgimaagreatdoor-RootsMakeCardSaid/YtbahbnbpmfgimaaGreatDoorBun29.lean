import Derived.Great.BuildSlice
import Derived.Test.YtbahbnbpmfgimaaGreatDoorBun28
set_option maxHeartbeats 2000000
set_option maxRecDepth 100000
namespace Go.Hm
open Go Go.RowKit
theorem z2f{ds:List (List Nat)}(h:Digs ds):((ds.map dV).flatMap fun v=>v.cells.toList)=recs zfh ds:=by
 induction ds with
 |nil=>rfl
 |cons d ds ih=>
  rw[qmp,qpe,zhd,ih (fun x hx=>h x (by simp[hx])),zsw (h d (by simp)).1];rfl
end Go.Hm
namespace Go.Proofs.Y
open Go.RowKit Go.Hm
theorem qk5:Tryz.prog.underlying 23=some (.slice 35):=by kernel_rfl
theorem qke:∃ie z,Tryz.prog.info? 35=some ie/\ie.zero=some z/\ie.size=32:=by
 have h:(Tryz.prog.info? 35).map (fun i=>(i.zero.isSome,i.size))=some (true,32):=by kernel_rfl
 cases hq:Tryz.prog.info? 35 with
 |none=>rw[hq] at h;cases h
 |some ie=>
  rw[hq] at h;simp only[qo5,qll,qlk] at h;obtain⟨z,hz⟩:=Option.isSome_iff_exists.1 h.1;exact⟨ie,z,rfl,hz,h.2⟩
theorem z6h{ds:List (List Nat)}(hd:Digs ds)(z:Value):Instr.fill (fun i=>some (i*32,32)) ((Array.range (ds.length*32)).map (z.cells[· %z.cells.size]!)) (((ds.map dV).zipIdx 0).map fun x=>(x.2,x.1))=some (recs zfh ds).toArray:=by
 rw[Great.fill_whole (s:=32) (by omega) (ds.map dV) _ (fun v hv=>by obtain⟨d,hm,rfl⟩:=qly.1 hv;have:=(hd d hm).1;simp[dV,Value.cells,zah,this]) (by simp),z2f hd]
section
variable{ops:Array Oper}{rest:List Oper}{o:Oper}{a:Act}{w:World}{Q:Exit->Act->World->Prop}
theorem zj7(hg:o.guard=none)(n:Nat)(parts:Array (Nat × Operand))(ho:o.op= .buildSlice 23 n parts)(ds:List (List Nat))(hd:Digs ds)(hn:ds.length=n)(h0:0<n)(hs:n<=1000)
 (hp:(parts.map fun(i,x)=>(i,a.eval x)).toList=((ds.map dV).zipIdx 0).map fun x=>(x.2,x.1))
 (h:wpList Tryz.prog ops Q rest (a.put o.dst (.slice (some ⟨w.heap.size,0,none⟩) n n)) (w.alloc (.cells (recs zfh ds).toArray 35))):wpList Tryz.prog ops Q (o::rest) a w:=by
 obtain⟨ie,z,h1,h2,h3⟩:=qke;subst hn;refine wpList_buildSlice hg _ _ _ parts ho _ ie z qk5 h1 h2 (by rw[h3];omega) (by rw[h3];omega) ?_ h;rw[hp,h3];exact z6h hd z
end
theorem zmc{w:World}{ds:List (List Nat)}(hd:Digs ds){T:List Nat}(hT:w.heap.size∉T):LeafIn (w.alloc (.cells (recs zfh ds).toArray 35)) (some ⟨w.heap.size,0,none⟩) ds T:=by refine⟨⟨zaz (sz:=32) zd9 ds,fun _=>⟨_,rfl,by simp,?_⟩⟩,hd,fun _ ad ha=>by injection ha with ha;subst ha;exact hT⟩;have:=qq9 (heap_alloc_new w (.cells (recs zfh ds).toArray 35));simpa using this
open Go.RowKit Go.Hm Go.WideShapes Go.ChangeShapes
section
variable{H:Type}{enc:TypeId × Value->H}{W:World}{base:Nat}{v:Value}{d:DataW H}{ps:List MemPlace}
theorem qbs{cs:List Value}(h:Held enc Tryz.prog W 35 cs):∃d:List Nat,cs=zfh d/\zim d:=by
 have ht:Tryz.prog.underlying 35=some (.array 32 5):=by kernel_rfl
 obtain⟨hl,hi⟩:=h.array ht;have hc:Tryz.prog.cellsOf 5=1:=by kernel_rfl
 have h32:Tryz.prog.cellsOf 35=32:=by kernel_rfl
 rw[h32] at hl;obtain⟨l,hll,hp⟩:=zov (p:=fun i (x:Nat)=>cs[i]? =some (.int .u8 (x:Int))/\x<256) 0 32 (fun i hi32=>by obtain⟨n,e1,e2⟩:=(hi i hi32).nat (k:= .u8) rfl (by kernel_rfl);rw[hc,qmd] at e1;refine⟨n,?_,by simp[IntKind.max,IntKind.signed,IntKind.bits] at e2;omega⟩;have:=congrArg (fun z:List Value=>z[0]?) e1;simpa[List.getElem?_take,List.getElem?_drop] using this)
 refine⟨l,?_,hll,fun x hx=>?_⟩
 ·refine List.ext_getElem? fun i=>?_
  by_cases hi32:i<32
  ·rw[(hp i hi32).1]
   simp[zfh,hi32]
  ·rw[qnx (by omega),qnx (by rw[zd9];omega)]
 ·obtain⟨i,hi',rfl⟩:=qo4 hx
  have:=(hp i (by omega)).2;rwa[qnp,qlx hi'] at this
theorem qgk(hval:Value.okWide Tryz.prog W .any base 23 v)(h:DataW.Trod enc Tryz.prog W 0 (fun _=>true) true 23 v d ps)(hlt:∀p∈ps,p.block<W.heap.size)(hw:∀n∈d.weights Tryz.prog 23,n<=reachBytes):
 ∃(A:Option Addr) (c:Nat) (L:List (List Nat)),v= .slice A L.length c/\Reads W W.heap.size 32 A L.length (recs zfh L)/\Digs L/\L.length<=c/\c<=9223372036854775807:=by
 have ht:Tryz.prog.underlying 23=some (.slice 35):=by kernel_rfl
 obtain⟨a0,len,cap,rfl⟩:=okWide_slice ht hval;obtain⟨A,c,L,h1,h2,h3,_,h5,h6⟩:=(Held.of h hlt hw).recs (f:=zfh) (sz:=32) (by_:=32) (Q:=zim) [] ht (by kernel_rfl) (by kernel_rfl) (fun _=>zd9 _) (by omega) (fun cs hh=>qbs hh);simp only[Value.cells,qli,and_true] at h1;rw[h1];exact⟨A,c,L,rfl,h5,h6,h2,by simp only[maxLen] at h3;omega⟩
end
theorem zut{w:World}{A:Option Addr}{L:List (List Nat)}(h:Reads w w.heap.size 32 A L.length (recs zfh L))(hd:Digs L){w':World}(hb:New w w'){T:List Nat}(hT:∀x∈T,w.heap.size<=x):LeafIn w' A L T:=by refine⟨qsg h hb,hd,fun hn ad ha hm=>?_⟩;obtain⟨ad',e,hlt,_⟩:=h.2 hn;rw[ha] at e;injection e with e;subst e;have:=hT _ hm;omega
end Go.Proofs.Y
namespace Go.Hm
open Go Go.RowKit
theorem zz3{k n:Int}{d:List Nat}(h:∀x∈d,x<256):∀p∈leafP k n d,∀x∈p,x<256:=by
 intro p hp;unfold leafP at hp;simp only[qnu,qpt,or_false] at hp;rcases hp with rfl|rfl|rfl
 ·exact zgf _ _
 ·exact zgf _ _
 ·exact h
end Go.Hm
namespace Go.Proofs.Y
open Go.RowKit Go.Hm
theorem z6l{a b:List Nat}(ha:zim a)(hb:zim b):∀f,za5 zb3 [a,b]=some f->(∀x∈f,x<256)/\f.length<=10000000:=fun f hf=>
 ⟨zfr (by decide) (by intro p hp;simp at hp;rcases hp with rfl|rfl;exact ha.2;exact hb.2) hf,zew hf (by simp[zem,ha.1,hb.1])⟩
theorem z2j{L:List (List Nat)}(h:Digs L):GoodF (zel L).2:=by
 intro f hf;by_cases h0:L.length=0
 ·obtain rfl:=qmn h0
  rw[zhe] at hf;obtain rfl:=qne.1 hf;exact⟨zfr (by decide) (by simp) zja,zew zja (by simp[zem])⟩
 ·obtain⟨a,b,ha,hb,e⟩:=(zfg L h (by omega)).2 f hf
  exact z6l ha hb f e
theorem GoodF.app{F G:List (List Nat)}(h:GoodF F)(k:GoodF G):GoodF (F++G):=fun p hp=>(qnd.1 hp).elim (h p) (k p)
abbrev qsm:=@GoodF.app
theorem qgl{a b:List Nat}(ha:zim a)(hb:zim b)(W:World):(binOp .eql 35 (dV a) (dV b)).run Tryz.prog W= .ok (.bool (decide (a=b))) W:=by
 have h:=zxn (P:=Tryz.prog) (k:= .u8) zbp (by kernel_rfl) (by kernel_rfl) (by kernel_rfl) (by kernel_rfl) (a.map fun n:Nat=>(n:Int)) (b.map fun n:Nat=>(n:Int)) (by simp[ha.1]) (by simp[hb.1]) W;have e:((a.map fun n:Nat=>(n:Int))==(b.map fun n:Nat=>(n:Int)))=decide (a=b):=by
  rw[qmj];simp only[beq_iff_eq,decide_eq_true_eq];constructor
  ·intro h
   have:=congrArg (List.map Int.toNat) h;simpa[List.map_map,Function.comp_def] using this
  ·rintro rfl;rfl
 rw[e] at h;simpa[dV,zah,zap,List.map_map,Function.comp_def] using h
theorem zex{d:List Nat}(h:zim d):∃cs:Array Value,dV d= .agg cs/\(Tryz.prog.info? 35).map (·.size)=some cs.size/\(zap .u8 zad).toArray.size=cs.size/\cs.all (·.oneCell')=true/\cs=(zah .u8 d).toArray:=by refine⟨(zah .u8 d).toArray,rfl,zz0 h.1,by simp[zap,zah,zad,h.1],zoy _,rfl⟩
section
variable{ops:Array Oper}{rest:List Oper}{o:Oper}{a:Act}{Q:Exit->Act->World->Prop}
theorem zna(hw:Region.wanted o (yielded ops a.tmps)=true){w:World}(x:Operand)(ho:o.op= .load 35 x)(g:Nat)(cs:Array Value)(hx:a.eval x= .pointer (some ⟨g,0,none⟩))(B:Blk w g 35 cs)(hi:(Tryz.prog.info? 35).map (·.size)=some cs.size)
 (h:wpList Tryz.prog ops Q rest (a.put o.dst (.agg cs)) w):wpList Tryz.prog ops Q (o::rest) a w:=
 wpList_step fun K hK=>by simp only[hw,if_true];unfold Oper.wp execOp;simp only[ho,hx,Instr.loadAt,Instr.sureAddr,qrb,qrc,qrd,run_loadVar_row w g 35 35 cs (0,0) _ B zbp (by simp) hi];exact hK _ _ h
end
theorem LogOf.beside{t u:TypeId}(ht:24≠t)(hu:24≠u)(hu8:u≠5){w w':World}{base base' g g':Nat}{V V':Value}{L L':List (List Nat)}(h:LogOf t w base g V L)(h':LogOf u w base' g' V' L')(hne:g≠g')(hd:∀x∈zbg V',V.ownBlock≠some x)(k:Turns (g'::zbg V') w w'):LogOf t w' base g V L:=by
 refine h.turn k (fun hx=>?_) (fun x hx=>?_) (h'.noB hu8)
 ·rcases qnu.1 hx with e|hx
  ·exact hne e
  ·obtain⟨A,n,c,D,rfl,h1,h2,_⟩:=h
   obtain⟨A',n',c',D',rfl,h1',h2',_⟩:=h';exact zer h2' h1 ht hx
 ·rcases qnu.1 hx with rfl|hx
  ·obtain⟨A,n,c,D,rfl,h1,h2,_⟩:=h
   obtain⟨A',n',c',D',rfl,h1',h2',_⟩:=h';exact h2.blk_ne h1' hu
  ·exact hd x hx
theorem zmd{w:World}{V V1 V':Value}(h:∀x∈zbg V',V.ownBlock≠some x)(hl:∀x∈zbg V',x<w.heap.size)(a:V1.ownBlock=V.ownBlock\/ ∃h,V1.ownBlock=some h/\w.heap.size<=h):∀x∈zbg V',V1.ownBlock≠some x:=fun x hx e=>by
 rcases a with a|⟨h1,a1,a2⟩
 ·exact h x hx (a▸e)
 ·rw[a1] at e
  injection e with e;have:=hl x hx;omega
theorem zhi{V V':Value}(h:∀x∈zbg V',V.ownBlock≠some x):∀x∈zbg V,V'.ownBlock≠some x:=fun x hx e=>by
 have hv:V.ownBlock=some x:=by
  unfold zbg at hx;cases hq:V.ownBlock with
  |none=>rw[hq] at hx;simp at hx
  |some y=>rw[hq] at hx;simp at hx;rw[hx]
 exact h x (zz2 e) hv
theorem Digs.at_{L:List (List Nat)}(h:Digs L){k:Nat}(hk:k<L.length):zim (L.getD k []):=h _ (zgu hk)
theorem qkf{d:List Nat}(h:d.length=32):(Tryz.prog.info? 35).map (·.size)=some (zah .u8 d).length:=by simpa using zz0 h
def LogSt(w:World)(g:Nat)(W:World)(F:List (List Nat))(K:List (Nat × Array Value)):Prop:=
 ∃V,LogOf tL W w.heap.size g V F/\New w W/\ ∀p∈K,Blk W p.1 35 p.2
theorem LogSt.new{w W W':World}{g:Nat}{F:List (List Nat)}{K:List (Nat × Array Value)}(h:LogSt w g W F K)(n:New W W'):LogSt w g W' F K:=by obtain⟨V,l,b,k⟩:=h;exact⟨V,l.new n,qr0 b n,fun p hp=>(k p hp).below n (k p hp).lt⟩
theorem LogSt.news{w W:World}{g:Nat}{F:List (List Nat)}{K:List (Nat × Array Value)}(h:LogSt w g W F K):New w W:=h.elim fun _ h=>h.2.1
theorem LogSt.blk{w W:World}{g:Nat}{F:List (List Nat)}{K:List (Nat × Array Value)}(h:LogSt w g W F K){b:Nat}{cs:Array Value}(hp:(b,cs)∈K):Blk W b 35 cs:=h.elim fun _ h=>h.2.2 _ hp
theorem LogSt.add{w W:World}{g:Nat}{F:List (List Nat)}{K:List (Nat × Array Value)}(h:LogSt w g W F K)(cs:Array Value):LogSt w g (W.alloc (.cells cs 35)) F ((W.heap.size,cs)::K):=by
 obtain⟨V,l,b,k⟩:=h.new (zac W (.cells cs 35));refine⟨V,l,b,fun p hp=>?_⟩;rcases qnu.1 hp with rfl|hp
 ·exact qrv _ _ _
 ·exact k p hp
end Go.Proofs.Y
namespace Go.Hm
open Go Go.RowKit
theorem zuw{T T':List Nat}{w W W2:World}(h:Turns T w W)(k:Turns T' W W2)(hT:∀x∈T',w.heap.size<=x):Turns T w W2:=
 ⟨k.os.trans h.os,k.tape.trans h.tape,k.output.trans h.output,qlw h.size k.size,fun j hj hn=>(k.block j (qlz hj h.size) (fun hm=>by have:=hT _ hm;omega)).trans (h.block j hj hn)⟩
theorem qbu(l:List (List Nat)):∀u∈recs zfh l,u.oneCell'=true:=by intro u hu;obtain⟨x,_,hx⟩:=qov.1 hu;simp only[zfh,qly,qot] at hx;obtain⟨i,_,rfl⟩:=hx;rfl
end Go.Hm
namespace Go.Proofs.Y
open Go.RowKit Go.Hm
abbrev tS:TypeId:=23
abbrev tD:TypeId:=35
theorem elD:ElT Tryz.prog tS tD (.agg (Array.replicate 32 (.int .u8 0))) 32 32:=⟨by kernel_rfl,by kernel_rfl,rfl,by omega⟩
def KeepX(B bo:Nat)(W W':World):Prop:=W.heap.size<=W'.heap.size/\ ∀t b cs,t≠tL->t≠24->(t≠tD\/b<B)->b≠bo->Blk W b t cs->Blk W' b t cs
theorem KeepX.refl(B bo:Nat)(W:World):KeepX B bo W W:=⟨ql6 _,fun _ _ _ _ _ _ _ h=>h⟩
theorem KeepX.trans{B bo:Nat}{a b c:World}(h:KeepX B bo a b)(k:KeepX B bo b c):KeepX B bo a c:=⟨qlw h.1 k.1,fun t x cs h1 h2 h3 h4 hb=>k.2 t x cs h1 h2 h3 h4 (h.2 t x cs h1 h2 h3 h4 hb)⟩
theorem KeepX.new{B bo:Nat}{W W':World}(h:New W W'):KeepX B bo W W':=⟨h.size,fun _ _ _ _ _ _ _ hb=>hb.below h hb.lt⟩
def KeepL(B:Nat)(W W':World):Prop:=W.heap.size<=W'.heap.size/\ ∀t b cs,t≠tL->t≠24->(t≠tD\/b<B)->Blk W b t cs->Blk W' b t cs
theorem KeepL.refl{B:Nat}(W:World):KeepL B W W:=⟨ql6 _,fun _ _ _ _ _ _ h=>h⟩
theorem KeepL.trans{B:Nat}{a b c:World}(h:KeepL B a b)(k:KeepL B b c):KeepL B a c:=⟨qlw h.1 k.1,fun t x cs h1 h2 h3 hb=>k.2 t x cs h1 h2 h3 (h.2 t x cs h1 h2 h3 hb)⟩
theorem KeepL.new{B:Nat}{W W':World}(h:New W W'):KeepL B W W':=⟨h.size,fun _ _ _ _ _ _ hb=>hb.below h hb.lt⟩
theorem KeepL.x{B bo:Nat}{W W':World}(h:KeepL B W W'):KeepX B bo W W':=⟨h.1,fun t b cs h1 h2 h3 _=>h.2 t b cs h1 h2 h3⟩
theorem KeepL.row{B n:Nat}{v:Value}{xs:List Value}{W W':World}(o:W.ownsRow B tD 32 v n xs)(gr:W.grownBy W' v.ownBlock):KeepL B W W':=
 ⟨gr.size,fun _ b _ _ _ h3 hb=>hb.touch (qsi gr) (by
  rcases h3 with h3|h3
  ·exact zer o hb (qoe h3)
  ·exact fun hm=>by have:=(zma o b hm).1;omega)⟩
def KeepC(W W':World):Prop:=W.heap.size<=W'.heap.size/\ ∀t b cs,t≠tL->t≠24->Blk W b t cs->Blk W' b t cs
theorem KeepC.refl(W:World):KeepC W W:=⟨ql6 _,fun _ _ _ _ _ h=>h⟩
theorem KeepC.trans{a b c:World}(h:KeepC a b)(k:KeepC b c):KeepC a c:=⟨qlw h.1 k.1,fun t x cs h1 h2 hb=>k.2 t x cs h1 h2 (h.2 t x cs h1 h2 hb)⟩
theorem KeepC.new{W W':World}(h:New W W'):KeepC W W':=⟨h.size,fun _ _ _ _ _ hb=>hb.below h hb.lt⟩
abbrev qsn:=@KeepC.new
theorem KeepC.l{B:Nat}{W W':World}(h:KeepC W W'):KeepL B W W':=⟨h.1,fun t b cs h1 h2 _=>h.2 t b cs h1 h2⟩
theorem KeepC.log{base g:Nat}{V:Value}{F:List (List Nat)}{W W':World}(l:LogOf tL W base g V F)(t:Turns (g::zbg V) W W'):KeepC W W':=
 ⟨t.size,fun _ _ _ h1 h2 hb=>hb.touch t (l.notT hb (qoe h1) (qoe h2))⟩
theorem KeepC.row{base n:Nat}{v:Value}{xs:List Value}{W W':World}(o:W.ownsRow base tD 32 v n xs)(k:KeepC W W'):W'.ownsRow base tD 32 v n xs:=by
 refine⟨o.1,?_⟩;rcases o.2 with hn|⟨g,cap,cur,rfl,hbg,hgg,rest⟩
 ·exact .inl hn
 ·exact .inr ⟨g,cap,cur,rfl,hbg,k.2 tD g cur (by decide) (by decide) hgg,rest⟩
def DrSt(w:World)(B base g:Nat)(V0:Value)(bo:Nat)(F P:List (List Nat))(W:World):Prop:=
 ∃V v,LogOf tL W base g V F/\(V.ownBlock=V0.ownBlock\/ ∃h,V.ownBlock=some h/\w.heap.size<=h)/\Turns (g::zbg V0) w W/\(w.heap.size<=B/\B<=bo)/\Blk W bo tS #[v]/\W.ownsRow B tD 32 v P.length (recs zfh P)
section
variable{w W:World}{B base g bo:Nat}{V0:Value}{F P:List (List Nat)}
theorem DrSt.new(h:DrSt w B base g V0 bo F P W){W':World}(k:New W W'):DrSt w B base g V0 bo F P W':=by obtain⟨V,v,l,a,t,hb,Bb,o⟩:=h;exact⟨V,v,l.new k,a,t.trans (qr9 k),hb,Bb.below k Bb.lt,za8 o k⟩
theorem DrSt.turns(h:DrSt w B base g V0 bo F P W):Turns (g::zbg V0) w W:=by obtain⟨V,v,l,a,t,hb,Bb,o⟩:=h;exact t
def qim(x:Value)(w:World)(B base g:Nat)(V0:Value)(bo:Nat)(F P:List (List Nat))(W:World)(e:Ending)(W':World):Prop:=e= .returned x/\DrSt w B base g V0 bo F P W'/\KeepC W W'
theorem DrSt.call(h:DrSt w B base g V0 bo F P W){x:Value}{F2:List (List Nat)}{e:Ending}{W':World}{V:Value}(hv:∀V1,LogOf tL W base g V1 F->V1=V)(p:zc3 tL x base g V F2 W e W'):qim x w B base g V0 bo F2 P W e W':=by
 obtain⟨V1,v,l1,a,t,hb,Bb,o⟩:=h;obtain rfl:=hv V1 l1;obtain⟨rfl,V',l',a',t'⟩:=p;refine⟨rfl,⟨V',v,l',zdz t.size a a',zbm t a t',hb,Bb.touch t' (l1.notT Bb (by decide) (by decide)),zkw o t' (fun x hx=>?_)⟩,KeepC.log l1 t'⟩;obtain⟨A,n,c,D,rfl,hg,ho,_⟩:=l1;rcases qnu.1 hx with rfl|hx
 ·exact zav o hg (by decide)
 ·exact zh1 o ho (by decide) x hx
theorem zxq{V V1:Value}(l:LogOf tL W base g V F){F1:List (List Nat)}(l1:LogOf tL W base g V1 F1):V1=V:=by obtain⟨A,n,c,D,rfl,hg,_⟩:=l;obtain⟨A1,n1,c1,D1,rfl,hg1,_⟩:=l1;have:=hg.symm.trans hg1;simp at this;obtain⟨rfl,rfl,rfl⟩:=this;rfl
end
theorem qht:ElT Tryz.prog 76 75 (.agg #[.bool false,.int .i64 0,.string ⟨#[]⟩,.int .i64 0,.int .i64 0]) 5 48:=⟨by kernel_rfl,by kernel_rfl,rfl,by omega⟩
def z9t(l:List zab)(w:World)(e:Ending)(w':World):Prop:=∃A n c A2 n2 c2,e= .returned (.tuple #[.slice A n c,.slice A2 n2 c2])/\
 Own w' w.heap.size 5 (.slice A n c) (zah .u8 (zc6 l))/\w'.ownsRow w.heap.size 75 5 (.slice A2 n2 c2) n2 (recs za4 (zed l))/\New w w'
theorem qhu(a:List Nat)(x y:Nat)(b:List Nat){k:Nat}(h:a.length=k):(a++x::b).set k y=(a++[y])++b:=by subst h;rw[qn5 _ _ (ql6 _)];simp
theorem zra{w:World}{A:Option Addr}{n c:Nat}{l:List zab}(h:Reads w w.heap.size 5 A n (recs za4 l))(hn:n<=65536):
 Calls Tryz.prog 126 #[.slice A n c] w (z9t l w):=by
 obtain rfl:=h.lenCell;have SP:=qrf (z3l hn);have MW:=qrf (zv0 l);go_enter Tryz.func126,Tryz.ntmps126
 go_wp2_with (refine zci elW rfl (.tmp 11) (.tmp 11) rfl (W:=w) (B:=w.heap.size) l.length l.length rfl rfl rfl rfl (ql6 _) (qq8 _ _) (ql6 _) rfl (by omega) (by simp only[maxLen];omega) ?_
              intro w1 o1 _ b1 s1)
 go_loopw [5,15] (fun a i wr=>∃(k:Nat) (A2:Option Addr) (n2 c2:Nat),i= .int .i64 (k:Int)/\k<=l.length/\a= .slice A2 n2 c2/\n2<=k/\Own wr w.heap.size 138 (.slice (some ⟨w.heap.size,0,none⟩) l.length l.length) (zah .u64 (zfa (l.take k)++List.replicate (l.length-k) 0))/\
  wr.ownsRow w.heap.size 75 5 (.slice A2 n2 c2) n2 (recs za4 (zed (l.take k)))/\Below w.heap.size w wr) (fun _ i _=>l.length-(intOf i).toNat)
 case atStart=>exact⟨0,none,0,0,rfl,by omega,rfl,by omega,by simpa[zfa,zb8] using o1,by simpa[zed,recs] using(zdx (w:=w1) (sz:=5)),b1⟩
 case round=>
  clear o1 b1 s1;obtain⟨k,A2,n2,c2,rfl,hk,rfl,hnk,o,u,b⟩:=hrel;by_cases hlt:k<l.length
  ·obtain⟨ad,rfl,_,d0,d1,d2,d3,d4⟩:=(qsg h b).cell5 hlt
   have MS:=qrf (z3k l k hlt);have VS:=qrf (z8n l k hlt);generalize l.getD k (false,0,[],0,0)=x at*;obtain⟨xb,xn,xs,xx,xy⟩:=x;simp only at d0 d1 d2 d3 d4;have hrep:List.replicate (l.length-k) (0:Nat)=0::List.replicate (l.length-(k+1)) 0:=by rw[show l.length-k=(l.length-(k+1))+1 by omega];rfl
   rw[hrep] at o;have hml:(zfa (l.take k)).length=k:=by rw[zll,ql2];omega
   have i1:(k:Int)<(l.length:Int):=by omega
   obtain⟨W2,hW2⟩:∃W,W=wr.alloc (.cells #[.bool xb,.int .i64 xn,.string (zai xs),.int .i64 xx,.int .i64 xy] 75):=⟨_,rfl⟩;have b2:New wr W2:=by rw[hW2];exact(qq8 _ _).alloc (ql6 _) _
   have B2:Blk W2 wr.heap.size 75 #[.bool xb,.int .i64 xn,.string (zai xs),.int .i64 xx,.int .i64 xy]:=by rw[hW2];exact qrv _ _ _
   have o2:=o.later b2;have u2:=za8 u b2;have b02:=zg8 b b2 (ql6 _);obtain⟨p0,p1,p2,p3,p4⟩:=zc4 B2;have HW2:=qrf hW2;cases xb with
   |true=>
    have MS:=MS.out;have VS:=VS.out;simp only[qjc,if_true,qmg] at MS VS;have MS:=qrf MS;have VS:=qrf VS;rw[hW2] at p0 p1 p2 p3 p4;clear hW2 o u b;go_wp2_with fail
    rw[<-HW2.out];go_roundw
    case rel=>exact⟨k+1,_,_,_,by go_num,by omega,rfl,by omega,by rw[MS.out,qmi];exact o2,by rw[VS.out];exact u2,b02⟩
    case measure=>simp[intOf];omega
   |false=>
    have MS:=MS.out;have VS:=VS.out;simp only[qjc,qqs,if_false] at MS VS;have MS:=qrf MS;have VS:=qrf VS;obtain⟨hg0,hgl,hc,hf,hset⟩:=o2.num0 (i:=k) hlt;have o3:=hset 1;rw[qhu _ _ _ _ hml] at o3;have hc0:(zfa (l.take k)++0::List.replicate (l.length-(k+1)) 0).getD k 0=0:=by rw[qnp,qoy (by omega),hml,qn6];rfl
    rw[hc0] at hc;rw[hW2] at p0 p1 p2 p3 p4 hc hf;obtain⟨W3,hW3⟩:∃W,W=W2.setCell ⟨w.heap.size,k,none⟩ (.int .u64 1):=⟨_,rfl⟩;have g3:W2.grownBy W3 (some w.heap.size):=by rw[hW3];exact⟨rfl,rfl,rfl,by simp[World.setCell],fun k _ hk=>qq7 _ _ _ _ (by simpa using hk)⟩
    obtain⟨cs3,M3⟩:=o2.row w.heap.size rfl;have u3:=qlm u2 g3 (.inr (zav u2 M3 (by decide)));have B3:=B2.grown g3 (by have:=qrx B2 M3 (by decide);simpa using this);have b03:Below w.heap.size w W3:=b02.grown g3 b02.size (fun k hk=>by injection hk with hk;omega);have o3:Own W3 w.heap.size 138 (.slice (some ⟨w.heap.size,0,none⟩) l.length l.length) (zah .u64 (zfa (l.take k)++[1]++List.replicate (l.length-(k+1)) 0)):=by rw[hW3];exact o3
    have HW3:=qrf (show W3=(wr.alloc (.cells #[.bool false,.int .i64 xn,.string (zai xs),.int .i64 xx,.int .i64 xy] 75)).setCell ⟨w.heap.size,k,none⟩ (.int .u64 1) by rw[hW3,hW2]);obtain⟨q0,q1,q2,q3,q4⟩:=zc4 B3;rw[HW3.out] at q0 q1 q2 q3 q4;obtain⟨cs4,M4⟩:=o3.row w.heap.size rfl;have z3:=b03.size;have HZ3:=qrf (show wr.heap.size+1=W3.heap.size by rw[hW3,hW2];simp[World.setCell]);clear hW2 hW3 hset hc0 o u b o2 u2 B2 b02 M3 g3;go_wp2_with (first
     |(rw[<-HW3.out]
       refine zdy qht rfl (.tmp 26) (.tmp 28) rfl (W:=w) (B:=w.heap.size) (base:=w.heap.size) (n:=n2) u3 rfl (by rw[<-HZ3.out];rfl) b03 (ql6 _) z3 rfl (by simp[Value.oneCell']) (by omega) (by simp only[maxLen];omega) ?_;intro A5 c5 w5 _ _ u5 g5 b5 _ _))
    go_roundw
    case rel=>exact⟨k+1,_,_,_,by go_num,by omega,rfl,by omega,by rw[MS.out];exact o3.kept g5 (.inr (fun e=>zav u3 M4 (by decide) e.symm)),by rw[VS.out,za7];exact u5,b5⟩
    case measure=>simp[intOf];omega
  ·obtain rfl:k=l.length:=by omega
   rw[qn6,qpq,qmg,qp1] at o;rw[qp1] at u;have P:=zn1 (c:=l.length) 1 o.reads MW.out.2 (by omega) (by omega) (by omega);rw[SP.out] at P;have P:=qrf P;clear hlt o;go_wp2_with fail
   refine P.out.mono ?_;rintro e w5 ⟨A5,n5,c5,rfl,o5,b5⟩;go_wp2
   go_ret2
   have z:=b.size;exact⟨_,_,_,_,_,_,rfl,o5.base_le z,za8 u b5,zg8 b b5 (ql6 _)⟩
end Go.Proofs.Y
