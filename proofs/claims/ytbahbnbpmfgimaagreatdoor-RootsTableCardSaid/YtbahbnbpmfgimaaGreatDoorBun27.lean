import Derived.Great.BuildSlice
import Derived.Test.YtbahbnbpmfgimaaGreatDoorBun26
set_option maxHeartbeats 4000000
set_option maxRecDepth 100000
namespace Go.Hm
open Go Go.RowKit
theorem z4h{T:List Nat}{w c e:World}{g:Nat}{d b:Value}(i:∀x∈g::zbt d,x∈T)(m:w.heap.size<=c.heap.size)(f:b.ownBlock=d.ownBlock\/ ∃h,b.ownBlock=some h/\w.heap.size<=h)(a:Turns (g::zbt b) c e):TurnsB w.heap.size T c e:=
 ⟨a.os,a.tape,a.output,a.size,fun k j l=>a.block k (by omega) (zue (fun h=>l (i k h)) j f)⟩
theorem LeafIn.at_{w:World}{A:Option Addr}{L:List (List Nat)}{T:List Nat}(h:LeafIn w A L T){i:Nat}(hi:i<L.length):
 ∃ad,A=some ad/\ ∀W,New w W-> ∀j v,(zar .u8 (L.getD i []))[j]? =some v->W.cell? ((ad.add (i*32)).add j)=some v:=by
 obtain⟨ad,e,d,a,g⟩:=Reads.rec_ (f:=zi6) (sz:=32) zft [] h.row hi (by omega);have k:zna (L.getD i []):=by refine h.digs _ ?_;rw[qsh,qqt a];exact qrf a
 refine⟨ad,e,fun W c j v b=>?_⟩;rw[zbc];rw[<-zzd k.1] at b;exact(qwu c (by rw[zam];exact d)).trans (g j v b)
end Go.Hm
namespace Go.Proofs.Y
open Go.RowKit Go.Hm
theorem sD:Tryz.prog.underlying 23=some (.slice (Tryz.prog.elem 23)):=by kernel_rfl
theorem zD(w:World):(sizeOf (Tryz.prog.elem 23)).run Tryz.prog w= .ok 32 w:=by kernel_rfl
theorem qet(A:Option Addr)(n c m:Nat)(a:m<=c)(w:World):(Instr.sliceAt 23 (.slice A n c) none (some (.int .i64 (m:Int))) none).run Tryz.prog w= .ok (.slice A m c) w:=by rw[run_sliceAt_slice w _ _ _ _ _ sD,run_slice_h w _ A n c sD .i64 (m:Int) (by omega) (by omega),zD];cases A<;> simp[Result.andThen,sliced,zgi]
theorem qeu(A:Option Addr)(n c k:Nat)(a:k<=n)(w:World):(Instr.sliceAt 23 (.slice A n c) (some (.int .i64 (k:Int))) none none).run Tryz.prog w= .ok (.slice (if c=k then A else A.map (·.add (k*32))) (n-k) (c-k)) w:=by rw[run_sliceAt_slice w _ _ _ _ _ sD,run_slice_l w _ A n c sD .i64 (k:Int) (by omega) (by omega),zD];simp[Result.andThen,sliced]
theorem zr7{b:Array Oper}{rest:List Oper}{o:Oper}{a:Act}{w:World}{Q:Exit->Act->World->Prop}(e:o.guard=none)(ty:TypeId)(x:Operand)(k:o.op= .load ty x){c:Addr}{cs:List Value}{d:TypeDesc}(m:a.eval x= .pointer (some c))(g:∀j v,cs[j]? =some v->w.cell? (c.add j)=some v)(l:Tryz.prog.underlying ty=some d)(i:d.isRow=true)(hi:(Tryz.prog.info? ty).map (·.size)=some cs.length)
 (h:wpList Tryz.prog b Q rest (a.put o.dst (.agg cs.toArray)) w):wpList Tryz.prog b Q (o::rest) a w:=by
 refine wpList_plain e fun K f=>?_
 unfold Oper.wp execOp;simp only[k,m,Instr.loadAt,Instr.sureAddr,qwg,qwh,qwi,zk0 w c ty cs d g l i hi];exact f _ _ h
theorem qkf{d:List Nat}(h:d.length=32):(Tryz.prog.info? 35).map (·.size)=some (zar .u8 d).toArray.size:=by have:=qdu (l:=List.replicate 32 0) (by simp);rw[this];simp[za5,zar,h]
theorem z4i(d:List Nat):(zar .u8 d).toArray.all (·.oneCell')=true:=by rw[Array.all_eq_true_iff_forall_mem];intro v a;exact zcr .u8 d v (by simpa using a)
theorem z1q:∀(m:Nat) {L:List (List Nat)} {w:World} {base g:Nat} {V:Value} {F:List (List Nat)} {A:Option Addr} {c:Nat},L.length<m->LogOf tL w base g V F->base<=w.heap.size->F.length+L.length<=9000000->LeafIn w A L (g::zbt V)->L.length<=c->c<=9223372036854775807->(∀w',Turns (g::zbt V) w w'->ConstIn w')->
 Calls Tryz.prog 36 #[.pointer (some ⟨g,0,none⟩),.slice A L.length c] w (zf3 tL (dV (zc9 L).1) base g V (F++(zc9 L).2) w):=by
 intro m;induction m with
 |zero=>intro L w base g V F A c h;omega
 |succ m ih=>
  intro L w base g V F A c hm hL a0 hn q hc d6 hC;have G:=zai w (.cells (za5 .u8 zau).toArray 35);have B:=qw1 w 35 (za5 .u8 zau).toArray;have b1:g<w.heap.size:=hL.lt;obtain⟨W0,z⟩:∃W,W=w.alloc (.cells (za5 .u8 zau).toArray 35):=⟨_,rfl⟩;rw[<-z] at G B;have L0:=hL.new G;have Y:=q.turn (qxe (T:=g::zbt V) G) (fun x _ h=>h)
  match L,hm,hn,q,hc,Y with
  | [],_,hn,_,_,_=>
    have lh:=zl5 (s:=zbz) (D:=[]) (A:=none) (n:=0) (c:=0) L0 (qqs a0 G.size) (by simp at hn;omega) ⟨qwy,(fun _ hd=>nomatch hd),qq0 _⟩ (by omega) (by decide) (by decide) (by simp[bytesOf,zik]) (by simp[bytesOf]) (fun w' k=>hC w' ((qxe G).trans k));rw[show bytesOf []=[] from rfl,zng] at lh;obtain⟨d,l⟩:∃d,d=(zar .u8 (zca zbz [])).toArray:=⟨_,rfl⟩;have u:dV (zca zbz [])= .agg d:=by rw[l];rfl
    have o:=qkf (zcg zbz []).1;have p:=z4i (zca zbz []);have N:(za5 .u8 zau).toArray.size=d.size:=by rw[l];simp[za5,zar,zau,(zcg zbz []).1]
    rw[zlb,u] at lh;rw[<-l] at o p;rw[zjf];show Calls _ _ _ _ (zf3 tL (dV (zca zbz [])) base g V (F++[zb2 zbz []]) w);rw[u];have LH:=qwk lh;have o:=qwk o;have p:=qwk p;have N:=qwk N;have HL:=qwk L0;have B:=qwk B;have C0:=qwk G;have HW:=qwk z;clear l u lh L0 G hC q hL ih z Y;go_enter Tryz.func36,Tryz.ntmps36
    go_wp2_with fail
    have F1:=LH.out;rw[HW.out] at F1;refine F1.mono ?_;rintro e w4 ⟨rfl,V',l4,a4,t4⟩;have t4:Turns (g::zbt V) W0 w4:=by rw[HW.out];exact t4
    have g4:=B.out.touch t4 (HL.out.notT B.out (by decide) (by decide));have a4:V'.ownBlock=V.ownBlock\/ ∃h,V'.ownBlock=some h/\w.heap.size<=h:=a4.imp id fun⟨h,h1,O⟩=>⟨h,h1,qqs (by simp) O⟩
    have X:=qwk (zdu b1 l4 a4 ((qxe C0.out).trans t4) g4 d);have H:=qwk (qtc (za1 g4) (zbi g4 d));clear l4 a4 t4 g4 F1 LH HW;go_wp2_with (refine wpList_store_row rfl 35 (.tmp 4) (.tmp 12) rfl w.heap.size d rfl rfl _ _ H.out.1 o.out N.out p.out ?_)
    exact bodyPost_ret (results_cell_row rfl _ _ w.heap.size _ d (0,0) _ rfl H.out.2 zct rfl o.out) rfl ⟨rfl,X.out⟩
  | [x],_,_,q,_,Y=>
    have E:zna x:=q.digs x (by simp);obtain⟨ad,rfl,f⟩:=Y.at_ (i:=0) (by simp);have f:=f W0 (qwd _ _);rw[qto,zgi] at f;obtain⟨d,l⟩:∃d,d=(zar .u8 x).toArray:=⟨_,rfl⟩;have u:dV x= .agg d:=by rw[l];rfl
    have o:=qkf E.1;have J:(Tryz.prog.info? 35).map (·.size)=some d.toList.length:=by rw[l];simpa using qkf E.1
    have p:=z4i x;have N:(za5 .u8 zau).toArray.size=d.size:=by rw[l];simp[za5,zar,zau,E.1]
    have f:∀j v,d.toList[j]? =some v->W0.cell? (ad.add j)=some v:=by rw[l];simpa using f
    rw[<-l] at o p;rw[zgo];show Calls _ _ _ _ (zf3 tL (dV x) base g V (F++[]) w);rw[u,qra];have X:=qwk (zdu b1 L0 (.inl rfl) (qxe G) B d);have H:=qwk (qtc (za1 B) (zbi B d));rw[z] at f X H;have HC:=qwk f;have o:=qwk o;have J:=qwk J;have p:=qwk p;have N:=qwk N;clear l u L0 G B hC q hL ih z Y f;show Calls _ _ #[_,.slice (some ad) 1 c] _ _;go_enter Tryz.func36,Tryz.ntmps36
    go_wp2_with (first
     |(refine zr7 rfl 35 (.tmp 16) rfl rfl HC.out zct rfl J.out ?_)
     |(refine wpList_store_row rfl 35 (.tmp 4) (.tmp 17) rfl w.heap.size d rfl rfl _ _ H.out.1 o.out N.out p.out ?_))
    exact bodyPost_ret (results_cell_row rfl _ _ w.heap.size _ d (0,0) _ rfl H.out.2 zct rfl o.out) rfl ⟨rfl,X.out⟩
  |x::y::r,hm,hn,q,hc,Y=>
   have O:2<=(x::y::r).length:=by simp
   obtain⟨L,c3⟩:∃L,L=x::y::r:=⟨_,rfl⟩;rw[<-c3] at O hm hn q hc Y⊢;clear c3;obtain⟨s1,s2,s3⟩:=zho O;have SP:=z7s (L.length:Int) W0 (by omega) (by omega);rw[qrn] at SP;rw[zhr O];have dg:=q.digs;have d1:=zd7 _ (dg.take (za8 L.length));have d2:=zd7 _ (dg.drop (za8 L.length));have tk:(L.take (za8 L.length)).length=za8 L.length:=by rw[qqx];omega
   have dr:(L.drop (za8 L.length)).length=L.length-za8 L.length:=by rw[qqw]
   have f1:=(zij _ (dg.take (za8 L.length)) (by omega)).1;have f2:=(zij _ (dg.drop (za8 L.length)) (by omega)).1;have Q:=ih (L:=L.take (za8 L.length)) (c:=c) (by omega) L0 (qqs a0 G.size) (by omega) (Y.take (by omega)) (by omega) d6 (fun w' t=>hC w' ((qxe G).trans t));have R:=fun(w:World) (V:Value) (F:List (List Nat)) (A:Option Addr) (h1:LogOf tL w base g V F) (O:base<=w.heap.size) (h3:F.length+(L.length-za8 L.length)<=9000000) (h4:LeafIn w A (L.drop (za8 L.length)) (g::zbt V)) (h5:∀w',Turns (g::zbt V) w w'->ConstIn w')=>ih (L:=L.drop (za8 L.length)) (c:=c-za8 L.length) (by omega) h1 O (by omega) h4 (by omega) (by omega) h5
   rw[tk] at Q f1;rw[dr] at R f2;have a3:=fun(w:World) (A:Option Addr) (T:List Nat) (h:LeafIn w A L T)=>h.drop (k:=za8 L.length) (c:=c) (by omega) hc
   have d5:=fun W=>qet A L.length c (za8 L.length) (by omega) W
   have c1:=fun W=>qeu A L.length c (za8 L.length) (by omega) W
   generalize zc9 (L.take (za8 L.length))=ra at*;generalize zc9 (L.drop (za8 L.length))=rb at*;generalize za8 L.length=k at*;obtain⟨a,fa⟩:=ra;obtain⟨b,fb⟩:=rb;simp only at d1 d2 f1 f2 Q R⊢;obtain⟨ca,P⟩:∃d,d=(zar .u8 a).toArray:=⟨_,rfl⟩;have b2:dV a= .agg ca:=by rw[P];rfl
   obtain⟨cb,c4⟩:∃d,d=(zar .u8 b).toArray:=⟨_,rfl⟩;have b3:dV b= .agg cb:=by rw[c4];rfl
   obtain⟨d,l⟩:∃d,d=(zar .u8 (zca zcy [a,b])).toArray:=⟨_,rfl⟩;have u:dV (zca zcy [a,b])= .agg d:=by rw[l];rfl
   have C:(Tryz.prog.info? 35).map (·.size)=some ca.size:=by rw[P];exact qkf d1.1
   have a6:(za5 .u8 zau).toArray.size=ca.size:=by rw[P];simp[za5,zar,zau,d1.1]
   have M:ca.all (·.oneCell')=true:=by rw[P];exact z4i _
   have b0:=zcg zcy [a,b];have o:(Tryz.prog.info? 35).map (·.size)=some d.size:=by rw[l];exact qkf b0.1
   have N:(za5 .u8 zau).toArray.size=d.size:=by rw[l];simp[za5,zar,zau,b0.1]
   have p:d.all (·.oneCell')=true:=by rw[l];exact z4i _
   have ND:=fun(w:World) (V:Value) (F:List (List Nat)) (h1:LogOf tL w base g V F) (O:base<=w.heap.size) (h3:F.length<=10000000) (h4:∀w',Turns (g::zbt V) w w'->ConstIn w')=>qes h1 O h3 d1 d2 h4
   rw[b2] at Q;rw[b3] at R;rw[b2,b3,u] at ND;rw[u];have b8:=qwk Q;have b9:=qwk R;have d3:=qwk ND;have I:=qwk a3;have SP:=qwk SP;have b5:=qwk L0;have b7:=qwk q;have HC:=qwk hC;have B:=qwk B;have C0:=qwk G;have HW:=qwk z;have C:=qwk C;have a6:=qwk a6;have M:=qwk M;have o:=qwk o;have N:=qwk N;have p:=qwk p;have d4:=qwk c1;clear P c4 l b2 b3 u b0 ih Q R ND L0 G hC q hL z Y a3 dg d1 d2 tk dr c1;go_enter Tryz.func36,Tryz.ntmps36
   have q0:((L.length:Int)==0)=false:=by rw[beq_eq_false_iff_ne];omega
   have q1:((L.length:Int)==1)=false:=by rw[beq_eq_false_iff_ne];omega
   go_wp2_with fail
   have F1:=SP.out;rw[HW.out] at F1;refine F1.mono ?_;rintro e w' ⟨rfl,rfl⟩;clear F1 SP q0 q1;go_wp2_with fail
   have F2:=b8.out;rw[HW.out] at F2;refine F2.mono ?_;rintro e w5 ⟨rfl,V1,l5,a5,t5⟩;have t5:Turns (g::zbt V) W0 w5:=by rw[HW.out];exact t5
   have a5:V1.ownBlock=V.ownBlock\/ ∃h,V1.ownBlock=some h/\w.heap.size<=h:=a5.imp id fun⟨h,h1,O⟩=>⟨h,h1,qqs (by simp) O⟩
   have g5:=B.out.touch t5 (b5.out.notT B.out (by decide) (by decide));have L5:=qwk l5;have A5:=qwk a5;have T5:=qwk ((qxe (T:=g::zbt V) C0.out).trans t5);have G5:=qwk g5;clear F2 b8 l5 a5 t5 g5 B b5 d5 HW C0;go_wp2_with (refine wpList_store_row rfl 35 (.tmp 6) (.tmp 25) rfl w5.heap.size ca rfl rfl _ _ (heap_alloc_new _ _) C.out a6.out M.out ?_;rw[zbj])
   obtain⟨w7,a1⟩:∃W,W=w5.alloc (.cells ca 35):=⟨_,rfl⟩;have a2:New w5 w7:=by rw[a1];exact zai _ _
   have g6:Blk w7 w5.heap.size 35 ca:=by rw[a1];exact qw1 _ _ _
   rw[<-a1];have c8:=qwk (show w5.heap.size≠w.heap.size by have:=G5.out.lt;omega);generalize w5.heap.size=b6 at*;clear a1;have t7:=T5.out.trans (qxe a2);have l7:=L5.out.new a2;have nr:w.heap.size∉g::zbt V1:=L5.out.notT G5.out (by decide) (by decide);have g7:=G5.out.below a2 G5.out.lt;obtain⟨w0,b4⟩:∃W,W=w7.drew:=⟨_,rfl⟩;have S:New w7 w0:=by rw[b4];exact qw6 w7
   have t0:=t7.trans (qxe S);have l0:=l7.new S;have c5:=b7.out.turn t0 (fun x E hT=>zue hT E A5.out);have R2:=b9.out w0 V1 (F++fa) _ l0 (qqs a0 t0.size) (by rw[qrp,f1];omega) (I.out w0 A _ c5) (fun w' t=>HC.out w' (zbw t0 A5.out t));have LR:∀W,TurnsB w0.heap.size (w.heap.size::g::zbt V1) w0 W->W.heap[b6]? =some (.cells ca 35 (0,0)):=fun W hW=>by
    have a7:=g6.below S g6.lt;refine(hW.block b6 a7.lt (fun E=>?_)).trans a7;rcases qsm.1 E with e|E
    ·exact c8.out e
    ·exact l0.notT a7 (by decide) (by decide) E
   have R2:=qwk R2;have LR:=qwk LR;have d0:=qwk b4;have c9:=qwk (g7.below S g7.lt);have d7:=qwk l0;have T0:=qwk t0;have NR:=qwk nr;clear t7 l7 nr g7 S t0 l0 c5 a2 g6 T5 L5 G5 b7 b9 I b4;go_wp2
   refine zav (TurnsB w0.heap.size (w.heap.size::g::zbt V1)) [(true,0),(true,1),(true,2),(true,3),(true,4),(true,5),(false,6),(false,7),(false,8)]
    (TurnsB.refl _ _) TurnsB.trans (by kernel_rfl) (by kernel_rfl) (by kernel_rfl) (by kernel_rfl) ?_
   rw[<-d0.out];iterate 1 (
    refine zas rfl rfl (v:=?_) (fun W hW=>?_) ?_;rotate_left
    ·skip
     go_simp<;> with_reducible rfl
    simp only[Act.put,qta,qs1,qtb])
   refine zas rfl rfl (v:= .agg ca) (fun W hW=>zeg rfl (LR.out W hW) zct rfl C.out) ?_;simp only[Act.put,qta,qs1,qtb];iterate 3 (
    refine zas rfl rfl (v:=?_) (fun W hW=>?_) ?_;rotate_left
    ·skip
     go_simp<;> with_reducible rfl
    simp only[Act.put,qta,qs1,qtb])
   refine zas rfl rfl (v:= .slice (if c=k then A else A.map (·.add (k*32))) (L.length-k) (c-k)) (fun W hW=>znd (d4.out W)) ?_;simp only[Act.put,qta,qs1,qtb];refine za7 rfl rfl (fun K hK=>?_);go_simp
   refine R2.out.mono ?_;rintro e w8 ⟨rfl,V2,l8,a8,t8⟩;refine hK _ _ (.of (t8.more (by intro x E;simp at E⊢;simp[E])) (qq0 _)) ?_;clear hK;have U:=zbw T0.out A5.out t8;have Z:=zgq T0.out.size A5.out a8;have g8:=c9.out.touch t8 NR.out;have nd:=d3.out w8 V2 (F++fa++fb) l8 (qqs a0 U.size) (by rw[qrp,qrp,f1,f2];omega) (fun w' t=>HC.out w' (zbw U Z t));have c6:w.heap.size∉g::zbt V2:=l8.notT g8 (by decide) (by decide);refine za7 rfl rfl (fun K hK=>?_);go_simp
   refine nd.mono ?_;rintro e w9 ⟨rfl,V3,l9,a9,t9⟩;refine hK _ _ (z4h (fun x E=>quq _ E) t8.size a8 t9) ?_;clear hK;have c7:=zbw U Z t9;have c2:=zgq U.size Z a9;have g9:=g8.touch t9 c6;refine za7 rfl rfl (fun K hK=>?_);refine wp_store_row 35 (.tmp 4) (.tmp 33) rfl w.heap.size d rfl rfl _ _ (za1 g9) o.out N.out p.out ?_;refine hK _ _ (.of (qxf (zbv (g:=w.heap.size) w9 d) (by simp)) (qqs t8.size t9.size)) ?_;clear hK;refine zdr ?_;have X:=zdu b1 l9 c2 c7 g9 d;rw[qrc,qrc] at X;have X:=qwk X;have H:=qwk (zbi g9 d);clear U Z g8 nd c6 c7 c2 g9 l8 a8 t8 l9 a9 t9;go_wp2
   exact bodyPost_ret (results_cell_row rfl _ _ w.heap.size _ d (0,0) _ rfl H.out zct rfl o.out) rfl ⟨rfl,by have:=X.out;simpa only[qrc] using this⟩
end Go.Proofs.Y
namespace Go.Hm
open Go Go.RowKit
theorem z4j{b:List (List Nat)}(h:Digs b):((b.map dV).flatMap fun v=>v.cells.toList)=recs zi6 b:=by
 induction b with
 |nil=>rfl
 |cons d b e=>
  rw[qrj,qt6,zhq,e (fun x c=>h x (by simp[c])),zzd (h d (by simp)).1];rfl
end Go.Hm
namespace Go.Proofs.Y
open Go.RowKit Go.Hm
theorem qp0:Tryz.prog.underlying 23=some (.slice 35):=by kernel_rfl
theorem qoy:∃ie z,Tryz.prog.info? 35=some ie/\ie.zero=some z/\ie.size=32:=by
 have h:(Tryz.prog.info? 35).map (fun i=>(i.zero.isSome,i.size))=some (true,32):=by kernel_rfl
 cases hq:Tryz.prog.info? 35 with
 |none=>rw[hq] at h;cases h
 |some ie=>
  rw[hq] at h;simp only[qtw,qqh,qqg] at h;obtain⟨z,b⟩:=Option.isSome_iff_exists.1 h.1;exact⟨ie,z,rfl,b,h.2⟩
theorem z8u{b:List (List Nat)}(c:Digs b)(z:Value):Instr.fill (fun i=>some (i*32,32)) ((Array.range (b.length*32)).map (z.cells[· %z.cells.size]!)) (((b.map dV).zipIdx 0).map fun x=>(x.2,x.1))=some (recs zi6 b).toArray:=by
 rw[Great.fill_whole (s:=32) (by omega) (b.map dV) _ (fun v f=>by obtain⟨d,e,rfl⟩:=qqu.1 f;have:=(c d e).1;simp[dV,Value.cells,zar,this]) (by simp),z4j c]
section
variable{ops:Array Oper}{rest:List Oper}{o:Oper}{a:Act}{w:World}{Q:Exit->Act->World->Prop}
theorem zp9(j:o.guard=none)(n:Nat)(b:Array (Nat × Operand))(l:o.op= .buildSlice 23 n b)(c:List (List Nat))(g:Digs c)(k:c.length=n)(q:0<n)(r:n<=1000)
 (m:(b.map fun(i,x)=>(i,a.eval x)).toList=((c.map dV).zipIdx 0).map fun x=>(x.2,x.1))
 (h:wpList Tryz.prog ops Q rest (a.put o.dst (.slice (some ⟨w.heap.size,0,none⟩) n n)) (w.alloc (.cells (recs zi6 c).toArray 35))):wpList Tryz.prog ops Q (o::rest) a w:=by
 obtain⟨p,z,e,f,d⟩:=qoy;subst k;refine wpList_buildSlice j _ _ _ b l _ p z qp0 e f (by rw[d];omega) (by rw[d];omega) ?_ h;rw[m,d];exact z8u g z
end
theorem zsq{w:World}{b:List (List Nat)}(e:Digs b){T:List Nat}(d:w.heap.size∉T):LeafIn (w.alloc (.cells (recs zi6 b).toArray 35)) (some ⟨w.heap.size,0,none⟩) b T:=by refine⟨⟨zaw (sz:=32) zft b,fun _=>⟨_,rfl,by simp,?_⟩⟩,e,fun _ f c=>by injection c with c;subst c;exact d⟩;have:=qwe (heap_alloc_new w (.cells (recs zi6 b).toArray 35));simpa using this
end Go.Proofs.Y
namespace Go.Hm
open Go Go.RowKit
theorem z1t{k n:Int}{d:List Nat}(h:∀x∈d,x<256):∀p∈leafP k n d,∀x∈p,x<256:=by
 intro p b;unfold leafP at b;simp only[qsm,qur,or_false] at b;rcases b with rfl|rfl|rfl
 ·exact zhp _ _
 ·exact zhp _ _
 ·exact h
end Go.Hm
namespace Go.Proofs.Y
open Go.RowKit Go.Hm
theorem z8x{a b:List Nat}(c:zna a)(d:zna b):∀f,za9 zcy [a,b]=some f->(∀x∈f,x<256)/\f.length<=10000000:=fun f e=>
 ⟨zgn (by decide) (by intro p g;simp at g;rcases g with rfl|rfl;exact c.2;exact d.2) e,zfn e (by simp[zik,c.1,d.1])⟩
theorem z4l{L:List (List Nat)}(h:Digs L):GoodF (zc9 L).2:=by
 intro f c;by_cases d:L.length=0
 ·obtain rfl:=qrh d
  rw[zjf] at c;obtain rfl:=qr6.1 c;exact⟨zgn (by decide) (by simp) zng,zfn zng (by simp[zik])⟩
 ·obtain⟨a,b,g,i,e⟩:=(zij L h (by omega)).2 f c
  exact z8x g i f e
theorem GoodF.app{F G:List (List Nat)}(h:GoodF F)(k:GoodF G):GoodF (F++G):=fun p b=>(qr5.1 b).elim (h p) (k p)
abbrev qxn:=@GoodF.app
theorem qoz{a b:List Nat}(c:zna a)(d:zna b)(W:World):(binOp .eql 35 (dV a) (dV b)).run Tryz.prog W= .ok (.bool (decide (a=b))) W:=by
 have h:=zzb (P:=Tryz.prog) (k:= .u8) zct (by kernel_rfl) (by kernel_rfl) (by kernel_rfl) (by kernel_rfl) (a.map fun n:Nat=>(n:Int)) (b.map fun n:Nat=>(n:Int)) (by simp[c.1]) (by simp[d.1]) W;have e:((a.map fun n:Nat=>(n:Int))==(b.map fun n:Nat=>(n:Int)))=decide (a=b):=by
  rw[qrd];simp only[beq_iff_eq,decide_eq_true_eq];constructor
  ·intro h
   have:=congrArg (List.map Int.toNat) h;simpa[List.map_map,Function.comp_def] using this
  ·rintro rfl;rfl
 rw[e] at h;simpa[dV,zar,za5,List.map_map,Function.comp_def] using h
theorem zg7{d:List Nat}(h:zna d):∃cs:Array Value,dV d= .agg cs/\(Tryz.prog.info? 35).map (·.size)=some cs.size/\(za5 .u8 zau).toArray.size=cs.size/\cs.all (·.oneCell')=true/\cs=(zar .u8 d).toArray:=by refine⟨(zar .u8 d).toArray,rfl,qkf h.1,by simp[za5,zar,zau,h.1],z4i _,rfl⟩
section
variable{ops:Array Oper}{rest:List Oper}{o:Oper}{a:Act}{Q:Exit->Act->World->Prop}
theorem zg8(d:Region.wanted o (yielded ops a.tmps)=true){w:World}(x:Operand)(c:o.op= .load 35 x)(g:Nat)(cs:Array Value)(e:a.eval x= .pointer (some ⟨g,0,none⟩))(B:Blk w g 35 cs)(hi:(Tryz.prog.info? 35).map (·.size)=some cs.size)
 (h:wpList Tryz.prog ops Q rest (a.put o.dst (.agg cs)) w):wpList Tryz.prog ops Q (o::rest) a w:=
 wpList_step fun K b=>by simp only[d,if_true];unfold Oper.wp execOp;simp only[c,e,Instr.loadAt,Instr.sureAddr,qwg,qwh,qwi,run_loadVar_row w g 35 35 cs (0,0) _ B zct (by simp) hi];exact b _ _ h
end
theorem LogOf.beside{t u:TypeId}(E:24≠t)(F:24≠u)(q:u≠5){w w':World}{base b g l:Nat}{V j:Value}{L z:List (List Nat)}(h:LogOf t w base g V L)(m:LogOf u w b l j z)(p:g≠l)(C:∀x∈zbt j,V.ownBlock≠some x)(k:Turns (l::zbt j) w w'):LogOf t w' base g V L:=by
 refine h.turn k (fun d=>?_) (fun x d=>?_) (m.noB q)
 ·rcases qsm.1 d with e|d
  ·exact p e
  ·obtain⟨A,n,c,D,rfl,r,s,_⟩:=h
   obtain⟨v,G,B,y,rfl,f,i,_⟩:=m;exact zfo i r E d
 ·rcases qsm.1 d with rfl|d
  ·obtain⟨A,n,c,D,rfl,r,s,_⟩:=h
   obtain⟨v,G,B,y,rfl,f,i,_⟩:=m;exact s.blk_ne f F
  ·exact C x d
theorem z4m{w:World}{V c b:Value}(h:∀x∈zbt b,V.ownBlock≠some x)(g:∀x∈zbt b,x<w.heap.size)(a:c.ownBlock=V.ownBlock\/ ∃h,c.ownBlock=some h/\w.heap.size<=h):∀x∈zbt b,c.ownBlock≠some x:=fun x d e=>by
 rcases a with a|⟨j,f,i⟩
 ·exact h x d (a▸e)
 ·rw[f] at e
  injection e with e;have:=g x d;omega
theorem zsr{V c:Value}(h:∀x∈zbt c,V.ownBlock≠some x):∀x∈zbt V,c.ownBlock≠some x:=fun x b e=>by
 have d:V.ownBlock=some x:=by
  unfold zbt at b;cases hq:V.ownBlock with
  |none=>rw[hq] at b;simp at b
  |some y=>rw[hq] at b;simp at b;rw[b]
 exact h x (z1s e) d
theorem Digs.at_{L:List (List Nat)}(h:Digs L){k:Nat}(b:k<L.length):zna (L.getD k []):=h _ (zf7 b)
def LogSt(w:World)(g:Nat)(W:World)(F:List (List Nat))(K:List (Nat × Array Value)):Prop:=
 ∃V,LogOf tL W w.heap.size g V F/\New w W/\ ∀p∈K,Blk W p.1 35 p.2
theorem LogSt.new{w W c:World}{g:Nat}{F:List (List Nat)}{K:List (Nat × Array Value)}(h:LogSt w g W F K)(n:New W c):LogSt w g c F K:=by obtain⟨V,l,b,k⟩:=h;exact⟨V,l.new n,qw5 b n,fun p d=>(k p d).below n (k p d).lt⟩
theorem LogSt.news{w W:World}{g:Nat}{F:List (List Nat)}{K:List (Nat × Array Value)}(h:LogSt w g W F K):New w W:=h.elim fun _ h=>h.2.1
theorem LogSt.blk{w W:World}{g:Nat}{F:List (List Nat)}{K:List (Nat × Array Value)}(h:LogSt w g W F K){b:Nat}{cs:Array Value}(c:(b,cs)∈K):Blk W b 35 cs:=h.elim fun _ h=>h.2.2 _ c
theorem LogSt.add{w W:World}{g:Nat}{F:List (List Nat)}{K:List (Nat × Array Value)}(h:LogSt w g W F K)(cs:Array Value):LogSt w g (W.alloc (.cells cs 35)) F ((W.heap.size,cs)::K):=by
 obtain⟨V,l,b,k⟩:=h.new (zai W (.cells cs 35));refine⟨V,l,b,fun p c=>?_⟩;rcases qsm.1 c with rfl|c
 ·exact qw1 _ _ _
 ·exact k p c
def zfg(F:FootS):Prop:=(∀c∈F.cols,∀z∈c.1,z<256)/\ ∀g∈F.groups,∀l∈g.2,∀p∈l,statData p.2.2
end Go.Proofs.Y
namespace Go.Hm
open Go Go.RowKit
theorem qc0{T T':List Nat}{w W a:World}(h:Turns T w W)(k:Turns T' W a)(c:∀x∈T',w.heap.size<=x):Turns T w a:=
 ⟨k.os.trans h.os,k.tape.trans h.tape,k.output.trans h.output,qqs h.size k.size,fun j b e=>(k.block j (qqv b h.size) (fun d=>by have:=c _ d;omega)).trans (h.block j b e)⟩
theorem qh0(l:List (List Nat)):∀u∈recs zi6 l,u.oneCell'=true:=by intro u b;obtain⟨x,_,a⟩:=qtj.1 b;simp only[zi6,qqu,qtn] at a;obtain⟨i,_,rfl⟩:=a;rfl
end Go.Hm
namespace Go.Proofs.Y
open Go.RowKit Go.Hm
abbrev tS:TypeId:=23
abbrev tD:TypeId:=35
theorem elD:ElT Tryz.prog tS tD (.agg (Array.replicate 32 (.int .u8 0))) 32 32:=⟨by kernel_rfl,by kernel_rfl,rfl,by omega⟩
def KeepX(B bo:Nat)(W W':World):Prop:=W.heap.size<=W'.heap.size/\ ∀t b cs,t≠tL->t≠24->(t≠tD\/b<B)->b≠bo->Blk W b t cs->Blk W' b t cs
theorem KeepX.refl(B bo:Nat)(W:World):KeepX B bo W W:=⟨qq0 _,fun _ _ _ _ _ _ _ h=>h⟩
theorem KeepX.trans{B bo:Nat}{a b c:World}(h:KeepX B bo a b)(k:KeepX B bo b c):KeepX B bo a c:=⟨qqs h.1 k.1,fun t x d e f i j l=>k.2 t x d e f i j (h.2 t x d e f i j l)⟩
theorem KeepX.new{B bo:Nat}{W a:World}(h:New W a):KeepX B bo W a:=⟨h.size,fun _ _ _ _ _ _ _ b=>b.below h b.lt⟩
def KeepL(B:Nat)(W W':World):Prop:=W.heap.size<=W'.heap.size/\ ∀t b cs,t≠tL->t≠24->(t≠tD\/b<B)->Blk W b t cs->Blk W' b t cs
theorem KeepL.refl{B:Nat}(W:World):KeepL B W W:=⟨qq0 _,fun _ _ _ _ _ _ h=>h⟩
theorem KeepL.trans{B:Nat}{a b c:World}(h:KeepL B a b)(k:KeepL B b c):KeepL B a c:=⟨qqs h.1 k.1,fun t x d e f i j=>k.2 t x d e f i (h.2 t x d e f i j)⟩
theorem KeepL.new{B:Nat}{W a:World}(h:New W a):KeepL B W a:=⟨h.size,fun _ _ _ _ _ _ b=>b.below h b.lt⟩
theorem KeepL.x{B bo:Nat}{W a:World}(h:KeepL B W a):KeepX B bo W a:=⟨h.1,fun t b c d e f _=>h.2 t b c d e f⟩
theorem KeepL.row{B n:Nat}{v:Value}{xs:List Value}{W c:World}(o:W.ownsRow B tD 32 v n xs)(gr:W.grownBy c v.ownBlock):KeepL B W c:=
 ⟨gr.size,fun _ b _ _ _ a d=>d.touch (qxl gr) (by
  rcases a with a|a
  ·exact zfo o d (qs7 a)
  ·exact fun e=>by have:=(zp6 o b e).1;omega)⟩
def KeepC(W W':World):Prop:=W.heap.size<=W'.heap.size/\ ∀t b cs,t≠tL->t≠24->Blk W b t cs->Blk W' b t cs
theorem KeepC.refl(W:World):KeepC W W:=⟨qq0 _,fun _ _ _ _ _ h=>h⟩
theorem KeepC.trans{a b c:World}(h:KeepC a b)(k:KeepC b c):KeepC a c:=⟨qqs h.1 k.1,fun t x d e f i=>k.2 t x d e f (h.2 t x d e f i)⟩
theorem KeepC.new{W a:World}(h:New W a):KeepC W a:=⟨h.size,fun _ _ _ _ _ b=>b.below h b.lt⟩
abbrev qxv:=@KeepC.new
theorem KeepC.l{B:Nat}{W a:World}(h:KeepC W a):KeepL B W a:=⟨h.1,fun t b c d e _=>h.2 t b c d e⟩
theorem KeepC.log{base g:Nat}{V:Value}{F:List (List Nat)}{W a:World}(l:LogOf tL W base g V F)(t:Turns (g::zbt V) W a):KeepC W a:=
 ⟨t.size,fun _ _ _ c d b=>b.touch t (l.notT b (qs7 c) (qs7 d))⟩
theorem KeepC.row{base n:Nat}{v:Value}{xs:List Value}{W e:World}(o:W.ownsRow base tD 32 v n xs)(k:KeepC W e):e.ownsRow base tD 32 v n xs:=by
 refine⟨o.1,?_⟩;rcases o.2 with f|⟨g,b,a,rfl,c,d,rest⟩
 ·exact .inl f
 ·exact .inr ⟨g,b,a,rfl,c,k.2 tD g a (by decide) (by decide) d,rest⟩
def DrSt(w:World)(B base g:Nat)(V0:Value)(bo:Nat)(F P:List (List Nat))(W:World):Prop:=
 ∃V v,LogOf tL W base g V F/\(V.ownBlock=V0.ownBlock\/ ∃h,V.ownBlock=some h/\w.heap.size<=h)/\Turns (g::zbt V0) w W/\(w.heap.size<=B/\B<=bo)/\Blk W bo tS #[v]/\W.ownsRow B tD 32 v P.length (recs zi6 P)
section
variable{w W:World}{B base g bo:Nat}{V0:Value}{F P:List (List Nat)}
theorem DrSt.new(h:DrSt w B base g V0 bo F P W){c:World}(k:New W c):DrSt w B base g V0 bo F P c:=by obtain⟨V,v,l,a,t,d,b,o⟩:=h;exact⟨V,v,l.new k,a,t.trans (qxe k),d,b.below k b.lt,zba o k⟩
theorem DrSt.turns(h:DrSt w B base g V0 bo F P W):Turns (g::zbt V0) w W:=by obtain⟨V,v,l,a,t,c,b,o⟩:=h;exact t
def qoa(x:Value)(w:World)(B base g:Nat)(V0:Value)(bo:Nat)(F P:List (List Nat))(W:World)(e:Ending)(W':World):Prop:=e= .returned x/\DrSt w B base g V0 bo F P W'/\KeepC W W'
theorem DrSt.call(h:DrSt w B base g V0 bo F P W){x:Value}{j:List (List Nat)}{e:Ending}{k:World}{V:Value}(u:∀V1,LogOf tL W base g V1 F->V1=V)(p:zf3 tL x base g V j W e k):qoa x w B base g V0 bo j P W e k:=by
 obtain⟨V1,v,b,a,t,q,i,o⟩:=h;obtain rfl:=u V1 b;obtain⟨rfl,l,y,m,d⟩:=p;refine⟨rfl,⟨l,v,y,zgq t.size a m,zbw t a d,q,i.touch d (b.notT i (by decide) (by decide)),zp7 o d (fun x f=>?_)⟩,KeepC.log b d⟩;obtain⟨A,n,c,D,rfl,r,s,_⟩:=b;rcases qsm.1 f with rfl|f
 ·exact zat o r (by decide)
 ·exact zp8 o s (by decide) x f
theorem qc1{V b:Value}(l:LogOf tL W base g V F){d:List (List Nat)}(f:LogOf tL W base g b d):b=V:=by obtain⟨A,n,c,D,rfl,e,_⟩:=l;obtain⟨h,k,j,i,rfl,a,_⟩:=f;have:=e.symm.trans a;simp at this;obtain⟨rfl,rfl,rfl⟩:=this;rfl
end
def Box1(g bl bv:Nat)(A:Option Addr)(n c:Nat)(W:World):Prop:=Blk W bl 27 #[.pointer (some ⟨g,0,none⟩)]/\Blk W bv tS #[.slice A n c]
theorem Box1.keep{g B bo a b:Nat}{A:Option Addr}{n c:Nat}{W d:World}(h:Box1 g a b A n c W)(k:KeepX B bo W d)(e:a≠bo)(f:b≠bo):Box1 g a b A n c d:=
 ⟨k.2 _ _ _ (by decide) (by decide) (.inl (by decide)) e h.1,k.2 _ _ _ (by decide) (by decide) (.inl (by decide)) f h.2⟩
theorem KeepX.t{B bo:Nat}{W a:World}(h:KeepX B bo W a){cs:Array Value}(d:Blk W bo tS cs):KeepT tW W a:=
 ⟨h.1,fun b _ c=>h.2 _ _ _ (by decide) (by decide) (.inl (by decide)) (qw2 c d (by decide)) c⟩
def z3r(P:List (List Nat))(base g:Nat)(V:Value)(F:List (List Nat))(w:World)(e:Ending)(w':World):Prop:=
 ∃v,e= .returned v/\w'.ownsRow w.heap.size tD 32 v P.length (recs zi6 P)/\ ∃V',LogOf tL w' base g V' F/\(V'.ownBlock=V.ownBlock\/ ∃h,V'.ownBlock=some h/\w.heap.size<=h)/\Turns (g::zbt V) w w'
theorem DrSt.post{w W:World}{B base g bo:Nat}{b:Value}{F P:List (List Nat)}(h:DrSt w B base g b bo F P W){v:Value}(e:∀v',Blk W bo tS #[v']->v'=v):z3r P base g b F w (.returned v) W:=by obtain⟨V,v',l,a,t,d,c,o⟩:=h;obtain rfl:=e v' c;exact⟨_,rfl,zfd o d.1,V,l,a,t⟩
end Go.Proofs.Y
namespace Go.Hm
open Go.RowKit
section
variable{P:Program}{ops:Array Oper}{Q:Exit->Act->World->Prop}{md:Region.Mode}{S:World->Prop}{t0:Nat}
def Closed(md:Region.Mode)(ops:Array Oper)(listed:Array Bool):Prop:=∀p op,ops[p]? =some op->listed.getD p false=true-> ∀e∈op.after,Region.binds md e=true->listed.getD e.on false=true
theorem Closed.set_{a:Array Bool}{j:Nat}(h:Closed md ops a)(l:j∈Region.ready md ops a):Closed md ops (a.setIfInBounds j true):=by
 intro p m c k e i g;obtain⟨_,n,f,b⟩:=mem_ready.1 l;by_cases d:p=j
 ·subst d
  rw[f] at c;injection c with c;subst c;exact zcd (b e i g)
 ·rw[zhh (qs7 d)] at k
  exact zcd (h p m c k e i g)
variable{R:World->World->Prop}
end
end Go.Hm
namespace Go.Proofs.Y
open Go.RowKit Go.Hm
def RestIn(w:World)(g:Nat)(V0:Value)(bq:Nat)(R:List (List Nat))(W:World):Prop:=∃A c,Blk W bq tS #[.slice A R.length c]/\R.length<=c/\c<=9223372036854775807/\LeafIn w A R (g::zbt V0)
end Go.Proofs.Y
