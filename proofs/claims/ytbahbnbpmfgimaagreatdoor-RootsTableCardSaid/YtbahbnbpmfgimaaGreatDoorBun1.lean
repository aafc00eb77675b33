import Derived.Deep.AppendLies
import Derived.Deep.RegionHeld3
import Derived.Laws.CopyOwn
import Derived.Lib.Hide
import Derived.ProofKit
import Derived.WalkLawsBesides
import Derived.WalkSpells
set_option maxHeartbeats 200000
namespace Go
theorem Hz {p : Prop} (h : p) : Go.RowKit.Hid p := Go.Lib.hid h
abbrev qqe:=@List.cons.injEq
abbrev qqf:=@Option.some.inj
abbrev qqg:=@Prod.mk.injEq
abbrev qqh:=@Option.some.injEq
abbrev qqi:=@_root_.Go.World.ownsRow.kept
abbrev qqj:=@_root_.Go.World.ownsRow.lt
abbrev qqk:=@_root_.Go.World.ownsRow.alloc
abbrev qql:=@_root_.Go.World.grownBy.refl
abbrev qqm:=@_root_.Go.World.grownBy.trans
abbrev qqn:=@_root_.Go.DataW.agg.injEq
abbrev qqo:=@_root_.Go.DataW.lit.injEq
abbrev qqp:=@_root_.Go.Lit.int.injEq
abbrev qqq:=@_root_.Go.World.ownsRow.stored
abbrev qqr:=@Nat.add_assoc
abbrev qqs:=@Nat.le_trans
abbrev qqt:=@List.getElem?_eq_getElem
abbrev qqu:=@List.mem_map
abbrev qqv:=@Nat.lt_of_lt_of_le
abbrev qqw:=@List.length_drop
abbrev qqx:=@List.length_take
abbrev qqy:=@Nat.min_eq_left
abbrev qqz:=@Nat.mul_le_mul_right
abbrev qq0:=@Nat.le_refl
abbrev qq1:=@Nat.zero_le
abbrev qq2:=@Array.getElem?_eq_some_iff
abbrev qq3:=@List.length_set
abbrev qq4:=@Nat.lt_or_ge
abbrev qq5:=@Array.getElem?_eq_none
abbrev qq6:=@Array.getElem?_modify
abbrev qq7:=@Nat.mul_one
abbrev qq8:=@Array.length_toList
abbrev qq9:=@List.drop_eq_nil_of_le
abbrev qra:=@List.append_nil
abbrev qrb:=@List.drop_eq_getElem_cons
abbrev qrc:=@List.append_assoc
abbrev qrd:=@Bool.eq_iff_iff
abbrev qre:=@List.ext_getElem
abbrev qrf:=@List.getElem_mem
abbrev qrg:=@Nat.eq_zero_or_pos
abbrev qrh:=@List.eq_nil_of_length_eq_zero
abbrev qri:=@List.map_toArray
abbrev qrj:=@List.map_cons
abbrev qrk:=@List.map_nil
abbrev qrl:=@Nat.mul_comm
abbrev qrm:=@Int.natCast_mul
abbrev qrn:=@Int.toNat_natCast
abbrev qro:=@List.mem_of_mem_take
abbrev qrp:=@List.length_append
abbrev qrq:=@List.take_zero
abbrev qrr:=@List.nil_append
abbrev qrs:=@Nat.zero_add
abbrev qrt:=@List.size_toArray
abbrev qru:=@List.take_of_length_le
abbrev qrv:=@Nat.log2_self_le
abbrev qrw:=@Nat.lt_log2_self
abbrev qrx:=@Nat.pow_succ
abbrev qry:=@Nat.pow_pos
abbrev qrz:=@Nat.div_lt_of_lt_mul
abbrev qr0:=@List.cons_append
abbrev qr1:=@List.length_cons
abbrev qr2:=@Nat.mul_add
abbrev qr3:=@Nat.mul_left_comm
abbrev qr4:=@Nat.mod_one
abbrev qr5:=@List.mem_append
abbrev qr6:=@List.mem_singleton
abbrev qr7:=@Nat.mod_lt
abbrev qr8:=@Nat.mod_eq_of_lt
abbrev qr9:=@Nat.div_le_self
abbrev qsa:=@Int.tmod_eq_emod_of_nonneg
abbrev qsb:=@Nat.pow_le_pow_right
abbrev qsc:=@Nat.or_comm
abbrev qsd:=@Nat.two_pow_add_eq_or_of_lt
abbrev qse:=@Nat.add_comm
abbrev qsf:=@List.getElem_map
abbrev qsg:=@UInt8.toNat_ofNat'
abbrev qsh:=@List.getD_eq_getElem?_getD
abbrev qsi:=@Option.getD_some
abbrev qsj:=@List.map_map
abbrev qsk:=@List.map_congr_left
abbrev qsl:=@Bool.and_eq_true
abbrev qsm:=@List.mem_cons
abbrev qsn:=@Nat.two_pow_pos
abbrev qso:=@Nat.lt_of_le_of_lt
abbrev qsp:=@Nat.pow_mul
abbrev qsq:=@List.getElem?_eq_none
abbrev qsr:=@Nat.mul_lt_mul_of_pos_right
abbrev qss:=@Nat.pow_add
abbrev qst:=@Int.emod_eq_of_lt
abbrev qsu:=@Int.eq_ofNat_of_zero_le
abbrev qsv:=@Nat.succ_mul
abbrev qsw:=@Nat.add_mul
abbrev qsx:=@Nat.mul_assoc
abbrev qsy:=@List.set_append_right
abbrev qsz:=@Nat.sub_self
abbrev qs0:=@List.replicate_succ
abbrev qs1:=@List.set_cons_zero
abbrev qs2:=@List.getElem?_append_left
abbrev qs3:=@List.mem_replicate
abbrev qs4:=@Array.getD_eq_getD_getElem?
abbrev qs5:=@Array.getElem?_setIfInBounds
abbrev qs6:=@Array.setIfInBounds_comm
abbrev qs7:=@Ne.symm
abbrev qs8:=@Bool.or_eq_true
abbrev qs9:=@List.all_eq_true
abbrev qta:=@List.setIfInBounds_toArray
abbrev qtb:=@List.set_cons_succ
abbrev qtc:=@And.intro
abbrev qtd:=@List.length_replicate
abbrev qte:=@List.mem_of_mem_drop
abbrev qtf:=@List.drop_append_of_le_length
abbrev qtg:=@List.take_append_of_le_length
abbrev qth:=@List.drop_drop
abbrev qti:=@Int.tdiv_eq_ediv_of_nonneg
abbrev qtj:=@List.mem_flatMap
abbrev qtk:=@List.getElem?_map
abbrev qtl:=@List.length_map
abbrev qtm:=@List.length_range
abbrev qtn:=@List.mem_range
abbrev qto:=@Nat.zero_mul
abbrev qtp:=@List.getElem?_append_right
abbrev qtq:=@List.take_append_drop
abbrev qtr:=@List.drop_left'
abbrev qts:=@List.take_left'
abbrev qtt:=@Nat.eq_of_mul_eq_mul_right
abbrev qtu:=@List.getElem?_eq_some_iff
abbrev qtv:=@List.getElem_of_mem
abbrev qtw:=@Option.map_some
abbrev qtx:=@Nat.mul_succ
abbrev qty:=@Nat.mul_le_mul_left
abbrev qtz:=@Nat.add_mul_mod_self_left
abbrev qt0:=@Nat.div_div_eq_div_mul
abbrev qt1:=@Nat.add_mul_div_left
abbrev qt2:=@Nat.div_eq_of_lt
abbrev qt3:=@Nat.mod_mul_right_div_self
abbrev qt4:=@List.replicate_succ'
abbrev qt5:=@Nat.one_mul
abbrev qt6:=@List.flatMap_cons
abbrev qt7:=@List.sum_cons
abbrev qt8:=@List.drop_of_length_le
abbrev qt9:=@Classical.not_not
abbrev qua:=@List.map_id
abbrev qub:=@List.length_nil
abbrev quc:=@Nat.add_zero
abbrev qud:=@List.sum_append
abbrev que:=@List.map_append
abbrev quf:=@List.flatMap_append
abbrev qug:=@Prod.ext
abbrev quh:=@List.mapM_cons
abbrev qui:=@Option.getD_none
abbrev quj:=@Option.isSome_none
abbrev quk:=@Option.isSome_some
abbrev qul:=@List.flatten_append
abbrev qum:=@Array.toList_map
abbrev qun:=@Array.toList_range
abbrev quo:=@List.range_succ
abbrev qup:=@List.replicate_zero
abbrev quq:=@List.mem_cons_of_mem
abbrev qur:=@List.not_mem_nil
abbrev qus:=@Array.getElem?_eq_getElem
abbrev qut:=@List.flatMap_nil
abbrev quu:=@Nat.or_lt_two_pow
abbrev quv:=@List.foldl_cons
abbrev quw:=@List.take_length
abbrev qux:=@Int.mul_nonneg
abbrev quy:=@Nat.mul_le_mul
abbrev quz:=@Nat.pow_zero
abbrev qu0:=@List.length_singleton
abbrev qu1:=@List.getD_cons_succ
abbrev qu2:=@Int.le_refl
abbrev qu3:=@List.take_add
abbrev qu4:=@Nat.add_sub_cancel
abbrev qu5:=@List.getD_cons_zero
abbrev qu6:=@List.length_eq_zero_iff
abbrev qu7:=@List.idxOf_lt_length_iff
abbrev qu8:=@List.drop_succ_cons
abbrev qu9:=@List.drop_zero
abbrev qva:=@List.take_succ_cons
abbrev qvb:=@Bool.eq_false_iff
abbrev qvc:=@Option.isNone_some
abbrev qvd:=@Classical.byContradiction
abbrev qve:=@List.takeWhile_cons
abbrev qvf:=@Nat.le_of_eq
abbrev qvg:=@List.flatten_cons
abbrev qvh:=@List.mem_flatten
abbrev qvi:=@List.drop_length
abbrev qvj:=@Nat.add_sub_cancel_left
abbrev qvk:=@Nat.mul_ne_zero
abbrev qvl:=@Nat.shiftLeft_eq
abbrev qvm:=@Int.natAbs_mul
abbrev qvn:=@Int.mul_neg_of_neg_of_pos
abbrev qvo:=@Nat.lt_succ_iff_lt_or_eq
abbrev qvp:=@UInt8.le_antisymm
abbrev qvq:=@UInt8.not_lt
abbrev qvr:=@Bool.false_eq_true
abbrev qvs:=@List.mem_append_left
abbrev qvt:=@List.mem_append_right
abbrev qvu:=@Bool.true_and
abbrev qvv:=@List.getElem?_range
abbrev qvw:=@List.mem_filter
abbrev qvx:=@Decidable.not_not
abbrev qvy:=@List.length_zip
abbrev qvz:=@List.foldl_append
abbrev qv0:=@List.flatten_nil
abbrev qv1:=@List.getElem?_set_self
abbrev qv2:=@List.getElem?_set_ne
abbrev qv3:=@List.eq_of_mem_replicate
abbrev qv4:=@List.getElem?_replicate
abbrev qv5:=@Nat.le_max_left
abbrev qv6:=@Nat.le_max_right
abbrev qv7:=@Array.getElem?_setIfInBounds_self_of_lt
abbrev qv8:=@List.drop_left
abbrev qv9:=@Nat.lt_succ_self
abbrev qwa:=@List.length_filter_lt_length_iff_exists
abbrev qwb:=@_root_.Go.World.ownsRow_nil
abbrev qwc:=@_root_.Go.RowKit.Below.heap_setCell
abbrev qwd:=@_root_.Go.RowKit.Below.refl
abbrev qwe:=@_root_.Go.World.news_of_block
abbrev qwf:=@_root_.Go.World.grownBy_alloc
abbrev qwg:=@_root_.Go.Sem.run_bind
abbrev qwh:=@_root_.Go.Sem.run_pure
abbrev qwi:=@_root_.Go.Result.andThen_ok
abbrev qwj:=@_root_.Go.IntWalk.i64_in
abbrev qwk:=@_root_.Go.Lib.hid
abbrev qwl:=@_root_.Go.IntKind.wrap_u8
abbrev qwm:=@_root_.Go.NoPanic.normal
abbrev qwn:=@_root_.Go.RowKit.Below.trans
abbrev qwo:=@_root_.Go.RowKit.Below.mono
abbrev qwp:=@_root_.Go.IntKind.wrap_u64
abbrev qwq:=@_root_.Go.IntKind.wrap_u32'
abbrev qwr:=@_root_.Go.IntKind.wrap_i64
abbrev qws:=@_root_.Go.Lib.run_eql_slice_nil
abbrev qwt:=@_root_.Go.World.ownsMap_made
abbrev qwu:=@_root_.Go.RowKit.Below.cell
abbrev qwv:=@_root_.Function.comp_def
abbrev qww:=@_root_.Go.World.size_alloc
abbrev qwx:=@_root_.Go.Exit.noGoto_ret
end Go
namespace Go
abbrev qxy:Array Value:=#[.int .u8 0,.int .u8 0,.int .u8 0,.int .u8 0,.int .u8 0,.int .u8 0,.int .u8 0,.int .u8 0,.int .u8 0,.int .u8 0,.int .u8 0,.int .u8 0,.int .u8 0,.int .u8 0,.int .u8 0,.int .u8 0,.int .u8 0,.int .u8 0,.int .u8 0,.int .u8 0,.int .u8 0,.int .u8 0,.int .u8 0,.int .u8 0,.int .u8 0,.int .u8 0,.int .u8 0,.int .u8 0,.int .u8 0,.int .u8 0,.int .u8 0,.int .u8 0]
end Go
namespace Go.Hm
open Go.RowKit
theorem zam(a:Addr)(n:Nat):(a.add n).block=a.block:=by unfold Addr.add;split<;> rfl
theorem zbc(a:Addr)(i j:Nat):(a.add i).add j=a.add (i+j):=by unfold Addr.add;by_cases b:i=0<;> by_cases c:j=0<;> simp[b,c,Nat.add_assoc]
theorem zgi(a:Addr):a.add 0=a:=by unfold Addr.add;simp
theorem zbg{B g:Nat}{a w w':World}(h:Below B a w)(d:w.grownBy w' (some g))(f:B<=g)(b:B<=a.heap.size):Below B a w':=
 h.grown d (qqs b h.size) (fun k c=>by injection c with c;omega)
theorem zhn{a b c:World}{B:Nat}(h:Below B a b)(k:Below b.heap.size b c)(d:B<=a.heap.size):Below B a c:=h.trans (k.mono (qqs d h.size))
def zar(k:IntKind)(l:List Nat):List Value:=l.map fun n:Nat=>Value.int k (n:Int)
theorem zaa(k:IntKind)(l:List Nat):(zar k l).length=l.length:=by simp[zar]
theorem zd0(k:IntKind)(l m:List Nat):zar k (l++m)=zar k l++zar k m:=by simp[zar]
theorem qd2(k:IntKind)(n:Nat):zar k [n]=[.int k (n:Int)]:=rfl
theorem zeq(k:IntKind)(l:List Nat)(i:Nat):(zar k l).drop i=zar k (l.drop i):=by simp[zar]
theorem zfa(k:IntKind)(l:List Nat)(i:Nat):(zar k l).take i=zar k (l.take i):=by simp[zar]
theorem zyy(k:IntKind)(l:List Nat)(i:Nat)(h:i<l.length):(zar k l)[i]? =some (.int k ((l.getD i 0:Nat):Int)):=by simp[zar,List.getElem?_eq_getElem h]
theorem zcr(k:IntKind)(l:List Nat):∀u∈zar k l,u.oneCell'=true:=by intro u b;simp only[zar,qqu] at b;obtain⟨z,_,rfl⟩:=b;rfl
theorem zb5(k:IntKind)(n x:Nat):zar k (List.replicate n x)=List.replicate n (.int k (x:Int)):=by simp[zar]
theorem qd3(k:IntKind)(l:List Nat)(i x:Nat):(zar k l).set i (.int k (x:Int))=zar k (l.set i x):=by simp[zar]
def za5(k:IntKind)(l:List Int):List Value:=l.map (Value.int k)
theorem zib(k:IntKind)(l:List Int):(za5 k l).length=l.length:=by simp[za5]
theorem zpq(k:IntKind)(l:List Int)(i:Nat)(h:i<l.length):(za5 k l)[i]? =some (.int k (l.getD i 0)):=by simp[za5,List.getElem?_eq_getElem h]
def Reads(w:World)(B size:Nat)(A:Option Addr)(n:Nat)(xs:List Value):Prop:=
 xs.length=n*size/\(0<n-> ∃ad,A=some ad/\ad.block<B/\ ∀j u,xs[j]? =some u->w.cell? (ad.add j)=some u)
section
variable{w w':World}{B B' size n:Nat}{A:Option Addr}{xs:List Value}
theorem Reads.none_:Reads w B size A 0 []:=⟨by simp,fun h=>absurd h (by omega)⟩
abbrev qwy:=@Reads.none_
theorem Reads.at_{k:Nat}(h:Reads w B 1 A n xs)(f:k<n):∃ad u,A=some ad/\ad.block<B/\xs[k]? =some u/\w.cell? (ad.add k)=some u:=by
 obtain⟨ad,e,c,d⟩:=h.2 (by omega);have b:k<xs.length:=by have:=h.1;omega
 exact⟨ad,xs[k],e,c,qqt b,d k _ (qqt b)⟩
theorem Reads.keep(h:Reads w B size A n xs)(f:∀p:Addr,p.block<B->w'.cell? p=w.cell? p):Reads w' B size A n xs:=
 ⟨h.1,fun i=>by obtain⟨c,e,b,d⟩:=h.2 i;exact⟨c,e,b,fun j u k=>(f _ (by rw[zam];exact b)).trans (d j u k)⟩⟩
theorem Reads.more(h:Reads w B size A n xs)(f:B<=B'):Reads w B' size A n xs:=
 ⟨h.1,fun d=>by obtain⟨b,e,i,c⟩:=h.2 d;exact⟨b,e,by omega,c⟩⟩
theorem Reads.below(h:Reads w B size A n xs)(b:Below B w w'):Reads w' B size A n xs:=h.keep fun _ c=>b.cell c
theorem Reads.drew(h:Reads w B size A n xs):Reads w.drew B size A n xs:=h
theorem Reads.drewN(h:Reads w B size A n xs)(k:Nat):Reads (w.drewN k) B size A n xs:=h
theorem Reads.alloc(h:Reads w B size A n xs)(b:B<=w.heap.size)(o:Obj):Reads (w.alloc o) B size A n xs:=h.keep fun p c=>World.cell?_alloc_lt w o p (by omega)
theorem Reads.setCell(h:Reads w B size A n xs){p:Addr}(b:B<=p.block)(u:Value):Reads (w.setCell p u) B size A n xs:=
 h.keep fun q c=>World.cell?_setCell_other w p q u (fun e=>by subst e;omega)
theorem Reads.grown(h:Reads w B size A n xs){row:Option Nat}(b:w.grownBy w' row)(d:B<=w.heap.size)(c:∀g,row=some g->B<=g):Reads w' B size A n xs:=
 h.keep fun p f=>World.cell?_of_block (b.block p.block (by omega) (fun e=>by have:=c _ e.symm;omega))
theorem Reads.grown_far(h:Reads w w.heap.size size A n xs){row:Option Nat}(d:w.grownBy w' row)(b:∀ad g,A=some ad->row=some g->ad.block≠g):Reads w' w'.heap.size size A n xs:=
 ⟨h.1,fun k=>by obtain⟨ad,e,c,i⟩:=h.2 k;refine⟨ad,e,qqv c d.size,fun j u l=>?_⟩;rw[World.cell?_of_block (d.block (ad.add j).block (by rw[zam];exact c) (fun f=>b _ _ e f.symm (zam _ _).symm))];exact i j u l⟩
theorem Reads.cut(h:Reads w B size A n xs){k cap:Nat}(l:k<=n)(i:n<=cap):
 Reads w B size (if cap=k then A else A.map (·.add (k*size))) (n-k) (xs.drop (k*size)):=by
 refine⟨by rw[qqw,h.1,Nat.sub_mul],fun m=>?_⟩;obtain⟨c,rfl,d,b⟩:=h.2 (by omega);rw[if_neg (by omega)];refine⟨c.add (k*size),rfl,by rw[zam];exact d,fun j u f=>?_⟩;rw[zbc];exact b _ u (by rw[<-f,List.getElem?_drop])
theorem Reads.take(h:Reads w B size A n xs){k:Nat}(i:k<=n):Reads w B size A k (xs.take (k*size)):=by
 refine⟨by rw[qqx,h.1,qqy (qqz _ i)],fun l=>?_⟩;obtain⟨d,rfl,f,b⟩:=h.2 (by omega);refine⟨d,rfl,f,fun j u c=>b j u ?_⟩;rw[List.getElem?_take] at c;split at c
 ·exact c
 ·cases c
theorem Reads.of_own{base:Nat}{e:TypeId}{c:Nat}(h:w.ownsRow base e size (.slice A n c) n xs):Reads w w.heap.size size A n xs:=by
 refine⟨h.1,fun i=>?_⟩;obtain⟨g,d,j,_,b⟩:=h.form i;have f:A=some ⟨g,0,none⟩:=by injection j
 subst f;exact⟨_,rfl,b,h.cells (g:=g) rfl⟩
abbrev qwz:=@Reads.of_own
theorem Reads.len{k:IntKind}{l:List Nat}(h:Reads w B 1 A n (zar k l)):n=l.length:=by have:=h.1;rw[zaa] at this;omega
theorem Reads.lenI{k:IntKind}{l:List Int}(h:Reads w B 1 A n (za5 k l)):n=l.length:=by have:=h.1;rw[zib] at this;omega
theorem Reads.int{k:IntKind}{l:List Int}{i:Nat}(h:Reads w B 1 A n (za5 k l))(hi:i<n):∃ad,A=some ad/\ad.block<B/\w.cell? (ad.add i)=some (.int k (l.getD i 0)):=by
 obtain⟨ad,u,e,c,b,d⟩:=h.at_ hi;have f:i<l.length:=by have:=h.lenI;omega
 rw[zpq k l i f] at b;injection b with b;subst b;exact⟨ad,e,c,d⟩
theorem Reads.num{k:IntKind}{l:List Nat}{i:Nat}(h:Reads w B 1 A n (zar k l))(hi:i<n):∃ad,A=some ad/\ad.block<B/\w.cell? (ad.add i)=some (.int k ((l.getD i 0:Nat):Int)):=by
 obtain⟨ad,u,e,c,b,d⟩:=h.at_ hi;have f:i<l.length:=by have:=h.1;rw[zaa] at this;omega
 rw[zyy k l i f] at b;injection b with b;subst b;exact⟨ad,e,c,d⟩
end
def Own(w:World)(base:Nat)(e:TypeId)(v:Value)(xs:List Value):Prop:=w.ownsRow base e 1 v xs.length xs
section
variable{w w':World}{base:Nat}{e:TypeId}{v:Value}{xs:List Value}
theorem Own.nil_:Own w base e (.slice none 0 0) []:=qwb w base e 1
abbrev qw0:=@Own.nil_
theorem Own.empty(w:World)(e:TypeId):Own (w.alloc (.cells #[] e)) w.heap.size e (.slice (some ⟨w.heap.size,0,none⟩) 0 0) []:=
 World.ownsRow_made w #[] 0 (qq0 _) (qq1 _) rfl
theorem Own.slice(h:Own w base e v xs):∃A c,v= .slice A xs.length c/\xs.length<=c/\c<=maxLen:=by
 rcases h.2 with⟨b,k⟩|⟨g,d,f,b,_,_,i,j,_⟩
 ·exact⟨none,0,by rw[b,k],by omega,by simp[maxLen]⟩
 ·exact⟨_,_,b,i,j⟩
theorem Own.reads{A:Option Addr}{n c:Nat}(h:Own w base e (.slice A n c) xs):Reads w w.heap.size 1 A n xs:=by
 have b:n=xs.length:=by obtain⟨f,i,d,_⟩:=h.slice;injection d
 subst b;exact qwz h
theorem Own.len{A:Option Addr}{n c:Nat}(h:Own w base e (.slice A n c) xs):n=xs.length:=by obtain⟨d,f,b,_⟩:=h.slice;injection b
theorem Own.cap{A:Option Addr}{n c:Nat}(h:Own w base e (.slice A n c) xs):n<=c/\c<=maxLen:=by obtain⟨k,l,j,f,i⟩:=h.slice;injection j with _ b d;subst b d;exact⟨f,i⟩
theorem Own.kept{row:Option Nat}(h:Own w base e v xs)(c:w.grownBy w' row)(b:v.ownBlock=none\/v.ownBlock≠row):Own w' base e v xs:=qqi h c b
theorem Own.lt(h:Own w base e v xs):∀k,v.ownBlock=some k->base<=k/\k<w.heap.size:=qqj h
theorem Own.below{B:Nat}(h:Own w base e v xs)(j:Below B w w')(i:w.heap.size<=B):Own w' base e v xs:=by
 refine⟨h.1,?_⟩;rcases h.2 with k|⟨g,c,d,rfl,f,b,rest⟩
 ·exact .inl k
 ·refine .inr ⟨g,c,d,rfl,f,?_,rest⟩
  rw[j.block g (qqv (qq2.1 b).1 i)];exact b
theorem Own.base_le{b':Nat}(h:Own w base e v xs)(f:b'<=base):Own w b' e v xs:=by
 refine⟨h.1,?_⟩;rcases h.2 with i|⟨g,b,c,j,d,rest⟩
 ·exact .inl i
 ·exact .inr ⟨g,b,c,j,qqs f d,rest⟩
theorem Own.alloc(h:Own w base e v xs)(o:Obj):Own (w.alloc o) base e v xs:=qqk h o
theorem Own.drewN(h:Own w base e v xs)(k:Nat):Own (w.drewN k) base e v xs:=h
theorem Own.frozen{A:Addr}{n c:Nat}(h:Own w base e (.slice (some A) n c) xs)(j:Nat):w.frozen? (A.add j)=false:=by
 rcases h.2 with⟨f,_⟩|⟨g,i,k,f,_,d,_⟩
 ·cases f
 ·injection f with b _ _
  injection b with b;subst b;have l:((⟨g,0,none⟩:Addr).add j).block=g:=zam _ _;unfold World.frozen?;rw[l,d];simp
end
theorem Own.at_{w:World}{base:Nat}{e:TypeId}{A:Option Addr}{n c i:Nat}{xs:List Value}(h:Own w base e (.slice A n c) xs)(hi:i<n):
 ∃g u,A=some ⟨g,0,none⟩/\base<=g/\g<w.heap.size/\xs[i]? =some u/\w.cell? ⟨g,i,none⟩=some u/\w.frozen? ⟨g,i,none⟩=false/\
  ∀u':Value,Own (w.setCell ⟨g,i,none⟩ u') base e (.slice A n c) (xs.set i u'):=by
 have j:=h.len;obtain⟨g,l,p,d,f⟩:=World.ownsRow.form h (by omega);have m:A=some ⟨g,0,none⟩:=by injection p
 subst m;have k:i<xs.length:=by omega
 have b:w.ownsRow base e 1 (.slice (some ⟨g,0,none⟩) n c) n xs:=by rw[j] at h⊢;exact h
 refine⟨g,xs[i],rfl,d,f,qqt k,?_,b.frozenAt i,fun u'=>?_⟩
 ·rw[b.cellAt i (by omega),qqt k]
 ·have:=(b.stored i u').1
  unfold Own;rw[qq3,<-j];exact this
def Blk(w:World)(g:Nat)(t:TypeId)(cs:Array Value):Prop:=w.heap[g]? =some (.cells cs t (0,0))
section
variable{w w':World}{g:Nat}{t:TypeId}{cs:Array Value}
theorem Blk.lt(h:Blk w g t cs):g<w.heap.size:=by
 rcases qq4 g w.heap.size with c|b
 ·exact c
 ·unfold Blk at h;rw[qq5 b] at h;cases h
theorem Blk.cell(h:Blk w g t cs)(i:Nat):w.cell? ⟨g,i,none⟩=cs[i]? :=cell_of_row w g i cs t (0,0) h
theorem Blk.frozen(h:Blk w g t cs)(i:Nat):w.frozen? ⟨g,i,none⟩=false:=by unfold Blk at h;simp[World.frozen?,h]
theorem Blk.new(w:World)(t:TypeId)(cs:Array Value):Blk (w.alloc (.cells cs t)) w.heap.size t cs:=heap_alloc_new w _
abbrev qw1:=@Blk.new
theorem Blk.drew(h:Blk w g t cs):Blk w.drew g t cs:=h
theorem Blk.drewN(h:Blk w g t cs)(n:Nat):Blk (w.drewN n) g t cs:=h
theorem Blk.alloc(h:Blk w g t cs)(o:Obj):Blk (w.alloc o) g t cs:=(Below.heap_alloc w o g h.lt).trans h
theorem Blk.set_(h:Blk w g t cs)(i:Nat)(u:Value):Blk (w.setCell ⟨g,i,none⟩ u) g t (cs.setIfInBounds i u):=by unfold Blk at h⊢;simp[World.setCell,Array.getElem?_modify,h]
theorem Blk.far(h:Blk w g t cs){p:Addr}(b:g≠p.block)(u:Value):Blk (w.setCell p u) g t cs:=(qwc w p u g b).trans h
theorem Blk.below{B:Nat}(h:Blk w g t cs)(b:Below B w w')(c:g<B):Blk w' g t cs:=(b.block g c).trans h
theorem Blk.grown{row:Option Nat}(h:Blk w g t cs)(b:w.grownBy w' row)(c:some g≠row):Blk w' g t cs:=(b.block g h.lt c).trans h
theorem Blk.ne_{f:Nat}{t':TypeId}{c:Array Value}(h:Blk w g t cs)(b:Blk w f t' c)(d:t≠t'):g≠f:=by rintro rfl;unfold Blk at h b;rw[h] at b;injection b with b;injection b with _ i;exact d i
abbrev qw2:=@Blk.ne_
theorem Own.blk_ne{base:Nat}{e:TypeId}{v:Value}{xs:List Value}(h:Own w base e v xs)(j:Blk w g t cs)(b:e≠t):v.ownBlock≠some g:=by
 rcases h.2 with⟨rfl,_⟩|⟨f,c,d,rfl,_,k,_⟩
 ·simp[Value.ownBlock]
 ·intro i
  have:f=g:=by simpa[Value.ownBlock] using i
  subst this;exact qw2 (t:=e) k j b rfl
theorem Own.keepT{base:Nat}{e:TypeId}{v:Value}{xs:List Value}(h:Own w base e v xs)(d:w.grownBy w' (some g))(c:Blk w g t cs)(b:e≠t):Own w' base e v xs:=h.kept d (.inr (h.blk_ne c b))
end
def TR(w:World)(e:TypeId)(A:Option Addr)(n:Nat)(xs:List Value):Prop:=Reads w w.heap.size 1 A n xs/\(0<n-> ∀ad,A=some ad-> ∃cs,Blk w ad.block e cs)
section
variable{w w':World}{e:TypeId}{n:Nat}{A:Option Addr}{xs:List Value}
theorem TR.nil_:TR w e A 0 []:=⟨⟨by simp,fun h=>absurd h (by omega)⟩,fun h=>absurd h (by omega)⟩
theorem TR.keep{g:Nat}{t:TypeId}{cs:Array Value}(h:TR w e A n xs)(k:w.grownBy w' (some g))(p:Blk w g t cs)(d:e≠t):TR w' e A n xs:=by
 refine⟨⟨h.1.1,fun i=>?_⟩,fun i b r=>?_⟩
 ·obtain⟨b,m,q,s⟩:=h.1.2 i
  obtain⟨c,f⟩:=h.2 i b m;have l:b.block≠g:=qw2 f p d;refine⟨b,m,qqv q k.size,fun j u x=>?_⟩;rw[World.cell?_of_block (k.block (b.add j).block (by rw[zam];exact q) (by rw[zam];simpa using l))];exact s j u x
 ·obtain⟨c,f⟩:=h.2 i b r
  exact⟨c,f.grown k (by simpa using qw2 f p d)⟩
theorem TR.below(h:TR w e A n xs)(c:Below w.heap.size w w'):TR w' e A n xs:=
 ⟨(h.1.below c).more c.size,fun j f i=>by
   obtain⟨b,d⟩:=h.2 j f i;exact⟨b,d.below c d.lt⟩⟩
theorem TR.grown{row:Option Nat}(h:TR w e A n xs)(f:w.grownBy w' row)(b:∀ad g,A=some ad->row=some g->ad.block≠g):TR w' e A n xs:=
 ⟨h.1.grown_far f b,fun k ad d=>by obtain⟨c,j⟩:=h.2 k ad d;exact⟨c,j.grown f (fun i=>b _ _ d i.symm rfl)⟩⟩
theorem TR.drewN(h:TR w e A n xs)(k:Nat):TR (w.drewN k) e A n xs:=h
theorem TR.alloc(h:TR w e A n xs)(o:Obj):TR (w.alloc o) e A n xs:=h.below ((qwd _ _).alloc (qq0 _) o)
theorem TR.cut(h:TR w e A n xs){k cap:Nat}(j:k<=n)(i:n<=cap):TR w e (if cap=k then A else A.map (·.add k)) (n-k) (xs.drop k):=by
 have d:=h.1.cut j i;rw[qq7] at d;refine⟨d,fun m l b=>?_⟩;rw[if_neg (by omega)] at b;rcases A with _|a
 ·cases b
 ·injection b with b
  subst b;obtain⟨c,f⟩:=h.2 (by omega) a rfl;exact⟨c,by simpa[zam] using f⟩
theorem TR.take(h:TR w e A n xs){k:Nat}(f:k<=n):TR w e A k (xs.take k):=by have b:=h.1.take f;rw[qq7] at b;exact⟨b,fun i c d=>h.2 (by omega) c d⟩
theorem TR.of_own{base:Nat}{c:Nat}(h:Own w base e (.slice A n c) xs):TR w e A n xs:=by
 refine⟨h.reads,fun p l j=>?_⟩;rcases h.2 with⟨f,q⟩|⟨g,i,d,f,_,k,_⟩
 ·injection f with b m _
  omega
 ·injection f with b _ _
  rw[j] at b;injection b with b;subst b;exact⟨d,k⟩
abbrev qw3:=@TR.of_own
end
def zaf(l:List Nat):ByteArray:=⟨(l.map UInt8.ofNat).toArray⟩
theorem zbq(l:List Nat):(zaf l).size=l.length:=by show(zaf l).data.size=_;simp[zaf]
theorem qjl(b:ByteArray):∀(k i:Nat) (r:List UInt8),b.size-i=k->ByteArray.toList.loop b i r=r.reverse++b.data.toList.drop i:=by
 intro k;induction k with
 |zero=>
  intro i r h;rw[ByteArray.toList.loop];have c:b.data.toList.length<=i:=by rw[qq8];show b.size<=i;omega
  rw[if_neg (by omega),qq9 c,qra]
 |succ k f=>
  intro i r h;rw[ByteArray.toList.loop,if_pos (by omega),f _ _ (by omega)];have c:i<b.data.toList.length:=by rw[qq8];show i<b.size;omega
  rw[qrb c,List.reverse_cons,qrc];congr 1
  simp only[List.singleton_append,qqe,and_true];have d:i<b.data.size:=by rw[<-qq8];exact c
  show b.data[i]! =_;rw[getElem!_pos b.data i d];rfl
theorem z7n(b:ByteArray):b.toList=b.data.toList:=by rw[ByteArray.toList,qjl b b.size 0 [] (by omega)];simp
theorem zk8(l:List Nat):(zaf l).toList=l.map UInt8.ofNat:=by rw[z7n];rfl
theorem zg2{l m:List Nat}(d:∀x∈l,x<256)(hm:∀x∈m,x<256):((zaf l).toList==(zaf m).toList)=decide (l=m):=by
 rw[zk8,zk8,qrd];simp only[beq_iff_eq,decide_eq_true_eq];constructor
 ·intro h
  refine qre (by simpa using congrArg List.length h) fun i b c=>?_
  have:=congrArg (fun l=>(l[i]?).map UInt8.toNat) h;simp[List.getElem?_eq_getElem b,List.getElem?_eq_getElem c] at this;have f:=d _ (qrf b);have j:=hm _ (qrf c);omega
 ·rintro rfl;rfl
theorem qjm{P:Program}{w:World}{d b e:TypeId}(s:P.underlying d=some (.slice e))(r:P.underlying e=some (.int .u8))(q:P.underlying b=some .string){B n c:Nat}{A:Option Addr}{l:List Nat}
 (h:Reads w B 1 A n (zar .u8 l)):(convert d b (.slice A n c)).run P w= .ok (.string (zaf l)) w:=by
 obtain rfl:=h.len;rcases A with _|i
 ·have p:l.length=0:=by
   rcases qrg l.length with f|f
   ·exact f
   ·obtain⟨i,y,_⟩:=h.2 f
    cases y
  obtain rfl:l=[]:=qrh p;rw[run_convert_bytes_string w d b e none _ c s r q];simp[Conv.bytesToString,zaf];rfl
 ·have z:(loadCells i l.length).run P w= .ok ((l.map fun n:Nat=>(n:Int)).map (Value.int .u8)).toArray w:=by
   have m:∀j v,(zar .u8 l)[j]? =some v->w.cell? (i.add j)=some v:=by
    intro j v u;rcases qrg l.length with f|f
    ·obtain rfl:l=[]:=qrh f
     simp[zar] at u
    ·obtain⟨x,k,_,m⟩:=h.2 f
     injection k with k;subst k;exact m j v u
   have:=run_loadCells_list (P:=P) w i (zar .u8 l) m;rw[zaa] at this;rw[this];simp[zar]
  rw[run_convert_bytes_string w d b e _ _ c s r q,run_bytesToString w i _ c _ z,foldl_push_bytes];simp[zaf,ByteArray.empty,ByteArray.emptyWithCapacity];rfl
theorem Reads.lit(w:World)(e:TypeId)(cs:Array Value)(n:Nat)(k:IntKind)(l:List Nat)(h:cs.toList=zar k l)(b:n=l.length):Reads (w.alloc (.cells cs e)) (w.alloc (.cells cs e)).heap.size 1 (some ⟨w.heap.size,0,none⟩) n (zar k l):=by subst b;refine⟨by rw[zaa];simp,fun _=>⟨_,rfl,by simp,?_⟩⟩;have:=qwe (heap_alloc_new w (.cells cs e));rwa[h] at this
structure ElT(P:Program)(t e:TypeId)(z:Value)(size bytes:Nat):Prop where
 ht:P.underlying t=some (.slice e)
 hi:(P.info? e).map (fun i=>(i.zero,i.size,i.bytes))=some (some z,size,bytes)
 hz:z.cells.size=size
 hs:0<size
section
variable{P:Program}{ops:Array Oper}{rest:List Oper}{o:Oper}{a:Act}{Q:Exit->Act->World->Prop}
theorem zk9{w:World}{t e:TypeId}{z:Value}{b:Nat}(E:ElT P t e z 1 b)(D:o.guard=none)(s x:Operand)
 (R:o.op= .call {callee:= .builtin .append,args:= #[s,x],argTypes:= #[t,t]})
 {W:World}{B base:Nat}{v u:Value}{xs:List Value}(d:Own w base e v xs)(S:a.eval s=v)(T:a.eval x= .slice (some ⟨w.heap.size,0,none⟩) 1 1)
 (L:Below B W w)(y:B<=base)(f:base<=w.heap.size)(K:u.oneCell'=true)
 (O:(xs.length+1)*b<=140737488355328)(hm:xs.length+1<=maxLen)
 (h:∀A' c' w',xs.length+1<=c'->c'<=maxLen->Own w' base e (.slice A' (xs.length+1) c') (xs++[u])->w.grownBy w' v.ownBlock->Below B W w'->w.heap.size<w'.heap.size->
  (Value.ownBlock (.slice A' (xs.length+1) c')=v.ownBlock\/ ∃g,Value.ownBlock (.slice A' (xs.length+1) c')=some g/\w.heap.size<=g)->wpList P ops Q rest (a.put o.dst (.slice A' (xs.length+1) c')) w'):
 wpList P ops Q (o::rest) a (w.alloc (.cells #[u] e)):=by
 obtain⟨i,M,G,H,I⟩:=info_parts E.hi;refine wpList_append_own_at _ D s x t R base e i z 1 b E.ht M G H I E.hz (by omega) v xs.length xs S (qqk d _) ⟨w.heap.size,0,none⟩ 1 1 [u] T rfl (cell_one_new _ _ _) (by simpa using K) hm O (by simp;omega) ?_;intro U w' j J _ l;have q:(xs++[u]).length=xs.length+1:=by simp
 have c:Own w' base e U (xs++[u]):=by unfold Own;rw[q];exact j
 obtain⟨A',c',rfl,m,C⟩:=c.slice;rw[q] at m c l⊢;have p:w.grownBy w' v.ownBlock:=(qwf w (.cells #[u] e) v.ownBlock).trans J;have F:=J.size;simp at F;refine h A' c' w' m C c p (L.grown p (qqs y f) (fun k N=>by have:=(d.lt k N).1;omega)) (by omega) ?_;rcases l with r|r
 ·exact .inl r
 ·exact .inr ⟨_,r,by simp⟩
theorem zic{w:World}{t e:TypeId}{z:Value}{d:Nat}(E:ElT P t e z 1 d)(G:o.guard=none)(s x:Operand)
 (ho:o.op= .call {callee:= .builtin .append,args:= #[s,x],argTypes:= #[t,t]})
 {W:World}{B base:Nat}{v:Value}{xs news:List Value}{A:Option Addr}{m c:Nat}(b:Own w base e v xs)(V:Reads w w.heap.size 1 A m news)(hs:a.eval s=v)(hx:a.eval x= .slice A m c)
 (hb:Below B W w)(M:B<=base)(l:base<=w.heap.size)(h1:∀u∈news,u.oneCell'=true)
 (S:(xs.length+m)*d<=140737488355328)(hm:xs.length+m<=maxLen)
 (h:∀A' c' w',xs.length+m<=c'->c'<=maxLen->Own w' base e (.slice A' (xs.length+m) c') (xs++news)->w.grownBy w' v.ownBlock->Below B W w'->
  (Value.ownBlock (.slice A' (xs.length+m) c')=v.ownBlock\/ ∃g,Value.ownBlock (.slice A' (xs.length+m) c')=some g/\w.heap.size<=g)->wpList P ops Q rest (a.put o.dst (.slice A' (xs.length+m) c')) w'):
 wpList P ops Q (o::rest) a w:=by
 obtain⟨i,N,X,Y,Z⟩:=info_parts E.hi;have O:news.length=m:=by have:=V.1;omega
 have I:(xs++news).length=xs.length+m:=by simp[O]
 rcases A with _|J
 ·have R:m=0:=by
   rcases qrg m with r|r
   ·exact r
   ·obtain⟨J,D,_⟩:=V.2 r
    cases D
  subst R;have T:news=[]:=qrh O;subst T;have H:∀ty,(Builtin.append_ #[t,t] ty #[v,.slice none 0 c]).run P w= .ok v w:=by
   intro ty;rcases b.2 with⟨rfl,a3⟩|⟨g,a1,a2,rfl,_,_,U,_⟩
   ·simp[Builtin.append_,run_underlying E.ht,sizeOf,typeInfo,N,Builtin.lenOf,Builtin.firstCells]
   ·simp[Builtin.append_,run_underlying E.ht,sizeOf,typeInfo,N,Builtin.lenOf,Builtin.firstCells,U,storeCells]
  refine wpList_plain G fun K hK=>?_
  unfold Oper.wp execOp;simp only[ho,resolve,invoke,builtin,qwg,qwh,qwi,qri,qrj,qrk,hs,hx,H];obtain⟨A',c',rfl,p,y⟩:=b.slice;exact hK _ _ (h A' c' w p y (by simpa using b) (qql w _) hb (.inl rfl))
 ·have q:∀j u,news[j]? =some u->w.cell? (J.add j)=some u:=by
   intro j u hu;rcases qrg m with r|r
   ·subst r
    have S:news=[]:=qrh O;subst S;simp at hu
   ·obtain⟨a0,D,_,hc⟩:=V.2 r
    injection D with D;subst D;exact hc j u hu
  refine wpList_append_own_at _ G s x t ho base e i z 1 d E.ht N X Y Z E.hz (by omega) v xs.length xs hs b J m c news hx (by omega) q h1 hm S l ?_;intro v' w' C hg _ F;have f:Own w' base e v' (xs++news):=by unfold Own;rw[I];exact C
  obtain⟨A',c',rfl,p,y⟩:=f.slice;rw[I] at p f F⊢;refine h A' c' w' p y f hg (hb.grown hg (qqs M l) (fun k hk=>by have:=(b.lt k hk).1;omega)) ?_;rcases F with L|L
  ·exact .inl L
  ·exact .inr ⟨_,L,qq0 _⟩
theorem zcf{w:World}{t e:TypeId}{z:Value}{b:Nat}(E:ElT P t e z 1 b)(p:o.guard=none)(D y:Operand)(O:o.op=Op.makeSlice t D y)
 {W:World}{B:Nat}{kl kc:IntKind}{L C:Int}(l c:Nat)(N:a.eval D= .int kl L)(J:a.eval y= .int kc C)(H:L=(l:Int))(F:C=(c:Int))(j:l<=c)(I:Below B W w)(f:B<=w.heap.size)
 (u:z.oneCell'=true)(R:c*b<=140737488355328)(hm:c<=maxLen)
 (h:∀w',Own w' w.heap.size e (.slice (some ⟨w.heap.size,0,none⟩) l c) (List.replicate l z)->w.grownBy w' none->Below B W w'->w'.heap.size=w.heap.size+1->wpList P ops Q rest (a.put o.dst (.slice (some ⟨w.heap.size,0,none⟩) l c)) w'):
 wpList P ops Q (o::rest) a w:=by
 obtain⟨i,M,s,r,k⟩:=info_parts E.hi;subst H F;have x:z.cells= #[z]:=by
  revert u;unfold Value.oneCell' Value.cells
  cases z<;> simp
 have q:(c:Int)<=9223372036854775807:=by have h:=hm;simp only[maxLen] at h;omega
 have m:(i.bytes:Int)*(c:Int)<=281474976710656:=by
  have h:((i.bytes*c:Nat):Int)<=281474976710656:=by rw[k,qrl];omega
  rwa[qrm] at h
 have d:=run_make (P:=P) w t e i z E.ht M s kl kc (l:Int) (c:Int) (by omega) (by omega) m q;rw[qrn,qrn,r,qq7,x] at d;refine wpList_plain p fun K G=>?_
 unfold Oper.wp;simp[execOp,O,N,J,d,Result.andThen];refine G _ _ (h _ ?_ (qwf _ _ _) (I.alloc f _) (by simp));refine⟨by simp,.inr ⟨_,c,_,by simp,qq0 _,heap_alloc_new w _,by simpa using j,hm,by simp[size_madeCells],?_⟩⟩;rw[toList_madeCells_one];simp[Nat.min_eq_left j]
theorem zpr{w:World}{t e:TypeId}{z:Value}{F:Nat}(E:ElT P t e z 1 F)(M:o.guard=none)(d s:Operand)
 (ho:o.op= .call {callee:= .builtin .copy,args:= #[d,s],argTypes:= #[t,t]})
 {W:World}{B base:Nat}{xs f:List Value}{D A:Option Addr}{m c n cd:Nat}(p:Own w base e (.slice D n cd) xs)(hr:Reads w w.heap.size 1 A m f)(hd:a.eval d= .slice D n cd)(hs:a.eval s= .slice A m c)
 (r:Nat)(a1:Nat.min m n=r)(hb:Below B W w)(Y:B<=base)(h1:∀u∈f,u.oneCell'=true)
 (h:∀w',Own w' base e (.slice D n cd) (f.take n++xs.drop m)->w.grownBy w' (Value.ownBlock (.slice D n cd))->Below B W w'->w'.heap.size=w.heap.size->wpList P ops Q rest (a.put o.dst (.int .i64 (r:Int))) w'):
 wpList P ops Q (o::rest) a w:=by
 subst a1;obtain⟨i,hi,a9,a3,a6⟩:=info_parts E.hi;have T:(P.info? e).map (·.size)=some 1:=by simp[hi,a3]
 have I:=p.len;have U:f.length=m:=by have:=hr.1;omega
 by_cases J:Nat.min m n=0
 ·have q:∀ty,(Builtin.copy_ #[t,t] ty #[.slice D n cd,.slice A m c]).run P w= .ok (goInt 0) w:=fun ty=>run_copy_none w t t ty e D A n cd m c E.ht T J
  refine wpList_plain M fun K X=>?_
  unfold Oper.wp execOp;simp only[ho,resolve,invoke,builtin,qwg,qwh,qwi,qri,qrj,qrk,hd,hs,q];have hx:f.take n++xs.drop m=xs:=by
   rcases Nat.min_eq_zero_iff.1 J with hm|hn
   ·subst hm
    have:f=[]:=qrh U;subst this;simp
   ·subst hn
    have:xs=[]:=qrh I.symm;subst this;simp
  have:=h w (by rw[hx];exact p) (qql w _) hb rfl;rw[J] at this;exact X _ _ this
 ·have O:0<m/\0<n:=by
   constructor
   ·rcases qrg m with G|G
    ·subst G;exact absurd (Nat.zero_min n) J
    ·exact G
   ·rcases qrg n with G|G
    ·subst G;exact absurd (Nat.min_zero m) J
    ·exact G
  obtain⟨V,rfl,_,H⟩:=hr.2 O.1;rcases p.2 with⟨C,a8⟩|⟨g,a5,y,C,L,N,a2,Z,a7,x⟩
  ·omega
  ·injection C with e1 e2 e3
   subst e1 e3;have b:(f.take n).length=Nat.min m n:=by rw[qqx,U,Nat.min_comm]
   have a0:Nat.min m n<=n:=Nat.min_le_right m n;have a4:(f.take n).length<=n:=by rw[b];exact a0
   have S:∀j v,(f.take n)[j]? =some v->w.cell? (V.add j)=some v:=fun j v C=>H j v (by
    rw[List.getElem?_take] at C;split at C
    ·exact C
    ·cases C)
   have q:∀ty,(Builtin.copy_ #[t,t] ty #[.slice (some ⟨g,0,none⟩) n cd,.slice (some V) m c]).run P w=
    .ok (goInt (f.take n).length) (w.setRow g (y.toList.take 0++f.take n++y.toList.drop (0+(f.take n).length)).toArray):=fun ty=>
    run_copy_row P w t t ty e g 0 n cd V m c y e (f.take n) E.ht T N b S (by rw[b];omega) (fun v C=>h1 v (qro C))
   refine wpList_plain M fun K X=>?_
   unfold Oper.wp execOp;simp only[ho,resolve,invoke,builtin,qwg,qwh,qwi,qri,qrj,qrk,hd,hs,q,b];have l:(f.take n++xs.drop m).length=xs.length:=by rw[qrp,b,qqw,<-I];simp only[Nat.min_def];split<;> omega
   refine X _ _ (h _ ?_ ⟨rfl,rfl,rfl,by simp[World.setRow],fun k _ hk=>setRow_other w g k _ (fun e=>hk (by simp[Value.ownBlock,e]))⟩ (below_setRow hb (qqs Y L) _) (by simp[World.setRow]));refine⟨by simp,.inr ⟨g,cd,_,by rw[l,I],L,setRow_heap w g y _ e _ N,by rw[l];exact a2,Z,?_,?_⟩⟩
   ·simp only[qrq,qrr,qrs,qrt,qrp,b,qqw,qq8]
    omega
   ·rw[l,qq7]
    simp only[qrq,qrr,qrs];rw[qq7] at x;rw[List.take_append,b,qru (by omega)];congr 1
    rw[List.take_drop,show Nat.min m n+(xs.length-Nat.min m n)=xs.length by omega,x];by_cases R:m<=n
    ·rw[show Nat.min m n=m from qqy R]
    ·rw[show Nat.min m n=n from Nat.min_eq_right (by omega),qq9 (by omega),qq9 (by omega)]
theorem zcs{w:World}{t e:TypeId}{z:Value}{b:Nat}(E:ElT P t e z 1 b)(j:o.guard=none)(s x:Operand)
 (q:o.op= .call {callee:= .builtin .append,args:= #[s,x],argTypes:= #[t,t]})
 {W:World}{B base n c:Nat}{A:Option Addr}{u:Value}{k:IntKind}{l:List Nat}(d:Own w base e (.slice A n c) (zar k l))(r:a.eval s= .slice A n c)(D:a.eval x= .slice (some ⟨w.heap.size,0,none⟩) 1 1)
 (y:Nat)(C:u= .int k (y:Int))(m:Below B W w)(i:B<=base)(f:base<=w.heap.size)
 (p:(n+1)*b<=140737488355328)(hm:n+1<=maxLen)
 (h:∀A' c' w',n+1<=c'->c'<=maxLen->Own w' base e (.slice A' (n+1) c') (zar k (l++[y]))->w.grownBy w' (Value.ownBlock (.slice A n c))->Below B W w'->w.heap.size<w'.heap.size->
  (Value.ownBlock (.slice A' (n+1) c')=Value.ownBlock (.slice A n c)\/ ∃g,Value.ownBlock (.slice A' (n+1) c')=some g/\w.heap.size<=g)->wpList P ops Q rest (a.put o.dst (.slice A' (n+1) c')) w'):
 wpList P ops Q (o::rest) a (w.alloc (.cells #[u] e)):=by
 obtain rfl:n=l.length:=by have:=d.len;rwa[zaa] at this
 subst C;refine zk9 E j s x q d r D m i f rfl (by rw[zaa];exact p) (by rw[zaa];exact hm) ?_;rw[zaa,zd0,qd2] at*;exact h
theorem zaq{w:World}{t e:TypeId}{z:Value}{b:Nat}(E:ElT P t e z 1 b)(j:o.guard=none)(s x:Operand)
 (u:o.op= .call {callee:= .builtin .append,args:= #[s,x],argTypes:= #[t,t]})
 {W:World}{B base n c m c2:Nat}{A p:Option Addr}{k:IntKind}{l l2:List Nat}(d:Own w base e (.slice A n c) (zar k l))(y:Reads w w.heap.size 1 p m (zar k l2))(C:a.eval s= .slice A n c)(D:a.eval x= .slice p m c2)
 (q:Below B W w)(i:B<=base)(f:base<=w.heap.size)(r:(n+m)*b<=140737488355328)(hm:n+m<=maxLen)
 (h:∀A' c' w',n+m<=c'->c'<=maxLen->Own w' base e (.slice A' (n+m) c') (zar k (l++l2))->w.grownBy w' (Value.ownBlock (.slice A n c))->Below B W w'->
  (Value.ownBlock (.slice A' (n+m) c')=Value.ownBlock (.slice A n c)\/ ∃g,Value.ownBlock (.slice A' (n+m) c')=some g/\w.heap.size<=g)->wpList P ops Q rest (a.put o.dst (.slice A' (n+m) c')) w'):
 wpList P ops Q (o::rest) a w:=by
 obtain rfl:n=l.length:=by have:=d.len;rwa[zaa] at this
 refine zic E j s x u d y C D q i f (zcr _ _) (by rw[zaa];exact r) (by rw[zaa];exact hm) ?_;rw[zaa,zd0] at*;exact h
end
def vp(n:Nat):List Nat:=if _h:n<128 then [n] else(n%128+128)::vp (n/128)
theorem zgj{n:Nat}(h:n<128):vp n=[n]:=by rw[vp,dif_pos h]
theorem zgk{n:Nat}(h: ¬n<128):vp n=(n%128+128)::vp (n/128):=by rw[vp,dif_neg h]
theorem qml(k:Nat):∀n,n<128^(k+1)->(vp n).length<=k+1:=by
 induction k with
 |zero=>intro n h;rw[zgj (by omega)];simp
 |succ k b=>
  intro n h;by_cases a:n<128
  ·rw[zgj a];simp
  ·rw[zgk a]
   have:=b (n/128) (qrz (by rw[qrx] at h;omega));simp;omega
theorem zae{n:Nat}(h:n<18446744073709551616):(vp n).length<=10:=qml 9 n (by omega)
theorem zps(n:Nat):0<(vp n).length:=by
 by_cases a:n<128
 ·rw[zgj a];simp
 ·rw[zgk a];simp
def low(n:Nat):Nat->List Nat
 |0=>[]
 |k+1=>low n k++[n/256^k%256]
theorem za0(n k:Nat):(low n k).length=k:=by induction k<;> simp_all[low]
def num:List Nat->Nat
 | []=>0
 |b::l=>b+256*num l
theorem z1e(l:List Nat)(b:Nat):num (l++[b])=num l+b*256^l.length:=by
 induction l with
 |nil=>simp[num]
 |cons a l c=>simp only[qr0,num,c,qr1,qrx];rw[qr2,qqr];congr 2;rw[qr3,qrl 256]
theorem zsl(l:List Nat)(h:∀x∈l,x<256):num l<256^l.length:=by
 induction l with
 |nil=>simp[num]
 |cons a l c=>
  have d:=c fun x b=>h x (by simp[b])
  have e:=h a (by simp);simp only[num,qr1,qrx];omega
theorem zac{α:Type}(l:List α)(k:Nat)(d:α)(h:k<l.length):l.take (k+1)=l.take k++[l.getD k d]:=by rw[List.take_add_one,qqt h];simp[h]
theorem z7o(n k:Nat):num (low n k)=n%256^k:=by
 induction k with
 |zero=>simp[low,num,Nat.mod_one]
 |succ k a=>
  rw[low,z1e,a,za0,qrx,Nat.mod_mul,qrl (256^k)]
theorem zhp(n k:Nat):∀x∈low n k,x<256:=by
 induction k with
 |zero=>intro x a;simp[low] at a
 |succ k b=>
  intro x a;simp only[low,qr5,qr6] at a;rcases a with a|a
  ·exact b x a
  ·subst a;exact qr7 _ (by omega)
theorem zky{α:Type}(l:List α)(k:Nat)(d:α)(h:k<l.length):l.drop k=l.getD k d::l.drop (k+1):=by rw[qrb h];simp[h]
theorem zid{n k:Nat}(h:n<256^k):num (low n k)=n:=by rw[z7o,qr8 h]
open Go.RowKit
theorem Own.at0{w:World}{base:Nat}{e:TypeId}{g n c i:Nat}{xs:List Value}(h:Own w base e (.slice (some ⟨g,0,none⟩) n c) xs)(hi:i<n):
 ∃u,xs[i]? =some u/\base<=g/\g<w.heap.size/\w.cell? ⟨g,i,none⟩=some u/\w.frozen? ⟨g,i,none⟩=false/\
  ∀u':Value,Own (w.setCell ⟨g,i,none⟩ u') base e (.slice (some ⟨g,0,none⟩) n c) (xs.set i u'):=by
 obtain⟨m,u,a,b,d,f,j,k,l⟩:=h.at_ hi;injection a with a;injection a with a;subst a;exact⟨u,f,b,d,j,k,l⟩
theorem Own.num0{w:World}{base:Nat}{e:TypeId}{g n c i:Nat}{k:IntKind}{l:List Nat}(h:Own w base e (.slice (some ⟨g,0,none⟩) n c) (zar k l))(hi:i<n):
 base<=g/\g<w.heap.size/\w.cell? ⟨g,i,none⟩=some (.int k ((l.getD i 0:Nat):Int))/\w.frozen? ⟨g,i,none⟩=false/\
  ∀y:Nat,Own (w.setCell ⟨g,i,none⟩ (.int k (y:Int))) base e (.slice (some ⟨g,0,none⟩) n c) (zar k (l.set i y)):=by
 have o:=h.len;rw[zaa] at o;obtain⟨u,a,b,d,f,j,m⟩:=h.at0 hi;rw[zyy k l i (by omega)] at a;injection a with a;subst a;exact⟨b,d,f,j,fun y=>by rw[<-qd3];exact m _⟩
theorem qpy(a b:Nat)(c:a<=9223372036854775807):IntKind.i64.wrap ((a:Int)/(b:Int))=((a/b:Nat):Int):=by rw[<-Int.natCast_ediv];have:a/b<=a:=qr9 _ _;generalize a/b=q at*;exact qwj _ (by omega)
theorem zt5(a:Nat)(b:a<=9223372036854775807):∃q r:Nat,Hid (q=a/8/\r=a%8)/\8*q<=a/\r<8/\a<8*q+8/\IntKind.i64.wrap ((a:Int)/8)=(q:Int)/\(a:Int).tmod 8=(r:Int):=
 ⟨a/8,a%8,qwk ⟨rfl,rfl⟩,by omega,by omega,by omega,qpy a 8 b,by rw[qsa (by omega)];omega⟩
theorem qou(y j:Nat)(b:y<=18446744073709551615):∃t:Nat,Hid (t=y/2^j%2)/\t<=1/\bits .and .u64 ((y:Int)/2^j) 1=(t:Int)/\IntKind.u8.wrap (t:Int)=(t:Int):=by refine⟨y/2^j%2,qwk rfl,by omega,?_,by rw[qwl];omega⟩;have a:y/2^j<=y:=qr9 _ _;have:=u64_and_nat (y/2^j) 1 (by omega) (by omega);rw[Nat.and_one_is_mod] at this;rw[<-this];congr 1
theorem qjo(b r q:Nat)(c:b<2^r)(d:q<=1)(h:r<8):bits .or .u8 (b:Int) ((q:Int)*2^r%256)=((b+q*2^r:Nat):Int):=by
 have f:2^r<=2^7:=qsb (by omega) (by omega);have g:q*2^r<=1*2^r:=qqz _ d;have e:((q:Int)*2^r%256)=((q*2^r:Nat):Int):=by
  have a:((q*2^r:Nat):Int)=(q:Int)*2^r:=by simp
  rw[<-a];omega
 rw[e,u8_or_nat _ _ (by omega) (by omega),qsc,<-qrl (2^r),<-qsd c,qse]
open Go.RowKit
section
variable{P:Program}{ops:Array Oper}{Q:Exit->Act->World->Prop}
theorem zie{S S':World->Prop}(h:∀w,S w->S' w):∀(b:Nat) (c:Array Bool) (a:Act) (w:World),wpAnyH P .any ops Q S b c a w->wpAnyH P .any ops Q S' b c a w
 |0,_,_,_,d=>d
 |b+1,_,_,_,d=>⟨d.1,fun i j=>wpOp_mono (fun g f e=>⟨h f e.1,zie h b _ g f e.2⟩) (d.2 i j)⟩
def qjp(ops:Array Oper):Array Bool->List (Bool × Nat)->Bool
 |listed,[]=>(Region.ready .any ops listed).isEmpty
 |listed,(true,i)::r=>(Region.ready .any ops listed).contains i&&(Region.free .any ops listed i&&qjp ops (listed.setIfInBounds i true) r)
 |listed,(false,i)::r=>decide (Region.ready .any ops listed=[i])&&qjp ops (listed.setIfInBounds i true) r
def z7j(P:Program)(ops:Array Oper)(R:World->World->Prop)(Q:Exit->Act->World->Prop):List (Bool × Nat)->Act->World->Prop
 | [],a,w=>Q .normal a w
 |(true,i)::r,a,w=>∃o v,ops[i]? =some o/\((Region.wanted o (yielded ops a.tmps)=true/\ ∀w',R w w'->(execOp a.eval o).run P w'= .ok (.value v) w')\/(Region.wanted o (yielded ops a.tmps)=false/\v=undef))/\z7j P ops R Q r (a.put o.dst v) w
 |(false,i)::r,a,w=>∃o,ops[i]? =some o/\if Region.wanted o (yielded ops a.tmps) then o.wp P a w (fun a' w'=>R w w'/\z7j P ops R Q r a' w') (NoPanic Q) else z7j P ops R Q r (a.put o.dst undef) w
variable{R:World->World->Prop}
theorem zvy(e:∀w,R w w)(g:∀{x y z},R x y->R y z->R x z)(H:Region.noSelect ops=true):
 ∀(f:List (Bool × Nat)) (fuel:Nat) (c:Array Bool) (a:Act) (w:World),f.length<=fuel->qjp ops c f=true->z7j P ops R Q f a w->wpAnyH P .any ops (NoPanic Q) (R w) fuel c a w:=by
 intro f;induction f with
 |nil=>
  intro fuel c a w _ d h;exact wpAnyH_done (by simpa[qjp] using d) (qwm h) fuel
 |cons x r u=>
  obtain⟨b,i⟩:=x;intro fuel c a w B d h;obtain⟨fuel,rfl⟩:∃k,fuel=k+1:=⟨fuel-1,by simp at B;omega⟩;have l:r.length<=fuel:=by simp at B;omega
  cases b with
  |true=>
   obtain⟨o,v,s,I,G⟩:=h;simp only[qjp,qsl] at d;obtain⟨p,D,m⟩:=d;exact wpAnyH_take s H D p (fun _ _ _ F=>F) I (e w) (u fuel _ _ w l m G)
  |false=>
   obtain⟨o,s,n⟩:=h;simp only[qjp,qsl,decide_eq_true_eq] at d;obtain⟨p,m⟩:=d;refine wpAnyH_all p (by simp) ?_;intro j E;obtain rfl:j=i:=by simpa using E
   unfold wpOp;simp only[s];split
   ·rename_i t
    rw[if_pos t] at n;exact .inl (Oper.wp_mono (fun A C q=>⟨q.1,zie (fun z J=>g q.1 J) fuel _ A C (u fuel _ A C l m q.2)⟩) n)
   ·rename_i t
    rw[if_neg t] at n;exact⟨e w,u fuel _ _ w l m n⟩
theorem zav{j:Nat}{a:Act}{w:World}(R:World->World->Prop)(c:List (Bool × Nat))(d:∀w,R w w)(b:∀{x y z},R x y->R y z->R x z)(hm:P.follows .mixedOrders=true)
 (g:Region.noSelect ops=true)(f:decide (c.length<=ops.size)=true)(e:qjp ops (Array.replicate ops.size false) c=true)(h:z7j P ops R Q c a w.drew):(Code.region j ops true).wp P Q a w:=
 wp_region_noPanic (wp_region_held hm (zvy d b g c ops.size _ a _ (by simpa using f) e h))
abbrev New(w w':World):Prop:=Below w.heap.size w w'
theorem New.refl(w:World):New w w:=qwd _ _
abbrev qw4:=@New.refl
theorem New.trans{x y z:World}(h:New x y)(k:New y z):New x z:=qwn h (qwo k h.size)
abbrev qw5:=@New.trans
theorem New.drew(w:World):New w w.drew:=(qwd _ _).drew
abbrev qw6:=@New.drew
abbrev Far(g:Nat)(w w':World):Prop:=w.grownBy w' (some g)
theorem Far.refl(g:Nat)(w:World):Far g w w:=qql w _
abbrev qw7:=@Far.refl
theorem Far.trans{g:Nat}{x y z:World}(h:Far g x y)(k:Far g y z):Far g x z:=qqm h k
abbrev qw8:=@Far.trans
theorem Far.drew(g:Nat)(w:World):Far g w w.drew:=⟨rfl,rfl,rfl,qq0 _,fun _ _ _=>rfl⟩
theorem Far.of_new{g:Nat}{w w':World}(h:New w w'):Far g w w':=⟨h.os,h.tape,h.output,h.size,fun k b _=>h.block k b⟩
abbrev qw9:=@Far.of_new
theorem Far.below{g B:Nat}{a w w':World}(h:Below B a w)(d:Far g w w')(c:B<=g)(b:B<=a.heap.size):Below B a w':=zbg h d c b
abbrev qxa:=@Far.below
theorem New.far{w b c:World}{g:Nat}(h:New w b)(k:Far g b c)(d:w.heap.size<=g):New w c:=qxa h k d (qq0 _)
abbrev qxb:=@New.far
variable{i:Nat}{r:List (Bool × Nat)}{a:Act}{w:World}{o:Oper}{v:Value}
theorem zdr(h:Q .normal a w):z7j P ops R Q [] a w:=h
section
variable{dst:Option Tmp}{op:Op}{ty:TypeId}{pos:String}{af:Array Edge}{gd:Option (Nat × Bool)}
theorem zas(b:ops[i]? =some ⟨dst,op,ty,pos,af,gd⟩)(d:Region.wanted ⟨dst,op,ty,pos,af,gd⟩ (yielded ops a.tmps)=true)(c:∀w',R w w'->(execOp a.eval ⟨dst,op,ty,pos,af,gd⟩).run P w'= .ok (.value v) w')(h:z7j P ops R Q r (a.put dst v) w):z7j P ops R Q ((true,i)::r) a w:=
 ⟨_,v,b,.inl ⟨d,c⟩,h⟩
theorem qjq{b:Bool}(c:ops[i]? =some ⟨dst,op,ty,pos,af,gd⟩)(d:Region.wanted ⟨dst,op,ty,pos,af,gd⟩ (yielded ops a.tmps)=false)(h:z7j P ops R Q r (a.put dst undef) w):z7j P ops R Q ((b,i)::r) a w:=by
 cases b
 ·exact⟨_,c,by rw[if_neg (by simp[d])];exact h⟩
 ·exact⟨_,undef,c,.inr ⟨d,rfl⟩,h⟩
theorem za7(d:ops[i]? =some ⟨dst,op,ty,pos,af,gd⟩)(e:Region.wanted ⟨dst,op,ty,pos,af,gd⟩ (yielded ops a.tmps)=true)(h:∀K:Act->World->Prop,(∀a' w',R w w'->z7j P ops R Q r a' w'->K a' w')->Oper.wp P ⟨dst,op,ty,pos,af,gd⟩ a w K (NoPanic Q)):z7j P ops R Q ((false,i)::r) a w:=
 ⟨_,d,by rw[if_pos e];exact h _ fun _ _ b c=>⟨b,c⟩⟩
end
end
open Go.RowKit Go.WideShapes Go.ChangeShapes
section
variable{H:Type}{enc:TypeId × Value->H}{P:Program}
theorem zl1(m:laidOutB P=true){W k:World}{sp:Nat->Bool}(l:Below W.heap.size W k):
 ∀{f:List TypeId} {j:List Value} {g:List (DataW H)} {e:List MemPlace},(∀t∈f,P.readableRec t=true/\t<P.types.size)->DataW.TrodAll enc P W 0 (fun _=>true) true f j g e->
  (∀p∈e,p.block<W.heap.size)->(∀p∈e,sp p.block=true)->DataW.TrodAll enc P k 0 sp true f j g e
 | [],_,_,_,_,h,_,_=>by
   obtain⟨rfl,rfl,rfl⟩:=trodAll_nil h;rfl
 |t::f,_,_,_,i,h,b,c=>by
  obtain⟨v,j,d,g,p,q,rfl,rfl,rfl,n,o⟩:=trodAll_cons h;refine⟨p,q,?_,zl1 m l (fun t r=>i t (by simp[r])) o (fun x a=>b x (by simp[a])) (fun x a=>c x (by simp[a])),rfl⟩;exact WideElems.Trod_stays m (i t (by simp)).1 (i t (by simp)).2 n (fun x a=>l.same (b x (by simp[a]))) (fun x a=>c x (by simp[a]))
theorem qee{f:Func}{s:ChangeSpec}{tb:TypeId}{W m:World}{args:Array Value}{e gs:List (DataW H)}{a:List MemPlace}
 (w:laidOutB P=true)(j:f.resultTypes= #[tb])(l:P.underlying tb=some .bool)(A:∀t∈f.params.toList,P.readableRec t=true/\t<P.types.size)
 (r:s.vars=[])(k:s.fn H (e++gs)={results:=[.lit (.bool true)],args:=e})
 (i:DataW.Whole enc P f.params.toList s.vars false W args.toList e gs a)(o:Below W.heap.size W m):
 s.post enc P f false true false false W args (.bool true) m:=by
 have d:∀p∈a,p.block<W.heap.size:=fun p z=>i.lt p z
 obtain⟨p,q,u,n,rfl,v,y⟩:=id i;rw[r] at n;obtain⟨rfl,rfl⟩:=trodVars_none n;simp only[qra] at d;have c:=zl1 (sp:=fun b=>decide (b<W.heap.size)) w o A u d (fun x g=>by simpa using d x g);refine⟨e,[],p++[],[],p,[],i,?_,?_,?_,World.keptBut_mono (fun x g=>⟨g,?_⟩) (o.frame (· ∈p++[])),fun h=>by cases h⟩
 ·rw[k,j]
  exact trodAll_mk1 (shut_bool l true)
 ·rw[k];exact c
 ·rw[k,r];rfl
 ·exact .inr (.inl (by simpa using g))
end
theorem zo5{H:Type}{P:Program}{b:List TypeId}{a:List (DataW H)}(h:(DataW.weightsEach P b a).all (· <=reachBytes)=true){j:Nat}{t:TypeId}{d:DataW H}(f:b[j]? =some t)(c:a[j]? =some d):
 ∀n∈d.weights P t,n<=reachBytes:=fun n e=>by
 have:=qs9.1 h n (DataW.weights_mem_each f c n e);simpa using this
def st(l:List Nat):Nat:=(l.takeWhile fun y=>y==l.getD 0 0).length
theorem qm7(p:Nat->Bool):∀(l:List Nat) (n:Nat),n<=l.length->(∀i,i<n->p (l.getD i 0)=true)->(n=l.length\/p (l.getD n 0)=false)->(l.takeWhile p).length=n
 | [],n,h1,_,_=>by simp at h1;simp[h1]
 |x::r,0,_,_,h3=>by
  rcases h3 with h3|h3
  ·simp at h3
  ·have:p x=false:=by simpa using h3
   simp[this]
 |x::r,n+1,h1,a,h3=>by
  have b:p x=true:=by simpa using a 0 (by omega)
  rw[qve,if_pos b,qr1,qm7 p r n (by simpa using h1) (fun i c=>by simpa using a (i+1) (by omega)) (by simpa using h3)]
theorem qfu{l:List Nat}{n:Nat}(a:n<=l.length)(b:∀i,i<n->l.getD i 0=l.getD 0 0)(c:n=l.length\/l.getD n 0≠l.getD 0 0):st l=n:=
 qm7 _ l n a (fun i d=>by simpa using b i d) (c.imp id fun h=>by simpa using h)
theorem z9x(p:Nat->Bool):∀l:List Nat,(l.takeWhile p).length<=l.length/\(∀i,i<(l.takeWhile p).length->p (l.getD i 0)=true)/\((l.takeWhile p).length=l.length\/p (l.getD (l.takeWhile p).length 0)=false)
 | []=>by simp
 |x::r=>by
  obtain⟨a,b,c⟩:=z9x p r;by_cases d:p x=true
  ·rw[qve,if_pos d,qr1]
   refine⟨by simpa using a,fun i e=>?_,by simpa using c⟩;cases i with
   |zero=>simpa using d
   |succ i=>simpa using b i (by omega)
  ·rw[qve,if_neg d]
   refine⟨by simp,by simp,.inr (by simpa using d)⟩
theorem zf1(l:List Nat):st l<=l.length/\(∀i,i<st l->l.getD i 0=l.getD 0 0)/\(st l=l.length\/l.getD (st l) 0≠l.getD 0 0):=by obtain⟨a,b,c⟩:=z9x (fun y=>y==l.getD 0 0) l;exact⟨a,fun i d=>by simpa using b i d,c.imp id fun h=>by unfold st;simpa using h⟩
theorem zoj{l:List Nat}(h:0<l.length):1<=st l:=by
 obtain⟨a,b,c⟩:=zf1 l;rcases qrg (st l) with d|d
 ·rw[d] at c
  rcases c with c|c
  ·omega
  ·exact absurd rfl c
 ·exact d
theorem zj9{l m:List Nat}{i:Nat}(h:i<l.length):(l++m).getD i 0=l.getD i 0:=by simp[List.getD_eq_getElem?_getD,List.getElem?_append_left h]
theorem zsz{l:List Nat}{i k:Nat}(h:i<k):(l.take k).getD i 0=l.getD i 0:=by simp[List.getD_eq_getElem?_getD,h]
theorem qm8{l m:List Nat}(h:st (l++m)<=l.length)(d:0<l.length):st l=st (l++m):=by
 obtain⟨a,b,c⟩:=zf1 (l++m);refine qfu h (fun i f=>?_) ?_
 ·have:=b i f
  rwa[zj9 (by omega),zj9 d] at this
 ·by_cases e:st (l++m)=l.length
  ·exact .inl e
  ·rcases c with c|c
   ·rw[c,qrp] at h e
    omega
   ·rw[zj9 (by omega),zj9 d] at c
    exact .inr c
theorem z9y{l m:List Nat}:st l<=st (l++m):=by
 rcases qrg l.length with a|a
 ·have:=(zf1 l).1
  omega
 by_cases h:st (l++m)<=l.length
 ·exact qvf (qm8 h a)
 ·have:=(zf1 l).1
  omega
theorem qk2(l:List Nat):st (l.take (st l))=st l:=by
 obtain⟨a,b,c⟩:=zf1 l;have f:(l.take (st l)).length=st l:=by rw[qqx];omega
 rcases qrg (st l) with d|d
 ·have:=(zf1 (l.take (st l))).1
  omega
 ·refine qfu (by omega) (fun i e=>?_) (.inl f.symm)
  rw[zsz e,zsz d];exact b i e
theorem qk3{p:List Nat}(h:st p=p.length):p=List.replicate p.length (p.getD 0 0):=by
 obtain⟨a,b,c⟩:=zf1 p;refine qre (by simp) fun i d e=>?_
 have:=b i (by omega);rw[qsh,qqt d] at this;simpa using this
def z2d(rest l:List Nat):List (List Nat):=
 if _h:l.length=0 then(if rest.length=0 then [] else [rest])
 else if 4<=st l then(if rest.length=0 then [] else [rest])++(l.take (st l)::z2d [] (l.drop (st l)))
 else z2d (rest++l.take (st l)) (l.drop (st l))
termination_by l.length
decreasing_by
 ·have:=zoj (l:=l) (by omega)
  rw[qqw];omega
 ·have:=zoj (l:=l) (by omega)
  rw[qqw];omega
def pcs(l:List Nat):List (List Nat):=z2d [] l
def zwt(rest:List Nat):List (List Nat):=if rest.length=0 then [] else [rest]
theorem zur(rest:List Nat):z2d rest []=zwt rest:=by rw[z2d];rfl
theorem zus{rest l:List Nat}(a:0<l.length)(h:4<=st l):z2d rest l=zwt rest++(l.take (st l)::z2d [] (l.drop (st l))):=by rw[z2d,dif_neg (by omega),if_pos h];rfl
theorem zqr{rest l:List Nat}(a:0<l.length)(h: ¬4<=st l):z2d rest l=z2d (rest++l.take (st l)) (l.drop (st l)):=by rw[z2d,dif_neg (by omega),if_neg h]
theorem z9z{C:List Nat->List Nat->Prop}(d:∀rest,C rest [])
 (e:∀rest l,0<l.length->4<=st l->C [] (l.drop (st l))->C rest l)
 (f:∀rest l,0<l.length-> ¬4<=st l->C (rest++l.take (st l)) (l.drop (st l))->C rest l):∀rest l,C rest l:=by
 intro rest l;induction hn:l.length using Nat.strongRecOn generalizing rest l with
 |_ n c=>
  rcases qrg l.length with a|a
  ·obtain rfl:=qrh a
   exact d rest
  ·have g:=zoj a
   have b:(l.drop (st l)).length<n:=by rw[qqw];omega
   by_cases h:4<=st l
   ·exact e rest l a h (c _ b _ _ rfl)
   ·exact f rest l a h (c _ b _ _ rfl)
theorem zs0(rest:List Nat):(zwt rest).flatten=rest:=by
 unfold zwt;split
 ·rename_i h
  exact(qrh h).symm
 ·simp
theorem z90:∀rest l,(z2d rest l).flatten=rest++l:=by
 refine z9z ?_ ?_ ?_
 ·intro rest
  rw[zur,zs0,qra]
 ·intro rest l a h b
  rw[zus a h,qul,zs0,qvg,b,qrr,qtq]
 ·intro rest l a h b
  rw[zqr a h,b,qrc,qtq]
def zqs(p:List Nat):Prop:=0<p.length/\(4<=st p->st p=p.length)
theorem qk4:∀rest l,(rest=[]\/st (rest++l)<4)-> ∀p∈z2d rest l,zqs p:=by
 have f:∀rest l:List Nat,(rest=[]\/st (rest++l)<4)-> ∀p∈zwt rest,zqs p:=by
  intro rest l b p a;unfold zwt at a;split at a
  ·cases a
  ·rename_i d
   obtain rfl:=qr6.1 a;refine⟨by omega,fun g=>?_⟩;rcases b with rfl|b
   ·simp at d
   ·have:=z9y (l:=p) (m:=l)
    omega
 refine z9z ?_ ?_ ?_
 ·intro rest b p a
  rw[zur] at a;exact f rest [] b p a
 ·intro rest l c h e b p a
  rw[zus c h] at a;rcases qr5.1 a with a|a
  ·exact f rest l b p a
  ·rcases qsm.1 a with rfl|a
   ·have d:(l.take (st l)).length=st l:=by have:=(zf1 l).1;rw[qqx];omega
    exact⟨by omega,fun _=>by rw[qk2,d]⟩
   ·exact e (.inl rfl) p a
 ·intro rest l c h e b p a
  rw[zqr c h] at a;refine e (.inr ?_) p a;rw[qrc,qtq];rcases b with rfl|b
  ·simpa using h
  ·exact b
theorem z91(l:List Nat):∀p∈pcs l,zqs p:=qk4 [] l (.inl rfl)
theorem zmi(l:List Nat):(pcs l).flatten=l:=z90 [] l
end Go.Hm
