import Derived.Deep.AppendLies
import Derived.Laws.CopyOwn
import Derived.Lib.Hide
import Derived.ProofKit
import Derived.WalkLawsBesides
import Derived.WalkSpells
set_option maxHeartbeats 200000
namespace Go
theorem aC{p : Prop}(h : p): Go.RowKit.Hid p := Go.Lib.hid h
theorem RowKit.Hid.o{p : Prop}(h : RowKit.Hid p): p := h
abbrev pE:=@List.cons.injEq
abbrev yR:=@Option.some.injEq
abbrev lW:=@Prod.mk.injEq
abbrev vF:=@Option.some.inj
abbrev eD:=@_root_.Go.World.ownsRow.kept
abbrev fC:=@_root_.Go.World.ownsRow.lt
abbrev Mt:=@_root_.Go.World.ownsRow.alloc
abbrev Az:=@_root_.Go.World.grownBy.refl
abbrev OX:=@_root_.Go.World.grownBy.trans
abbrev OY:=@_root_.Go.World.ownsRow.stored
abbrev Dt:=@Nat.add_assoc
abbrev cS:=@Nat.le_trans
abbrev bN:=@List.getElem?_eq_getElem
abbrev bS:=@List.mem_map
abbrev mU:=@Nat.lt_of_lt_of_le
abbrev dL:=@List.length_drop
abbrev cM:=@List.length_take
abbrev pG:=@Nat.min_eq_left
abbrev mV:=@Nat.mul_le_mul_right
abbrev aG:=@Nat.le_refl
abbrev bL:=@Nat.zero_le
abbrev zY:=@Array.getElem?_eq_some_iff
abbrev yL:=@List.length_set
abbrev vE:=@Nat.lt_or_ge
abbrev Me:=@Array.getElem?_eq_none
abbrev vA:=@Array.getElem?_modify
abbrev fT:=@Nat.mul_one
abbrev Mf:=@Array.length_toList
abbrev OE:=@List.drop_eq_nil_of_le
abbrev dH:=@List.append_nil
abbrev Mh:=@List.drop_eq_getElem_cons
abbrev cD:=@List.append_assoc
abbrev tP:=@Bool.eq_iff_iff
abbrev yJ:=@List.ext_getElem
abbrev eL:=@List.getElem_mem
abbrev oN:=@Nat.eq_zero_or_pos
abbrev rS:=@List.eq_nil_of_length_eq_zero
abbrev yM:=@List.map_toArray
abbrev cZ:=@List.map_cons
abbrev kQ:=@List.map_nil
abbrev jY:=@Nat.mul_comm
abbrev sT:=@Int.natCast_mul
abbrev eQ:=@Int.toNat_natCast
abbrev eA:=@List.mem_of_mem_take
abbrev aN:=@List.length_append
abbrev lO:=@List.take_zero
abbrev eB:=@List.nil_append
abbrev sW:=@Nat.zero_add
abbrev tT:=@List.size_toArray
abbrev gY:=@List.take_of_length_le
abbrev Hj:=@Nat.div_lt_of_lt_mul
abbrev tV:=@Nat.pow_succ
abbrev lM:=@List.cons_append
abbrev cJ:=@List.length_cons
abbrev An:=@Nat.mul_add
abbrev Mp:=@Nat.mul_left_comm
abbrev Mn:=@Nat.mod_one
abbrev cN:=@List.mem_append
abbrev gE:=@List.mem_singleton
abbrev Mm:=@Nat.mod_lt
abbrev pZ:=@Nat.mod_eq_of_lt
abbrev OT:=@Nat.two_pow_add_eq_or_of_lt
abbrev Hp:=@Nat.or_comm
abbrev Mr:=@Nat.pow_mul
abbrev aZ:=@List.getD_eq_getElem?_getD
abbrev Ue:=@List.getElem?_eq_none
abbrev Hh:=@Nat.add_comm
abbrev OQ:=@Nat.mul_lt_mul_of_pos_right
abbrev qQ:=@Nat.two_pow_pos
abbrev lF:=@Nat.pow_add
abbrev sV:=@Nat.pow_le_pow_right
abbrev Gw:=@Int.emod_eq_of_lt
abbrev mH:=@List.mem_of_mem_drop
abbrev jC:=@Nat.sub_self
abbrev lD:=@Bool.and_eq_true
abbrev Um:=@Nat.div_le_self
abbrev tp:=@Int.tmod_eq_emod_of_nonneg
abbrev Gx:=@List.drop_of_length_le
abbrev Mq:=@Nat.or_lt_two_pow
abbrev Ud:=@List.foldl_cons
abbrev cO:=@List.take_length
abbrev Mg:=@Int.mul_nonneg
abbrev OD:=@Int.tdiv_eq_ediv_of_nonneg
abbrev yO:=@Nat.mul_succ
abbrev Mo:=@Nat.mul_le_mul_left
abbrev Hd:=@List.getElem?_append_left
abbrev Ah:=@List.getElem?_append_right
abbrev tr:=@Nat.add_mul_mod_self_left
abbrev Ml:=@Nat.div_div_eq_div_mul
abbrev OM:=@Nat.add_mul_div_left
abbrev Hi:=@Nat.div_eq_of_lt
abbrev tu:=@Nat.mod_mul_right_div_self
abbrev Mj:=@List.replicate_succ'
abbrev Ho:=@Nat.one_mul
abbrev Ul:=@Nat.add_mul
abbrev Dw:=@Nat.mul_assoc
abbrev Uh:=@List.getElem_map
abbrev Ut:=@UInt8.toNat_ofNat'
abbrev kG:=@Option.getD_some
abbrev lE:=@List.map_map
abbrev nI:=@List.map_congr_left
abbrev qP:=@Nat.mul_le_mul
abbrev eV:=@Int.eq_ofNat_of_zero_le
abbrev yP:=@Nat.zero_mul
abbrev yN:=@Nat.add_zero
abbrev qO:=@List.replicate_succ
abbrev Up:=@Nat.pow_zero
abbrev nS:=@List.set_append_right
abbrev oM:=@List.replicate_zero
abbrev vD:=@List.length_singleton
abbrev Ha:=@List.getD_cons_succ
abbrev dF:=@List.mem_cons
abbrev Ty:=@Int.le_refl
abbrev tR:=@List.getElem_of_mem
abbrev Ak:=@List.range_succ
abbrev Af:=@List.flatMap_append
abbrev Hg:=@List.take_add
abbrev bC:=@List.length_map
abbrev Du:=@Nat.add_sub_cancel
abbrev OG:=@List.getD_cons_zero
abbrev iI:=@List.all_eq_true
abbrev qN:=@List.mem_flatMap
abbrev Dp:=@List.getElem?_map
abbrev Ai:=@List.length_range
abbrev tS:=@List.mem_range
abbrev lV:=@Nat.succ_mul
abbrev jJ:=@List.take_append_drop
abbrev Dn:=@List.drop_left'
abbrev Mk:=@List.take_left'
abbrev tt:=@Nat.eq_of_mul_eq_mul_right
abbrev OH:=@List.getElem?_eq_some_iff
abbrev nH:=@List.flatMap_cons
abbrev mT:=@List.length_nil
abbrev kP:=@List.flatten_append
abbrev Tv:=@Array.toList_map
abbrev Tw:=@Array.toList_range
abbrev fK:=@List.map_append
abbrev He:=@List.length_eq_zero_iff
abbrev Ui:=@List.idxOf_lt_length_iff
abbrev yQ:=@Option.map_some
abbrev Gy:=@List.drop_succ_cons
abbrev yI:=@List.drop_zero
abbrev tU:=@List.take_succ_cons
abbrev Dj:=@Bool.eq_false_iff
abbrev aV:=@List.set_cons_zero
abbrev aW:=@List.setIfInBounds_toArray
abbrev aX:=@List.set_cons_succ
abbrev Ts:=@Array.getElem?_eq_getElem
abbrev Uo:=@Nat.min_le_left
abbrev Tx:=@Classical.not_not
abbrev OJ:=@List.mem_cons_of_mem
abbrev OU:=@Option.isNone_some
abbrev OC:=@Classical.byContradiction
abbrev OK:=@List.takeWhile_cons
abbrev Hl:=@Nat.le_of_eq
abbrev fJ:=@List.flatten_cons
abbrev Mi:=@List.mem_flatten
abbrev mS:=@List.drop_drop
abbrev Do:=@List.drop_length
abbrev ON:=@Nat.add_sub_cancel_left
abbrev Gv:=@Array.getD_eq_getD_getElem?
abbrev Tt:=@Array.getElem?_setIfInBounds
abbrev Tu:=@Array.setIfInBounds_comm
abbrev NY:=@Array.getElem_mem
abbrev tl:=@Array.size_setIfInBounds
abbrev Dk:=@Bool.or_eq_true
abbrev NZ:=@Array.size_replicate
abbrev OR:=@Nat.mul_ne_zero
abbrev OS:=@Nat.shiftLeft_eq
abbrev Tz:=@Int.natAbs_mul
abbrev tm:=@Int.mul_neg_of_neg_of_pos
abbrev Hn:=@Nat.lt_succ_iff_lt_or_eq
abbrev OW:=@UInt8.lt_irrefl
abbrev Us:=@UInt8.le_antisymm
abbrev Au:=@UInt8.not_lt
abbrev tQ:=@Bool.false_eq_true
abbrev Dr:=@List.mem_append_left
abbrev Ds:=@List.mem_append_right
abbrev OA:=@Bool.false_and
abbrev Dl:=@Bool.true_and
abbrev wP:=@List.map_id
abbrev Am:=@List.sum_append
abbrev Hf:=@List.mem_filter
abbrev pF:=@List.not_mem_nil
abbrev lN:=@List.sum_cons
abbrev bZ:=@And.intro
abbrev Dm:=@Decidable.not_not
abbrev Uc:=@List.flatMap_replicate
abbrev Uj:=@List.length_zip
abbrev Dq:=@List.length_replicate
abbrev wO:=@List.foldl_append
abbrev Ms:=@Prod.ext
abbrev Gz:=@List.flatten_nil
abbrev OF:=@List.eq_of_mem_replicate
abbrev Ug:=@List.getElem?_set_self
abbrev OI:=@List.getElem?_set_ne
abbrev Uf:=@List.getElem?_replicate
abbrev OO:=@Nat.le_max_left
abbrev Un:=@Nat.le_max_right
abbrev Dv:=@Nat.le_succ
abbrev tk:=@Array.getElem?_setIfInBounds_self_of_lt
abbrev Ub:=@List.drop_left
abbrev Uk:=@List.mem_cons_self
abbrev tq:=@List.length_filter_lt_length_iff_exists
abbrev Uq:=@Nat.sub_sub
abbrev Uu:=@_root_.Go.World.ownsRow_nil
abbrev pY:=@_root_.Go.RowKit.Below.heap_setCell
abbrev aM:=@_root_.Go.RowKit.Below.refl
abbrev Hw:=@_root_.Go.World.news_of_block
abbrev vG:=@_root_.Go.World.grownBy_alloc
abbrev wT:=@_root_.Go.Sem.run_bind
abbrev wU:=@_root_.Go.Sem.run_pure
abbrev wS:=@_root_.Go.Result.andThen_ok
abbrev fB:=@_root_.Go.IntKind.wrap_u64
abbrev aB:=@_root_.Go.Lib.hid
abbrev Ua:=@_root_.Go.Lib.run_eql_slice_nil
abbrev Ur:=@_root_.Go.Oper.wp_mono
abbrev pD:=@_root_.Go.RowKit.Below.trans
abbrev dT:=@_root_.Go.RowKit.Below.mono
abbrev zZ:=@_root_.Go.IntWalk.i64_in
abbrev vB:=@_root_.Go.IntKind.wrap_u8
abbrev jB:=@_root_.Go.IntKind.wrap_i64
abbrev kO:=@_root_.Go.RowKit.Below.cell
abbrev eS:=@_root_.Go.World.size_alloc
abbrev wN:=@_root_.Go.Exit.noGoto_ret
end Go
namespace Go
abbrev tv:Array Value:=#[.int .u8 0,.int .u8 0,.int .u8 0,.int .u8 0,.int .u8 0,.int .u8 0,.int .u8 0,.int .u8 0,.int .u8 0,.int .u8 0,.int .u8 0,.int .u8 0,.int .u8 0,.int .u8 0,.int .u8 0,.int .u8 0,.int .u8 0,.int .u8 0,.int .u8 0,.int .u8 0,.int .u8 0,.int .u8 0,.int .u8 0,.int .u8 0,.int .u8 0,.int .u8 0,.int .u8 0,.int .u8 0,.int .u8 0,.int .u8 0,.int .u8 0,.int .u8 0]
end Go
namespace Go.Hm
open Go.RowKit
variable{B n d f h:Nat}{l m:List Nat}{a j:Option Addr}{W c:World}{b g:Value}{k:IntKind}{p:Addr}
theorem iL(a:Addr)(n:Nat):(a.add n).block=a.block:=by unfold Addr.add;split<;> rfl
theorem lH(a:Addr)(i j:Nat):(a.add i).add j=a.add (i+j):=by unfold Addr.add;by_cases b:i=0<;> by_cases c:j=0<;> simp[b,c,Nat.add_assoc]
theorem xE(a:Addr):a.add 0=a:=by unfold Addr.add;simp
theorem eI{w':World}(h:Below B W c)(d:c.grownBy w' (some n))(f:B<=n)(b:B<=W.heap.size):Below B W w':=h.grown d (cS b h.size) (λk e=>by injection e with e;omega)
theorem vP{e:World}(h:Below B W c)(k:Below c.heap.size c e)(d:B<=W.heap.size):Below B W e:=h.trans (k.mono (cS d h.size))
def aK(k:IntKind)(l:List Nat):List Value:=l.map λn:Nat=>Value.int k (n:Int)
theorem aS(k:IntKind)(l:List Nat):(aK k l).length=l.length:=by simp[aK]
theorem wB(k:IntKind)(l m:List Nat):aK k (l++m)=aK k l++aK k m:=by simp[aK]
theorem W7(k:IntKind)(n:Nat):aK k [n]=[.int k (n:Int)]:=rfl
theorem uH(k:IntKind)(l:List Nat)(i:Nat):(aK k l).drop i=aK k (l.drop i):=by simp[aK]
theorem xQ(k:IntKind)(l:List Nat)(i:Nat):(aK k l).take i=aK k (l.take i):=by simp[aK]
theorem EV(k:IntKind)(l:List Nat)(i:Nat)(h:i<l.length):(aK k l)[i]? =some (.int k ((l.getD i 0:Nat):Int)):=by simp[aK,List.getElem?_eq_getElem h]
theorem uI(k:IntKind)(l:List Nat):∀u∈aK k l,u.oneCell'=true:=by intro u b;simp only[aK,bS] at b;obtain⟨z,_,rfl⟩:=b;rfl
theorem uJ(k:IntKind)(n x:Nat):aK k (List.replicate n x)=List.replicate n (.int k (x:Int)):=by simp[aK]
theorem X0(k:IntKind)(l:List Nat)(i x:Nat):(aK k l).set i (.int k (x:Int))=aK k (l.set i x):=by simp[aK]
def cY(k:IntKind)(l:List Int):List Value:=l.map (Value.int k)
theorem sD(k:IntKind)(l:List Int):(cY k l).length=l.length:=by simp[cY]
theorem CY(k:IntKind)(l:List Int)(i:Nat)(h:i<l.length):(cY k l)[i]? =some (.int k (l.getD i 0)):=by simp[cY,List.getElem?_eq_getElem h]
def aF(w:World)(B size:Nat)(A:Option Addr)(n:Nat)(xs:List Value):Prop:=xs.length=n*size/\(0<n-> ∃ad,A=some ad/\ad.block<B/\ ∀j u,xs[j]? =some u->w.cell? (ad.add j)=some u)
section
variable{w w':World}{B B' size n:Nat}{A:Option Addr}{xs:List Value}
theorem aF.none_:aF w B size A 0 []:=⟨by simp,λh=>absurd h (by omega)⟩
abbrev iE:=@aF.none_
theorem aF.at_{k:Nat}(h:aF w B 1 A n xs)(f:k<n):∃ad u,A=some ad/\ad.block<B/\xs[k]? =some u/\w.cell? (ad.add k)=some u:=by obtain⟨ad,e,c,d⟩:=h.2 (by omega);(have b:k<xs.length:=by have:=h.1;omega);exact⟨ad,xs[k],e,c,bN b,d k _ (bN b)⟩
theorem aF.keep(h:aF w B size A n xs)(f:∀p:Addr,p.block<B->w'.cell? p=w.cell? p):aF w' B size A n xs:=⟨h.1,λi=>by obtain⟨c,e,b,d⟩:=h.2 i;exact⟨c,e,b,λj u k=>(f _ (by rw[iL];exact b)).trans (d j u k)⟩⟩
theorem aF.more(h:aF w B size A n xs)(f:B<=B'):aF w B' size A n xs:=⟨h.1,λd=>by obtain⟨b,e,i,c⟩:=h.2 d;exact⟨b,e,by omega,c⟩⟩
theorem aF.below(h:aF w B size A n xs)(b:Below B w w'):aF w' B size A n xs:=h.keep λ_ c=>b.cell c
theorem aF.drew(h:aF w B size A n xs):aF w.drew B size A n xs:=h
theorem aF.drewN(h:aF w B size A n xs)(k:Nat):aF (w.drewN k) B size A n xs:=h
theorem aF.alloc(h:aF w B size A n xs)(b:B<=w.heap.size)(o:Obj):aF (w.alloc o) B size A n xs:=h.keep λp c=>World.cell?_alloc_lt w o p (by omega)
theorem aF.setCell(h:aF w B size A n xs){p:Addr}(b:B<=p.block)(u:Value):aF (w.setCell p u) B size A n xs:=h.keep λq c=>World.cell?_setCell_other w p q u (λe=>by subst e;omega)
theorem aF.grown(h:aF w B size A n xs){row:Option Nat}(b:w.grownBy w' row)(d:B<=w.heap.size)(c:∀g,row=some g->B<=g):aF w' B size A n xs:=h.keep λp f=>World.cell?_of_block (b.block p.block (by omega) (λe=>by have:=c _ e.symm;omega))
theorem aF.grown_far(h:aF w w.heap.size size A n xs){row:Option Nat}(d:w.grownBy w' row)(b:∀ad g,A=some ad->row=some g->ad.block≠g):aF w' w'.heap.size size A n xs:=⟨h.1,λk=>by obtain⟨ad,e,c,i⟩:=h.2 k;refine⟨ad,e,mU c d.size,λj u l=>?_⟩;rw[World.cell?_of_block (d.block (ad.add j).block (by rw[iL];exact c) (λf=>b _ _ e f.symm (iL _ _).symm))];exact i j u l⟩
theorem aF.cut(h:aF w B size A n xs){k cap:Nat}(l:k<=n)(i:n<=cap):aF w B size (if cap=k then A else A.map (·.add (k*size))) (n-k) (xs.drop (k*size)):=by refine⟨by rw[dL,h.1,Nat.sub_mul],λm=>?_⟩;obtain⟨c,rfl,d,b⟩:=h.2 (by omega);rw[if_neg (by omega)];refine⟨c.add (k*size),rfl,by rw[iL];exact d,λj u f=>?_⟩;rw[lH];exact b _ u (by rw[<-f,List.getElem?_drop])
theorem aF.take(h:aF w B size A n xs){k:Nat}(i:k<=n):aF w B size A k (xs.take (k*size)):=by refine⟨by rw[cM,h.1,pG (mV _ i)],λl=>?_⟩;obtain⟨d,rfl,f,b⟩:=h.2 (by omega);refine⟨d,rfl,f,λj u c=>b j u ?_⟩;rw[List.getElem?_take] at c;split at c;exact c;cases c
theorem aF.of_own{base:Nat}{e:TypeId}(h:w.ownsRow base e size (.slice A n d) n xs):aF w w.heap.size size A n xs:=by refine⟨h.1,λi=>?_⟩;obtain⟨g,a,j,_,b⟩:=h.form i;(have f:A=some ⟨g,0,none⟩:=by injection j);subst f;exact⟨_,rfl,b,h.cells (g:=g) rfl⟩
abbrev dX:=@aF.of_own
theorem aF.len(h:aF w B 1 A n (aK k l)):n=l.length:=by have:=h.1;rw[aS] at this;omega
theorem aF.lenI{l:List Int}(h:aF w B 1 A n (cY k l)):n=l.length:=by have:=h.1;rw[sD] at this;omega
theorem aF.int{k:IntKind}{l:List Int}{i:Nat}(h:aF w B 1 A n (cY k l))(hi:i<n):∃ad,A=some ad/\ad.block<B/\w.cell? (ad.add i)=some (.int k (l.getD i 0)):=by obtain⟨ad,u,e,c,b,d⟩:=h.at_ hi;(have f:i<l.length:=by have:=h.lenI;omega);rw[CY k l i f] at b;injection b with b;subst b;exact⟨ad,e,c,d⟩
theorem aF.num{i:Nat}(h:aF w B 1 A n (aK k l))(hi:i<n):∃ad,A=some ad/\ad.block<B/\w.cell? (ad.add i)=some (.int k ((l.getD i 0:Nat):Int)):=by obtain⟨ad,u,e,c,b,d⟩:=h.at_ hi;(have f:i<l.length:=by have:=h.1;rw[aS] at this;omega);rw[EV k l i f] at b;injection b with b;subst b;exact⟨ad,e,c,d⟩
end
def Own(w:World)(base:Nat)(e:TypeId)(v:Value)(xs:List Value):Prop:=w.ownsRow base e 1 v xs.length xs
section
variable{w w':World}{base:Nat}{e:TypeId}{v:Value}{xs:List Value}
theorem Own.nil_:Own w base e (.slice none 0 0) []:=Uu w base e 1
abbrev eR:=@Own.nil_
theorem Own.empty(w:World)(e:TypeId):Own (w.alloc (.cells #[] e)) w.heap.size e (.slice (some ⟨w.heap.size,0,none⟩) 0 0) []:=World.ownsRow_made w #[] 0 (aG _) (bL _) rfl
abbrev Hr:=@Own.empty
theorem Own.slice(h:Own w base e v xs):∃A c,v= .slice A xs.length c/\xs.length<=c/\c<=maxLen:=by rcases h.2 with⟨b,k⟩|⟨g,d,f,b,_,_,i,j,_⟩;exact⟨none,0,by rw[b,k],by omega,by simp[maxLen]⟩;exact⟨_,_,b,i,j⟩
theorem Own.reads(h:Own w base e (.slice a n B) xs):aF w w.heap.size 1 a n xs:=by(have b:n=xs.length:=by obtain⟨f,i,d,_⟩:=h.slice;injection d);subst b;exact dX h
theorem Own.len(h:Own w base e (.slice a n B) xs):n=xs.length:=by obtain⟨d,f,b,_⟩:=h.slice;injection b
theorem Own.cap(h:Own w base e (.slice a n B) xs):n<=B/\B<=maxLen:=by obtain⟨k,l,j,f,i⟩:=h.slice;injection j with _ b d;subst b d;exact⟨f,i⟩
theorem Own.kept{row:Option Nat}(h:Own w base e v xs)(c:w.grownBy w' row)(b:v.ownBlock=none\/v.ownBlock≠row):Own w' base e v xs:=eD h c b
theorem Own.lt(h:Own w base e v xs):∀k,v.ownBlock=some k->base<=k/\k<w.heap.size:=fC h
theorem Own.below(h:Own w base e v xs)(j:Below B w w')(i:w.heap.size<=B):Own w' base e v xs:=by refine⟨h.1,?_⟩;rcases h.2 with k|⟨g,c,d,rfl,f,b,rest⟩;exact .inl k;refine .inr ⟨g,c,d,rfl,f,?_,rest⟩;rw[j.block g (mU (zY.1 b).1 i)];exact b
theorem Own.base_le{b':Nat}(h:Own w base e v xs)(f:b'<=base):Own w b' e v xs:=by refine⟨h.1,?_⟩;rcases h.2 with i|⟨g,b,c,j,d,rest⟩;exact .inl i;exact .inr ⟨g,b,c,j,cS f d,rest⟩
theorem Own.alloc(h:Own w base e v xs)(o:Obj):Own (w.alloc o) base e v xs:=Mt h o
theorem Own.drewN(h:Own w base e v xs)(k:Nat):Own (w.drewN k) base e v xs:=h
theorem Own.frozen(h:Own w base e (.slice (some p) n B) xs)(j:Nat):w.frozen? (p.add j)=false:=by rcases h.2 with⟨f,_⟩|⟨g,i,k,f,_,d,_⟩;cases f;injection f with b _ _;injection b with b;subst b;have l:((⟨g,0,none⟩:Addr).add j).block=g:=iL _ _;unfold World.frozen?;rw[l,d];simp
end
theorem Own.at_{base:Nat}{e:TypeId}{xs:List Value}(h:Own W base e (.slice a n B) xs)(hi:d<n):∃g u,a=some ⟨g,0,none⟩/\base<=g/\g<W.heap.size/\xs[d]? =some u/\W.cell? ⟨g,d,none⟩=some u/\W.frozen? ⟨g,d,none⟩=false/\ ∀u':Value,Own (W.setCell ⟨g,d,none⟩ u') base e (.slice a n B) (xs.set d u'):=by
 have j:=h.len;obtain⟨g,l,p,o,f⟩:=World.ownsRow.form h (by omega);have m:a=some ⟨g,0,none⟩:=by injection p
 subst m;have k:d<xs.length:=by omega
 have b:W.ownsRow base e 1 (.slice (some ⟨g,0,none⟩) n B) n xs:=by rw[j] at h⊢;exact h
 refine⟨g,xs[d],rfl,o,f,bN k,?_,b.frozenAt d,λu'=>?_⟩;rw[b.cellAt d (by omega),bN k];have:=(b.stored d u').1;unfold Own;rw[yL,<-j];exact this
def aI(w:World)(g:Nat)(t:TypeId)(cs:Array Value):Prop:=w.heap[g]? =some (.cells cs t (0,0))
section
variable{w w':World}{g:Nat}{t:TypeId}{cs:Array Value}
theorem aI.lt(h:aI w g t cs):g<w.heap.size:=by rcases vE g w.heap.size with c|b;exact c;unfold aI at h;rw[Me b] at h;cases h
theorem aI.cell(h:aI w g t cs)(i:Nat):w.cell? ⟨g,i,none⟩=cs[i]? :=cell_of_row w g i cs t (0,0) h
theorem aI.frozen(h:aI w g t cs)(i:Nat):w.frozen? ⟨g,i,none⟩=false:=by unfold aI at h;simp[World.frozen?,h]
theorem aI.new(w:World)(t:TypeId)(cs:Array Value):aI (w.alloc (.cells cs t)) w.heap.size t cs:=heap_alloc_new w _
abbrev aQ:=@aI.new
theorem aI.drew(h:aI w g t cs):aI w.drew g t cs:=h
theorem aI.drewN(h:aI w g t cs)(n:Nat):aI (w.drewN n) g t cs:=h
theorem aI.alloc(h:aI w g t cs)(o:Obj):aI (w.alloc o) g t cs:=(Below.heap_alloc w o g h.lt).trans h
theorem aI.set_(h:aI w g t cs)(i:Nat)(u:Value):aI (w.setCell ⟨g,i,none⟩ u) g t (cs.setIfInBounds i u):=by unfold aI at h⊢;simp[World.setCell,Array.getElem?_modify,h]
theorem aI.far(h:aI w g t cs)(b:g≠p.block)(u:Value):aI (w.setCell p u) g t cs:=(pY w p u g b).trans h
theorem aI.below(h:aI w g t cs)(b:Below B w w')(c:g<B):aI w' g t cs:=(b.block g c).trans h
theorem aI.grown{row:Option Nat}(h:aI w g t cs)(b:w.grownBy w' row)(c:some g≠row):aI w' g t cs:=(b.block g h.lt c).trans h
theorem aI.ne_{i:TypeId}{c:Array Value}(h:aI w g t cs)(b:aI w f i c)(d:t≠i):g≠f:=by rintro rfl;unfold aI at h b;rw[h] at b;injection b with b;injection b with _ j;exact d j
abbrev jX:=@aI.ne_
theorem Own.blk_ne{base:Nat}{e:TypeId}{xs:List Value}(h:Own w base e b xs)(j:aI w g t cs)(a:e≠t):b.ownBlock≠some g:=by rcases h.2 with⟨rfl,_⟩|⟨f,c,d,rfl,_,k,_⟩;simp[Value.ownBlock];intro i;(have:f=g:=by simpa[Value.ownBlock] using i);subst this;exact jX (t:=e) k j a rfl
theorem Own.keepT{base:Nat}{e:TypeId}{xs:List Value}(h:Own w base e b xs)(d:w.grownBy w' (some g))(c:aI w g t cs)(a:e≠t):Own w' base e b xs:=h.kept d (.inr (h.blk_ne c a))
end
def TR(w:World)(e:TypeId)(A:Option Addr)(n:Nat)(xs:List Value):Prop:=aF w w.heap.size 1 A n xs/\(0<n-> ∀ad,A=some ad-> ∃cs,aI w ad.block e cs)
section
variable{w w':World}{e:TypeId}{n:Nat}{A:Option Addr}{xs:List Value}
theorem TR.nil_:TR w e A 0 []:=⟨⟨by simp,λh=>absurd h (by omega)⟩,λh=>absurd h (by omega)⟩
theorem TR.keep{t:TypeId}{cs:Array Value}(h:TR w e A n xs)(k:w.grownBy w' (some B))(p:aI w B t cs)(d:e≠t):TR w' e A n xs:=by refine⟨⟨h.1.1,λi=>?_⟩,λi b r=>?_⟩;obtain⟨b,m,q,s⟩:=h.1.2 i;obtain⟨c,f⟩:=h.2 i b m;have l:b.block≠B:=jX f p d;refine⟨b,m,mU q k.size,λj u x=>?_⟩;rw[World.cell?_of_block (k.block (b.add j).block (by rw[iL];exact q) (by rw[iL];simpa using l))];exact s j u x;obtain⟨c,f⟩:=h.2 i b r;exact⟨c,f.grown k (by simpa using jX f p d)⟩
theorem TR.below(h:TR w e A n xs)(c:Below w.heap.size w w'):TR w' e A n xs:=⟨(h.1.below c).more c.size,λj f i=>by obtain⟨b,d⟩:=h.2 j f i;exact⟨b,d.below c d.lt⟩⟩
theorem TR.grown{row:Option Nat}(h:TR w e A n xs)(f:w.grownBy w' row)(b:∀ad g,A=some ad->row=some g->ad.block≠g):TR w' e A n xs:=⟨h.1.grown_far f b,λk ad d=>by obtain⟨c,j⟩:=h.2 k ad d;exact⟨c,j.grown f (λi=>b _ _ d i.symm rfl)⟩⟩
theorem TR.drewN(h:TR w e A n xs)(k:Nat):TR (w.drewN k) e A n xs:=h
theorem TR.alloc(h:TR w e A n xs)(o:Obj):TR (w.alloc o) e A n xs:=h.below ((aM _ _).alloc (aG _) o)
theorem TR.cut(h:TR w e A n xs){k cap:Nat}(j:k<=n)(i:n<=cap):TR w e (if cap=k then A else A.map (·.add k)) (n-k) (xs.drop k):=by have d:=h.1.cut j i;rw[fT] at d;refine⟨d,λm l b=>?_⟩;rw[if_neg (by omega)] at b;rcases A with _|a;cases b;injection b with b;subst b;obtain⟨c,f⟩:=h.2 (by omega) a rfl;exact⟨c,by simpa[iL] using f⟩
theorem TR.take(h:TR w e A n xs){k:Nat}(f:k<=n):TR w e A k (xs.take k):=by have b:=h.1.take f;rw[fT] at b;exact⟨b,λi c d=>h.2 (by omega) c d⟩
theorem TR.of_own{base:Nat}(h:Own w base e (.slice A n B) xs):TR w e A n xs:=by refine⟨h.reads,λp l j=>?_⟩;rcases h.2 with⟨f,q⟩|⟨g,i,d,f,_,k,_⟩;injection f with b m _;omega;injection f with b _ _;rw[j] at b;injection b with b;subst b;exact⟨d,k⟩
abbrev Dx:=@TR.of_own
end
def aH(l:List Nat):ByteArray:=⟨(l.map UInt8.ofNat).toArray⟩
theorem iP(l:List Nat):(aH l).size=l.length:=by show(aH l).data.size=_;simp[aH]
theorem QZ(b:ByteArray):∀(k i:Nat) (r:List UInt8),b.size-i=k->ByteArray.toList.loop b i r=r.reverse++b.data.toList.drop i:=by intro k;induction k with|zero=>intro i r h;rw[ByteArray.toList.loop];(have c:b.data.toList.length<=i:=by rw[Mf];show b.size<=i;omega);rw[if_neg (by omega),OE c,dH]|succ k f=>intro i r h;rw[ByteArray.toList.loop,if_pos (by omega),f _ _ (by omega)];(have c:i<b.data.toList.length:=by rw[Mf];show i<b.size;omega);rw[Mh c,List.reverse_cons,cD];congr 1;simp only[List.singleton_append,pE,and_true];(have d:i<b.data.size:=by rw[<-Mf];exact c);show b.data[i]! =_;rw[getElem!_pos b.data i d];rfl
theorem RA(b:ByteArray):b.toList=b.data.toList:=by rw[ByteArray.toList,QZ b b.size 0 [] (by omega)];simp
theorem Bf(l:List Nat):(aH l).toList=l.map UInt8.ofNat:=by rw[RA];rfl
theorem Be(d:∀x∈l,x<256)(f:∀x∈m,x<256):((aH l).toList==(aH m).toList)=decide (l=m):=by rw[Bf,Bf,tP];simp only[beq_iff_eq,decide_eq_true_eq];constructor;intro h;refine yJ (by simpa using congrArg List.length h) λi b c=>?_;have:=congrArg (λl=>(l[i]?).map UInt8.toNat) h;simp[List.getElem?_eq_getElem b,List.getElem?_eq_getElem c] at this;have j:=d _ (eL b);have k:=f _ (eL c);omega;rintro rfl;rfl
theorem Sb{P:Program}{src dst e:TypeId}(q:P.underlying src=some (.slice e))(p:P.underlying e=some (.int .u8))(m:P.underlying dst=some .string){c:Nat}(h:aF W B 1 a n (aK .u8 l)):(convert src dst (.slice a n c)).run P W= .ok (.string (aH l)) W:=by
 obtain rfl:=h.len;rcases a with _|d;have k:l.length=0:=by rcases oN l.length with b|b;exact b;obtain⟨d,u,_⟩:=h.2 b;cases u
 obtain rfl:l=[]:=rS k;rw[run_convert_bytes_string W src dst e none _ c q p m];simp[Conv.bytesToString,aH];rfl;have x:(loadCells d l.length).run P W= .ok ((l.map λn:Nat=>(n:Int)).map (Value.int .u8)).toArray W:=by(have i:∀j v,(aK .u8 l)[j]? =some v->W.cell? (d.add j)=some v:=by intro j v r;rcases oN l.length with b|b;obtain rfl:l=[]:=rS b;simp[aK] at r;obtain⟨s,f,_,i⟩:=h.2 b;injection f with f;subst f;exact i j v r);have:=run_loadCells_list (P:=P) W d (aK .u8 l) i;rw[aS] at this;rw[this];simp[aK]
 rw[run_convert_bytes_string W src dst e _ _ c q p m,run_bytesToString W d _ c _ x,foldl_push_bytes];simp[aH,ByteArray.empty,ByteArray.emptyWithCapacity];rfl
theorem aF.lit(w:World)(e:TypeId)(cs:Array Value)(n:Nat)(k:IntKind)(l:List Nat)(h:cs.toList=aK k l)(b:n=l.length):aF (w.alloc (.cells cs e)) (w.alloc (.cells cs e)).heap.size 1 (some ⟨w.heap.size,0,none⟩) n (aK k l):=by subst b;refine⟨by rw[aS];simp,λ_=>⟨_,rfl,by simp,?_⟩⟩;have:=Hw (heap_alloc_new w (.cells cs e));rwa[h] at this
structure eW(P:Program)(t e:TypeId)(z:Value)(size bytes:Nat):Prop where
 ht:P.underlying t=some (.slice e)
 hi:(P.info? e).map (fun i=>(i.zero,i.size,i.bytes))=some (some z,size,bytes)
 hz:z.cells.size=size
 hs:0<size
section
variable{P:Program}{ops:Array Oper}{rest:List Oper}{o:Oper}{a:Act}{Q:Exit->Act->World->Prop}
theorem Lz{t e:TypeId}(E:eW P t e b 1 n)(D:o.guard=none)(s x:Operand)(S:o.op= .call {callee:= .builtin .append,args:= #[s,x],argTypes:= #[t,t]}){base:Nat}{u:Value}{xs:List Value}(d:Own c base e g xs)(T:a.eval s=g)(U:a.eval x= .slice (some ⟨c.heap.size,0,none⟩) 1 1)(L:Below B W c)(y:B<=base)(f:base<=c.heap.size)(K:u.oneCell'=true)(R:(xs.length+1)*n<=140737488355328)(O:xs.length+1<=maxLen)(h:∀A' c' w',xs.length+1<=c'->c'<=maxLen->Own w' base e (.slice A' (xs.length+1) c') (xs++[u])->c.grownBy w' g.ownBlock->Below B W w'->c.heap.size<w'.heap.size->(Value.ownBlock (.slice A' (xs.length+1) c')=g.ownBlock\/ ∃X,Value.ownBlock (.slice A' (xs.length+1) c')=some X/\c.heap.size<=X)->wpList P ops Q rest (a.put o.dst (.slice A' (xs.length+1) c')) w'):wpList P ops Q (o::rest) a (c.alloc (.cells #[u] e)):=by
 obtain⟨i,M,G,H,I⟩:=info_parts E.hi;refine wpList_append_own_at _ D s x t S base e i b 1 n E.ht M G H I E.hz (by omega) g xs.length xs T (Mt d _) ⟨c.heap.size,0,none⟩ 1 1 [u] U rfl (cell_one_new _ _ _) (by simpa using K) O R (by simp;omega) ?_;intro V w' j J _ l;have q:(xs++[u]).length=xs.length+1:=by simp
 have A:Own w' base e V (xs++[u]):=by unfold Own;rw[q];exact j
 obtain⟨A',c',rfl,m,C⟩:=A.slice;rw[q] at m A l⊢;have p:c.grownBy w' g.ownBlock:=(vG c (.cells #[u] e) g.ownBlock).trans J;have F:=J.size;simp at F;refine h A' c' w' m C A p (L.grown p (cS y f) (λk N=>by have:=(d.lt k N).1;omega)) (by omega) ?_;rcases l with r|r;exact .inl r;exact .inr ⟨_,r,by simp⟩
theorem Gq{t e:TypeId}(E:eW P t e b 1 d)(G:o.guard=none)(s x:Operand)(ho:o.op= .call {callee:= .builtin .append,args:= #[s,x],argTypes:= #[t,t]}){base:Nat}{xs news:List Value}(m:Own c base e g xs)(V:aF c c.heap.size 1 j n news)(hs:a.eval s=g)(hx:a.eval x= .slice j n f)(hb:Below B W c)(M:B<=base)(l:base<=c.heap.size)(h1:∀u∈news,u.oneCell'=true)(S:(xs.length+n)*d<=140737488355328)(hm:xs.length+n<=maxLen)(h:∀A' c' w',xs.length+n<=c'->c'<=maxLen->Own w' base e (.slice A' (xs.length+n) c') (xs++news)->c.grownBy w' g.ownBlock->Below B W w'->(Value.ownBlock (.slice A' (xs.length+n) c')=g.ownBlock\/ ∃w,Value.ownBlock (.slice A' (xs.length+n) c')=some w/\c.heap.size<=w)->wpList P ops Q rest (a.put o.dst (.slice A' (xs.length+n) c')) w'):wpList P ops Q (o::rest) a c:=by
 obtain⟨i,N,X,Y,Z⟩:=info_parts E.hi;have O:news.length=n:=by have:=V.1;omega
 have I:(xs++news).length=xs.length+n:=by simp[O]
 rcases j with _|J;have R:n=0:=by rcases oN n with r|r;exact r;obtain⟨J,D,_⟩:=V.2 r;cases D
 subst R;have T:news=[]:=rS O;subst T;have H:∀ty,(Builtin.append_ #[t,t] ty #[g,.slice none 0 f]).run P c= .ok g c:=by intro ty;rcases m.2 with⟨rfl,a3⟩|⟨w,a1,a2,rfl,_,_,U,_⟩;simp[Builtin.append_,run_underlying E.ht,sizeOf,typeInfo,N,Builtin.lenOf,Builtin.firstCells];simp[Builtin.append_,run_underlying E.ht,sizeOf,typeInfo,N,Builtin.lenOf,Builtin.firstCells,U,storeCells]
 refine wpList_plain G λK hK=>?_;unfold Oper.wp execOp;simp only[ho,resolve,invoke,builtin,wT,wU,wS,yM,cZ,kQ,hs,hx,H];obtain⟨A',c',rfl,p,y⟩:=m.slice;exact hK _ _ (h A' c' c p y (by simpa using m) (Az c _) hb (.inl rfl));have q:∀z u,news[z]? =some u->c.cell? (J.add z)=some u:=by intro z u hu;rcases oN n with r|r;subst r;have S:news=[]:=rS O;subst S;simp at hu;obtain⟨a0,D,_,hc⟩:=V.2 r;injection D with D;subst D;exact hc z u hu
 refine wpList_append_own_at _ G s x t ho base e i b 1 d E.ht N X Y Z E.hz (by omega) g xs.length xs hs m J n f news hx (by omega) q h1 hm S l ?_;intro v' w' C hg _ F;have v:Own w' base e v' (xs++news):=by unfold Own;rw[I];exact C
 obtain⟨A',c',rfl,p,y⟩:=v.slice;rw[I] at p v F⊢;refine h A' c' w' p y v hg (hb.grown hg (cS M l) (λk hk=>by have:=(m.lt k hk).1;omega)) ?_;rcases F with L|L;exact .inl L;exact .inr ⟨_,L,aG _⟩
theorem pV{t e:TypeId}(E:eW P t e b 1 n)(p:o.guard=none)(F y:Operand)(R:o.op=Op.makeSlice t F y){kl kc:IntKind}{L C:Int}(l g:Nat)(O:a.eval F= .int kl L)(M:a.eval y= .int kc C)(I:L=(l:Int))(G:C=(g:Int))(j:l<=g)(J:Below B W c)(f:B<=c.heap.size)(u:b.oneCell'=true)(S:g*n<=140737488355328)(D:g<=maxLen)(h:∀w',Own w' c.heap.size e (.slice (some ⟨c.heap.size,0,none⟩) l g) (List.replicate l b)->c.grownBy w' none->Below B W w'->w'.heap.size=c.heap.size+1->wpList P ops Q rest (a.put o.dst (.slice (some ⟨c.heap.size,0,none⟩) l g)) w'):wpList P ops Q (o::rest) a c:=by
 obtain⟨i,N,s,r,k⟩:=info_parts E.hi;subst I G;have x:b.cells= #[b]:=by revert u;unfold Value.oneCell' Value.cells;cases b<;> simp
 have q:(g:Int)<=9223372036854775807:=by have h:=D;simp only[maxLen] at h;omega
 have m:(i.bytes:Int)*(g:Int)<=281474976710656:=by(have h:((i.bytes*g:Nat):Int)<=281474976710656:=by rw[k,jY];omega);rwa[sT] at h
 have d:=run_make (P:=P) c t e i b E.ht N s kl kc (l:Int) (g:Int) (by omega) (by omega) m q;rw[eQ,eQ,r,fT,x] at d;refine wpList_plain p λK H=>?_;unfold Oper.wp;simp[execOp,R,O,M,d,Result.andThen];refine H _ _ (h _ ?_ (vG _ _ _) (J.alloc f _) (by simp));refine⟨by simp,.inr ⟨_,g,_,by simp,aG _,heap_alloc_new c _,by simpa using j,D,by simp[size_madeCells],?_⟩⟩;rw[toList_madeCells_one];simp[Nat.min_eq_left j]
theorem Tm{t e:TypeId}(E:eW P t e b 1 n)(M:o.guard=none)(w s:Operand)(ho:o.op= .call {callee:= .builtin .copy,args:= #[w,s],argTypes:= #[t,t]}){base:Nat}{xs z:List Value}{A:Option Addr}{cd:Nat}(p:Own c base e (.slice j h cd) xs)(hr:aF c c.heap.size 1 A d z)(hd:a.eval w= .slice j h cd)(hs:a.eval s= .slice A d f)(r:Nat)(a1:Nat.min d h=r)(hb:Below B W c)(Y:B<=base)(h1:∀u∈z,u.oneCell'=true)(D:∀w',Own w' base e (.slice j h cd) (z.take h++xs.drop d)->c.grownBy w' (Value.ownBlock (.slice j h cd))->Below B W w'->w'.heap.size=c.heap.size->wpList P ops Q rest (a.put o.dst (.int .i64 (r:Int))) w'):wpList P ops Q (o::rest) a c:=by
 subst a1;obtain⟨i,hi,a9,a3,a6⟩:=info_parts E.hi;have T:(P.info? e).map (·.size)=some 1:=by simp[hi,a3]
 have I:=p.len;have U:z.length=d:=by have:=hr.1;omega
 by_cases J:Nat.min d h=0;have q:∀ty,(Builtin.copy_ #[t,t] ty #[.slice j h cd,.slice A d f]).run P c= .ok (goInt 0) c:=λty=>run_copy_none c t t ty e j A h cd d f E.ht T J;refine wpList_plain M λK X=>?_;unfold Oper.wp execOp;simp only[ho,resolve,invoke,builtin,wT,wU,wS,yM,cZ,kQ,hd,hs,q];have hx:z.take h++xs.drop d=xs:=by rcases Nat.min_eq_zero_iff.1 J with hm|hn;subst hm;have:z=[]:=rS U;subst this;simp;subst hn;have:xs=[]:=rS I.symm;subst this;simp
 have:=D c (by rw[hx];exact p) (Az c _) hb rfl;rw[J] at this;exact X _ _ this;have O:0<d/\0<h:=by constructor;rcases oN d with G|G;subst G;exact absurd (Nat.zero_min h) J;exact G;rcases oN h with G|G;subst G;exact absurd (Nat.min_zero d) J;exact G
 obtain⟨V,rfl,_,H⟩:=hr.2 O.1;rcases p.2 with⟨C,a8⟩|⟨g,a5,y,C,L,N,a2,Z,a7,x⟩;omega;injection C with e1 e2 e3;subst e1 e3;have m:(z.take h).length=Nat.min d h:=by rw[cM,U,Nat.min_comm]
 have a0:Nat.min d h<=h:=Nat.min_le_right d h;have a4:(z.take h).length<=h:=by rw[m];exact a0
 have S:∀F v,(z.take h)[F]? =some v->c.cell? (V.add F)=some v:=λF v C=>H F v (by rw[List.getElem?_take] at C;split at C;exact C;cases C);have q:∀ty,(Builtin.copy_ #[t,t] ty #[.slice (some ⟨g,0,none⟩) h cd,.slice (some V) d f]).run P c= .ok (goInt (z.take h).length) (c.setRow g (y.toList.take 0++z.take h++y.toList.drop (0+(z.take h).length)).toArray):=λty=>run_copy_row P c t t ty e g 0 h cd V d f y e (z.take h) E.ht T N m S (by rw[m];omega) (λv C=>h1 v (eA C));refine wpList_plain M λK X=>?_;unfold Oper.wp execOp;simp only[ho,resolve,invoke,builtin,wT,wU,wS,yM,cZ,kQ,hd,hs,q,m];have l:(z.take h++xs.drop d).length=xs.length:=by rw[aN,m,dL,<-I];simp only[Nat.min_def];split<;> omega
 refine X _ _ (D _ ?_ ⟨rfl,rfl,rfl,by simp[World.setRow],λk _ hk=>setRow_other c g k _ (λe=>hk (by simp[Value.ownBlock,e]))⟩ (below_setRow hb (cS Y L) _) (by simp[World.setRow]));refine⟨by simp,.inr ⟨g,cd,_,by rw[l,I],L,setRow_heap c g y _ e _ N,by rw[l];exact a2,Z,?_,?_⟩⟩;simp only[lO,eB,sW,tT,aN,m,dL,Mf];omega;rw[l,fT];simp only[lO,eB,sW];rw[fT] at x;rw[List.take_append,m,gY (by omega)];congr 1;rw[List.take_drop,show Nat.min d h+(xs.length-Nat.min d h)=xs.length by omega,x];by_cases R:d<=h;rw[show Nat.min d h=d from pG R];rw[show Nat.min d h=h from Nat.min_eq_right (by omega),OE (by omega),OE (by omega)]
theorem jA{t e:TypeId}(E:eW P t e b 1 n)(I:o.guard=none)(s x:Operand)(r:o.op= .call {callee:= .builtin .append,args:= #[s,x],argTypes:= #[t,t]}){base:Nat}(v:Own c base e (.slice j d f) (aK k l))(C:a.eval s= .slice j d f)(F:a.eval x= .slice (some ⟨c.heap.size,0,none⟩) 1 1)(y:Nat)(D:g= .int k (y:Int))(m:Below B W c)(i:B<=base)(G:base<=c.heap.size)(q:(d+1)*n<=140737488355328)(p:d+1<=maxLen)(h:∀A' c' w',d+1<=c'->c'<=maxLen->Own w' base e (.slice A' (d+1) c') (aK k (l++[y]))->c.grownBy w' (Value.ownBlock (.slice j d f))->Below B W w'->c.heap.size<w'.heap.size->(Value.ownBlock (.slice A' (d+1) c')=Value.ownBlock (.slice j d f)\/ ∃H,Value.ownBlock (.slice A' (d+1) c')=some H/\c.heap.size<=H)->wpList P ops Q rest (a.put o.dst (.slice A' (d+1) c')) w'):wpList P ops Q (o::rest) a (c.alloc (.cells #[g] e)):=by(obtain rfl:d=l.length:=by have:=v.len;rwa[aS] at this);subst D;refine Lz E I s x r v C F m i G rfl (by rw[aS];exact q) (by rw[aS];exact p) ?_;rw[aS,wB,W7] at*;exact h
theorem fW{t e:TypeId}(E:eW P t e b 1 n)(I:o.guard=none)(s x:Operand)(y:o.op= .call {callee:= .builtin .append,args:= #[s,x],argTypes:= #[t,t]}){base c2:Nat}{p:Option Addr}{l2:List Nat}(v:Own c base e (.slice j d f) (aK k l))(C:aF c c.heap.size 1 p h (aK k l2))(D:a.eval s= .slice j d f)(F:a.eval x= .slice p h c2)(q:Below B W c)(i:B<=base)(G:base<=c.heap.size)(u:(d+h)*n<=140737488355328)(r:d+h<=maxLen)(H:∀A' c' w',d+h<=c'->c'<=maxLen->Own w' base e (.slice A' (d+h) c') (aK k (l++l2))->c.grownBy w' (Value.ownBlock (.slice j d f))->Below B W w'->(Value.ownBlock (.slice A' (d+h) c')=Value.ownBlock (.slice j d f)\/ ∃g,Value.ownBlock (.slice A' (d+h) c')=some g/\c.heap.size<=g)->wpList P ops Q rest (a.put o.dst (.slice A' (d+h) c')) w'):wpList P ops Q (o::rest) a c:=by(obtain rfl:d=l.length:=by have:=v.len;rwa[aS] at this);refine Gq E I s x y v C D F q i G (uI _ _) (by rw[aS];exact u) (by rw[aS];exact r) ?_;rw[aS,wB] at*;exact H
end
def vp(n:Nat):List Nat:=if _h:n<128 then [n] else(n%128+128)::vp (n/128)
theorem jW(h:n<128):vp n=[n]:=by rw[vp,dif_pos h]
theorem lB(h: ¬n<128):vp n=(n%128+128)::vp (n/128):=by rw[vp,dif_neg h]
theorem qs(k:Nat):∀n,n<128^(k+1)->(vp n).length<=k+1:=by induction k with|zero=>intro n h;rw[jW (by omega)];simp|succ k b=>intro n h;by_cases a:n<128;rw[jW a];simp;rw[lB a];have:=b (n/128) (Hj (by rw[tV] at h;omega));simp;omega
theorem bY(h:n<18446744073709551616):(vp n).length<=10:=qs 9 n (by omega)
theorem zX(n:Nat):0<(vp n).length:=by by_cases a:n<128;rw[jW a];simp;rw[lB a];simp
def bO(n:Nat):Nat->List Nat|0=>[]|k+1=>bO n k++[n/256^k%256]
theorem fQ(n k:Nat):(bO n k).length=k:=by induction k<;> simp_all[bO]
def num:List Nat->Nat| []=>0|b::l=>b+256*num l
theorem EU(l:List Nat)(b:Nat):num (l++[b])=num l+b*256^l.length:=by induction l with|nil=>simp[num]|cons a l c=>simp only[lM,num,c,cJ,tV];rw[An,Dt];congr 2;rw[Mp,jY 256]
theorem Ci(l:List Nat)(h:∀x∈l,x<256):num l<256^l.length:=by induction l with|nil=>simp[num]|cons a l c=>have d:=c λx b=>h x (by simp[b]);have e:=h a (by simp);simp only[num,cJ,tV];omega
theorem cI{α:Type}(l:List α)(k:Nat)(d:α)(h:k<l.length):l.take (k+1)=l.take k++[l.getD k d]:=by rw[List.take_add_one,bN h];simp[h]
theorem ES(n k:Nat):num (bO n k)=n%256^k:=by induction k with|zero=>simp[bO,num,Nat.mod_one]|succ k a=>rw[bO,EU,a,fQ,tV,Nat.mod_mul,jY (256^k)]
theorem xP(n k:Nat):∀x∈bO n k,x<256:=by induction k with|zero=>intro x a;simp[bO] at a|succ k b=>intro x a;simp only[bO,cN,gE] at a;rcases a with a|a;exact b x a;subst a;exact Mm _ (by omega)
theorem Jg{α:Type}(l:List α)(k:Nat)(d:α)(h:k<l.length):l.drop k=l.getD k d::l.drop (k+1):=by rw[Mh h];simp[h]
theorem ET(h:n<256^B):num (bO n B)=n:=by rw[ES,pZ h]
def st(l:List Nat):Nat:=(l.takeWhile λy=>y==l.getD 0 0).length
theorem MA(p:Nat->Bool):∀(l:List Nat) (n:Nat),n<=l.length->(∀i,i<n->p (l.getD i 0)=true)->(n=l.length\/p (l.getD n 0)=false)->(l.takeWhile p).length=n| [],n,h1,_,_=>by simp at h1;simp[h1]|x::r,0,_,_,h3=>by rcases h3 with h3|h3;simp at h3;(have:p x=false:=by simpa using h3);simp[this]|x::r,n+1,h1,a,h3=>by(have b:p x=true:=by simpa using a 0 (by omega));rw[OK,if_pos b,cJ,MA p r n (by simpa using h1) (λi c=>by simpa using a (i+1) (by omega)) (by simpa using h3)]
theorem Cy(a:n<=l.length)(b:∀i,i<n->l.getD i 0=l.getD 0 0)(c:n=l.length\/l.getD n 0≠l.getD 0 0):st l=n:=MA _ l n a (λi d=>by simpa using b i d) (c.imp id λh=>by simpa using h)
theorem MB(p:Nat->Bool):∀l:List Nat,(l.takeWhile p).length<=l.length/\(∀i,i<(l.takeWhile p).length->p (l.getD i 0)=true)/\((l.takeWhile p).length=l.length\/p (l.getD (l.takeWhile p).length 0)=false)| []=>by simp|x::r=>by obtain⟨a,b,c⟩:=MB p r;by_cases d:p x=true;rw[OK,if_pos d,cJ];refine⟨by simpa using a,λi e=>?_,by simpa using c⟩;(cases i with|zero=>simpa using d|succ i=>simpa using b i (by omega));rw[OK,if_neg d];refine⟨by simp,by simp,.inr (by simpa using d)⟩
theorem qH(l:List Nat):st l<=l.length/\(∀i,i<st l->l.getD i 0=l.getD 0 0)/\(st l=l.length\/l.getD (st l) 0≠l.getD 0 0):=by obtain⟨a,b,c⟩:=MB (λy=>y==l.getD 0 0) l;exact⟨a,λi d=>by simpa using b i d,c.imp id λh=>by unfold st;simpa using h⟩
theorem uT(h:0<l.length):1<=st l:=by obtain⟨a,b,c⟩:=qH l;rcases oN (st l) with d|d;rw[d] at c;rcases c with c|c;omega;exact absurd rfl c;exact d
theorem Ju(h:B<l.length):(l++m).getD B 0=l.getD B 0:=by simp[List.getD_eq_getElem?_getD,List.getElem?_append_left h]
theorem AM(h:B<n):(l.take n).getD B 0=l.getD B 0:=by simp[List.getD_eq_getElem?_getD,h]
theorem mt(h:st (l++m)<=l.length)(d:0<l.length):st l=st (l++m):=by obtain⟨a,b,c⟩:=qH (l++m);refine Cy h (λi f=>?_) ?_;have:=b i f;rwa[Ju (by omega),Ju d] at this;by_cases e:st (l++m)=l.length;exact .inl e;rcases c with c|c;rw[c,aN] at h e;omega;rw[Ju (by omega),Ju d] at c;exact .inr c
theorem mu:st l<=st (l++m):=by rcases oN l.length with a|a;have:=(qH l).1;omega;by_cases h:st (l++m)<=l.length;exact Hl (mt h a);have:=(qH l).1;omega
theorem mw(l:List Nat):st (l.take (st l))=st l:=by obtain⟨a,b,c⟩:=qH l;(have f:(l.take (st l)).length=st l:=by rw[cM];omega);rcases oN (st l) with d|d;have:=(qH (l.take (st l))).1;omega;refine Cy (by omega) (λi e=>?_) (.inl f.symm);rw[AM e,AM d];exact b i e
theorem jy(h:st l=l.length):l=List.replicate l.length (l.getD 0 0):=by obtain⟨a,b,c⟩:=qH l;refine yJ (by simp) λi d e=>?_;have:=b i (by omega);rw[aZ,bN d] at this;simpa using this
def qD(rest l:List Nat):List (List Nat):=if _h:l.length=0 then(if rest.length=0 then [] else [rest]) else if 4<=st l then(if rest.length=0 then [] else [rest])++(l.take (st l)::qD [] (l.drop (st l))) else qD (rest++l.take (st l)) (l.drop (st l)) termination_by l.length decreasing_by have:=uT (l:=l) (by omega);rw[dL];omega;have:=uT (l:=l) (by omega);rw[dL];omega
def oJ(l:List Nat):List (List Nat):=qD [] l
def cuts(l:List Nat):List Nat:=(oJ l).map List.length
def xT(rest:List Nat):List (List Nat):=if rest.length=0 then [] else [rest]
theorem Oc(rest:List Nat):qD rest []=xT rest:=by rw[qD];rfl
theorem Oe{rest:List Nat}(a:0<l.length)(h:4<=st l):qD rest l=xT rest++(l.take (st l)::qD [] (l.drop (st l))):=by rw[qD,dif_neg (by omega),if_pos h];rfl
theorem Od{rest:List Nat}(a:0<l.length)(h: ¬4<=st l):qD rest l=qD (rest++l.take (st l)) (l.drop (st l)):=by rw[qD,dif_neg (by omega),if_neg h]
theorem Yp{C:List Nat->List Nat->Prop}(d:∀rest,C rest [])(e:∀rest l,0<l.length->4<=st l->C [] (l.drop (st l))->C rest l)(f:∀rest l,0<l.length-> ¬4<=st l->C (rest++l.take (st l)) (l.drop (st l))->C rest l):∀rest l,C rest l:=by intro rest l;induction hn:l.length using Nat.strongRecOn generalizing rest l with|_ n c=>rcases oN l.length with a|a;obtain rfl:=rS a;exact d rest;have g:=uT a;(have b:(l.drop (st l)).length<n:=by rw[dL];omega);by_cases h:4<=st l;exact e rest l a h (c _ b _ _ rfl);exact f rest l a h (c _ b _ _ rfl)
theorem JB(rest:List Nat):(xT rest).flatten=rest:=by unfold xT;split;rename_i h;exact(rS h).symm;simp
theorem UU:∀rest l,(qD rest l).flatten=rest++l:=by refine Yp ?_ ?_ ?_;intro rest;rw[Oc,JB,dH];intro rest l a h b;rw[Oe a h,kP,JB,fJ,b,eB,jJ];intro rest l a h b;rw[Od a h,b,cD,jJ]
def Bd(p:List Nat):Prop:=0<p.length/\(4<=st p->st p=p.length)
theorem UV:∀rest l,(rest=[]\/st (rest++l)<4)-> ∀p∈qD rest l,Bd p:=by
 have f:∀rest l:List Nat,(rest=[]\/st (rest++l)<4)-> ∀p∈xT rest,Bd p:=by intro rest l b p a;unfold xT at a;split at a;cases a;rename_i d;obtain rfl:=gE.1 a;refine⟨by omega,λg=>?_⟩;rcases b with rfl|b;simp at d;have:=mu (l:=p) (m:=l);omega
 refine Yp ?_ ?_ ?_;intro rest b p a;rw[Oc] at a;exact f rest [] b p a;intro rest l c h e b p a;rw[Oe c h] at a;rcases cN.1 a with a|a;exact f rest l b p a;rcases dF.1 a with rfl|a;have d:(l.take (st l)).length=st l:=by have:=(qH l).1;rw[cM];omega
 exact⟨by omega,λ_=>by rw[mw,d]⟩;exact e (.inl rfl) p a;intro rest l c h e b p a;rw[Od c h] at a;refine e (.inr ?_) p a;rw[cD,jJ];rcases b with rfl|b;simpa using h;exact b
theorem Ks(l:List Nat):∀p∈oJ l,Bd p:=UV [] l (.inl rfl)
theorem Cm(l:List Nat):(oJ l).flatten=l:=UU [] l
end Go.Hm
