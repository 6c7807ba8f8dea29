import PyProof.Rows.All
import Wide.All
import OpenK.AllK
import Wide.FinOn
import Lean
import PyProof.EqAt
import PyProof.EqKinds
import PyProof.TupleCall
import PyProof.ZipIter
import PyProof.NeData
import PyProof.Draws
import PyProof.EnumMake
import PyProof.IsiHeapPairs
import PyProof.IsiNone
import PyProof.ConsumeWalk
import PyProof.TupleOfStr
import PyProof.DictWalks
import KE.KDictSum
import KE.KDictOf
import PyProof.IsiH_list
import PySem.Challenge.RW_sideturn_k36_turning_refused
set_option Elab.async false
set_option linter.all false
set_option maxRecDepth 100000
set_option maxHeartbeats 8000000
open PySem.W (Frag nsIn findIn keepIn typeIn kitOne fnOf kitAny codeIn InstAt Looks specialIn)
section
open PySem
def Tr:=@List.length_map
def Ts:=@Heap.get?_push_of_some
def Tt:=@List.length_append
def Tu:=@List.mem_cons_self
def Tv:=@List.mem_cons_of_mem
def Tw:=@List.getElem?_eq_some_iff
def Tx:=@List.map_append
def Tz:=@Heap.lt_size
def TB:=@Nat.le_refl
def TC:=@List.map_cons
def TF:=@Bool.false_ne_true
def TH:=@List.length_cons
def TJ:=@List.nil_append
def TK:=@Heap.get?_push_size
def TL:=@List.mem_singleton
def TM:=@List.append_nil
def TN:=@Nat.lt_of_lt_of_le
def TQ:=@Nat.ne_of_lt
def TR:=@List.mem_map
def TU:=@Nat.le_trans
def TV:=@List.size_toArray
def TX:=@List.mem_cons
def TY:=@List.mem_append
def TZ:=@List.getElem?_set_ne
def T8:=@Bool.and_eq_true
def T9:=@List.map_map
def Ua:=@List.mem_map_of_mem
def Ub:=@List.mem_append_right
def Uc:=@Heap.get?_update_other
def Ud:=@List.getElem?_eq_getElem
def Ue:=@Option.some.inj
def Ug:=@PySem.W.mg_none_of
def Uh:=@Nat.zero_le
def Ui:=@List.mem_append_left
def Uj:=@List.append_assoc
def Uk:=@List.nodup_append
def Ul:=@Heap.get?_update_self
def Um:=@List.of_mem_zip
def Uo:=@List.getElem?_set_self
def Up:=@Option.map_eq_some_iff
def Uq:=@List.mem_of_mem_take
def Ur:=@List.exists_cons_of_ne_nil
def Us:=@List.getElem?_map
def Ut:=@List.eq_nil_of_length_eq_zero
def Uu:=@List.length_set
def Uv:=@List.all_eq_true
def Uw:=@List.mem_of_getElem?
def Ux:=@List.getElem_of_mem
def Uy:=@List.flatMap_cons
def Uz:=@List.any_cons
def UA:=@Heap.size_push
def UB:=@List.length_drop
def UC:=@PySem.W.mg_of
def UD:=@List.take_sublist
def UE:=@PySem.mem_of_lookup
def UG:=@List.length_take
def UH:=@List.map_nil
def UI:=@List.mem_of_mem_drop
def UJ:=@List.mem_filter
def UK:=@Array.getElem?_eq_some_iff
def UL:=@List.length_filter_le
def UM:=@PySem.boot_len
def UN:=@List.drop_eq_getElem_cons
def UO:=@Nat.ne_of_gt
def UP:=@Option.isSome_iff_exists
def UQ:=@List.Sublist.refl
def UR:=@Nat.lt_irrefl
def US:=@List.length_pos_iff
def UT:=@List.lookup_cons
def UU:=@Int.emod_lt_of_pos
def UW:=@PySem.StrLaws.glued_eq_join
def UX:=@Int.emod_nonneg
def UY:=@PySem.F.slot_list_pop
def UZ:=@PySem.F.type_list_pop
def U0:=@Int.toNat_natCast
def U1:=@List.length_range
def U2:=@Nat.le_of_eq
def U3:=@List.getElem_mem
def U4:=@List.map_congr_left
def U5:=@List.nodup_cons
def U6:=@List.length_zip
def U7:=@List.getElem?_drop
def U8:=@List.reverse_cons
def U9:=@Nat.le_of_lt
def Va:=@Array.getElem?_toList
def Vb:=@List.getElem?_eq_none
def Vc:=@List.mem_range
def Vd:=@List.take_append_drop
def Ve:=@List.getElem_inj
def Vf:=@PySem.W.looks_findIn
def Vg:=@List.map_fst_zip
def Vh:=@List.mem_flatMap
def Vi:=@Nat.mul_le_mul_right
def Vj:=@PySem.F.excBase_ValueError
def Vk:=@Array.getElem?_setIfInBounds_self_of_lt
def Vl:=@List.nodup_iff_pairwise_ne
def Vm:=@Nat.le_succ
def Vn:=@Int.toNat_of_nonneg
def Vo:=@List.Sublist.append
def Vp:=@Bool.eq_iff_iff
def Vq:=@Int.ediv_nonneg
def Vr:=@PySem.W.callWith_K
def Vs:=@PySem.F.args_tuple_add_2
def Vt:=@PySem.F.entry_tuple_add
def Vu:=@List.eraseIdx_cons_succ
def Vv:=@PySem.F.plainAttrs_list
def Vw:=@List.filter_cons_of_pos
def Vx:=@List.append_cancel_left
def Vy:=@PySem.F.slot_tuple_add
def Vz:=@List.find?_cons_of_pos
def VA:=@List.find?_cons_of_neg
def VB:=@Nat.succ_le_succ
def VC:=@List.any_eq_true
def VD:=@Int.ediv_le_self
def VE:=@PySem.F.slot_dict_get
def VF:=@List.getElem?_zipWith
end
open PySem in
abbrev VG:=Value->Shared->Prop
open PySem in
abbrev VH:=List (Addr×Obj)
open PySem in abbrev VJ (N:Env)(e:Expr)(r:List Expr):Prop:=starEach (e::r) N=(false,eval e N)::starEach r N
open PySem in abbrev VL (N:Env)(p:Pos)(r:List Expr):Prop:=(backTo p (starEach r N)).any (·.1)=false
open PySem in abbrev VM (x:Str):Prop:=(x == ("__debug__":Str))=false
theorem U.{u}{α:Sort u}{a:α}:a=a:=rfl
namespace L2
open PySem PySem.Spec PyProof.Rows
abbrev Key:=Sum Int Str
def qP:Key->Value->Bool
 | .inl k,v=>Value.isInt k v
 | .inr x,v=>Value.isStrOf x v
def M8(w:World):Key->Int
 | .inl k=>hashInt k
 | .inr x=>hashStr w x
theorem cA:∀ {k:Key} {v:Value},qP k v=true->(∃ i t,k=Sum.inl i/\v=Value.int i t)\/(∃ x t,k=Sum.inr x/\v=Value.str x t)
 | .inl i,v,h=>by
  obtain⟨t,e⟩:=Value.isInt_shape (k:=i) (v:=v) h
  exact .inl ⟨i,t,U,e⟩
 | .inr x,v,h=>by
  obtain⟨t,e⟩:=Value.isStrOf_shape (x:=x) (v:=v) h
  exact .inr ⟨x,t,U,e⟩
theorem y0(i:Int)(t:Tok):qP (.inl i) (.int i t)=true:=by simp[qP,Value.isInt]
theorem yJ(x:Str)(t:Tok):qP (.inr x) (.str x t)=true:=by simp[qP,Value.isStrOf]
theorem Hg(a b:Int):decide ((Sum.inl a:Key)=Sum.inl b)=(a == b):=by
 by_cases e:a=b
 ·subst e;simp
 ·have h:¬ (Sum.inl a:Key)=Sum.inl b:=λq=>e (Sum.inl.inj q)
  rw[decide_eq_false h]
  exact (beq_eq_false_iff_ne.mpr e).symm
theorem Gv(a b:Str):decide ((Sum.inr a:Key)=Sum.inr b)=decide (a=b):=by
 by_cases e:a=b
 ·subst e;simp
 ·have h:¬ (Sum.inr a:Key)=Sum.inr b:=λq=>e (Sum.inr.inj q)
  rw[decide_eq_false h,decide_eq_false e]
theorem Hr(a:Int)(b:Str):decide ((Sum.inl a:Key)=Sum.inr b)=false:=decide_eq_false (λq=>nomatch q)
theorem Gn(a:Str)(b:Int):decide ((Sum.inr a:Key)=Sum.inl b)=false:=decide_eq_false (λq=>nomatch q)
def bV(prog:Program)(w:World):PySem.KeyKind prog w Key where
 is:=qP
 hash:=M8 w
 inj:=λv a b ha hb=>by
  rcases cA ha with ⟨i,t,rfl,rfl⟩ | ⟨x,t,rfl,rfl⟩
  ·rcases cA hb with ⟨j,u,rfl,e⟩ | ⟨y,u,rfl,e⟩
   ·injection e with e1 _;rw[e1]
   ·exact nomatch e
  ·rcases cA hb with ⟨j,u,rfl,e⟩ | ⟨y,u,rfl,e⟩
   ·exact nomatch e
   ·injection e with e1 _;rw[e1]
 byValue:=λk v h=>by
  rcases cA h with ⟨i,t,rfl,rfl⟩ | ⟨x,t,rfl,rfl⟩<;>rfl
 pyHash:=λhv h=>by
  rcases cA hv with ⟨i,t,rfl,rfl⟩ | ⟨x,t,rfl,rfl⟩
  ·exact wpAny_pyHash_int h
  ·exact wpAny_pyHash_str h
 eqBool:=λhu hv h=>by
  rcases cA hu with ⟨i,t,rfl,rfl⟩ | ⟨x,t,rfl,rfl⟩
  ·rcases cA hv with ⟨j,u,rfl,rfl⟩ | ⟨y,u,rfl,rfl⟩
   ·rw[Hg] at h;exact wpAny_eqBool_int h
   ·rw[Hr] at h;exact SeqAt.EqAt.int_str i t y u _ _ _ _ h
  ·rcases cA hv with ⟨j,u,rfl,rfl⟩ | ⟨y,u,rfl,rfl⟩
   ·rw[Gn] at h;exact SeqAt.EqAt.str_int x t j u _ _ _ _ h
   ·rw[Gv] at h;exact wpAny_eqBool_str h
 «strs»:=λk x t v h=>by
  rcases cA h with ⟨i,u,rfl,e⟩ | ⟨y,u,rfl,e⟩
  ·exact nomatch e
  ·injection e with e1 _
   subst e1
   cases v<;>rfl
theorem uQ(prog:Program)(w:World)(i:Int)(t:Tok):(bV prog w).is (.inl i) (.int i t)=true:=y0 i t
theorem t6(prog:Program)(w:World)(x:Str)(t:Tok):(bV prog w).is (.inr x) (.str x t)=true:=yJ x t
inductive V where
 | bD | bl (b:Bool) | int (i:Int) | str (x:Str) | w8 (b:Array UInt8) | Io (b:UInt64) | ref (a:Addr) | ty (n:String)
 deriving DecidableEq
def RelV:V->Value->Prop
 | .bD,u=>u=Value.none
 | .bl b,u=>u=Value.bool b
 | .int i,u=>∃ t,u=Value.int i t
 | .str x,u=>∃ t,u=Value.str x t
 | .w8 b,u=>∃ t,u=Value.bytes b t
 | .Io b,u=>∃ t,u=Value.float b t
 | .ref a,u=>u=Value.ref a
 | .ty n,u=>u=Value.type n
abbrev Vals:List V->List Value->Prop:=Paired RelV
theorem Vals.length{xs:List V}{us:List Value}(r:Vals xs us):xs.length=us.length:=Paired.length r
theorem Vals.get:∀ {xs:List V} {us:List Value} {i:Nat} {x:V},Vals xs us->xs[i]?=some x->∃ u,us[i]?=some u/\RelV x u
 | _,_,_,_,.nil,e=>by simp at e
 | _,_,0,_,.cons r _,e=>by simp at e;subst e;exact⟨_,rfl,r⟩
 | _,_,i+1,x,.cons _ t,e=>by
  obtain⟨u,h1,h2⟩:=Vals.get (i:=i) (x:=x) t (by simpa using e)
  exact⟨u,by simpa using h1,h2⟩
theorem Vals.set{x:V}{u:Value}(r:RelV x u):∀ {xs:List V} {us:List Value} (i:Nat),Vals xs us->Vals (xs.set i x) (us.set i u)
 | _,_,_,.nil=>.nil
 | _,_,0,.cons _ t=>.cons r t
 | _,_,i+1,.cons q t=>.cons q (Vals.set r i t)
theorem Vals.append:∀ {xs ys:List V} {us ws:List Value},Vals xs us->Vals ys ws->Vals (xs++ys) (us++ws)
 | _,_,_,_,.nil,s=>s
 | _,_,_,_,.cons r t,s=>.cons r (Vals.append t s)
theorem Vals.take:∀ {xs:List V} {us:List Value} (n:Nat),Vals xs us->Vals (xs.take n) (us.take n)
 | _,_,0,_=>.nil
 | _,_,_+1,.nil=>.nil
 | _,_,n+1,.cons r t=>.cons r (Vals.take n t)
theorem Vals.drop:∀ {xs:List V} {us:List Value} (n:Nat),Vals xs us->Vals (xs.drop n) (us.drop n)
 | _,_,0,r=>r
 | _,_,_+1,.nil=>.nil
 | _,_,n+1,.cons _ t=>Vals.drop n t
def iP:Option V->Option Value->Prop
 | some v,some u=>RelV v u
 | none,none=>True
 | _,_=>False
def KV{κ:Type}:List (κ×V)->List (κ×Value)->Prop:=Paired λ(p:κ×V) (q:κ×Value)=>p.1=q.1/\RelV p.2 q.2
def kV:Key->V
 | .inl i=>.int i
 | .inr x=>.str x
inductive HO where
  | lst (xs:List V)
  | tup (xs:List V)
  | dK (kvs:List (Key×V)) | dT (kvs:List (List Key×V))
  | set (S:Int->Bool) (n:Nat)
  | ins (C dx:Addr) (fs:List (Str×V))
  | own (x:Addr)
  | xd (fs:List (Str×V))
  | met (f x:Addr)
  | NN (lo hi:Int)
  | je (o:Obj) (u:HO)
  | Hl (ps:Array Value)
  | ext (φ:Heap->Prop)
abbrev Hp:=Addr->Option HO
def upd(H:Hp)(a:Addr)(o:HO):Hp:=λb=>if b=a then some o else H b
theorem au{H:Hp}{a:Addr}{o:HO}:upd H a o a=some o:=by unfold upd;rw[if_pos U]
theorem aj{H:Hp}{a b:Addr}{o:HO}(h:b≠a):upd H a o b=H b:=by unfold upd;rw[if_neg h]
theorem DD{H:Hp}{a:Addr}{o u:HO}:upd (upd H a o) a u=upd H a u:=by
 funext b;unfold upd;split<;>rfl
theorem wQ{H:Hp}{a b:Addr}{o u:HO}(h:H a=some o)(h':H b=some u)(d:o≠u):a≠b:=by
 intro e;subst e;rw[h] at h';exact d (Ue h')
theorem aC{H:Hp}{a b:Addr}{o:HO}(h:H a=some o)(h':H b=none):a≠b:=by
 intro e;subst e;rw[h] at h';cases h'
section
variable(P:Program)(w:World)
def cf(H:Hp)(h:Heap)(a:Addr):HO->Prop
 | .lst xs=>xs.length<=sizeLine/\∃ (its:List Value) (n:Nat),Vals xs its/\h.get? a=some { cls:=.type "list",data:=.seq its.toArray n }
 | .tup xs=>xs.length<=sizeLine/\∃ its:List Value,Vals xs its/\IsTup h a its.toArray
 | .dK kvs=>kvs.length<=sizeLine/\(a == sysModules)=false/\∃ vs,KV kvs vs/\h.DictOf (bV P w) a vs
 | .dT kvs=>kvs.length<=sizeLine/\(a == sysModules)=false/\∃ xs:List (List Key×Addr×Value),
   Paired (λ(p:List Key×V) (q:List Key×Addr×Value)=>p.1=q.1/\H q.2.1=some (.tup (p.1.map kV))/\RelV p.2 q.2.2) kvs xs /\
   ∃ o es ep,h.get? a=some o/\o.ExactDict/\o.data=.dict es ep/\es.toList=xs.map (entryOfKey (tupleKind (bV P w)))/\(xs.map (·.1)).Nodup
 | .set S n=>h.SetOf (intKind P w) a S n
 | .ins C dx fs=>H dx=some (.own a)/\fs.length<=1000/\dx≠a/\h.get? a=some (PySem.W.instObj C dx) /\
   ∃ mA,h.Ns1 dx mA/\(∀ f,iP (fs.lookup f) (mA f))/\PySem.Within mA (fs.map (·.1))
 | .own _=>∃ o,h.get? a=some o
 | .xd fs=>∃ mA,h.Ns1 a mA/\∀ f,iP (fs.lookup f) (mA f)
 | .NN lo hi=>∃ t u v,h.get? a=some { cls:=.type "range",data:=.fields #[.int lo t,.int hi u,.int 1 v] }
 | .je o u=>h.get? a=some o/\cf H h a u
 | .Hl ps=>h.get? a=some { cls:=.none,data:=.fields ps }
 | .met f x=>h.get? a=some (PySem.W.methodObj (.ref f) (.ref x))
 | .ext φ=>φ h/\(∃ o,h.get? a=some o)/\∀ h1 h2:Heap,φ h1->(∀ o,h1.get? a=some o->h2.get? a=some o)->φ h2
def j0(H:Hp)(h:Heap):Prop:=∀ a o,H a=some o->cf P w H h a o
end
section
variable{P:Program}{w:World}{H H':Hp}{h h':Heap}{a:Addr}{o:HO}
theorem cf.lt(x:cf P w H h a o):a < h.objs.size:=by
 cases o with
 | lst xs=>obtain⟨_,_,_,_,e⟩:=x;exact Tz e
 | tup xs=>obtain⟨_,_,_,p⟩:=x;exact p.lt
 | dK kvs=>obtain⟨_,_,_,_,o,_,_,e,_⟩:=x;exact Tz e
 | dT kvs=>obtain⟨_,_,_,_,o,_,_,e,_⟩:=x;exact Tz e
 | set S n=>obtain⟨o,_,_,_,e,_⟩:=x;exact Tz e
 | ins C dx fs=>obtain⟨_,_,_,e,_⟩:=x;exact Tz e
 | own y=>obtain⟨_,e⟩:=x;exact Tz e
 | xd fs=>obtain⟨_,⟨_,_,_,e,_⟩,_⟩:=x;exact Tz e
 | NN lo hi=>obtain⟨_,_,_,e⟩:=x;exact Tz e
 | je ob u=>obtain⟨e,_⟩:=x;exact Tz e
 | Hl ps=>exact Tz (show h.get? a=some _ from x)
 | met f y=>exact Tz (show h.get? a=some _ from x)
 | ext φ=>obtain⟨_,⟨_,e⟩,_⟩:=x;exact Tz e
theorem Paired.zA{α β:Type}{F G:α->β->Prop}:∀ {l₁:List α} {l₂:List β},Paired F l₁ l₂->(∀ a b,F a b->G a b)->Paired G l₁ l₂
 | _,_,.nil,_=>.nil
 | _,_,.cons r t,f=>.cons (f _ _ r) (Paired.zA t f)
theorem cf.pz(x:cf P w H h a o)(k:∀ b u,(b=a\/H b=some (.own a))->h.get? b=some u->h'.get? b=some u)(ho:∀ b,H b=some (.own a)->H' b=some (.own a))(ht:∀ b xs,H b=some (.tup xs)->H' b=some (.tup xs)):cf P w H' h' a o:=by
 induction o with
 | lst xs=>obtain⟨z,its,n,r,e⟩:=x;exact⟨z,its,n,r,k _ _ (.inl U) e⟩
 | tup xs=>obtain⟨z,its,r,ob,e,c⟩:=x;exact⟨z,its,r,ob,k _ _ (.inl U) e,c⟩
 | dK kvs=>obtain⟨z,y,vs,r,ob,es,ep,e,c⟩:=x;exact⟨z,y,vs,r,ob,es,ep,k _ _ (.inl U) e,c⟩
 | dT kvs =>
  obtain⟨z,y,xs,r,ob,es,ep,e,c⟩:=x
  exact⟨z,y,xs,Paired.zA r λp q z=>⟨z.1,ht _ _ z.2.1,z.2.2⟩,ob,es,ep,k _ _ (.inl U) e,c⟩
 | set S n=>obtain⟨ob,es,ep,t,e,c⟩:=x;exact⟨ob,es,ep,t,k _ _ (.inl U) e,c⟩
 | ins C dx fs =>
  obtain⟨d,z,ne,e,mA,⟨od,es,ep,e2,c⟩,r⟩:=x
  exact⟨ho _ d,z,ne,k _ _ (.inl U) e,mA,⟨od,es,ep,k _ _ (.inr d) e2,c⟩,r⟩
 | own y=>obtain⟨ob,e⟩:=x;exact⟨ob,k _ _ (.inl U) e⟩
 | xd fs=>obtain⟨mA,⟨od,es,ep,e,c⟩,r⟩:=x;exact⟨mA,⟨od,es,ep,k _ _ (.inl U) e,c⟩,r⟩
 | NN lo hi=>obtain⟨t,u,v,e⟩:=x;exact⟨t,u,v,k _ _ (.inl U) e⟩
 | je ob u ih=>obtain⟨e,q⟩:=x;exact⟨k _ _ (.inl U) e,ih q⟩
 | Hl ps =>
  have e:h.get? a=some { cls:=.none,data:=.fields ps }:=x
  show h'.get? a=some { cls:=.none,data:=.fields ps }
  exact k a _ (.inl U) e
 | met f y =>
  have e:h.get? a=some (PySem.W.methodObj (.ref f) (.ref y)):=x
  show h'.get? a=some (PySem.W.methodObj (.ref f) (.ref y))
  exact k a _ (.inl U) e
 | ext φ=>obtain⟨p,⟨o,e⟩,st⟩:=x;exact⟨st _ _ p λo q=>k _ _ (.inl U) q,⟨o,k _ _ (.inl U) e⟩,st⟩
theorem j0.lt(x:j0 P w H h)(e:H a=some o):a < h.objs.size:=(x a o e).lt
theorem j0.fresh(x:j0 P w H h)(e:h.objs.size<=a):H a=none:=by
 cases q:H a with
 | none=>rfl
 | some u=>exact absurd (TN (x.lt q) e) (UR _)
theorem j0.kept(x:j0 P w H h)(k:∀ b u,h.get? b=some u->h'.get? b=some u):j0 P w H h':=λa o e =>
 (x a o e).pz (λb u _ q=>k b u q) (λ_ q=>q) λ_ _ q=>q
theorem j0.laid(x:j0 P w H h)(k:∀ b u,h.get? b=some u->h'.get? b=some u)(hp:h.objs.size<=a)(new:cf P w (upd H a o) h' a o):j0 P w (upd H a o) h':=λb u e=>by
 have hn:=x.fresh hp
 by_cases hb:b=a
 ·subst hb;rw[au] at e;cases e;exact new
 ·rw[aj hb] at e
  exact (x b u e).pz (λc v _ q=>k c v q) (λc q=>by rw[aj (aC q hn)];exact q) λc xs q=>by rw[aj (aC q hn)];exact q
end
def Rd(H:Hp)(a:Addr)(u:HO):Prop:=H a=some u\/∃ o,H a=some (.je o u)
theorem Rd.ok{P:Program}{w:World}{H:Hp}{h:Heap}{a:Addr}{u:HO}(r:Rd H a u)(x:j0 P w H h):cf P w H h a u:=by
 rcases r with r | ⟨o,r⟩
 ·exact x a u r
 ·obtain⟨_,q⟩:=x a _ r
  exact q
def Fx:Option HO->Prop
 | some (.lst _)=>True
 | some (.dK _)=>True
 | some (.dT _)=>True
 | some (.set _ _)=>True
 | some (.ins _ _ _)=>True
 | some (.ext _)=>True
 | _=>False
section
variable{P:Program}{w:World}{H:Hp}{h h':Heap}{x e:Addr}{o':HO}
theorem j0.write(ok:j0 P w H h)(mu:Fx (H x))(he:e=x\/H e=some (.own x))(k:∀ b u,b≠e->h.get? b=some u->h'.get? b=some u)(Ik:∃ u,h'.get? e=some u)(new:cf P w (upd H x o') h' x o'):j0 P w (upd H x o') h':=λb u q=>by
 have nown:∀ c y,H c=some (.own y)->c≠x:=λc y r z=>by subst z;rw[r] at mu;exact mu
 have Bh:∀ c xs,H c=some (.tup xs)->c≠x:=λc xs r z=>by subst z;rw[r] at mu;exact mu
 by_cases hb:b=x
 ·subst hb;rw[au] at q;cases q;exact new
 ·rw[aj hb] at q
  by_cases hbe:b=e
  ·have q':H b=some (.own x):=by
    rcases he with z | z
    ·exact absurd (hbe.trans z) hb
    ·rw[hbe];exact z
   rw[q] at q';cases q'
   obtain⟨v,hv⟩:=Ik
   exact⟨v,by rw[hbe];exact hv⟩
  ·refine (ok b u q).pz (λc v hc r=>k c v ?_ r) (λc r=>by rw[aj (nown c b r)];exact r) λc xs r=>by rw[aj (Bh c xs r)];exact r
   rcases hc with rfl | hc
   ·exact hbe
   ·rintro rfl
    rcases he with z | z
    ·exact nown c b hc z
    ·rw[hc] at z;cases z;exact hb U
end
structure Un(fs ex:List Addr)(H H':Hp)(h h':Heap):Prop where
 keep:∀ b o,h.get? b=some o->H b=none->b∉fs->b∉ex->h'.get? b=some o
 slot:∀ b o,h.get? b=some o->H b=none->b∈fs->b∉ex->∃ sl,h'.get? b=some { o with slots:=sl }
 free:∀ b o,h.get? b=some o->H b=none->b∉ex->H' b=none
 there:∀ b o,h.get? b=some o->b∉ex->∃ o',h'.get? b=some o'
 rO:∀ b xs,H b=some (.tup xs)->H' b=some (.tup xs)
 pH:∀ b o u,H b=some (.je o u)->H' b=some (.je o u)
 sE:∀ b ps,H b=some (.Hl ps)->∃ more,H' b=some (.Hl (ps++more))
section
variable{fs RL ex Tq:List Addr}{H H1 H2:Hp}{h h1 h2 h':Heap}{a x e:Addr}{o:HO}
theorem Un.any(u:Un fs ex H H1 h h1){b:Addr}{ob:Obj}(q:h.get? b=some ob)(n:H b=none)(hx:b∉ex):∃ sl,h1.get? b=some { ob with slots:=sl }:=by
 by_cases hb:b∈fs
 ·exact u.slot b ob q n hb hx
 ·exact⟨ob.slots,u.keep b ob q n hb hx⟩
theorem Un.kept(k:∀ b u,h.get? b=some u->h'.get? b=some u):Un fs ex H H h h' :=
 ⟨λb ob q _ _ _=>k b ob q,λb ob q _ _ _=>⟨ob.slots,k b ob q⟩,λ_ _ _ n _=>n,λb ob q _=>⟨ob,k b ob q⟩,λ_ _ q=>q,λ_ _ _ q=>q,λ_ ps q=>⟨#[],by rw[q];simp⟩⟩
theorem Un.refl:Un fs ex H H h h:=Un.kept λ_ _ q=>q
theorem Un.laid(k:∀ b u,h.get? b=some u->h'.get? b=some u)(hp:h.objs.size<=a)(hn:H a=none):Un fs ex H (upd H a o) h h' where
 keep:=λb u q _ _ _=>k b u q
 slot:=λb u q _ _ _=>⟨u.slots,k b u q⟩
 free:=λb u q n _=>by rw[aj (TQ (TN (Tz q) hp))];exact n
 there:=λb u q _=>⟨u,k b u q⟩
 rO:=λb xs q=>by rw[aj (aC q hn)];exact q
 pH:=λb u xs q=>by rw[aj (aC q hn)];exact q
 sE:=λb ps q=>⟨#[],by rw[aj (aC q hn),q];simp⟩
theorem Un.write(mu:Fx (H x))(he:e=x\/H e=some (.own x))(k:∀ b u,b≠e->h.get? b=some u->h'.get? b=some u)(Ik:∃ u,h'.get? e=some u):Un fs ex H (upd H x o) h h':=by
 have hx:∀ b,H b=none->b≠x:=λb n z=>by subst z;rw[n] at mu;exact mu
 have hb:∀ b,H b=none->b≠e:=λb n z=>by
  subst z
  rcases he with r | r
  ·exact hx b n r
  ·rw[n] at r;cases r
 have hm:∀ b u,H b=some u->¬ Fx (some u)->b≠x:=λb u q nm z=>by subst z;rw[q] at mu;exact nm mu
 refine⟨λb u q n _ _=>k b u (hb b n) q,λb u q n _ _=>⟨u.slots,k b u (hb b n) q⟩,λb u q n _=>by rw[aj (hx b n)];exact n,λb u q _=>?_,
  λb xs q=>by rw[aj (hm b _ q λz=>z)];exact q,λb u xs q=>by rw[aj (hm b _ q λz=>z)];exact q,λb ps q=>⟨#[],by rw[aj (hm b _ q λz=>z),q];simp⟩⟩
 by_cases hbe:b=e
 ·subst hbe;exact Ik
 ·exact⟨u,k b u hbe q⟩
end
def Mm(h:Heap)(H:Hp):List Addr:=(List.range h.objs.size).filter λa=>(H a).isSome
def sk(h:Heap)(H:Hp):Heap:=PySem.W.hideAll h (Mm h H)
theorem yN(h:Heap)(H:Hp):(sk h H).objs.size=h.objs.size:=PySem.W.hideAll_size _ _
theorem Bf{h:Heap}{H:Hp}{b:Addr}{o:Obj}(e:h.get? b=some o)(n:H b=none):(sk h H).get? b=some o :=
 PySem.W.hideAll_get _ e λhm=>by
  have q:(H b).isSome=true:=(UJ.mp hm).2
  rw[n] at q;simp at q
theorem CV{h:Heap}{H:Hp}{b:Addr}{o:Obj}(e:(sk h H).get? b=some o):h.get? b=some o/\H b=none:=by
 have e':h.get? b=some o:=PySem.W.of_hideAll (Mm h H) e
 refine⟨e',?_⟩
 cases q:H b with
 | none=>rfl
 | some x =>
  have hm:b∈Mm h H:=List.mem_filter.mpr ⟨List.mem_range.mpr (Heap.lt_size e'),by simp[q]⟩
  have z:(sk h H).get? b=none:=PySem.W.hideAll_none (Mm h H) hm
  rw[z] at e;cases e
structure Mod(K:Frag)(mg:Str->Option Value)(base:Heap):Prop where
 Iq:K.In base
 glob:base.Ns mainGlobals mg
 blt:∃ mb,base.Ns builtinsNs mb/\∀ x:Str,x≠"__name__"->mb x=bootBuiltins x
 nolimit:base.NoLimit
structure Cx where
 prog:Program
 w:World
 K:Frag
 mg:Str->Option Value
 base:Heap
 A:Around
 N:List Str
 s₀:Shared
 H₀:Hp
 env:Env
 outer:List Env
 stack:List Env
 ex:List Addr
 fn:Str->Bool
 calm:Bool
 pn:VH
 xe:VG
def zi(l:List Env):List Addr:=l.filterMap (·.frame)
abbrev Cx.fs(X:Cx):List Addr:=zi X.outer
def Im(sc:Scope)(x:Str):Prop:=sc.names.lookup x=some .local\/sc.names.lookup x=some .cell\/sc.names.lookup x=some .free
def Loc(sc:Scope)(x:Str):Prop:=sc.names.lookup x=some .local\/sc.names.lookup x=some .cell
def Look(env:Env)(h:Heap)(m:Str->Option Value)(x:Str)(u:Value):Prop :=
 (env.kindOf x=some .local/\m x=some u)\/((env.kindOf x=some .cell\/env.kindOf x=some .free)/\∃ c,env.cells.lookup x=some c/\h.IsCell c (some u))
structure Cx.Ok(X:Cx):Prop where
 mod:Mod X.K X.mg X.base
 kind:X.env.scope.kind=.function
 glob:X.env.globals=mainGlobals
 blt:X.env.builtins=builtinsNs
 above:X.s₀.heap.objs.size<=X.env.locals
 inj:∀ x y c,X.env.cells.lookup x=some c->X.env.cells.lookup y=some c->x=y
 has:∀ x,(X.env.kindOf x=some .cell\/X.env.kindOf x=some .free)->∃ c,X.env.cells.lookup x=some c
 Iu:∀ x c,X.fn x=true->X.env.cells.lookup x=some c->X.s₀.heap.objs.size<=c
 hd:X.calm=true->X.A.handled=none
 frames:X.A.frames=some X.stack
 JA:X.stack=X.outer\/(X.stack=X.env::X.outer/\X.env.frame=some X.env.locals)
 Ks:∀ b∈X.ex,b≠X.env.locals/\∀ x c,X.env.cells.lookup x=some c->c≠b
 bs:∀ b o,X.base.get? b=some o->X.s₀.heap.get? b=some o/\X.H₀ b=none
 Ce:X.base.objs.size<=X.s₀.heap.objs.size
 yW:∀ b o,X.base.get? b=some o->b∉X.ex
 yo:∀ b∈X.ex,b∉X.fs
 lD:X.s₀.heap.FunFrames X.base X.outer
 EK:∀ b∈X.fs,X.H₀ b=none
structure Inv(X:Cx)(pins:VH)(O:List (Option V))(H:Hp)(s:Shared):Prop where
 ok:X.Ok
 os:s.os=X.s₀.os
 bare:AllBare s.gens
 base:Un X.fs X.ex X.H₀ H X.s₀.heap s.heap
 loc:∃ m,s.heap.Ns X.env.locals m/\∀ (i:Nat) (x:Str) (v:V),X.N[i]?=some x->O[i]?=some (some v)->Im X.env.scope x->∃ u,RelV v u/\Look X.env s.heap m x u
 cell:∀ x c,X.env.cells.lookup x=some c->∃ v,s.heap.IsCell c v
 free:H X.env.locals=none
 gu:∀ x c,X.env.cells.lookup x=some c->H c=none
 pin:∀ p∈X.pn++pins,s.heap.get? p.1=some p.2/\H p.1=none/\p.1≠X.env.locals/\p.1∉X.fs/\∀ v,p.2.data≠.cell v
 aL:j0 X.prog X.w H s.heap
 len:O.length=X.N.length
section
variable{X:Cx}{pins:VH}{O:List (Option V)}{H H':Hp}{s:Shared}{h':Heap}
theorem Cx.Ok.Ow(ok:X.Ok){b:Addr}{o:Obj}(e:X.base.get? b=some o):b∉X.fs:=λhb=>by
 have:=(ok.lD.mem hb).1
 rw[e] at this;cases this
theorem Inv.bs(I:Inv X pins O H s):∀ b o,X.base.get? b=some o->s.heap.get? b=some o/\H b=none:=λb o e =>
 ⟨I.base.keep b o (I.ok.bs b o e).1 (I.ok.bs b o e).2 (I.ok.Ow e) (I.ok.yW b o e),I.base.free b o (I.ok.bs b o e).1 (I.ok.bs b o e).2 (I.ok.yW b o e)⟩
theorem Inv.bk(I:Inv X pins O H s):∀ b o,X.base.get? b=some o->s.heap.get? b=some o:=λb o e=>(I.bs b o e).1
theorem Inv.mod(I:Inv X pins O H s):Mod X.K X.mg X.base:=I.ok.mod
theorem Inv.i7(I:Inv X pins O H s):X.K.In s.heap:=I.ok.mod.Iq.keeps I.bk
theorem Inv.lt(I:Inv X pins O H s):X.env.locals < s.heap.objs.size:=let ⟨_,hn,_⟩:=I.loc;hn.lt
theorem Inv.sz(I:Inv X pins O H s):X.s₀.heap.objs.size<=s.heap.objs.size:=TU I.ok.above (U9 I.lt)
theorem Inv.IH(I:Inv X pins O H s){a:Addr}(h:s.heap.objs.size<=a):a∉X.fs:=λhb=>by
 obtain⟨_,o,ho,_⟩:=I.ok.lD.mem hb
 exact absurd (TN (Tz ho) (TU I.sz h)) (UR _)
theorem Inv.CG(I:Inv X pins O H s):∀ x c,X.env.cells.lookup x=some c->c≠X.env.locals:=λx c e z=>by
 obtain⟨v,o,ho,hd⟩:=I.cell x c e
 obtain⟨m,⟨o',es,ep,ho',hd',_⟩,_⟩:=I.loc
 rw[z,ho'] at ho;cases ho;rw[hd'] at hd;cases hd
theorem Inv.lD(I:Inv X pins O H s):s.heap.FunFrames X.base X.outer:=by
 have all:∀ (l:List Env),(∀ b∈zi l,b∈X.fs)->X.s₀.heap.FunFrames X.base l->s.heap.FunFrames X.base l:=by
  intro l
  induction l with
  | nil=>intro _ _;trivial
  | cons env r ih =>
   intro hs hl
   obtain⟨hk,⟨L,o,hf,hn,ho,hd⟩,hr⟩:=hl
   have hL:L∈X.fs:=hs L (by unfold zi;rw[List.filterMap_cons,hf];exact List.mem_cons_self)
   obtain⟨sl,e⟩:=I.base.slot L o ho (I.ok.EK L hL) hL λz=>I.ok.yo L z hL
   exact⟨hk,⟨L,_,hf,hn,e,hd⟩,ih (λb hb=>hs b (by unfold zi;rw[List.filterMap_cons,hf];exact List.mem_cons_of_mem _ hb)) hr⟩
 exact all X.outer (λ_ hb=>hb) I.ok.lD
theorem Inv.stack(I:Inv X pins O H s):s.heap.FunFrames X.base X.stack:=by
 rcases I.ok.JA with e | ⟨e,hf⟩
 ·rw[e];exact I.lD
 ·rw[e]
  obtain⟨m,hn,_⟩:=I.loc
  refine .cons (by rw[I.ok.kind];decide) hf hn ?_ I.lD
  exact Heap.get?_none_of_le (TU I.ok.Ce I.ok.above)
theorem Inv.vE(I:Inv X pins O H s):∀ b∈zi X.stack,b∈X.env.locals::X.fs:=λb hb=>by
 rcases I.ok.JA with e | ⟨e,hf⟩
 ·rw[e] at hb;exact Tv _ hb
 ·rw[e] at hb
  unfold zi at hb
  rw[List.filterMap_cons,hf] at hb
  exact hb
theorem Inv.rG(I:Inv X pins O H s):∀ b∈zi X.stack,H b=none:=λb hb=>by
 rcases TX.mp (I.vE b hb) with e | hb
 ·rw[e];exact I.free
 ·obtain⟨_,o,ho,_⟩:=I.ok.lD.mem hb
  exact I.base.free b o ho (I.ok.EK b hb) λz=>I.ok.yo b z hb
theorem Inv.step{g':Array GenState}{t':Nat}{d':Drawn}{ch:List Addr}(I:Inv X pins O H s)(qa:∀ b∈ch,(b∈X.ex\/X.s₀.heap.objs.size<=b)/\b≠X.env.locals/\(∀ x c,X.env.cells.lookup x=some c->c≠b)/\∀ p∈X.pn++pins,p.1≠b)(keep:∀ b o,b≠X.env.locals->b∉X.fs->b∉ch->s.heap.get? b=some o->H b=none->h'.get? b=some o)(slot:∀ b o,b≠X.env.locals->b∈X.fs->b∉ch->s.heap.get? b=some o->H b=none->∃ sl,h'.get? b=some { o with slots:=sl })(free:∀ b o,b∉ch->s.heap.get? b=some o->H b=none->H' b=none)(there:∀ b o,b∉ch->s.heap.get? b=some o->∃ o',h'.get? b=some o')(rO:∀ b xs,H b=some (.tup xs)->H' b=some (.tup xs))(pH:∀ b o u,H b=some (.je o u)->H' b=some (.je o u))(sE:∀ b ps,H b=some (.Hl ps)->∃ more,H' b=some (.Hl (ps++more)))(ns:∀ m,s.heap.Ns X.env.locals m->h'.Ns X.env.locals m)(aL:j0 X.prog X.w H' h')(hg:AllBare g') :
  Inv X pins O H' { s with heap:=h',gens:=g',drawn:=d',toks:=t' }:=by
 have neL:∀ b o,X.s₀.heap.get? b=some o->b≠X.env.locals:=λb o e=>TQ (TN (Tz e) I.ok.above)
 have neC:∀ b o,X.s₀.heap.get? b=some o->b∉X.ex->b∉ch:=λb o e hx hb=>by
  rcases (qa b hb).1 with z | z
  ·exact hx z
  ·exact absurd (TN (Tz e) z) (UR _)
 have cellK:∀ x c,X.env.cells.lookup x=some c->∀ v,s.heap.IsCell c v->h'.IsCell c v:=λx c e v z1r=>by
  obtain⟨o,ho,hd⟩:=z1r
  have nch:c∉ch:=λz=>(qa c z).2.2.1 x c e U
  by_cases hc:c∈X.fs
  ·obtain⟨sl,q⟩:=slot c o (I.CG x c e) hc nch ho (I.gu x c e)
   exact⟨_,q,hd⟩
  ·exact⟨o,keep c o (I.CG x c e) hc nch ho (I.gu x c e),hd⟩
 refine⟨I.ok,I.os,hg,⟨λb o e n hb hx=>?_,λb o e n hb hx=>?_,λb o e n hx=>?_,λb o e hx=>?_,λb xs e=>rO b xs (I.base.rO b xs e),λb o xs e=>pH b o xs (I.base.pH b o xs e),λb ps e=>?_⟩,?_,λx c e=>?_,?_,λx c e=>?_,λp hp=>?_,aL,I.len⟩
 ·exact keep b o (neL b o e) hb (neC b o e hx) (I.base.keep b o e n hb hx) (I.base.free b o e n hx)
 ·obtain⟨sl,e1⟩:=I.base.slot b o e n hb hx
  obtain⟨sl',e2⟩:=slot b _ (neL b o e) hb (neC b o e hx) e1 (I.base.free b o e n hx)
  exact⟨sl',e2⟩
 ·obtain⟨o',e1⟩:=I.base.there b o e hx
  exact free b o' (neC b o e hx) e1 (I.base.free b o e n hx)
 ·obtain⟨o',e1⟩:=I.base.there b o e hx
  exact there b o' (neC b o e hx) e1
 ·obtain⟨m1,e1⟩:=I.base.sE b ps e
  obtain⟨m2,e2⟩:=sE b _ e1
  exact⟨m1++m2,by rw[e2,Array.append_assoc]⟩
 ·obtain⟨m,hn,hl⟩:=I.loc
  refine⟨m,ns m hn,λi x v e1 e2 e3=>?_⟩
  obtain⟨u,r,l⟩:=hl i x v e1 e2 e3
  refine⟨u,r,?_⟩
  rcases l with l | ⟨k,c,e,z⟩
  ·exact .inl l
  ·exact .inr ⟨k,c,e,cellK x c e _ z⟩
 ·obtain⟨v,z⟩:=I.cell x c e
  exact⟨v,cellK x c e v z⟩
 ·obtain⟨m,⟨o,_,_,ho,_⟩,_⟩:=I.loc
  exact free _ o (λz=>(qa _ z).2.1 U) ho I.free
 ·obtain⟨v,o,ho,hd⟩:=I.cell x c e
  exact free c o (λz=>(qa c z).2.2.1 x c e U) ho (I.gu x c e)
 ·obtain⟨e,n,ne,nf,d⟩:=I.pin p hp
  have nch:p.1∉ch:=λz=>(qa p.1 z).2.2.2 p hp U
  exact⟨keep p.1 p.2 ne nf nch e n,free p.1 p.2 nch e n,ne,nf,d⟩
theorem Inv.un{t':Nat}(I:Inv X pins O H s)(u:Un X.fs [] H H' s.heap h')(aL:j0 X.prog X.w H' h'):Inv X pins O H' { s with heap:=h',toks:=t' }:=by
 obtain⟨m,⟨o,es,ep,ho,r⟩,_⟩:=id I.loc
 obtain⟨sl,hL⟩:=u.any ho I.free (by simp)
 exact I.step (g':=s.gens) (d':=s.drawn) (ch:=[]) (λ_ z=>nomatch z) (λb o _ hb _ e n=>u.keep b o e n hb (by simp)) (λb o _ hb _ e n=>u.slot b o e n hb (by simp)) (λb o _ e n=>u.free b o e n (by simp)) (λb o _ e=>u.there b o e (by simp)) u.rO u.pH u.sE (λm' hm=>by
  obtain⟨o',es',ep',ho',r'⟩:=hm
  rw[ho] at ho';cases ho'
  exact⟨_,es',ep',hL,r'⟩) aL I.bare
theorem Inv.call{g':Array GenState}{t':Nat}{d':Drawn}{ch:List Addr}(I:Inv X pins O H s)(u:Un (zi X.stack) ch H H' s.heap h')(aL:j0 X.prog X.w H' h')(hg:AllBare g')(qa:∀ b∈ch,(b∈X.ex\/X.s₀.heap.objs.size<=b)/\b≠X.env.locals/\(∀ x c,X.env.cells.lookup x=some c->c≠b)/\∀ p∈X.pn++pins,p.1≠b) :
  Inv X pins O H' { s with heap:=h',gens:=g',drawn:=d',toks:=t' }:=by
 obtain⟨m,⟨o,es,ep,ho,r⟩,_⟩:=id I.loc
 obtain⟨sl,hL⟩:=u.any ho I.free λz=>(qa _ z).2.1 U
 exact I.step (ch:=ch) qa (λb o hL hb hc e n=>u.keep b o e n (λz=>(TX.mp (I.vE b z)).elim hL hb) hc) (λb o _ _ hc e n=>u.any e n hc) (λb o hc e n=>u.free b o e n hc) (λb o hc e=>u.there b o e hc) u.rO u.pH u.sE (λm' hm=>by
  obtain⟨o',es',ep',ho',r'⟩:=hm
  rw[ho] at ho';cases ho'
  exact⟨_,es',ep',hL,r'⟩) aL hg
theorem Inv.turned{t':Nat}{it:Addr}(I:Inv X pins O H s)(k:∀ b o,b≠it->s.heap.get? b=some o->h'.get? b=some o)(hn:H it=none)(hL:it≠X.env.locals)(h1:it∈X.ex\/X.s₀.heap.objs.size<=it)(h2:∀ x c,X.env.cells.lookup x=some c->c≠it)(h3:∀ p∈X.pn++pins,p.1≠it):Inv X pins O H { s with heap:=h',toks:=t' }:=by
 have nit:∀ b u,H b=some u->b≠it:=λb u e z=>by rw[z,hn] at e;cases e
 refine I.step (g':=s.gens) (d':=s.drawn) (ch:=[it]) (λb hb=>?_) (λb o _ _ hc e _=>k b o (λz=>hc (by simp[z])) e) (λb o _ _ hc e _=>⟨o.slots,k b o (λz=>hc (by simp[z])) e⟩) (λ_ _ _ _ n=>n)
  (λb o hc e=>⟨o,k b o (λz=>hc (by simp[z])) e⟩) (λ_ _ e=>e) (λ_ _ _ e=>e) (λb ps e=>⟨#[],by rw[e];simp⟩) (λm hm=>?_) (λb u e=>?_) I.bare
 ·have e:b=it:=by simpa using hb
  subst e
  exact⟨h1,hL,h2,h3⟩
 ·obtain⟨o,es,ep,ho,r⟩:=hm
  exact⟨o,es,ep,k _ o (Ne.symm hL) ho,r⟩
 ·refine (I.aL b u e).pz (λc v hc q=>k c v ?_ q) (λ_ q=>q) λ_ _ q=>q
  rcases hc with z | z
  ·rw[z];exact nit b u e
  ·exact nit c _ z
theorem Inv.tok(I:Inv X pins O H s)(t:Nat):Inv X pins O H { s with toks:=t }:=I.un (h':=s.heap) (t':=t) Un.refl I.aL
theorem Inv.kept{t':Nat}(I:Inv X pins O H s)(k:∀ b u,s.heap.get? b=some u->h'.get? b=some u):Inv X pins O H { s with heap:=h',toks:=t' }:=I.un (Un.kept k) (I.aL.kept k)
theorem Inv.laid{a:Addr}{o:HO}{t':Nat}(I:Inv X pins O H s)(k:∀ b u,s.heap.get? b=some u->h'.get? b=some u)(hp:s.heap.objs.size<=a)(new:cf X.prog X.w (upd H a o) h' a o) :
  Inv X pins O (upd H a o) { s with heap:=h',toks:=t' }:=I.un (Un.laid k hp (I.aL.fresh hp)) (I.aL.laid k hp new)
theorem Inv.write{x e:Addr}{o:HO}{t':Nat}(I:Inv X pins O H s)(mu:Fx (H x))(he:e=x\/H e=some (.own x))(k:∀ b u,b≠e->s.heap.get? b=some u->h'.get? b=some u)(Ik:∃ u,h'.get? e=some u)(new:cf X.prog X.w (upd H x o) h' x o):Inv X pins O (upd H x o) { s with heap:=h',toks:=t' }:=I.un (Un.write mu he k Ik) (I.aL.write mu he k Ik new)
theorem Inv.weak{O':List (Option V)}(I:Inv X pins O H s)(hl:O'.length=O.length)(w:∀ (i:Nat) v,O'[i]?=some (some v)->O[i]?=some (some v)):Inv X pins O' H s :=
 ⟨I.ok,I.os,I.bare,I.base,let ⟨m,hn,hl'⟩:=I.loc;⟨m,hn,λi x v e1 e2 e3=>hl' i x v e1 (w i v e2) e3⟩,I.cell,I.free,I.gu,I.pin,I.aL,hl.trans I.len⟩
theorem Inv.xU{Eh:VH}(I:Inv X pins O H s)(h:∀ p∈Eh,s.heap.get? p.1=some p.2/\H p.1=none/\p.1≠X.env.locals/\p.1∉X.fs/\∀ v,p.2.data≠.cell v):Inv X Eh O H s :=
 ⟨I.ok,I.os,I.bare,I.base,I.loc,I.cell,I.free,I.gu,λp hp=>(TY.mp hp).elim (λz=>I.pin p (Ui _ z)) (h p),I.aL,I.len⟩
theorem nZ{N:List Str}(hN:N.Nodup){i j:Nat}{x:Str}(a:N[i]?=some x)(b:N[j]?=some x):i=j:=by
 obtain⟨h1,e1⟩:=Tw.mp a
 obtain⟨h2,e2⟩:=Tw.mp b
 exact (Ve hN).mp (e1.trans e2.symm)
abbrev VN (X:Cx)(x:Str):Prop:=X.fn x=true\/X.env.scope.names.lookup x=some .local
theorem qx{M:Model}{A:Around}{E:VG}{i:Nat}{x:Str}{v:V}{u:Value}{Q:Unit->Shared->Prop}(I:Inv X pins O H s)(hN:X.N.Nodup)(hi:X.N[i]?=some x)(hx:Loc X.env.scope x)(r:RelV v u)(h:∀ s',Inv X pins (O.set i (some v)) H s'->(∃ a,Heap.SameBut a s.heap s'.heap/\(a=X.env.locals\/X.env.cells.lookup x=some a))->Q () s')(hf:VN X x:=by first | exact .inl U | exact .inr U | assumption):wpAny M A (storeName X.env x u) Q E s:=by
 obtain⟨m,hn,hl⟩:=id I.loc
 have hcls:(X.env.scope.kind == .class||(X.env.scope.kind == .module&&X.env.locals != X.env.globals))=false:=by rw[I.ok.kind];rfl
 have hiO:i < O.length:=by rw[I.len];exact (Tw.mp hi).1
 have CG:=I.CG
 have tracked:∀ {a:Addr} {h':Heap},(∃ o,s.heap.get? a=some o/\H a=none)->Heap.SameBut a s.heap h'->j0 X.prog X.w H h':=λ{a h'} ha hs b ob e=>by
  obtain⟨_,_,hfree⟩:=ha
  refine (I.aL b ob e).pz (λc w' hc q=>(hs.2 c ?_).trans q) (λ_ q=>q) λ_ _ q=>q
  rintro rfl
  rcases hc with rfl | hc
  ·rw[hfree] at e;cases e
  ·rw[hfree] at hc;cases hc
 rcases hx with hk | hk
 ·refine wpAny_storeName_local hk hn (λh' hn' hs=>?_) hcls
  obtain⟨oL,_,_,hoL,_⟩:=id hn
  refine h _ ⟨I.ok,I.os,I.bare,⟨λb o e n hb hx=>?_,λb o e n hb hx=>?_,I.base.free,λb o e hx=>?_,I.base.rO,I.base.pH,I.base.sE⟩,⟨_,hn',λj y v' e1 e2 e3=>?_⟩,λy c e=>?_,I.free,I.gu,λp hp=>?_,tracked ⟨oL,hoL,I.free⟩ hs,by simpa using I.len⟩ ⟨_,hs,.inl U⟩
  ·exact (hs.2 b (TQ (TN (Tz e) I.ok.above))).trans (I.base.keep b o e n hb hx)
  ·obtain⟨sl,e1⟩:=I.base.slot b o e n hb hx
   exact⟨sl,(hs.2 b (TQ (TN (Tz e) I.ok.above))).trans e1⟩
  ·obtain⟨o',e1⟩:=I.base.there b o e hx
   exact⟨o',(hs.2 b (TQ (TN (Tz e) I.ok.above))).trans e1⟩
  ·by_cases hj:j=i
   ·subst hj
    rw[hi] at e1;cases e1
    rw[Uo hiO] at e2
    cases e2
    exact⟨u,r,.inl ⟨hk,by simp⟩⟩
   ·rw[TZ (Ne.symm hj)] at e2
    obtain⟨u',r',q⟩:=hl j y v' e1 e2 e3
    refine⟨u',r',?_⟩
    rcases q with ⟨k,e⟩ | ⟨k,c,e,z⟩
    ·refine .inl ⟨k,?_⟩
     have:y≠x:=λe=>hj (nZ hN e1 (e▸hi))
     simp[this,e]
    ·exact .inr ⟨k,c,e,z.sameBut hs (CG y c e)⟩
  ·obtain⟨w',z⟩:=I.cell y c e
   exact⟨w',z.sameBut hs (CG y c e)⟩
  ·obtain⟨e,n,ne,nf,d⟩:=I.pin p hp
   exact⟨(hs.2 p.1 ne).trans e,n,ne,nf,d⟩
 ·have hfn:X.fn x=true:=by
   rcases hf with z | z
   ·exact z
   ·rw[z] at hk;cases hk
  obtain⟨c,hc⟩:=I.ok.has x (.inl hk)
  obtain⟨w',z⟩:=I.cell x c hc
  refine wpAny_storeName_cell I.ok.kind hk hc z (λh' hc' hs=>?_)
  obtain⟨oc,hoc,hocd⟩:=id z
  refine h { s with heap:=h' } ⟨I.ok,I.os,I.bare,⟨λb o e n hb hx=>?_,λb o e n hb hx=>?_,I.base.free,λb o e hx=>?_,I.base.rO,I.base.pH,I.base.sE⟩,⟨m,hn.sameBut hs (Ne.symm (CG x c hc)),λj y v' e1 e2 e3=>?_⟩,λy c' e=>?_,I.free,I.gu,λp hp=>?_,tracked ⟨oc,hoc,I.gu x c hc⟩ hs,by simpa using I.len⟩ ⟨c,hs,.inr hc⟩
  ·exact (hs.2 b (TQ (TN (Tz e) (I.ok.Iu x c hfn hc)))).trans (I.base.keep b o e n hb hx)
  ·obtain⟨sl,e1⟩:=I.base.slot b o e n hb hx
   exact⟨sl,(hs.2 b (TQ (TN (Tz e) (I.ok.Iu x c hfn hc)))).trans e1⟩
  ·obtain⟨o',e1⟩:=I.base.there b o e hx
   exact⟨o',(hs.2 b (TQ (TN (Tz e) (I.ok.Iu x c hfn hc)))).trans e1⟩
  ·by_cases hj:j=i
   ·subst hj
    rw[hi] at e1;cases e1
    rw[Uo hiO] at e2
    cases e2
    exact⟨u,r,.inr ⟨.inl hk,c,hc,hc'⟩⟩
   ·rw[TZ (Ne.symm hj)] at e2
    obtain⟨u',r',q⟩:=hl j y v' e1 e2 e3
    refine⟨u',r',?_⟩
    rcases q with q | ⟨k,c',e,z'⟩
    ·exact .inl q
    ·refine .inr ⟨k,c',e,z'.sameBut hs ?_⟩
     rintro rfl
     exact hj (nZ hN e1 (I.ok.inj _ _ _ e hc▸hi))
  ·by_cases hcc:c'=c
   ·subst hcc;exact⟨_,hc'⟩
   ·obtain⟨w2,z2⟩:=I.cell y c' e
    exact⟨w2,z2.sameBut hs hcc⟩
  ·obtain⟨e,n,ne,nf,d⟩:=I.pin p hp
   refine⟨(hs.2 p.1 ?_).trans e,n,ne,nf,d⟩
   intro q
   rw[q,hoc] at e
   have q':oc=p.2:=Ue e
   exact d w' (by rw[<- q'];exact hocd)
theorem kD{M:Model}{A:Around}{E:VG}{i:Nat}{x:Str}{v:V}{u:Value}{Q:Unit->Shared->Prop}(I:Inv X pins O H s)(hN:X.N.Nodup)(hi:X.N[i]?=some x)(hx:Loc X.env.scope x)(r:RelV v u)(h:∀ s',Inv X pins (O.set i (some v)) H s'->Q () s')(hf:VN X x:=by first | exact .inl U | exact .inr U | assumption):wpAny M A (storeName X.env x u) Q E s :=
 qx I hN hi hx r (λs' I' _=>h s' I') hf
theorem Inv.Ei{s':Shared}{ch:List Addr}(I:Inv X pins O H s)(ho:s'.os=s.os)(u:Un (zi X.stack) ch H H' s.heap s'.heap)(aL:j0 X.prog X.w H' s'.heap)(hg:AllBare s'.gens)(qa:∀ b∈ch,(b∈X.ex\/X.s₀.heap.objs.size<=b)/\b≠X.env.locals/\(∀ x c,X.env.cells.lookup x=some c->c≠b)/\∀ p∈X.pn++pins,p.1≠b):Inv X pins O H' s':=by
 obtain⟨h',g',d',t',o'⟩:=s'
 have e:o'=s.os:=ho
 subst e
 exact I.call (g':=g') (t':=t') (d':=d') u aL hg qa
end
abbrev XK:=Value->Option Addr->Hp->Prop
abbrev St:=List (Option V)
abbrev VK:=V->Hp->Prop
abbrev TE:=St->Hp->VK->Prop
abbrev TT:=St->Hp->(Bool->Hp->Prop)->Prop
abbrev TA:=St->Hp->(List V->Hp->Prop)->Prop
structure Ends where
 nx:St->Hp->Prop
 rt:VK
 bk:St->Hp->Prop:=λ_ _=>False
 ct:St->Hp->Prop:=λ_ _=>False
abbrev TS:=Ends->St->Hp->Prop
def EP(X:Cx)(pins:VH)(O:St)(Q:VK)(u:Value)(s':Shared):Prop:=∃ v H',Inv X pins O H' s'/\RelV v u/\Q v H'
def TP(X:Cx)(pins:VH)(O:St)(Q:Bool->Hp->Prop)(b:Bool)(s':Shared):Prop:=∃ H',Inv X pins O H' s'/\Q b H'
def AP(X:Cx)(pins:VH)(O:St)(Q:List V->Hp->Prop)(us:List Value)(s':Shared):Prop:=∃ vs H',Inv X pins O H' s'/\Vals vs us/\Q vs H'
def SP(X:Cx)(pins:VH)(D:Ends)(f:Flow)(s':Shared):Prop :=
 match f with
 | .next=>∃ O' H',Inv X pins O' H' s'/\D.nx O' H'
 | .brk=>∃ O' H',Inv X pins O' H' s'/\D.bk O' H'
 | .cont=>∃ O' H',Inv X pins O' H' s'/\D.ct O' H'
 | .ret u=>∃ v O' H',Inv X pins O' H' s'/\RelV v u/\D.rt v H'
def PE(X:Cx)(e:Expr)(t:TE):Prop :=
 ∀ (pins:VH) (s:Shared) (O:St) (H:Hp) (Q:VK),Inv X pins O H s->t O H Q->wpAny (model X.prog X.w) X.A (eval e X.env) (EP X pins O Q) X.xe s
def PT(X:Cx)(e:Expr)(t:TT):Prop :=
 ∀ (pins:VH) (s:Shared) (O:St) (H:Hp) (Q:Bool->Hp->Prop),Inv X pins O H s->t O H Q->wpAny (model X.prog X.w) X.A (isTrue e X.env (eval e X.env)) (TP X pins O Q) X.xe s
def PW(X:Cx)(e:Expr)(t:TT):Prop :=
 ∀ (whole:Sem Value) (pins:VH) (s:Shared) (O:St) (H:Hp) (Q:Bool->Hp->Prop),Inv X pins O H s->t O H Q->wpAny (model X.prog X.w) X.A (isTrue e X.env whole) (TP X pins O Q) X.xe s
theorem PW.pt{X:Cx}{e:Expr}{t:TT}(h:PW X e t):PT X e t:=h _
def PA(X:Cx)(es:List Expr)(t:TA):Prop :=
 ∀ (pos:Pos) (pins:VH) (s:Shared) (O:St) (H:Hp) (Q:List V->Hp->Prop),Inv X pins O H s->t O H Q->wpAny (model X.prog X.w) X.A (spliced (backTo pos (starEach es X.env))) (AP X pins O Q) X.xe s
def PS(X:Cx)(st:Stmt)(t:TS):Prop :=
 ∀ (pins:VH) (s:Shared) (O:St) (H:Hp) (D:Ends),Inv X pins O H s->t D O H->wpAny (model X.prog X.w) X.A (exec st X.env) (SP X pins D) X.xe s
def nz(X:Cx)(st:List Stmt)(t:TS):Prop :=
 ∀ (pins:VH) (s:Shared) (O:St) (H:Hp) (D:Ends),Inv X pins O H s->t D O H->wpAny (model X.prog X.w) X.A (execs st X.env) (SP X pins D) X.xe s
theorem b8{α:Type}{t:Sem α}{Q Q':α->Shared->Prop}{M:Model}{A:Around}{E:VG}{s:Shared}(h:wpAny M A t Q E s)(hQ:∀ a s,Q a s->Q' a s):wpAny M A t Q' E s:=wpAny_mono h hQ λ_ _ x=>x
theorem el2{α β:Type}{P Q R:α->β->Prop}{C:Prop}(h:∃ a b,P a b/\Q a b/\R a b)(k:∀ a b,P a b->Q a b->R a b->C):C:=h.elim λa h=>h.elim λb h=>k a b h.1 h.2.1 h.2.2
section
variable{X:Cx}
def bB(i:Nat):TE:=λO H Q=>∃ v,O[i]?=some (some v)/\Q v H
def tC(v:V):TE:=λ_ H Q=>Q v H
theorem vk{i:Nat}{x:Str}{pos:Pos}(hN:X.N[i]?=some x)(hv:Im X.env.scope x)(hd:VM x:=by decide)(pj:(x == ("__classdict__":Str))=false:=by decide):PE X (.Name x pos) (bB i):=by
 intro pins s O H Q I h
 obtain⟨v,e,h⟩:=h
 obtain⟨m,hn,hl⟩:=I.loc
 obtain⟨u,r,l⟩:=hl i x v hN e hv
 have fin:EP X pins O Q u s:=⟨v,H,I,r,h⟩
 rcases l with ⟨hk,hm⟩ | ⟨hk,c,hc,hcell⟩
 ·exact wpAny_Name (wpAny_loadName_local I.ok.kind hk hn hm fin) hd
 ·rcases hk with hk | hk
  ·exact wpAny_Name (wpAny_loadName_cell I.ok.kind hk hc hcell fin) hd
  ·exact wpAny_Name (wpAny_loadName_free I.ok.kind hk hc hcell fin pj) hd
theorem bX{i j pos}:PE X (.Constant (.int i) j pos) (tC (.int i)):=λ_ _ _ H _ I h=>wpAny_Constant_int ⟨.int i,H,I.tok _,⟨_,U⟩,h⟩
theorem Ez{b j pos}:PE X (.Constant (.bool b) j pos) (tC (.bl b)):=λ_ _ _ H _ I h=>Constant_bool ⟨.bl b,H,I,U,h⟩
theorem GA{j pos}:PE X (.Constant .none j pos) (tC .bD):=λ_ _ _ H _ I h=>Constant_none ⟨.bD,H,I,U,h⟩
theorem dD{x j pos}:PE X (.Constant (.str x) j pos) (tC (.str x)):=λ_ _ _ H _ I h=>Calls.Constant_str ⟨.str x,H,I.tok _,⟨_,U⟩,h⟩
def Gl(X:Cx)(x:Str):Prop:=X.env.kindOf x=some .globalImplicit
theorem iw{E:VG}{pins:VH}{s:Shared}{O:St}{H:Hp}{x:Str}{u:Value}{pos:Pos}{Q:VG}(I:Inv X pins O H s)(hg:Gl X x)(hm:X.mg x=some u)(h:Q u s)(hd:VM x:=by decide):wpAny (model X.prog X.w) X.A (eval (.Name x pos) X.env) Q E s :=
 Calls.Name_function_global I.ok.kind hg (Calls.loadGlobal_global (by rw[I.ok.glob];exact I.mod.glob.keeps I.bk) hm h) hd
theorem gT{E:VG}{pins:VH}{s:Shared}{O:St}{H:Hp}{x:Str}{u:Value}{pos:Pos}{Q:VG}(I:Inv X pins O H s)(hg:Gl X x)(hm:X.mg x=none)(hv:bootBuiltins x=some u)(h:Q u s)(hn:x≠"__name__":=by decide)(hd:VM x:=by decide):wpAny (model X.prog X.w) X.A (eval (.Name x pos) X.env) Q E s:=by
 obtain⟨mb,h1,h2⟩:=I.mod.blt
 exact Calls.Name_function_global I.ok.kind hg (Calls.loadGlobal_builtin (by rw[I.ok.glob];exact I.mod.glob.keeps I.bk) hm (by rw[I.ok.blt];exact h1.keeps I.bk) ((h2 x hn).trans hv) h) hd
theorem eg{x:Str}{v:V}{u:Value}{pos:Pos}(hg:Gl X x)(hm:X.mg x=some u)(r:RelV v u)(hd:VM x:=by decide):PE X (.Name x pos) (tC v) :=
 λ_ _ _ H _ I h=>iw I hg hm ⟨v,H,I,r,h⟩ hd
theorem nu{x:Str}{v:V}{u:Value}{pos:Pos}(hg:Gl X x)(hm:X.mg x=none)(hv:bootBuiltins x=some u)(r:RelV v u)(hn:x≠"__name__":=by decide)(hd:VM x:=by decide):PE X (.Name x pos) (tC v) :=
 λ_ _ _ H _ I h=>gT I hg hm hv ⟨v,H,I,r,h⟩ hn hd
variable{a b:Expr}{ta tb:TE}{pos:Pos}
def PC(X:Cx)(op:CmpOp)(a b:Expr)(t:TE):Prop :=
 ∀ (pins:VH) (s:Shared) (O:St) (H:Hp) (Q:VK),Inv X pins O H s->t O H Q ->
  wpAny (model X.prog X.w) X.A (eval a X.env) (λv s₁=>wpAny (model X.prog X.w) X.A (eval b X.env) (λu s₂=>wpAny (model X.prog X.w) X.A (compareOp op v u) (EP X pins O Q) X.xe s₂) X.xe s₁) X.xe s
def tB(t:TE):TT:=λO H Q=>t O H λx H1=>∃ c,x=.bl c/\Q c H1
theorem HH{op:CmpOp}{t:TE}(h:PC X op a b t)(h1:behindInMarks op b=false:=by first | exact Kg _ (by decide) (by decide) | rfl):PT X (.Compare a [op] [b] pos) (tB t):=by
 intro pins s O H Q I hw
 refine wpAny_isTrue_Compare1 (b8 (h pins s O H _ I hw) λv s1 h1=>b8 h1 λu s2 h2=>b8 h2 λc s3 ⟨x,H1,I1,r1,q1⟩=>?_) h1
 obtain⟨d,rfl,q⟩:=q1
 cases r1
 exact wpAny_truthy_bool ⟨H1,I1,q⟩
theorem Gk{e:Expr}{t:TE}(h:PE X e t)(he:∀ whole,isTrue e X.env whole=(do let v <- whole;standAt e.pos;holding [v] (truthy v)):=by intro _;rfl):PT X e (tB t):=by
 intro pins s O H Q I hw
 refine isTrue_plain (b8 (h pins s O H _ I hw) λv s1 zz=>el2 zz λx H1 I1 r1 q1=>?_) (he _)
 obtain⟨d,rfl,q⟩:=q1
 cases r1
 exact wpAny_truthy_bool ⟨H1,I1,q⟩
variable{tA My:TT}{rest:List Expr}
def LV(t u:TT):TT:=λO H Q=>t O H λc H1=>if c=true then u O H1 Q else Q false H1
def SJ(t u:TT):TT:=λO H Q=>t O H λc H1=>if c=true then Q true H1 else u O H1 Q
theorem pw_and1(ha:PT X a tA):PW X (.BoolOp .And [a] pos) tA:=by
 intro wh pins s O H Q I h
 refine isTrue_and (b8 (ha pins s O H Q I h) λc s1 e=>?_)
 cases c with
 | true=>exact isTrue_and_nil e
 | false=>exact e
theorem pw_or1(ha:PT X a tA):PW X (.BoolOp .Or [a] pos) tA:=by
 intro wh pins s O H Q I h
 refine isTrue_or (b8 (ha pins s O H Q I h) λc s1 e=>?_)
 cases c with
 | false=>exact isTrue_or_nil e
 | true=>exact e
theorem pw_and(ha:PT X a tA)(hb:PW X (.BoolOp .And (b::rest) pos) My):PW X (.BoolOp .And (a::b::rest) pos) (LV tA My):=by
 intro wh pins s O H Q I h
 refine isTrue_and (b8 (ha pins s O H _ I h) λc s1 ⟨H1,I1,q1⟩=>?_)
 cases c with
 | true=>exact hb wh pins s1 O H1 Q I1 q1
 | false=>exact⟨H1,I1,q1⟩
theorem pw_or(ha:PT X a tA)(hb:PW X (.BoolOp .Or (b::rest) pos) My):PW X (.BoolOp .Or (a::b::rest) pos) (SJ tA My):=by
 intro wh pins s O H Q I h
 refine isTrue_or (b8 (ha pins s O H _ I h) λc s1 ⟨H1,I1,q1⟩=>?_)
 cases c with
 | true=>exact⟨H1,I1,q1⟩
 | false=>exact hb wh pins s1 O H1 Q I1 q1
def Og(ta tb:TE):TE:=λO H Q=>ta O H λx H1=>∃ c,x=.bl c/\if c=true then Q (.bl true) H1 else tb O H1 Q
theorem HQ{op}{t:TE}(h:PE X a t):PE X (.BoolOp op [a] pos) t:=λpins s O H Q I hw=>BoolOp_one (h pins s O H Q I hw)
theorem KO(ha:PE X a ta)(hb:PE X (.BoolOp .Or (b::rest) pos) tb):PE X (.BoolOp .Or (a::b::rest) pos) (Og ta tb):=by
 intro pins s O H Q I h
 refine BoolOp_or (b8 (ha pins s O H _ I h) λv s1 z0q=>?_)
 obtain⟨x,H1,I1,r1,q1⟩:=z0q
 obtain⟨c,rfl,q1⟩:=q1
 cases r1
 refine wpAny_truthy_bool ?_
 cases c with
 | false=>exact hb pins s1 O H1 Q I1 q1
 | true=>exact⟨.bl true,H1,I1,U,q1⟩
def Sd(t:TT)(ta tb:TE):TE:=λO H Q=>t O H λc H1=>if c=true then ta O H1 Q else tb O H1 Q
theorem zo{c:Expr}(hc:PT X c tA)(ha:PE X a ta)(hb:PE X b tb):PE X (.IfExp c a b pos) (Sd tA ta tb):=by
 intro pins s O H Q I h
 refine wpAny_IfExp (b8 (hc pins s O H _ I h) λd s1 ⟨H1,I1,q1⟩=>?_)
 cases d with
 | true=>exact ha pins s1 O H1 Q I1 q1
 | false=>exact hb pins s1 O H1 Q I1 q1
end
def d5(K:Frag)(H:Hp)(a:Addr)(xs:List V):Prop :=
 Rd H a (.lst xs) \/
  ∃ (o:Obj) (its:Array Value) (n:Nat),K.lookup a=some o/\o.cls=.type "list"/\o.dict=none/\o.data=.seq its n/\its.size<=sizeLine/\Vals xs its.toList
def hV(K:Frag)(H:Hp)(a:Addr)(xs:List V):Prop :=
 Rd H a (.tup xs) \/
  ∃ (o:Obj) (its:Array Value) (n:Nat),K.lookup a=some o/\o.cls=.type "tuple"/\o.data=.seq its n/\its.size<=sizeLine/\Vals xs its.toList
def NL:Value->Option V
 | .none=>some .bD
 | .bool b=>some (.bl b)
 | .int i _=>some (.int i)
 | .str x _=>some (.str x)
 | .bytes b _=>some (.w8 b)
 | .float b _=>some (.Io b)
 | .ref a=>some (.ref a)
 | .type n=>some (.ty n)
 | _=>none
theorem RelV.abs{x:V}{u:Value}(r:RelV x u):NL u=some x:=by
 cases x with
 | bD=>cases r;rfl
 | bl _=>cases r;rfl
 | int _=>obtain⟨t,rfl⟩:=r;rfl
 | str _=>obtain⟨t,rfl⟩:=r;rfl
 | w8 _=>obtain⟨t,rfl⟩:=r;rfl
 | Io _=>obtain⟨t,rfl⟩:=r;rfl
 | ref _=>cases r;rfl
 | ty _=>cases r;rfl
theorem RelV.inj{x y:V}{u:Value}(r:RelV x u)(q:RelV y u):x=y:=Ue (r.abs.symm.trans q.abs)
theorem Vals.inj:∀ {xs ys:List V} {us:List Value},Vals xs us->Vals ys us->xs=ys
 | _,_,_,.nil,.nil=>rfl
 | _,_,_,.cons r t,.cons r' t'=>by rw[r.inj r',Vals.inj t t']
section
variable{X:Cx}{pins:VH}{O:St}{H:Hp}{s:Shared}{a:Addr}{xs ys:List V}
theorem d5.of{K:Frag}(h:H a=some (.lst xs)):d5 K H a xs:=.inl (.inl h)
theorem hV.of{K:Frag}(h:H a=some (.tup xs)):hV K H a xs:=.inl (.inl h)
theorem Inv.list(I:Inv X pins O H s)(h:d5 X.K H a xs):∃ its:List Value,Vals xs its/\PlainL s.heap a its.toArray/\xs.length<=sizeLine:=by
 rcases h with h | ⟨o,its,n,hk,hc,hd,hs,hz,r⟩
 ·obtain⟨z,its,n,r,e⟩:=h.ok I.aL
  exact⟨its,r,⟨_,n,e,U,U,U⟩,z⟩
 ·refine⟨its.toList,r,⟨o,n,I.i7 a o hk,hc,hd,by simpa using hs⟩,?_⟩
  have e:=r.length
  simp only[Array.length_toList] at e
  omega
theorem Inv.tuple(I:Inv X pins O H s)(h:hV X.K H a xs):∃ its:List Value,Vals xs its/\IsTup s.heap a its.toArray/\xs.length<=sizeLine:=by
 rcases h with h | ⟨o,its,n,hk,hc,hs,hz,r⟩
 ·obtain⟨z,its,r,p⟩:=h.ok I.aL
  exact⟨its,r,p,z⟩
 ·refine⟨its.toList,r,⟨o,I.i7 a o hk,hc,n,by simpa using hs⟩,?_⟩
  have e:=r.length
  simp only[Array.length_toList] at e
  omega
theorem Inv.tP(I:Inv X pins O H s)(h:d5 X.K H a xs)(h':d5 X.K H a ys):xs=ys:=by
 obtain⟨its,r,⟨o,n,e,_,_,d⟩,_⟩:=I.list h
 obtain⟨its',r',⟨o',n',e',_,_,d'⟩,_⟩:=I.list h'
 rw[e] at e';cases e'
 rw[d] at d'
 injection d' with d1 _
 have:its=its':=by simpa using congrArg Array.toList d1
 subst this
 exact r.inj r'
theorem Inv.lM(I:Inv X pins O H s)(h:hV X.K H a xs)(h':hV X.K H a ys):xs=ys:=by
 obtain⟨its,r,⟨o,e,_,n,d⟩,_⟩:=I.tuple h
 obtain⟨its',r',⟨o',e',_,n',d'⟩,_⟩:=I.tuple h'
 rw[e] at e';cases e'
 rw[d] at d'
 injection d' with d1 _
 have:its=its':=by simpa using congrArg Array.toList d1
 subst this
 exact r.inj r'
end
abbrev Cx.mQ(X:Cx)(E:VG):Cx:={ X with xe:=E }
abbrev Cx.sV(X:Cx):Cx:=X.mQ λ_ _=>False
theorem Cx.Ok.mQ{X:Cx}(ok:X.Ok)(E:VG):(X.mQ E).Ok :=
 ⟨ok.mod,ok.kind,ok.glob,ok.blt,ok.above,ok.inj,ok.has,ok.Iu,ok.hd,ok.frames,ok.JA,ok.Ks,ok.bs,ok.Ce,ok.yW,ok.yo,ok.lD,ok.EK⟩
theorem Cx.Ok.gO{X:Cx}{E:VG}(ok:(X.mQ E).Ok):X.Ok :=
 ⟨ok.mod,ok.kind,ok.glob,ok.blt,ok.above,ok.inj,ok.has,ok.Iu,ok.hd,ok.frames,ok.JA,ok.Ks,ok.bs,ok.Ce,ok.yW,ok.yo,ok.lD,ok.EK⟩
section
variable{X:Cx}{pins:VH}{O:St}{H:Hp}{s:Shared}{E:VG}
theorem Inv.mQ(I:Inv X pins O H s)(E:VG):Inv (X.mQ E) pins O H s:=⟨I.ok.mQ E,I.os,I.bare,I.base,I.loc,I.cell,I.free,I.gu,I.pin,I.aL,I.len⟩
theorem Inv.gO(I:Inv (X.mQ E) pins O H s):Inv X pins O H s:=⟨I.ok.gO,I.os,I.bare,I.base,I.loc,I.cell,I.free,I.gu,I.pin,I.aL,I.len⟩
theorem SP.gO{D:Ends}{f:Flow}{s':Shared}(h:SP (X.mQ E) pins D f s'):SP X pins D f s':=by
 cases f with
 | next=>obtain⟨O',H',I,q⟩:=h;exact⟨O',H',I.gO,q⟩
 | brk=>obtain⟨O',H',I,q⟩:=h;exact⟨O',H',I.gO,q⟩
 | cont=>obtain⟨O',H',I,q⟩:=h;exact⟨O',H',I.gO,q⟩
 | ret u=>obtain⟨v,O',H',I,r,q⟩:=h;exact⟨v,O',H',I.gO,r,q⟩
theorem nz.sV{st:List Stmt}{t:TS}(h:nz X.sV st t):nz X st t:=λpins s O H D I hw =>
 wpAny_mono (h pins s O H D (I.mQ _) hw) (λ_ _ q=>q.gO) λ_ _ z=>False.elim z
end
section
variable{X:Cx}{st:Stmt}{rest:List Stmt}{t u:TS}{e:Expr}{te:TE}{pos:Pos}
def Fd:TS:=λD O H=>D.nx O H
def oI(t u:TS):TS:=λD O H=>t { D with nx:=u D } O H
theorem xx:nz X [] Fd:=λ_ _ O H _ I h=>wpAny_execs_nil ⟨O,H,I,h⟩
theorem cM(h1:PS X st t)(h2:nz X rest u):nz X (st::rest) (oI t u):=by
 intro pins s O H D I h
 refine wpAny_execs_cons (b8 (h1 pins s O H { D with nx:=u D } I h) λf s1 q=>?_)
 cases f with
 | next =>
  obtain⟨O',H',I',q⟩:=q
  exact h2 pins s1 O' H' D I' q
 | ret v=>exact q
 | brk=>exact q
 | cont=>exact q
theorem gI(h1:PS X st t):nz X [st] t:=by
 intro pins s O H D I h
 refine wpAny_execs_cons (b8 (h1 pins s O H D I h) λf s1 q=>?_)
 cases f with
 | next=>exact wpAny_execs_nil q
 | ret v=>exact q
 | brk=>exact q
 | cont=>exact q
theorem Inv.quiet{pins:VH}{O:St}{H:Hp}{s:Shared}(I:Inv X pins O H s):interactive X.env=false:=by simp[interactive,I.ok.kind]
def JV(te:TE):TS:=λD O H=>te O H λ_ H1=>D.nx O H1
theorem nh(he:PE X e te)(hs:swapsWith e none pos.line X.env=pure false:=by rfl):PS X (.Expr e pos) (JV te):=by
 intro pins s O H D I h
 exact wpAny_Expr_any (b8 (he pins s O H _ I h) λv s1 zz=>el2 zz λx H1 I1 r1 q1=>⟨O,H1,I1,q1⟩) I.quiet hs
def CT(te:TE):TS:=λD O H=>te O H D.rt
theorem lA(he:PE X e te):PS X (.Return (some e) pos) (CT te):=by
 intro pins s O H D I h
 exact wpAny_Return_some (b8 (he pins s O H _ I h) λv s1 zz=>el2 zz λx H1 I1 r1 q1=>⟨x,O,H1,I1,r1,q1⟩)
def LX(c:TT)(t u:TS):TS:=λD O H=>c O H λb H1=>if b=true then t D O H1 else u D O H1
theorem Em{c:Expr}{a b:List Stmt}{tc:TT}(hc:PT X c tc)(ha:nz X a t)(hb:nz X b u):PS X (.If c a b pos) (LX tc t u):=by
 intro pins s O H D I h
 refine wpAny_If (b8 (hc pins s O H _ I h) λd s1 ⟨H1,I1,q1⟩=>?_)
 cases d with
 | true=>exact ha pins s1 O H1 D I1 q1
 | false=>exact hb pins s1 O H1 D I1 q1
end
abbrev TG:=V->St->Hp->(St->Hp->Prop)->Prop
abbrev C8:=List V->St->Hp->(St->Hp->Prop)->Prop
def PG(X:Cx)(target:Expr)(t:TG):Prop :=
 ∀ (pins:VH) (s:Shared) (O:St) (H:Hp) (v:V) (u:Value) (Q:St->Hp->Prop),Inv X pins O H s->RelV v u->t v O H Q ->
  wpAny (model X.prog X.w) X.A (assign target X.env u) (λ_ s'=>∃ O' H',Inv X pins O' H' s'/\Q O' H') X.xe s
def Es(X:Cx)(ts:List Expr)(t:C8):Prop :=
 ∀ (pins:VH) (s:Shared) (O:St) (H:Hp) (vs:List V) (us:List Value) (Q:St->Hp->Prop),Inv X pins O H s->Vals vs us->t vs O H Q ->
  wpAny (model X.prog X.w) X.A (assignInOrder ((assignEach ts X.env).map (·.2)) us) (λ_ s'=>∃ O' H',Inv X pins O' H' s'/\Q O' H') X.xe s
abbrev HD:=V->V->V->Hp->(Hp->Prop)->Prop
def LJ(X:Cx)(t:HD):Prop :=
 ∀ (pins:VH) (s:Shared) (O:St) (H:Hp) (o i v:V) (ov iv u:Value) (Q:Hp->Prop),Inv X pins O H s->RelV o ov->RelV i iv->RelV v u->t o i v H Q ->
  wpAny (model X.prog X.w) X.A (setItem ov iv u) (λ_ s'=>∃ H',Inv X pins O H' s'/\Q H') X.xe s
section
variable{X:Cx}{pos:Pos}
def d7(i:Nat):TG:=λv O H Q=>Q (O.set i (some v)) H
theorem cT{i:Nat}{x:Str}(hN:X.N.Nodup)(hi:X.N[i]?=some x)(hx:Loc X.env.scope x)(hf:VN X x:=by first | exact .inl U | exact .inr U | assumption):PG X (.Name x pos) (d7 i):=by
 intro pins s O H v u Q I r h
 exact wpAny_assign_Name (kD I hN hi hx r (λs' I'=>⟨_,H,I',h⟩) hf)
def MS:C8:=λvs O H Q=>vs=[]/\Q O H
def LR(t:TG)(u:C8):C8:=λvs O H Q=>∃ v r,vs=v::r/\t v O H λO' H'=>u r O' H' Q
theorem DR:Es X [] MS:=by
 intro pins s O H vs us Q I r h
 obtain⟨e,h⟩:=h
 subst e
 cases r
 exact assignInOrder_nil ⟨O,H,I,h⟩
theorem Bl{e:Expr}{es:List Expr}{t:TG}{u:C8}(h1:PG X e t)(h2:Es X es u)(hs:(assignEach (e::es) X.env).map (·.2)=assign e X.env::(assignEach es X.env).map (·.2):=by rfl):Es X (e::es) (LR t u):=by
 intro pins s O H vs us Q I r h
 obtain⟨v,vr,e1,h⟩:=h
 subst e1
 cases r with
 | cons r rr =>
  rw[hs]
  refine assignInOrder_cons (b8 (h1 pins s O H _ _ _ I r h) λ_ s1 ⟨O1,H1,I1,q1⟩=>?_)
  exact h2 pins s1 O1 H1 _ _ Q I1 rr q1
def NI(K:Frag)(n:Nat)(t:C8):TG:=λv O H Q=>∃ a xs,v=.ref a/\hV K H a xs/\xs.length=n/\t xs O H Q
theorem F7{es:List Expr}{k:Nat}{t:C8}{n:Nat}(hc:X.calm=true)(h:Es X es t)(hn:(assignEach es X.env).length=n:=by rfl)(qM:(assignEach es X.env).findIdx? (·.1)=none:=by rfl):PG X (.Tuple es k pos) (NI X.K n t):=by
 intro pins s O H v u Q I r hw
 obtain⟨a,xs,e1,hq,hl,hw⟩:=hw
 subst e1
 cases r
 obtain⟨its,rv,ht,hz⟩:=I.tuple hq
 refine assign_Tuple_tuple (I.ok.hd hc) ht (by simp[hn,<- hl,rv.length]) qM λh' hx=>?_
 have I1:Inv X pins O H { s with heap:=h' }:=I.kept (t':=s.toks) λb o e=>hx b o (TQ (Tz e)) e
 exact h pins _ O H xs _ Q I1 (by simpa using rv) hw
def KW(to ti:TE)(t:HD):TG:=λv O H Q=>to O H λo H1=>ti O H1 λi H2=>t o i v H2 λH3=>Q O H3
theorem GC{o i:Expr}{to ti:TE}{t:HD}(ho:PE X o to)(hi:PE X i ti)(hs:LJ X t)(ha:∀ v,assign (.Subscript o i pos) X.env v=(do
   let ov <- holding [v] (eval o X.env)
   let iv <- holding [v,ov] (eval i X.env)
   standAt pos
   holding [v,ov,iv] (setItem ov iv v)
   release [v,ov,iv] []):=by intro _;rfl):PG X (.Subscript o i pos) (KW to ti t):=by
 intro pins s O H v u Q I r h
 rw[ha]
 refine wpAny_bind (wpAny_holding (b8 (ho pins s O H _ I h) λov s1 z1q=>?_))
 obtain⟨x,H1,I1,r1,q1⟩:=z1q
 refine wpAny_bind (wpAny_holding (b8 (hi pins s1 O H1 _ I1 q1) λiv s2 z2q=>?_))
 obtain⟨y,H2,I2,r2,q2⟩:=z2q
 refine wpAny_bind (wpAny_standAt (wpAny_bind (wpAny_holding (b8 (hs pins s2 O H2 x y v ov iv u _ I2 r1 r2 r q2) λ_ s3 z3q=>?_))))
 obtain⟨H3,I3,q3⟩:=z3q
 exact wpAny_release ⟨O,H3,I3,q3⟩
def jO(te:TE)(g:TG):TS:=λD O H=>te O H λx H1=>g x O H1 D.nx
theorem BS{tg e:Expr}{te:TE}{g:TG}(he:PE X e te)(hg:PG X tg g)(hs:swapsWithSole [tg] e pos.line X.env=pure false:=by rfl)(hw:swappedStores [tg] e X.env=pure none:=by rfl)(h1:(assignEach [tg] X.env).map (·.2)=[assign tg X.env]:=by rfl):PS X (.Assign [tg] e pos) (jO te g):=by
 intro pins s O H D I h
 refine wpAny_Assign_stores (b8 (he pins s O H _ I h) λv s1 zz=>el2 zz λx H1 I1 r1 q1=>?_) hs hw
 rw[h1]
 exact b8 (hg pins s1 O H1 x v _ I1 r1 q1) λ_ s2 q=>q
theorem f7{i:Nat}{x:Str}{e:Expr}{te:TE}{pos':Pos}(hN:X.N.Nodup)(hi:X.N[i]?=some x)(hx:Loc X.env.scope x)(he:PE X e te)(hs:swapsWith e (some (.Name x pos')) pos.line X.env=pure false:=by rfl)(hf:VN X x:=by first | exact .inl U | exact .inr U | assumption) :
  PS X (.Assign [.Name x pos'] e pos) (jO te (d7 i)):=by
 intro pins s O H D I h
 refine wpAny_Assign_Name (b8 (he pins s O H _ I h) λv s1 zz=>el2 zz λy H1 I1 r1 q1=>?_) hs
 exact kD I1 hN hi hx r1 (λs2 I2=>⟨_,H1,I2,q1⟩) hf
def BE(c:TT)(tb:TS):TS:=λD O H=>∃ W:Nat->St->Hp->Prop,(∃ m,W m O H)/\∀ m O H,W m O H ->
 c O H λb H1=>if b=true then ∃ N:St->Hp->Prop,(∀ O' H',N O' H'->∃ m',m' < m/\W m' O' H')/\tb { D with nx:=N,ct:=N,bk:=D.nx } O H1 else D.nx O H1
theorem tZ{c:Expr}{body:List Stmt}{tc:TT}{tb:TS}(hp:PassesOwn (model X.prog X.w) X.A X.env X.xe)(hc:PT X c tc)(hb:nz X body tb):PS X (.While c body [] pos) (BE tc tb):=by
 intro pins s O H D I h
 obtain⟨W,⟨m0,w0⟩,turn⟩:=h
 refine wpAny_While (codeAny_whileLoop (λn s'=>∃ O' H',Inv X pins O' H' s'/\W n O' H') ?_ m0 ⟨O,H,I,w0⟩)
 rintro n s1 ⟨O1,H1,I1,w1⟩
 refine wpAny_passesOwn hp (b8 (hc pins s1 O1 H1 _ I1 (turn n O1 H1 w1)) λb s2 z4q=>?_)
 obtain⟨H2,I2,q2⟩:=z4q
 cases b with
 | true =>
  obtain⟨N,hN,q2⟩:=q2
  rw[if_pos U]
  refine wpAny_passesOwn hp (b8 (hb pins s2 O1 H2 _ I2 q2) λf s3 q3=>?_)
  cases f with
  | next =>
   obtain⟨O3,H3,I3,n3⟩:=q3
   obtain⟨m',hm,w3⟩:=hN O3 H3 n3
   exact⟨m',hm,O3,H3,I3,w3⟩
  | cont =>
   obtain⟨O3,H3,I3,n3⟩:=q3
   obtain⟨m',hm,w3⟩:=hN O3 H3 n3
   exact⟨m',hm,O3,H3,I3,w3⟩
  | brk=>exact q3
  | ret v=>exact q3
 | false =>
  rw[if_neg TF]
  exact wpAny_execs_nil ⟨O1,H2,I2,q2⟩
end
structure It where
 go:Nat->Hp->Prop
 Lj:Nat->Hp->V->Hp->Prop
 stop:Nat->Hp->Prop
def fz(X:Cx)(pins:VH)(H:Hp)(b:Addr):Prop :=
 H b=none/\b≠X.env.locals/\b∉X.fs/\(b∈X.ex\/X.s₀.heap.objs.size<=b)/\(∀ x c,X.env.cells.lookup x=some c->c≠b)/\∀ p∈X.pn++pins,p.1≠b
theorem Inv.pq{X:Cx}{pins:VH}{O:St}{H H':Hp}{s:Shared}{b:Addr}(I:Inv X pins O H s)(hb:s.heap.objs.size<=b)(hn:H' b=none):fz X pins H' b:=by
 refine⟨hn,UO (TN I.lt hb),I.IH hb,.inr (TU I.sz hb),λx c e z=>?_,λp hp z=>?_⟩
 ·obtain⟨v,q⟩:=I.cell x c e
  exact absurd (TN q.lt (by rw[z];exact hb)) (UR _)
 ·exact absurd (TN (Tz (I.pin p hp).1) (by rw[z];exact hb)) (UR _)
structure Turn(P:Program)(w:World)(K:Frag)(tg:Expr)(J:It)(fp:List Addr)(it:Addr)(tn:Nat->Heap->Prop):Prop where
 mem:it∈fp
 obj:∀ i h,tn i h->∀ b∈fp,∃ o,h.get? b=some o/\∀ v,o.data≠.cell v
 keep:∀ i h h',tn i h->(∀ b∈fp,∀ o,h.get? b=some o->h'.get? b=some o)->tn i h'
 item:∀ (X:Cx),X.prog=P->X.w=w->X.K=K->X.calm=true->∀ (i:Nat) (pins:VH) (s:Shared) (O:St) (H:Hp) (E:VG),Inv X pins O H s->(∀ b∈fp,fz X pins H b)->tn i s.heap->J.go i H ->
  wpAny (model P w) X.A (pyNext (.ref it)) (λr s1=>∃ u,r=some u /\
   wpAny (model P w) X.A (letOwnedTupleGo tg (.ref it) u) (λ_ s2=>∃ x H',Inv X pins O H' s2/\RelV x u/\J.Lj i H x H'/\tn (i+1) s2.heap/\∀ b∈fp,H' b=none) E s1) E s
 done:∀ (X:Cx),X.prog=P->X.w=w->X.K=K->X.calm=true->∀ (i:Nat) (pins:VH) (s:Shared) (O:St) (H:Hp) (E:VG),Inv X pins O H s->(∀ b∈fp,fz X pins H b)->tn i s.heap->J.stop i H ->
  wpAny (model P w) X.A (pyNext (.ref it)) (λr s1=>r=none/\Inv X pins O H s1) E s
 self:∀ (A:Around) (i:Nat) (s:Shared) (Q:VG) (E:VG),tn i s.heap->Q (.ref it) s->wpAny (model P w) A (pyIter (.ref it)) Q E s
abbrev TI:=St->Hp->(It->Hp->Prop)->Prop
def Pz(X:Cx)(pins:VH)(O:St)(tg:Expr)(R:It->Hp->Prop)(LZ:Value)(s2:Shared):Prop :=
 ∃ (it:Addr) (fp:List Addr) (tn:Nat->Heap->Prop) (J:It) (H':Hp),LZ=.ref it/\Inv X pins O H' s2/\Turn X.prog X.w X.K tg J fp it tn/\tn 0 s2.heap/\(∀ b∈fp,fz X pins H' b)/\R J H'
def PI(X:Cx)(tg iter:Expr)(wi:TI):Prop :=
 ∀ (pins:VH) (s:Shared) (O:St) (H:Hp) (R:It->Hp->Prop),Inv X pins O H s->wi O H R ->
  wpAny (model X.prog X.w) X.A (eval iter X.env) (λv s1=>wpAny (model X.prog X.w) X.A (pyIter v) (Pz X pins O tg R) X.xe s1) X.xe s
theorem AO{M:Model}{A:Around}{E:VG}{s:Shared}{tg:Expr}{it:Addr}{u:Value}{o:Obj}{n:String}{vs:Array Value}{Q:Unit->Shared->Prop}(ho:s.heap.get? it=some o)(hc:o.cls=.type n)(hd:o.data=.fields vs)(hn:["enumerate","zip","dict_itemiterator","dict_reverseitemiterator","odict_iterator","itertools.zip_longest","itertools.pairwise"].contains n=false)(hQ:Q () s):wpAny M A (letOwnedTupleGo tg (.ref it) u) Q E s:=by
 unfold letOwnedTupleGo
 cases tg<;>first
  | exact wpAny_pure hQ
  | (cases u<;>first
    | exact wpAny_pure hQ
    | (refine wpAny_bind (wpAny_load ho ?_)
       rw[hc,hd]
       show wpAny M A (if (["enumerate","zip","dict_itemiterator","dict_reverseitemiterator","odict_iterator","itertools.zip_longest","itertools.pairwise"].contains n&&vs[0]? == some (rawInt _))=true then _ else _) Q E s
       rw[if_neg (by intro h;rw[hn,Bool.false_and] at h;cases h)]
       exact wpAny_pure hQ))
def HA(K:Frag)(a:Addr):It :=
 ⟨λi H=>∃ xs x,d5 K H a xs/\xs[i]?=some x,λi H x H'=>H'=H/\∀ xs,d5 K H a xs->xs[i]?=some x,λi H=>∃ xs,d5 K H a xs/\xs.length<=i⟩
def Pl(K:Frag)(a:Addr):It :=
 ⟨λi H=>∃ xs x,hV K H a xs/\xs[i]?=some x,λi H x H'=>H'=H/\∀ xs,hV K H a xs->xs[i]?=some x,λi H=>∃ xs,hV K H a xs/\xs.length<=i⟩
def L9(lo:Int)(n:Nat):It:=⟨λi _=>i < n,λi H x H'=>H'=H/\x=.int (lo+i),λi _=>n<=i⟩
theorem p9{P:Program}{w:World}{K:Frag}{tg:Expr}(a it:Addr):Turn P w K tg (HA K a) [it] it (λi h=>h.IsListIter it a i) where
 mem:=by simp
 obj:=λi h st b hb=>by
  have e:b=it:=by simpa using hb
  subst e
  obtain⟨o,e,c,d⟩:=st
  exact⟨o,e,λv z=>by rw[d] at z;cases z⟩
 keep:=λi h h' st k=>st.at λo e=>k it (by simp) o e
 item:=by
  intro X hP hw hK hc i pins s O H E I hf st hg
  subst hP hw hK
  obtain⟨xs,x,hq,hx⟩:=hg
  obtain⟨its,rv,p,hz⟩:=I.list hq
  obtain⟨u,hu,ru⟩:=rv.get hx
  obtain⟨f0,f1,f2,f3,f4,f5⟩:=hf it (by simp)
  refine wpAny_pyNext_list_item st p.isList (x:=u) (by simpa using hu) λh' st' sb=>?_
  have I1:Inv X pins O H { s with heap:=h' }:=I.turned (t':=s.toks) (λb o hb e=>(sb.2 b hb).trans e) f0 f1 f3 f4 f5
  obtain⟨o,e,c,d⟩:=id st'
  exact⟨u,U,AO (s:={ s with heap:=h' }) e c d (by decide) ⟨x,H,I1,ru,⟨U,λys hy=>by rw[I.tP hy hq];exact hx⟩,st',λb hb=>(hf b hb).1⟩⟩
 done:=by
  intro X hP hw hK hc i pins s O H E I hf st hg
  subst hP hw hK
  obtain⟨xs,hq,hx⟩:=hg
  obtain⟨its,rv,p,hz⟩:=I.list hq
  obtain⟨f0,f1,f2,f3,f4,f5⟩:=hf it (by simp)
  have hl:=rv.length
  exact wpAny_pyNext_list_end (I.ok.hd hc) st p.isList (by simp;omega) λh' eb=>⟨U,I.turned (t':=s.toks) (λb o hb e=>eb b o hb e) f0 f1 f3 f4 f5⟩
 self:=λ_ _ _ _ _ st h=>wpAny_pyIter_listiter st h
theorem wu{P:Program}{w:World}{K:Frag}{tg:Expr}(a it:Addr):Turn P w K tg (Pl K a) [it] it (λi h=>h.IsTupleIter it a i) where
 mem:=by simp
 obj:=λi h st b hb=>by
  have e:b=it:=by simpa using hb
  subst e
  obtain⟨o,e,c,d⟩:=st
  exact⟨o,e,λv z=>by rw[d] at z;cases z⟩
 keep:=λi h h' st k=>st.at λo e=>k it (by simp) o e
 item:=by
  intro X hP hw hK hc i pins s O H E I hf st hg
  subst hP hw hK
  obtain⟨xs,x,hq,hx⟩:=hg
  obtain⟨its,rv,p,hz⟩:=I.tuple hq
  obtain⟨u,hu,ru⟩:=rv.get hx
  obtain⟨f0,f1,f2,f3,f4,f5⟩:=hf it (by simp)
  refine wpAny_pyNext_tuple_item st (show s.heap.IsTuple a its.toArray from p) (x:=u) (by simpa using hu) λh' st' sb=>?_
  have I1:Inv X pins O H { s with heap:=h' }:=I.turned (t':=s.toks) (λb o hb e=>(sb.2 b hb).trans e) f0 f1 f3 f4 f5
  obtain⟨o,e,c,d⟩:=id st'
  exact⟨u,U,AO (s:={ s with heap:=h' }) e c d (by decide) ⟨x,H,I1,ru,⟨U,λys hy=>by rw[I.lM hy hq];exact hx⟩,st',λb hb=>(hf b hb).1⟩⟩
 done:=by
  intro X hP hw hK hc i pins s O H E I hf st hg
  subst hP hw hK
  obtain⟨xs,hq,hx⟩:=hg
  obtain⟨its,rv,p,hz⟩:=I.tuple hq
  obtain⟨f0,f1,f2,f3,f4,f5⟩:=hf it (by simp)
  have hl:=rv.length
  exact wpAny_pyNext_tuple_end (I.ok.hd hc) st (show s.heap.IsTuple a its.toArray from p) (by simp;omega) λh' eb=>⟨U,I.turned (t':=s.toks) (λb o hb e=>eb b o hb e) f0 f1 f3 f4 f5⟩
 self:=λ_ _ _ _ _ st h=>wpAny_pyIter_tupleiter st h
theorem vO{P:Program}{w:World}{K:Frag}{tg:Expr}(it:Addr)(lo:Int)(n:Nat):Turn P w K tg (L9 lo n) [it] it (λi h=>IsRangeIter h it (lo+(i:Nat) * 1) ((n:Int) - (i:Nat)) 1) where
 mem:=by simp
 obj:=λi h st b hb=>by
  have e:b=it:=by simpa using hb
  subst e
  exact⟨_,st,λv z=>by
   have z':Data.fields _=Data.cell v:=z
   cases z'⟩
 keep:=λi h h' st k=>k it (by simp) _ st
 item:=by
  intro X hP hw hK hc i pins s O H E I hf st hg
  subst hP hw hK
  obtain⟨f0,f1,f2,f3,f4,f5⟩:=hf it (by simp)
  have W:=Walks.range (prog:=X.prog) (w:=X.w) (I.ok.hd hc) it lo 1 n
  refine W.item i s _ _ hg st λv h' tk hv st' kk=>?_
  obtain⟨t,rfl⟩:=hv
  have I1:Inv X pins O H { s with heap:=h',toks:=tk }:=I.turned (λb o hb e=>kk b o (by simpa using hb) e) f0 f1 f3 f4 f5
  refine⟨_,U,AO (s:={ s with heap:=h',toks:=tk }) (n:="range_iterator") st' U U (by decide) ⟨.int (lo+i),H,I1,⟨t,?_⟩,⟨U,U⟩,st',λb hb=>(hf b hb).1⟩⟩
  rw[Int.mul_one]
 done:=by
  intro X hP hw hK hc i pins s O H E I hf st hg
  subst hP hw hK
  obtain⟨f0,f1,f2,f3,f4,f5⟩:=hf it (by simp)
  exact wpAny_pyNext_range_end (I.ok.hd hc) st (by have:n<=i:=hg;omega) λh' eb=>⟨U,I.turned (t':=s.toks) (λb o hb e=>eb b o hb e) f0 f1 f3 f4 f5⟩
 self:=λ_ _ _ _ _ st h=>wpAny_pyIter_rangeiter st h
section
variable{X:Cx}{tg:Expr}
def xO(K:Frag)(tl:TE):TI:=λO H R=>tl O H λx H1=>∃ a,x=.ref a/\(∃ xs,d5 K H1 a xs)/\R (HA K a) H1
theorem rQ{l:Expr}{tl:TE}(hl:PE X l tl):PI X tg l (xO X.K tl):=by
 intro pins s O H R I h
 refine b8 (hl pins s O H _ I h) λv s1 z5q=>?_
 obtain⟨x,H1,I1,r1,q1⟩:=z5q
 obtain⟨a,e,⟨xs,hq⟩,q⟩:=q1
 subst e
 cases r1
 obtain⟨its,rv,p,hz⟩:=I1.list hq
 refine wpAny_pyIter_list p.isList ?_
 refine⟨s1.heap.objs.size,[s1.heap.objs.size],_,_,H1,U,I1.kept (t':=s1.toks) λb o e=>Ts _ e,p9 a _,⟨_,TK _ U,U,U⟩,λb hb=>?_,q⟩
 have e:b=s1.heap.objs.size:=by simpa using hb
 subst e
 exact I1.pq (TB _) (I1.aL.fresh (TB _))
theorem Aa{pins:VH}{O:St}{H:Hp}{s:Shared}{R:It->Hp->Prop}{E:VG}{lo hi:Int}{t u v:Tok}{tk:Nat}(I:Inv X pins O H s)(h1:-(2 ^ 62)<=lo)(h2:lo < 2 ^ 62)(h3:-(2 ^ 62)<=hi)(h4:hi < 2 ^ 62)(q:R (L9 lo (hi - lo).toNat) H):wpAny (model X.prog X.w) X.A (pyIter (.ref s.heap.objs.size)) (Pz X pins O tg R) E { s with heap:=s.heap.push { cls:=.type "range",data:=.fields #[.int lo t,.int hi u,.int 1 v] },toks:=tk }:=by
 refine wpAny_pyIter_range (IsRange.new ..) (small_one h1 h2 h3 h4) ?_
 have I1:Inv X pins O H { s with heap:=s.heap.push { cls:=.type "range",data:=.fields #[.int lo t,.int hi u,.int 1 v] },toks:=tk }:=I.kept λb o e=>Ts _ e
 refine⟨(s.heap.push { cls:=.type "range",data:=.fields #[.int lo t,.int hi u,.int 1 v] }).objs.size,[(s.heap.push { cls:=.type "range",data:=.fields #[.int lo t,.int hi u,.int 1 v] }).objs.size],_,_,H,U,
  I1.kept (t':=tk) λb o e=>Ts _ e,vO _ lo (hi - lo).toNat,?_,λb hb=>?_,q⟩
 ·have e1:lo+((0:Nat):Int) * 1=lo:=by simp
  have e2:(((hi - lo).toNat:Nat):Int) - ((0:Nat):Int)=Builtin.Range.rangeSize lo hi 1:=by rw[rangeSize_one];split<;>omega
  show IsRangeIter _ _ (lo+((0:Nat):Int) * 1) ((((hi - lo).toNat:Nat):Int) - ((0:Nat):Int)) 1
  rw[e1,e2]
  exact TK _ U
 ·have e:b=(s.heap.push { cls:=.type "range",data:=.fields #[.int lo t,.int hi u,.int 1 v] }).objs.size:=by simpa using hb
  subst e
  exact I1.pq (TB _) (I1.aL.fresh (TB _))
def Ko(ta:TA):TI:=λO H R=>ta O H λvs H1=>∃ j:Int,vs=[.int j]/\-(2 ^ 62)<=j/\j < 2 ^ 62/\R (L9 0 j.toNat) H1
theorem yx{a:Expr}{ta:TA}{p pos:Pos}(hg:Gl X "range")(hm:X.mg "range"=none)(ha:PA X [a] ta)(hs:starEach [a] X.env=[(false,eval a X.env)]:=by rfl):PI X tg (.Call (.Name "range" p) [a] [] pos) (Ko ta):=by
 intro pins s O H R I h
 refine Call_ (gT I hg hm boot_range (PyProof.Rows.callWith_type1 (b8 (ha pos pins s O H _ I h) λus s1 zz=>el2 zz λvs H1 I1 r1 q1=>?_) hs U))
 obtain⟨j,e,q1,q2,q⟩:=q1
 subst e
 cases r1 with
 | cons r rr =>
  cases rr
  obtain⟨t,rfl⟩:=r
  exact call_range_1 (Aa I1 (by omega) (by omega) q1 q2 (by simpa using q))
def La(wi:TI)(g:TG)(tb:TS):TS:=λD O H=>wi O H λJ H1=>∃ W:Nat->Nat->St->Hp->Prop,(∃ m,W 0 m O H1)/\∀ i m O H,W i m O H ->
 (J.stop i H/\D.nx O H)\/(J.go i H/\∃ N:St->Hp->Prop,(∀ O' H',N O' H'->∃ m',m' < m/\W (i+1) m' O' H')/\∀ x H',J.Lj i H x H'->g x O H' λO2 H2=>tb { D with nx:=N,ct:=N,bk:=D.nx } O2 H2)
def nY(fp:List Addr)(h:Heap):VH:=fp.filterMap λb=>(h.get? b).map λo=>(b,o)
theorem iG{fp:List Addr}{h:Heap}{b:Addr}{o:Obj}(hb:b∈fp)(e:h.get? b=some o):(b,o)∈nY fp h:=List.mem_filterMap.mpr ⟨b,hb,by rw[e];rfl⟩
theorem yd{fp:List Addr}{h:Heap}{p:Addr×Obj}(hp:p∈nY fp h):p.1∈fp/\h.get? p.1=some p.2:=by
 obtain⟨b,hb,e⟩:=List.mem_filterMap.mp hp
 cases q:h.get? b with
 | none=>rw[q] at e;cases e
 | some o =>
  rw[q] at e
  have e':(b,o)=p:=Ue e
  subst e'
  exact⟨hb,q⟩
theorem Inv.pinned{pins:VH}{O:St}{H:Hp}{s:Shared}{fp:List Addr}(I:Inv X pins O H s)(hf:∀ b∈fp,fz X pins H b)(ho:∀ b∈fp,∃ o,s.heap.get? b=some o/\∀ v,o.data≠.cell v):Inv X (pins++nY fp s.heap) O H s :=
 I.xU λp hp=>(TY.mp hp).elim (λz=>I.pin p (Ub _ z)) λz=>by
  obtain⟨hb,e⟩:=yd z
  obtain⟨f0,f1,f2,_⟩:=hf p.1 hb
  obtain⟨o,e',d⟩:=ho p.1 hb
  rw[e] at e';cases e'
  exact⟨e,f0,f1,f2,d⟩
theorem Inv.k9{pins pl:VH}{O:St}{H:Hp}{s:Shared}(I:Inv X (pins++pl) O H s):Inv X pins O H s:=I.xU λp hp=>I.pin p (Ub _ (Ui _ hp))
abbrev VO (i:Expr)(N:Env):Prop:=∀ x,foldedSetIterable i N x=pure x
theorem B2{iter:Expr}{body:List Stmt}{wi:TI}{g:TG}{tb:TS}{pos:Pos}(hp:PassesOwn (model X.prog X.w) X.A X.env X.xe)(hc:X.calm=true)(hi:PI X tg iter wi)(hg:PG X tg g)(hb:nz X body tb)(hs:VO iter X.env:=by intro _;rfl):PS X (.For tg iter body [] pos) (La wi g tb):=by
 intro pins s O H D I h
 refine wpAny_For (b8 (hi pins s O H _ I h) λv s1 h1=>b8 h1 λLZ s2 h2=>?_) hs
 obtain⟨it,fp,tn,J,H2,e,I2,T,E8,f2,W,⟨m0,w0⟩,turn⟩:=h2
 subst e
 -- what stays true of the iterator's objects through the loop
 have stat:∀ {H':Hp},(∀ b∈fp,H' b=none)->∀ b∈fp,fz X pins H' b:=λhn b hb=>⟨hn b hb,(f2 b hb).2⟩
 refine codeAny_forLoop_any (λn s'=>∃ i O' H',Inv X pins O' H' s'/\tn i s'.heap/\(∀ b∈fp,H' b=none)/\W i n O' H') ?_ m0 ⟨0,O,H2,I2,E8,λb hb=>(f2 b hb).1,w0⟩
 rintro n s3 ⟨i,O3,H3,I3,st3,fr3,w3⟩
 rcases turn i n O3 H3 w3 with ⟨stop,qn⟩ | ⟨go,N,hN,step⟩
 ·refine wpAny_passesOwn hp (b8 (T.done X U U U hc i pins s3 O3 H3 X.xe I3 (stat fr3) st3 stop) λr s4 z6q=>?_)
  obtain⟨hr,I4⟩:=z6q
  subst hr
  exact wpAny_execs_nil ⟨O3,H3,I4,qn⟩
 ·refine wpAny_passesOwn hp (b8 (T.item X U U U hc i pins s3 O3 H3 X.xe I3 (stat fr3) st3 go) λr s4 z7q=>?_)
  obtain⟨u,hr,h4⟩:=z7q
  subst hr
  refine wpAny_passesOwn hp (b8 h4 λ_ s5 z8q=>?_)
  obtain⟨x,H5,I5,r5,y5,st5,fr5⟩:=z8q
  have I5':=I5.pinned (stat fr5) (T.obj _ _ st5)
  refine wpAny_passesOwn hp (b8 (hg _ s5 O3 H5 x u _ I5' r5 (step x H5 y5)) λ_ s6 z9q=>?_)
  obtain⟨O6,H6,I6,q6⟩:=z9q
  refine wpAny_passesOwn hp (b8 (hb _ s6 O6 H6 _ I6 q6) λf s7 q7=>?_)
  have again:∀ {O7:St} {H7:Hp},Inv X (pins++nY fp s5.heap) O7 H7 s7->N O7 H7->∃ m,m < n/\∃ i O' H',Inv X pins O' H' s7/\tn i s7.heap/\(∀ b∈fp,H' b=none)/\W i m O' H':=λ{O7 H7} I7 n7=>by
   obtain⟨m',hm,w7⟩:=hN O7 H7 n7
   refine⟨m',hm,i+1,O7,H7,I7.k9,T.keep _ _ _ st5 λb hb o e=>(I7.pin (b,o) (Ub _ (Ub _ (iG hb e)))).1,λb hb=>?_,w7⟩
   obtain⟨o,e,d⟩:=T.obj _ _ st5 b hb
   exact (I7.pin (b,o) (Ub _ (Ub _ (iG hb e)))).2.1
  cases f with
  | next=>obtain⟨O7,H7,I7,n7⟩:=q7;exact again I7 n7
  | cont=>obtain⟨O7,H7,I7,n7⟩:=q7;exact again I7 n7
  | brk=>obtain⟨O7,H7,I7,q7⟩:=q7;exact⟨O7,H7,I7.k9,q7⟩
  | ret v=>obtain⟨x7,O7,H7,I7,r7,q7⟩:=q7;exact⟨x7,O7,H7,I7.k9,r7,q7⟩
end
theorem AH{K:Frag}{a:Addr}{xs:List V}{g:TG}{tb:TS}{D:Ends}{O:St}{H:Hp}(Pv:Nat->St->Hp->Prop)(h0:Pv 0 O H)(hl:∀ i O H,i<=xs.length->Pv i O H->d5 K H a xs)(hs:∀ i x O H,xs[i]?=some x->Pv i O H->g x O H λO2 H2=>tb { D with nx:=Pv (i+1),ct:=Pv (i+1),bk:=D.nx } O2 H2)(hd:∀ O H,Pv xs.length O H->D.nx O H) :
  ∃ W:Nat->Nat->St->Hp->Prop,(∃ m,W 0 m O H)/\∀ i m O H,W i m O H ->
   ((HA K a).stop i H/\D.nx O H)\/((HA K a).go i H/\∃ N:St->Hp->Prop,(∀ O' H',N O' H'->∃ m',m' < m/\W (i+1) m' O' H')/\∀ x H',(HA K a).Lj i H x H'->g x O H' λO2 H2=>tb { D with nx:=N,ct:=N,bk:=D.nx } O2 H2):=by
 refine⟨λi m O H=>m=xs.length - i/\i<=xs.length/\Pv i O H,⟨xs.length,by simp,Nat.zero_le _,h0⟩,?_⟩
 rintro i m O H ⟨rfl,hi,p⟩
 have q:=hl i O H hi p
 by_cases iQ:i < xs.length
 ·refine .inr ⟨⟨xs,xs[i],q,by simp[iQ]⟩,Pv (i+1),λO' H' p'=>⟨xs.length - (i+1),by omega,U,iQ,p'⟩,λx H' y=>?_⟩
  obtain⟨e,y⟩:=y
  subst e
  exact hs i x O _ (y xs q) p
 ·have e:i=xs.length:=by omega
  subst e
  exact .inl ⟨⟨xs,q,TB _⟩,hd O H p⟩
abbrev R2:=V->V->Hp->VK->Prop
def iV(X:Cx)(f:Value->Value->Sem Value)(r:R2):Prop :=
 ∀ (pins:VH) (s:Shared) (O:St) (H:Hp) (x y:V) (v u:Value) (Q:VK),Inv X pins O H s->RelV x v->RelV y u->r x y H Q ->
  wpAny (model X.prog X.w) X.A (f v u) (EP X pins O Q) X.xe s
def NJ(X:Cx)(f:Value->Sem Value)(r:V->Hp->VK->Prop):Prop :=
 ∀ (pins:VH) (s:Shared) (O:St) (H:Hp) (x:V) (v:Value) (Q:VK),Inv X pins O H s->RelV x v->r x H Q ->
  wpAny (model X.prog X.w) X.A (f v) (EP X pins O Q) X.xe s
def fq(X:Cx)(f:Value)(r:List V->Hp->VK->Prop):Prop :=
 ∀ (pins:VH) (s:Shared) (O:St) (H:Hp) (xs:List V) (us:List Value) (Q:VK),Inv X pins O H s->Vals xs us->r xs H Q ->
  wpAny (model X.prog X.w) X.A (call f us) (EP X pins O Q) X.xe s
def Oh(X:Cx)(r:V->Hp->(Bool->Hp->Prop)->Prop):Prop :=
 ∀ (pins:VH) (s:Shared) (O:St) (H:Hp) (x:V) (v:Value) (Q:Bool->Hp->Prop),Inv X pins O H s->RelV x v->r x H Q ->
  wpAny (model X.prog X.w) X.A (truthy v) (TP X pins O Q) X.xe s
def jg(r:R2)(ta tb:TE):TE:=λO H Q=>ta O H λx H1=>tb O H1 λy H2=>r x y H2 Q
def RG(r:V->Hp->VK->Prop)(ta:TE):TE:=λO H Q=>ta O H λx H1=>r x H1 Q
def rI(C:Int->Int->Prop)(g:Int->Int->V):R2:=λx y H Q=>∃ i j,x=.int i/\y=.int j/\C i j/\Q (g i j) H
def sU(g:Int->Int->V):R2:=λx y H Q=>∃ i j,x=.int i/\y=.int j/\Q (g i j) H
def rU(g:Int->V):V->Hp->VK->Prop:=λx H Q=>∃ i,x=.int i/\Q (g i) H
section
variable{X:Cx}{a b c:Expr}{ta tb tc:TE}{pos:Pos}
theorem Fq(ha:PE X a ta)(hb:PE X b tb){pins:VH}{s:Shared}{O:St}{H:Hp}{R:V->V->Hp->Prop}(I:Inv X pins O H s)(h:ta O H λx H1=>tb O H1 λy H2=>R x y H2){Q:VG}{f:Value->Value->Sem Value}(hf:∀ v u s2 x y H2,Inv X pins O H2 s2->RelV x v->RelV y u->R x y H2->wpAny (model X.prog X.w) X.A (f v u) Q X.xe s2) :
  wpAny (model X.prog X.w) X.A (eval a X.env) (λv s₁=>wpAny (model X.prog X.w) X.A (eval b X.env) (λu s₂=>wpAny (model X.prog X.w) X.A (f v u) Q X.xe s₂) X.xe s₁) X.xe s:=by
 refine b8 (ha pins s O H _ I h) λv s1 zz=>el2 zz λx H1 I1 r1 q1=>?_
 refine b8 (hb pins s1 O H1 _ I1 q1) λu s2 zz=>el2 zz λy H2 I2 r2 q2=>?_
 exact hf v u s2 x y H2 I2 r1 r2 q2
theorem c8{op:Operator}{r:R2}(ho:iV X (binaryOp op) r)(ha:PE X a ta)(hb:PE X b tb):PE X (.BinOp a op b pos) (jg r ta tb):=by
 intro pins s O H Q I h
 exact wpAny_BinOp (Fq ha hb I h λv u s2 x y H2 I2 rx ry q=>ho pins s2 O H2 x y v u Q I2 rx ry q)
theorem Lo{op:UnaryOp}{r:V->Hp->VK->Prop}(ho:NJ X (unaryOp op) r)(ha:PE X a ta):PE X (.UnaryOp op a pos) (RG r ta):=by
 intro pins s O H Q I h
 exact UnaryOp_ (b8 (ha pins s O H _ I h) λv s1 zz=>el2 zz λx H1 I1 r1 q1=>ho pins s1 O H1 x v Q I1 r1 q1)
theorem Mr{f:Value->Value->Sem Value}{C:Int->Int->Prop}{g:Int->Int->Int}(rule:∀ (i j:Int) (t u:Tok) (s:Shared) (Q:VG) (E:VG),C i j->Q (.int (g i j) s.toks) { s with toks:=s.toks+1 }->wpAny (model X.prog X.w) X.A (f (.int i t) (.int j u)) Q E s) :
  iV X f (rI C λi j=>.int (g i j)):=by
 intro pins s O H x y v u Q I rx ry h
 obtain⟨i,j,rfl,rfl,hc,q⟩:=h
 obtain⟨t,rfl⟩:=rx
 obtain⟨t',rfl⟩:=ry
 exact rule i j t t' s _ _ hc ⟨.int (g i j),H,I.tok _,⟨_,U⟩,q⟩
theorem Lg{f:Value->Value->Sem Value}{g:Int->Int->Int}(rule:∀ (i j:Int) (t u:Tok) (s:Shared) (Q:VG) (E:VG),Q (.int (g i j) s.toks) { s with toks:=s.toks+1 }->wpAny (model X.prog X.w) X.A (f (.int i t) (.int j u)) Q E s) :
  iV X f (sU λi j=>.int (g i j)):=by
 intro pins s O H x y v u Q I rx ry h
 obtain⟨i,j,rfl,rfl,q⟩:=h
 obtain⟨t,rfl⟩:=rx
 obtain⟨t',rfl⟩:=ry
 exact rule i j t t' s _ _ ⟨.int (g i j),H,I.tok _,⟨_,U⟩,q⟩
theorem Hx{f:Value->Value->Sem Value}{g:Int->Int->Bool}(rule:∀ (i j:Int) (t u:Tok) (s:Shared) (Q:VG) (E:VG),Q (.bool (g i j)) s->wpAny (model X.prog X.w) X.A (f (.int i t) (.int j u)) Q E s) :
  iV X f (sU λi j=>.bl (g i j)):=by
 intro pins s O H x y v u Q I rx ry h
 obtain⟨i,j,rfl,rfl,q⟩:=h
 obtain⟨t,rfl⟩:=rx
 obtain⟨t',rfl⟩:=ry
 exact rule i j t t' s _ _ ⟨.bl (g i j),H,I,U,q⟩
def IJ(i j:Int):Prop:=0<=j/\j<=1000000/\i.natAbs < 2 ^ 64
def qR(i j:Int):Prop:=(-(2 ^ 64) < i/\i < 2 ^ 64)\/(-(2 ^ 64) < j/\j < 2 ^ 64)
theorem qR.ok{i j:Int}(h:qR i j):IntMulOk i j:=by
 rcases h with ⟨h1,h2⟩ | ⟨h1,h2⟩
 ·exact .of_left (intBits_le_64 h1 h2)
 ·exact .of_right (intBits_le_64 h1 h2)
theorem b4:iV X (binaryOp .Add) (sU λi j=>.int (i+j)):=Lg λ_ _ _ _ _ _ _ q=>add_int q
theorem gS:iV X (binaryOp .Sub) (sU λi j=>.int (i - j)):=Lg λ_ _ _ _ _ _ _ q=>sub_int q
theorem kj:iV X (binaryOp .Mult) (rI qR λi j=>.int (i * j)):=Mr λ_ _ _ _ _ _ _ hc q=>mul_int q hc.ok
theorem gK:iV X (binaryOp .Mod) (rI (λ_ j=>0 < j) λi j=>.int (i % j)):=Mr λi j _ _ _ _ _ hc q=>by
 have h1:(0:Int) < j:=hc
 exact mod_int' (by omega) (by rw[Int.fmod_eq_emod_of_nonneg i (by omega)];exact q)
theorem Ht:iV X (binaryOp .Pow) (rI IJ λi j=>.int (i ^ j.toNat)):=Mr λ_ _ _ _ _ _ _ hc q=>pow_int_small hc.1 hc.2.1 hc.2.2 q
theorem Rw{f:Value->Sem Value}{g:Int->Int}(rule:∀ (i:Int) (t:Tok) (s:Shared) (Q:VG) (E:VG),Q (.int (g i) s.toks) { s with toks:=s.toks+1 }->wpAny (model X.prog X.w) X.A (f (.int i t)) Q E s) :
  NJ X f (rU λi=>.int (g i)):=by
 intro pins s O H x v Q I rx h
 obtain⟨i,rfl,q⟩:=h
 obtain⟨t,rfl⟩:=rx
 exact rule i t s _ _ ⟨.int (g i),H,I.tok _,⟨_,U⟩,q⟩
theorem Gi:NJ X (unaryOp .USub) (rU λi=>.int (-i)):=Rw λ_ _ _ _ _ q=>neg_int q
end
def LO:V->V->Bool
 | .bD,.bD=>true | .bD,.int _=>true | .int _,.bD=>true | .bD,.bl _=>true | .bl _,.bD=>true | .bD,.str _=>true | .str _,.bD=>true
 | .int _,.int _=>true | .bl _,.bl _=>true | .str _,.str _=>true | .w8 _,.w8 _=>true
 | .int _,.str _=>true | .str _,.int _=>true | .bl _,.str _=>true | .str _,.bl _=>true
 | _,_=>false
def Nb:R2:=λx y H Q=>LO x y=true/\Q (.bl (decide (x=y))) H
theorem Ef{i j:Int}:decide (V.int i=V.int j)=(i == j):=by
 rw[Vp]
 simp
theorem FH{i j:Bool}:decide (V.bl i=V.bl j)=(i == j):=by
 rw[Vp]
 simp
theorem CS{i j:Str}:decide (V.str i=V.str j)=(i == j):=by
 rw[Vp]
 simp
theorem Ee{i j:Array UInt8}:decide (V.w8 i=V.w8 j)=(i.toList == j.toList):=by
 rw[Vp]
 cases i
 cases j
 simp
section
variable{X:Cx}{a b c:Expr}{ta tb tc:TE}{pos:Pos}
theorem dg{pins:VH}{O:St}{H:Hp}{s:Shared}{Q:VK}{k k':Bool}(I:Inv X pins O H s)(q:Q (.bl k) H)(e:k=k'):EP X pins O Q (.bool k') s:=by
 subst e
 exact⟨.bl k,H,I,U,q⟩
theorem bw:iV X (compareOp .Eq) Nb:=by
 intro pins s O H x y v u Q I rx ry h
 obtain⟨hs,q⟩:=h
 cases x with
 | bD =>
  cases rx
  cases y with
  | bD=>cases ry;exact PySem.EqNone.eq_none_none (dg I q (by simp))
  | bl j=>cases ry;exact PySem.EqNone.eq_none_bool (dg I q (by simp))
  | int j=>obtain⟨t',rfl⟩:=ry;exact PySem.EqNone.eq_none_int (dg I q (by simp))
  | str j=>obtain⟨t',rfl⟩:=ry;exact PySem.EqNone.eq_none_str (dg I q (by simp))
  | _=>exact absurd (show false=true from hs) TF
 | bl i =>
  cases rx
  cases y with
  | bD=>cases ry;exact PySem.EqNone.eq_bool_none (dg I q (by simp))
  | bl j=>cases ry;exact eq_bool (dg I q FH)
  | str j=>obtain⟨t',rfl⟩:=ry;exact PySem.EqMixed.eq_bool_str (dg I q (by simp))
  | _=>exact absurd (show false=true from hs) TF
 | int i =>
  obtain⟨t,rfl⟩:=rx
  cases y with
  | bD=>cases ry;exact PySem.EqNone.eq_int_none (dg I q (by simp))
  | int j=>obtain⟨t',rfl⟩:=ry;exact eq_int (dg I q Ef)
  | str j=>obtain⟨t',rfl⟩:=ry;exact PySem.EqMixed.eq_int_str (dg I q (by simp))
  | _=>exact absurd (show false=true from hs) TF
 | str i =>
  obtain⟨t,rfl⟩:=rx
  cases y with
  | bD=>cases ry;exact PySem.EqNone.eq_str_none (dg I q (by simp))
  | bl j=>cases ry;exact PySem.EqMixed.eq_str_bool (dg I q (by simp))
  | int j=>obtain⟨t',rfl⟩:=ry;exact PySem.EqMixed.eq_str_int (dg I q (by simp))
  | str j=>obtain⟨t',rfl⟩:=ry;exact eq_str (dg I q CS)
  | _=>exact absurd (show false=true from hs) TF
 | w8 i =>
  obtain⟨t,rfl⟩:=rx
  cases y with
  | w8 j=>obtain⟨t',rfl⟩:=ry;exact PySem.W.eq_bytes (dg I q Ee)
  | _=>exact absurd (show false=true from hs) TF
 | _=>cases y<;>exact absurd (show false=true from hs) TF
theorem BN:iV X (compareOp .Lt) (sU λi j=>.bl (decide (i < j))):=Hx λ_ _ _ _ _ _ _ q=>lt_int q
theorem jW:iV X (compareOp .Gt) (sU λi j=>.bl (decide (j < i))):=Hx λ_ _ _ _ _ _ _ q=>gt_int q
theorem Eo:iV X (compareOp .GtE) (sU λi j=>.bl (decide (j<=i))):=Hx λ_ _ _ _ _ _ _ q=>ge_int q
theorem vL:iV X (compareOp .Is) (λx y H Q=>y=.bD/\Q (.bl (decide (x=.bD))) H):=by
 intro pins s O H x y v u Q I rx ry h
 obtain⟨rfl,q⟩:=h
 cases ry
 refine is_none_gen (dg I q ?_)
 cases x<;>first
  | (cases rx;rfl)
  | (obtain⟨t,rfl⟩:=rx;rfl)
theorem xY:iV X (compareOp .IsNot) (λx y H Q=>y=.bD/\Q (.bl (!decide (x=.bD))) H):=by
 intro pins s O H x y v u Q I rx ry h
 obtain⟨rfl,q⟩:=h
 cases ry
 refine isnot_none_gen (dg I q ?_)
 cases x<;>first
  | (cases rx;rfl)
  | (obtain⟨t,rfl⟩:=rx;rfl)
theorem ax(b:Expr){op:CmpOp}(h:op≠.In:=by decide)(h2:op≠.NotIn:=by decide):behindInMarks op b=false:=by
 have e1:(op == CmpOp.In)=false:=by cases op<;>first | rfl | exact absurd U h
 have e2:(op == CmpOp.NotIn)=false:=by cases op<;>first | rfl | exact absurd U h2
 cases b<;>simp[behindInMarks,e1,e2]
theorem Eb{op:CmpOp}{r:R2}(ho:iV X (compareOp op) r)(ha:PE X a ta)(hb:PE X b tb)(hm:behindInMarks op b=false):PE X (.Compare a [op] [b] pos) (jg r ta tb):=by
 intro pins s O H Q I h
 exact wpAny_Compare1 (Fq ha hb I h λv u s2 x y H2 I2 rx ry q=>ho pins s2 O H2 x y v u Q I2 rx ry q) hm
def pJ(t:TE):TT:=λO H Q=>t O H λx H'=>∃ k,x=.bl k/\Q k H'
theorem ix{op:CmpOp}{r:R2}(ho:iV X (compareOp op) r)(ha:PE X a ta)(hb:PE X b tb)(hm:behindInMarks op b=false):PT X (.Compare a [op] [b] pos) (pJ (jg r ta tb)):=by
 intro pins s O H Q I h
 refine wpAny_isTrue_Compare1 (b8 (ha pins s O H _ I h) λv s1 zz=>el2 zz λx H1 I1 r1 q1=>b8 (hb pins s1 O H1 _ I1 q1) λu s2 zz=>el2 zz λy H2 I2 r2 q2 =>
  b8 (ho pins s2 O H2 x y v u _ I2 r1 r2 q2) λc s3 ⟨z,H3,I3,r3,k,e,q3⟩=>?_) hm
 subst e
 cases r3
 exact wpAny_truthy_bool ⟨H3,I3,q3⟩
def Jc(K:Frag)(x:V)(H:Hp)(k:Bool):Prop :=
 match x with
 | .bD=>k=false
 | .bl b=>k=b
 | .int i=>k=(i != 0)
 | .str y=>y.length<=sizeLine/\k=((y.length:Int) != 0)
 | .w8 y=>y.size<=sizeLine/\k=((y.size:Int) != 0)
 | .ref p=>(∃ xs,d5 K H p xs/\k=!xs.isEmpty)\/(∃ xs,hV K H p xs/\k=!xs.isEmpty)\/∃ kvs,H p=some (.dK kvs)/\k=!kvs.isEmpty
 | _=>False
theorem vw{κ:Type}{kvs:List (κ×V)}{vs:List (κ×Value)}(r:KV kvs vs):(!vs.isEmpty)=!kvs.isEmpty:=by
 cases r<;>rfl
theorem oS{xs:List V}{its:List Value}(r:Vals xs its):(!its.toArray.isEmpty)=!xs.isEmpty:=by
 cases r<;>simp
theorem ki:(sizeLine:Nat) < 2 ^ 63:=by rw[sizeLine_eq];decide
theorem FA:Oh X (λx H Q=>∃ k,Jc X.K x H k/\Q k H):=by
 intro pins s O H x v Q I rx h
 obtain⟨k,e,q⟩:=h
 have hl:=ki
 have hs:sizeLine=16777216:=sizeLine_eq
 cases x with
 | bD =>
  cases rx
  have e':k=false:=e
  subst e'
  exact truthy_none ⟨H,I,q⟩
 | bl b =>
  cases rx
  have e':k=b:=e
  subst e'
  exact wpAny_truthy_bool ⟨H,I,q⟩
 | int i =>
  obtain⟨t,rfl⟩:=rx
  have e':k=(i != 0):=e
  subst e'
  exact PySem.P.truthy_int ⟨H,I,q⟩
 | str y =>
  obtain⟨t,rfl⟩:=rx
  obtain⟨hy,e'⟩:y.length<=sizeLine/\k=((y.length:Int) != 0):=e
  subst e'
  exact PySem.P.truthy_str (by omega) ⟨H,I.tok _,q⟩
 | w8 y =>
  obtain⟨t,rfl⟩:=rx
  obtain⟨hy,e'⟩:y.size<=sizeLine/\k=((y.size:Int) != 0):=e
  subst e'
  exact PySem.W.truthy_bytes (by omega) ⟨H,I.tok _,q⟩
 | ref p =>
  cases rx
  have e':(∃ xs,d5 X.K H p xs/\k=!xs.isEmpty)\/(∃ xs,hV X.K H p xs/\k=!xs.isEmpty)\/∃ kvs,H p=some (.dK kvs)/\k=!kvs.isEmpty:=e
  rcases e' with ⟨xs,hx,e'⟩ | ⟨xs,hx,e'⟩ | ⟨kvs,hx,e'⟩
  ·subst e'
   obtain⟨its,r,pl,hz⟩:=I.list hx
   have hlen:=r.length
   exact wpAny_truthy_list pl.isList (by simp only[List.size_toArray];omega) ⟨H,I.tok _,by rw[oS r];exact q⟩
  ·subst e'
   obtain⟨its,r,pl,hz⟩:=I.tuple hx
   have hlen:=r.length
   exact truthy_tuple pl (by simp only[List.size_toArray];omega) ⟨H,I.tok _,by rw[oS r];exact q⟩
  ·subst e'
   obtain⟨hz,hS,vs,r,m⟩:kvs.length<=sizeLine/\(p == sysModules)=false/\∃ vs,KV kvs vs/\s.heap.DictOf (bV X.prog X.w) p vs:=I.aL p _ hx
   have hlen:kvs.length=vs.length:=Paired.length r
   exact wpAny_truthy_dict hS m (by omega) ⟨H,I.tok _,by rw[vw r];exact q⟩
 | _=>exact (show False from e).elim
theorem uh(ha:PE X a ta)(he:∀ whole,isTrue a X.env whole=(do let v <- whole;standAt a.pos;holding [v] (truthy v))) :
  PT X a (λO H Q=>ta O H λx H'=>∃ k,Jc X.K x H' k/\Q k H'):=by
 intro pins s O H Q I h
 exact isTrue_plain (b8 (ha pins s O H _ I h) λv s1 zz=>el2 zz λx H1 I1 r1 q1=>FA pins s1 O H1 x v Q I1 r1 q1) (he _)
theorem eL:iV X (binaryOp .Add) (λx y H Q=>∃ i j,x=.str i/\y=.str j/\i.length+j.length<=sizeLine/\Q (.str (i++j)) H):=by
 intro pins s O H x y v u Q I rx ry h
 obtain⟨i,j,rfl,rfl,hz,q⟩:=h
 obtain⟨t,rfl⟩:=rx
 obtain⟨t',rfl⟩:=ry
 exact add_str (λt' tk=>⟨.str (i++j),H,I.tok _,⟨_,U⟩,q⟩) hz
theorem vals1{x:V}{us:List Value}(r:Vals [x] us):∃ u,us=[u]/\RelV x u:=by
 cases r with
 | cons r1 r2=>cases r2;exact⟨_,U,r1⟩
theorem vals2{x y:V}{us:List Value}(r:Vals [x,y] us):∃ u w',us=[u,w']/\RelV x u/\RelV y w':=by
 cases r with
 | cons r1 r2 =>
  cases r2 with
  | cons r3 r4=>cases r4;exact⟨_,_,U,r1,r3⟩
theorem lP(hc:X.calm=true):fq X (.builtin "max") (λxs H Q=>∃ i j,xs=[.int i,.int j]/\Q (.int (if j > i then j else i)) H):=by
 intro pins s O H xs us Q I r h
 obtain⟨i,j,rfl,q⟩:=h
 obtain⟨u,w',rfl,⟨t,rfl⟩,⟨t',rfl⟩⟩:=vals2 r
 refine max_two_ints (I.ok.hd hc) λh' tk k=>⟨_,H,I.kept k,?_,q⟩
 by_cases hj:j > i
 ·rw[if_pos hj,if_pos hj];exact⟨_,U⟩
 ·rw[if_neg hj,if_neg hj];exact⟨_,U⟩
theorem yc(hc:X.calm=true):fq X (.builtin "min") (λxs H Q=>∃ i j,xs=[.int i,.int j]/\Q (.int (if j < i then j else i)) H):=by
 intro pins s O H xs us Q I r h
 obtain⟨i,j,rfl,q⟩:=h
 obtain⟨u,w',rfl,⟨t,rfl⟩,⟨t',rfl⟩⟩:=vals2 r
 refine min_two_ints (I.ok.hd hc) λh' tk k=>⟨_,H,I.kept k,?_,q⟩
 by_cases hj:j < i
 ·rw[if_pos hj,if_pos hj];exact⟨_,U⟩
 ·rw[if_neg hj,if_neg hj];exact⟨_,U⟩
theorem eP:fq X (.type "int") (λxs H Q=>(∃ i,xs=[.int i]/\Q (.int i) H)\/∃ k,xs=[.bl k]/\Q (.int (if k then 1 else 0)) H):=by
 intro pins s O H xs us Q I r h
 rcases h with ⟨i,rfl,q⟩ | ⟨k,rfl,q⟩
 ·obtain⟨u,rfl,t,rfl⟩:=vals1 r
  exact call_int_int ⟨.int i,H,I,⟨_,U⟩,q⟩
 ·obtain⟨u,rfl,r1⟩:=vals1 r
  cases r1
  exact call_int_bool ⟨.int (if k then 1 else 0),H,I.tok _,⟨_,U⟩,q⟩
end
theorem pV{h:Heap}{dx:Addr}{mA:Str->Option Value}(n:h.Ns1 dx mA):∃ od,h.get? dx=some od/\∀ name,PySem.W.lookIn name od=some (mA name):=by
 obtain⟨o,es,ep,ho,hd,hk,_,hm⟩:=n
 refine⟨o,ho,λname=>?_⟩
 have e:=hm name
 unfold nsFind findBy at e
 rw[<- Array.find?_toList] at e
 unfold PySem.W.lookIn
 rw[hd]
 dsimp only
 split
 ·rename_i y q
  rw[q] at e
  exact congrArg some e
 ·rename_i q
  rw[q] at e
  have a:es.toList.any (·.refKey)=false:=by
   rw[List.any_eq_false]
   intro y hy
   obtain⟨z,t,hkey⟩:=hk y (Array.mem_toList_iff.mp hy)
   simp[DictEntry.refKey,hkey]
  have a':¬ es.toList.any (·.refKey)=true:=by rw[a];exact TF
  rw[if_neg a']
  exact congrArg some e
section
variable{prog:Program}{w:World}{A:Around}{E:VG}{s:Shared}{K:Frag}{x dx C f:Addr}{mA:Str->Option Value}{name:Str}{v:Value}
end
def jR(f:Str)(v:V):List (Str×V)->List (Str×V)
 | []=>[(f,v)]
 | (g,x)::r=>if g=f then (g,v)::r else (g,x)::jR f v r
theorem mK(f g:Str)(v:V):∀ fs:List (Str×V),(jR f v fs).lookup g=if g=f then some v else fs.lookup g
 | []=>by
  show List.lookup g [(f,v)]=_
  by_cases h:g=f
  ·have hb:(g == f)=true:=beq_iff_eq.mpr h
   simp only[List.lookup,hb,if_pos h]
  ·have hb:(g == f)=false:=beq_eq_false_iff_ne.mpr h
   simp only[List.lookup,hb,if_neg h]
 | (k,x)::r=>by
  have ih:=mK f g v r
  rw[show jR f v ((k,x)::r)=(if k=f then (k,v)::r else (k,x)::jR f v r) from U]
  by_cases hk:k=f
  ·rw[if_pos hk]
   by_cases h:g=k
   ·have hb:(g == k)=true:=beq_iff_eq.mpr h
    simp only[List.lookup,hb,if_pos (h.trans hk)]
   ·have hb:(g == k)=false:=beq_eq_false_iff_ne.mpr h
    simp only[List.lookup,hb,if_neg (λe:g=f=>h (e.trans hk.symm))]
  ·rw[if_neg hk]
   by_cases h:g=k
   ·have hb:(g == k)=true:=beq_iff_eq.mpr h
    simp only[List.lookup,hb,if_neg (λe:g=f=>hk (h.symm.trans e))]
   ·have hb:(g == k)=false:=beq_eq_false_iff_ne.mpr h
    simp only[List.lookup,hb]
    exact ih
theorem lG(f:Str)(v:V):∀ fs:List (Str×V),f∈(jR f v fs).map (·.1)/\∀ g,g∈fs.map (·.1)->g∈(jR f v fs).map (·.1)
 | []=>⟨by simp[jR],λg h=>by simp at h⟩
 | (k,x)::r=>by
  obtain⟨i1,i2⟩:=lG f v r
  rw[show jR f v ((k,x)::r)=(if k=f then (k,v)::r else (k,x)::jR f v r) from U]
  by_cases hk:k=f
  ·rw[if_pos hk]
   subst hk
   exact⟨by simp,λg h=>by simpa using h⟩
  ·rw[if_neg hk]
   refine⟨?_,λg h=>?_⟩
   ·rw[TC]
    exact Tv _ i1
   ·rw[TC] at h ⊢
    rcases TX.mp h with e | e
    ·exact TX.mpr (.inl e)
    ·exact Tv _ (i2 g e)
theorem mz(f:Str)(v:V):∀ fs:List (Str×V),(jR f v fs).length<=fs.length+1
 | []=>by simp[jR]
 | (k,x)::r=>by
  have ih:=mz f v r
  rw[show jR f v ((k,x)::r)=(if k=f then (k,v)::r else (k,x)::jR f v r) from U]
  by_cases hk:k=f
  ·rw[if_pos hk,TH,TH];omega
  ·rw[if_neg hk,TH,TH];omega
theorem iP.some_of{v:V}{o:Option Value}(r:iP (some v) o):∃ u,o=some u/\RelV v u:=by
 cases o with
 | none=>exact (show False from r).elim
 | some u=>exact⟨u,U,r⟩
theorem y4{v:V}{u:Value}(r:RelV v u):PySem.W.handedIn u=true:=by
 cases v with
 | bD=>cases (show u=Value.none from r);rfl
 | bl b=>cases (show u=Value.bool b from r);rfl
 | int i=>obtain⟨t,e⟩:=(show ∃ t,u=Value.int i t from r);cases e;rfl
 | str x=>obtain⟨t,e⟩:=(show ∃ t,u=Value.str x t from r);cases e;rfl
 | w8 b=>obtain⟨t,e⟩:=(show ∃ t,u=Value.bytes b t from r);cases e;rfl
 | Io b=>obtain⟨t,e⟩:=(show ∃ t,u=Value.float b t from r);cases e;rfl
 | ref a=>cases (show u=Value.ref a from r);rfl
 | ty n=>cases (show u=Value.type n from r);rfl
section
variable{P:Program}{w:World}{H H':Hp}{h h':Heap}{a C dx:Addr}{fs RL:List (Str×V)}
end
section
variable{X:Cx}{pins:VH}{O:St}{H:Hp}{s:Shared}{a C dx:Addr}{fs:List (Str×V)}{f:Str}{v:V}{A:Around}{E:VG}
theorem Cf{prog:Program}{w:World}{env:Env}{e:Expr}{f:Str}{pos:Pos}{s:Shared}{Q:VG}(hb:attributeBase e f env (eval e env)=eval e env)(h:wpAny (model prog w) A (eval e env) (λo s₁=>wpAny (model prog w) A (getAttr o f true) Q E s₁) E s):wpAny (model prog w) A (eval (.Attribute e f pos) env) Q E s :=
 Attribute_any_ h (by rw[arm_eval_Attribute,hb])
end
section
variable{X:Cx}{o e value:Expr}{f:Str}{pos pos' lL:Pos}{ta tv:TE}
end
section
variable{X:Cx}{pins:VH}{O:St}{H:Hp}{s:Shared}{A:Around}{E:VG}{Q:VG}{c:Value}{b:Bool}
end
structure cb(k:Nat)(A:Around):Prop where
 hd:A.handled=none
 dp:A.depth+3 * k+5 < recursionLimit
 un:A.units+16 * k+200 < cLine
theorem cb.mono{j k:Nat}{A:Around}(r:cb k A)(h:j<=k):cb j A:=⟨r.hd,by have:=r.dp;omega,by have:=r.un;omega⟩
theorem cb.deeper{k:Nat}{A:Around}(r:cb (k+1) A)(env:Env):cb k (A.deeper env) :=
 ⟨r.hd,by have:=r.dp;show A.depth+1+3 * k+5 < _;omega,by have:=r.un;show A.units+3+16 * k+200 < _;omega⟩
theorem wj{A:Around}{C:Addr}{us:List Value}{kw:List (Str×Value)}:(A.under (.builtin "type.__call__" ⟨.ref C::us,kw⟩)).depth=A.depth+1:=by
 first | rfl | simp[Around.under,Code.weight,Code.isCreation,Code.isGuard,Code.isCaller,Code.frames,Code.isFrame,guardIds]
theorem vS{A:Around}{C:Addr}{us:List Value}{kw:List (Str×Value)}:(A.under (.builtin "type.__call__" ⟨.ref C::us,kw⟩)).units=A.units+1:=by
 first | rfl | simp[Around.under,Code.cUnits,Code.frames,Code.isFrame]
theorem cb.make{k:Nat}{A:Around}(r:cb (k+1) A)(C:Addr)(us:List Value)(kw:List (Str×Value)):cb k (A.under (.builtin "type.__call__" ⟨.ref C::us,kw⟩)) :=
 ⟨r.hd,by have:=r.dp;rw[wj];omega,by have:=r.un;rw[vS];omega⟩
theorem cb.depth{k:Nat}{A:Around}(r:cb k A):A.depth < recursionLimit:=by have:=r.dp;omega
theorem cb.units{k:Nat}{A:Around}(r:cb k A):A.units+64 < cLine:=by have:=r.un;omega
def uJ:TA:=λ_ H Q=>Q [] H
def jU(ta:TE)(tr:TA):TA:=λO H Q=>ta O H λx H1=>tr O H1 λxs H2=>Q (x::xs) H2
section
variable{X:Cx}{e:Expr}{es:List Expr}{te:TE}{t:TA}{pos:Pos}
theorem bY:PA X [] uJ:=λ_ _ _ _ H Q I h=>Calls.spliced_nil ⟨[],H,I,.nil,h⟩
theorem aG(ha:PE X e te)(hr:PA X es t)(hs:VJ X.env e es:=by rfl):PA X (e::es) (jU te t):=by
 intro pos pins s O H Q I h
 rw[hs]
 show wpAny _ _ (spliced ((false,eval e X.env)::backTo pos (starEach es X.env))) _ _ s
 refine Calls.spliced_cons (b8 (ha pins s O H _ I h) λu s1 zz=>el2 zz λx H1 I1 r1 q1=>?_)
 exact b8 (hr pos pins s1 O H1 _ I1 q1) λus s2 zz=>el2 zz λxs H2 I2 r2 q2=>⟨x::xs,H2,I2,.cons r1 r2,q2⟩
def LW(t:TA):TE:=λO H Q=>t O H λxs H1=>xs.length<=sizeLine/\∀ p,H1 p=none->Q (.ref p) (upd H1 p (.tup xs))
def Ou(t:TA):TE:=λO H Q=>t O H λxs H1=>xs.length<=sizeLine/\∀ p,H1 p=none->Q (.ref p) (upd H1 p (.lst xs))
theorem wD{x1}(h:PA X es t):PE X (.Tuple es x1 pos) (LW t):=by
 intro pins s O H Q I hq
 refine wpAny_Tuple_spliced (b8 (h pos pins s O H _ I hq) λus s1 ⟨xs,H1,I1,r,z,q⟩=>⟨by rw[<- r.length];exact z,?_⟩)
 have hf:H1 s1.heap.objs.size=none:=I1.aL.fresh (TB _)
 refine⟨.ref s1.heap.objs.size,upd H1 s1.heap.objs.size (.tup xs),I1.laid (t':=s1.toks) (λb u e=>Ts _ e) (TB _) ?_,U,q _ hf⟩
 exact⟨z,us,r,⟨_,TK _ U,U,_,U⟩⟩
theorem GO(h:PA X es t):PE X (.List es pos) (Ou t):=by
 intro pins s O H Q I hq
 refine wpAny_List_spliced (b8 (h pos pins s O H _ I hq) λus s1 ⟨xs,H1,I1,r,z,q⟩=>⟨by rw[<- r.length];exact z,?_⟩)
 have hf:H1 s1.heap.objs.size=none:=I1.aL.fresh (TB _)
 refine⟨.ref s1.heap.objs.size,upd H1 s1.heap.objs.size (.lst xs),I1.laid (t':=s1.toks) (λb u e=>Ts _ e) (TB _) ?_,U,q _ hf⟩
 exact⟨z,us,0,r,TK _ U⟩
end
abbrev Sp:=List V->Hp->VK->XK->Prop
abbrev vT:=List Env->Hp->Shared->XK->VG
structure vC(P:Program)(w:World)(K:Frag)(mg:Str->Option Value)(base:Heap)(A:Around)(outer:List Env)(s:Shared)(H:Hp):Prop where
 frames:A.frames=some outer
 mod:Mod K mg base
 bs:∀ b o,base.get? b=some o->s.heap.get? b=some o/\H b=none
 Ce:base.objs.size<=s.heap.objs.size
 lD:s.heap.FunFrames base outer
 EK:∀ b∈zi outer,H b=none
 aL:j0 P w H s.heap
 bare:AllBare s.gens
def CE(outer:List Env)(P:Program)(w:World)(H:Hp)(s:Shared)(Q:VK)(u:Value)(s':Shared):Prop :=
 ∃ v H',s'.os=s.os/\AllBare s'.gens/\Un (zi outer) [] H H' s.heap s'.heap/\j0 P w H' s'.heap/\RelV v u/\Q v H'
def CR(CX:vT)(outer:List Env)(P:Program)(w:World)(H:Hp)(s:Shared)(Q:VK)(E:XK)(r:Result)(s':Shared):Prop :=
 match r with
 | .ok (.ret u)=>CE outer P w H s Q u s'
 | .ok _=>False
 | .error e=>CX outer H s E e s'
structure cw(P:Program)(w:World)(K:Frag)(mg:Str->Option Value)(base:Heap)(CX:vT)(k:Nat)(f:Addr)(fd:FuncData)(ps:List Str)(sp:Sp):Prop where
 len:∀ vs H Q E,sp vs H Q E->vs.length=ps.length
 run:∀ (A:Around) (outer:List Env) (s:Shared) (H:Hp) (args:Args) (us:List Value) (vs:List V) (Q:VK) (E:XK),cb k A->vC P w K mg base A outer s H->BindsTo s fd args (ps.zip us)->Vals vs us->sp vs H Q E ->
  codeAny (model P w) A (.call (.ref f) args) (CR CX outer P w H s Q E) s
theorem cw.imp{P:Program}{w:World}{K:Frag}{mg:Str->Option Value}{base:Heap}{CX:vT}{k:Nat}{f:Addr}{fd:FuncData}{ps:List Str}{sp KR:Sp}(F:cw P w K mg base CX k f fd ps sp)(h:∀ vs H Q E,KR vs H Q E->sp vs H Q E):cw P w K mg base CX k f fd ps KR :=
 ⟨λvs H Q E q=>F.len vs H Q E (h _ _ _ _ q),λA outer s H args us vs Q E hr he hb hv hs=>F.run A outer s H args us vs Q E hr he hb hv (h _ _ _ _ hs)⟩
theorem vC.make{P:Program}{w:World}{K:Frag}{mg:Str->Option Value}{base:Heap}{A:Around}{outer:List Env}{s:Shared}{H:Hp}(e:vC P w K mg base A outer s H)(C:Addr)(us:List Value)(kw:List (Str×Value)) :
  vC P w K mg base (A.under (.builtin "type.__call__" ⟨.ref C::us,kw⟩)) outer s H:=⟨by first | exact e.frames | (simpa [Around.under,Code.envs,Code.isFrame,pushEnvs] using e.frames),e.mod,e.bs,e.Ce,e.lD,e.EK,e.aL,e.bare⟩
section
variable{X:Cx}{pins:VH}{O:St}{H:Hp}{s s':Shared}
theorem Inv.Hn(I:Inv X pins O H s):vC X.prog X.w X.K X.mg X.base X.A X.stack s H :=
 ⟨I.ok.frames,I.ok.mod,I.bs,TU I.ok.Ce I.sz,I.stack,I.rG,I.aL,I.bare⟩
theorem Inv.after{Q:VK}{u:Value}(I:Inv X pins O H s)(h:CE X.stack X.prog X.w H s Q u s'):EP X pins O Q u s':=by
 obtain⟨v,H',os,bare,un,aL,r,q⟩:=h
 obtain⟨hh,g,d,t,os'⟩:=s'
 obtain rfl:os'=s.os:=os
 exact⟨v,H',I.call (h':=hh) (g':=g) (d':=d) (t':=t) (ch:=[]) un aL bare (λb z=>absurd z (by simp)),r,q⟩
end
def uE(sp:Sp)(Fp:List V)(E:XK)(t:TA):TE:=λO H Q=>t O H λvs H1=>sp (vs++Fp) H1 Q E
def Binds(K:Frag)(fd:FuncData)(ps:List Str)(ds:List Value):Prop :=
 ∀ (s:Shared) (us:List Value),K.In s.heap->(us++ds).length=ps.length->BindsTo s fd ⟨us,[]⟩ (ps.zip (us++ds))
theorem Binds.all{K:Frag}{fd:FuncData}{ps:List Str}(h:∀ us:List Value,us.length=ps.length->bindArgs fd ⟨us,[]⟩=pure (ps.zip us)):Binds K fd ps []:=λs us _ hl=>by
 rw[TM] at hl ⊢
 exact .of_eq (h us hl)
def Passes(CX:vT)(X:Cx)(E:XK):Prop:=∀ (pins:VH) (O:St) (H:Hp) (s:Shared) (e:Value) (s':Shared),Inv X pins O H s->CX X.stack H s E e s'->X.xe e s'
section
variable{X:Cx}{CX:vT}{k:Nat}{f C:Addr}{fd:FuncData}{ps:List Str}{sp:Sp}{Fp:List V}{ds:List Value}{E:XK}{x m:Str}{p pos apos:Pos}{e o:Expr}{es:List Expr}{ta:TE}{t:TA}
theorem An{pins:VH}{O:St}{H:Hp}{s:Shared}{Q:VK}{us:List Value}{vs:List V}(F:cw X.prog X.w X.K X.mg X.base CX k f fd ps sp)(hr:cb k X.A)(hb:Binds X.K fd ps ds)(hd:Vals Fp ds)(hx:Passes CX X E)(I:Inv X pins O H s)(r:Vals vs us)(h:sp (vs++Fp) H Q E):wpAny (model X.prog X.w) X.A (call (.ref f) us) (EP X pins O Q) X.xe s:=by
 have r2:Vals (vs++Fp) (us++ds):=r.append hd
 have hl:(us++ds).length=ps.length:=by rw[<- r2.length];exact F.len _ _ _ _ h
 refine wpAny_call (codeAny_mono (F.run X.A X.stack s H ⟨us,[]⟩ (us++ds) (vs++Fp) Q E hr I.Hn (hb s us I.i7 hl) r2 h) λr s' hq=>?_)
 cases r with
 | error e=>exact hx pins O H s e s' I hq
 | ok fl =>
  cases fl with
  | ret u=>exact I.after hq
  | next=>exact False.elim hq
  | brk=>exact False.elim hq
  | cont=>exact False.elim hq
theorem gD(F:cw X.prog X.w X.K X.mg X.base CX k f fd ps sp)(hr:cb k X.A)(hg:Gl X x)(hm:X.mg x=some (.ref f))(hk:keepIn X.K (.ref f)=true)(hb:Binds X.K fd ps ds)(hd:Vals Fp ds)(hx:Passes CX X E)(ha:PA X (e::es) t)(fP:VM x:=by decide)(he:VJ X.env e es:=by rfl)(dA:VL X.env pos es:=by rfl) :
  PE X (.Call (.Name x p) (e::es) [] pos) (uE sp Fp E t):=by
 intro pins s O H Q I h
 refine wpAny_Call_Name_kw (iw I hg hm ?_ fP)
 refine Vr (h₀:=X.base) I.ok.mod.Iq hk (b8 (ha pos pins s O H _ I h) λus s1 zz=>el2 zz λvs H1 I1 r q=>⟨I1.i7,?_⟩) he dA
 exact An F hr hb hd hx I1 r q
end
section
variable{X:Cx}{CX:vT}{k:Nat}{f C:Addr}{fd:FuncData}{ps ks:List Str}{sp:Sp}{E:XK}{x m:Str}{p pos apos Rp:Pos}{e o:Expr}{es:List Expr}{Tp:List Keyword}{te ta:TE}{t tk:TA}{nm:Option Str}
variable{g:List Value->List Value->List Value}{gV:List V->List V->List V}
end
structure az(N P:List Str)(sc:Scope):Prop where
 kind:sc.kind=.function
 co:sc.isCoroutine=false
 gen:sc.isGenerator=false
 nd:N.Nodup
 pre:N.take P.length=P
 par:∀ x∈P,sc.names.lookup x=some .local\/sc.names.lookup x=some .cell
 FV:∀ y∈sc.names,y.2≠.free
theorem qz{kindOf:Str->Option NameKind}{x:Str}:∀ {binds:List (Str×Value)} {m:Str->Option Value},(∀ v,(x,v)∉binds)->bindL kindOf binds m x=m x
 | [],_,_=>rfl
 | (n,v)::r,m,h=>by
  unfold bindL
  rw[qz λw hw=>h w (Tv _ hw)]
  split
  ·have:x≠n:=by rintro rfl;exact h v Tu
   simp[this]
  ·rfl
theorem qi{kindOf:Str->Option NameKind}{x:Str}:∀ {binds:List (Str×Value)} {m:Str->Option Value},(∀ v,(x,v)∉binds)->bindC kindOf binds m x=m x
 | [],_,_=>rfl
 | (n,v)::r,m,h=>by
  unfold bindC
  rw[qi λw hw=>h w (Tv _ hw)]
  split
  ·rfl
  ·have:x≠n:=by rintro rfl;exact h v Tu
   simp[this]
theorem qB{kindOf:Str->Option NameKind}{x:Str}{v:Value}:∀ {P:List Str} {vs:List Value} {i:Nat} {m:Str->Option Value},P.Nodup->P[i]?=some x->vs[i]?=some v->kindOf x=some .local ->
  bindL kindOf (P.zip vs) m x=some v
 | [],_,_,_,_,h,_,_=>by simp at h
 | _::_,[],_,_,_,_,h,_=>by simp at h
 | p::P,w::vs,0,m,nd,h1,h2,hk=>by
  simp at h1 h2;subst h1;subst h2
  show bindL kindOf ((p,w)::P.zip vs) m p=_
  unfold bindL
  rw[qz λv hv=>(U5.mp nd).1 (Um hv).1,if_pos hk]
  simp
 | p::P,w::vs,i+1,m,nd,h1,h2,hk=>by
  show bindL kindOf ((p,w)::P.zip vs) m x=_
  unfold bindL
  exact qB (i:=i) (List.nodup_cons.mp nd).2 (by simpa using h1) (by simpa using h2) hk
theorem pO{kindOf:Str->Option NameKind}{x:Str}{v:Value}:∀ {P:List Str} {vs:List Value} {i:Nat} {m:Str->Option Value},P.Nodup->P[i]?=some x->vs[i]?=some v->kindOf x≠some .local ->
  bindC kindOf (P.zip vs) m x=some v
 | [],_,_,_,_,h,_,_=>by simp at h
 | _::_,[],_,_,_,_,h,_=>by simp at h
 | p::P,w::vs,0,m,nd,h1,h2,hk=>by
  simp at h1 h2;subst h1;subst h2
  show bindC kindOf ((p,w)::P.zip vs) m p=_
  unfold bindC
  rw[qi λv hv=>(U5.mp nd).1 (Um hv).1,if_neg hk]
  simp
 | p::P,w::vs,i+1,m,nd,h1,h2,hk=>by
  show bindC kindOf ((p,w)::P.zip vs) m x=_
  unfold bindC
  exact pO (i:=i) (List.nodup_cons.mp nd).2 (by simpa using h1) (by simpa using h2) hk
def start(N:List Str)(vs:List V):St:=vs.map some++List.replicate (N.length - vs.length) none
def jl(CX:vT)(P:Program)(w:World)(K:Frag)(mg:Str->Option Value)(base:Heap)(N:List Str)(qual:Str)(scope:Scope)(f:Addr)(cd:Value)(A:Around)(outer:List Env)(s:Shared)(H:Hp)(E:XK):Cx where
 prog:=P
 w:=w
 K:=K
 mg:=mg
 base:=base
 A:=A.deeper (envOfC qual scope s.heap.objs.size f cd)
 N:=N
 s₀:=s
 H₀:=H
 env:=envOfC qual scope s.heap.objs.size f cd
 outer:=outer
 stack:=envOfC qual scope s.heap.objs.size f cd::outer
 ex:=[]
 calm:=true
 fn:=λ_=>true
 pn:=[]
 xe:=λe s'=>wpAny (model P w) (A.deeper (envOfC qual scope s.heap.objs.size f cd)) (leaving (envOfC qual scope s.heap.objs.size f cd) e) (λ_ CY=>CX outer H s E e CY) (λe' CY=>CX outer H s E e' CY) s'
theorem uP{sc:Scope}{n:Nat}{x:Str}(h:sc.names.lookup x=some .cell):∃ c,(cellsFrom n sc.names []).lookup x=some c:=by
 have q:=PySem.W.cellsFrom_some sc.names n [] (.inl h)
 exact UP.mp q
theorem yl{CX:vT}{P:Program}{w:World}{K:Frag}{mg:Str->Option Value}{base:Heap}{N ps:List Str}{qual:Str}{scope:Scope}{f:Addr}{cd:Value}{A:Around}{outer:List Env}{s s1:Shared}{H:Hp}{E:XK}{us:List Value}{vs:List V}(S:az N ps scope)(hd:A.handled=none)(e0:vC P w K mg base A outer s H)(hl:vs.length=ps.length)(r:Vals vs us)(x:InCallC s s.heap.objs.size (bindL (envOfC qual scope s.heap.objs.size f cd).kindOf (ps.zip us) λ_=>none) (cellsFrom (s.heap.objs.size+1) scope.names []) (bindC (envOfC qual scope s.heap.objs.size f cd).kindOf (ps.zip us) λ_=>none) s1) :
  Inv (jl CX P w K mg base N qual scope f cd A outer s H E) [] (start N vs) H s1:=by
 have dA:ps.length<=N.length:=by have:=congrArg List.length S.pre;rw[UG] at this;omega
 obtain⟨h1,tk,rfl,hk⟩:=x.done
 have noA:∀ b:Addr,b∉(jl CX P w K mg base N qual scope f cd A outer s H E).ex:=λb z=>absurd (show b∈([]:List Addr) from z) (by simp)
 refine⟨⟨e0.mod,S.kind,U,U,TB _,λy z c h1 h2=>?_,λy hy=>?_,λy c _ h=>?_,λ_=>hd,Around.frames_deeper e0.frames,.inr ⟨U,U⟩,λb z=>absurd z (noA b),e0.bs,e0.Ce,λb _ _=>noA b,λb z=>absurd z (noA b),e0.lD,e0.EK⟩,
  rfl,e0.bare,Un.kept hk,⟨_,x.toInCall.ns,λi y v h1 h2 h3=>?_⟩,λy c h=>⟨_,x.cell y c h⟩,e0.aL.fresh (Nat.le_refl _),λy c h=>?_,λp hp=>absurd (show p∈([]:VH) from hp) (by simp),e0.aL.kept hk,?_⟩
 ·exact name_of_addr x.apart (UE h1) (UE h2)
 ·have hy:scope.names.lookup y=some .cell\/scope.names.lookup y=some .free:=hy
  rcases hy with hy | hy
  ·exact uP hy
  ·exact absurd U (S.FV _ (UE hy))
 ·exact U9 (x.above y c (UE h))
 ·have hi:i < vs.length:=by
   unfold start at h2
   by_cases hi:i < vs.length
   ·exact hi
   ·rw[List.getElem?_append_right (by simpa using hi)] at h2
    rw[List.getElem?_replicate] at h2
    split at h2<;>cases h2
  have ha:vs[i]?=some v:=by
   unfold start at h2
   rw[List.getElem?_append_left (by simpa using hi),List.getElem?_map] at h2
   cases e:vs[i]? with
   | none=>rw[e] at h2;cases h2
   | some a=>rw[e] at h2;cases h2;rfl
  obtain⟨u,hu,rv⟩:=r.get ha
  have hp:ps[i]?=some y:=by
   rw[<- S.pre,List.getElem?_take_of_lt (by omega)];exact h1
  have ndP:ps.Nodup:=by rw[<- S.pre];exact S.nd.sublist (UD _ _)
  refine⟨u,rv,?_⟩
  rcases S.par y (Uw hp) with k | k
  ·exact .inl ⟨k,qB ndP hp hu k⟩
  ·obtain⟨c,e⟩:=uP (n:=s.heap.objs.size+1) k
   refine .inr ⟨.inl k,c,e,?_⟩
   have q:=x.cell y c e
   rw[pO ndP hp hu (by show scope.names.lookup y≠_;rw[k];decide)] at q
   exact q
 ·exact e0.aL.fresh (U9 (x.above y c (UE h)))
 ·unfold start
  show _=N.length
  rw[Tt,Tr,List.length_replicate]
  omega
theorem Fe{CX:vT}{P:Program}{w:World}{K:Frag}{mg:Str->Option Value}{base:Heap}{k:Nat}{f:Addr}{name qual:Str}{params:Arguments}{body:List Stmt}{scope:Scope}{dV kV doc pm bN ct oc:Value}{an od:Option Addr}{zl:Array (Option Value)}{N ps:List Str}{sp:Sp}(lk:K.lookup f=some ⟨oc,od,.func (fnOf name qual params body scope dV kV doc pm an bN ct),zl⟩)(pj:codeIn K bN qual=true)(S:az N ps scope)(len:∀ vs H Q E,sp vs H Q E->vs.length=ps.length)(uN:∀ (A:Around) (outer:List Env) (s:Shared) (H:Hp) (vs:List V) (Q:VK) (E:XK),cb k (A.deeper (envOfC qual scope s.heap.objs.size f bN))->sp vs H Q E ->
   ∃ t,nz (jl CX P w K mg base N qual scope f bN A outer s H E) body t/\t { nx:=λ_ H'=>Q .bD H',rt:=Q } (start N vs) H) :
  cw P w K mg base CX (k+1) f (fnOf name qual params body scope dV kV doc pm an bN ct) ps sp:=by
 refine⟨len,λA outer s H args us vs Q E hr e0 hb r Ca=>?_⟩
 have hl:=len _ _ _ _ Ca
 have KX:K.In s.heap:=e0.mod.Iq.keeps λb o e=>(e0.bs b o e).1
 have lim:s.heap.NoLimit:=e0.mod.nolimit.keeps λb o e=>(e0.bs b o e).1
 have hkind:∀ y∈ps.zip us,scope.names.lookup y.1=some .local\/(scope.names.lookup y.1=some .cell/\((cellsFrom (s.heap.objs.size+1) scope.names []).lookup y.1).isSome=true):=λz2r hy=>by
  obtain⟨n,v⟩:=z2r
  rcases S.par n (Um hy).1 with q | q
  ·exact .inl q
  ·exact .inr ⟨q,PySem.W.cellsFrom_some _ _ _ (.inl q)⟩
 refine codeAny_call_function hr.depth (KX _ _ lk) U S.co S.gen U (PySem.W.codeRec_of KX pj) (hb _ _ _ _ ?_)
 refine wpAny_newFunctionEnv_cells S.kind hkind λenv he s1 x=>?_
 subst he
 refine⟨lim.keeps x.toInCall.keep,codeAny_func ?_⟩
 obtain⟨t,ht,hq⟩:=uN A outer s H vs Q E (hr.deeper _) Ca
 have I:Inv (jl CX P w K mg base N qual scope f bN A outer s H E) [] (start N vs) H s1:=yl S hr.hd e0 hl r x
 refine wpAny_mono (ht [] s1 (start N vs) H _ I hq) (λfl s' hs=>?_) λe s' hs=>hs
 have fin:∀ {O':St} {H':Hp} {v:V} {u:Value},Inv (jl CX P w K mg base N qual scope f bN A outer s H E) [] O' H' s'->RelV v u->Q v H'->CE outer P w H s Q u s' :=
  λ{O' H' v u} J rv q=>⟨v,H',J.os,J.bare,J.base,J.aL,rv,q⟩
 cases fl with
 | ret u =>
  obtain⟨v,O',H',J,rv,q⟩:=hs
  exact fin J rv q
 | next =>
  obtain⟨O',H',J,q⟩:=hs
  exact fin (v:=V.bD) (u:=Value.none) J U q
 | brk =>
  obtain⟨_,_,_,q⟩:=hs
  exact False.elim q
 | cont =>
  obtain⟨_,_,_,q⟩:=hs
  exact False.elim q
section
variable{X:Cx}{x:Str}{p pos:Pos}{e:Expr}{es:List Expr}{t:TA}{id T:String}{r:List V->Hp->VK->Prop}
def Dv(r:List V->Hp->VK->Prop)(t:TA):TE:=λO H Q=>t O H λvs H1=>r vs H1 Q
theorem bT(hc:fq X (.builtin id) r)(hg:Gl X x)(hm:X.mg x=none)(hv:bootBuiltins x=some (.builtin id))(ha:PA X (e::es) t)(hn:x≠"__name__":=by decide)(fP:VM x:=by decide)(he:VJ X.env e es:=by rfl)(dA:VL X.env pos es:=by rfl):PE X (.Call (.Name x p) (e::es) [] pos) (Dv r t):=by
 intro pins s O H Q I h
 refine wpAny_Call_Name_kw (gT I hg hm hv ?_ hn fP)
 exact PyProof.Rows.callWith_builtin1 (b8 (ha pos pins s O H _ I h) λus s1 zz=>el2 zz λvs H1 I1 r1 q1=>hc pins s1 O H1 vs us Q I1 r1 q1) he dA
theorem pN(hc:fq X (.type T) r)(hg:Gl X x)(hm:X.mg x=none)(hv:bootBuiltins x=some (.type T))(ha:PA X (e::es) t)(hn:x≠"__name__":=by decide)(fP:VM x:=by decide)(he:VJ X.env e es:=by rfl)(dA:VL X.env pos es:=by rfl):PE X (.Call (.Name x p) (e::es) [] pos) (Dv r t):=by
 intro pins s O H Q I h
 refine wpAny_Call_Name_kw (gT I hg hm hv ?_ hn fP)
 exact PyProof.Rows.callWith_type1 (b8 (ha pos pins s O H _ I h) λus s1 zz=>el2 zz λvs H1 I1 r1 q1=>hc pins s1 O H1 vs us Q I1 r1 q1) he dA
end
end L2
namespace HT
open PySem PyProof.Rows
section
open PySem.SeqAt
open PySem.AutoSeq1 (wpAny_loadPart')
open PySem.MeetsSeq PySem.MeetsSeq2 PySem.MeetsSeq3
end
section
variable{prog:Program}{w:World}{A:Around}{E:VG}{s:Shared}
theorem Dg{t b:Addr}{vs ws:List Value}{Q:VG}(ht:IsTup s.heap t vs.toArray)(hb:IsTup s.heap b ws.toArray)(hv:vs≠[])(h1:ws=[]->Q (.ref t) s)(h2:ws≠[]->Q (.ref s.heap.objs.size) { s with heap:=s.heap.push { cls:=.type "tuple",data:=.seq (vs++ws).toArray } })(hsz:vs.length+ws.length<=sizeLine):wpAny (model prog w) A (binaryOp .Add (.ref t) (.ref b)) Q E s:=by
 obtain⟨⟨cls,dd,data,sl⟩,ho,hc,n,hd⟩:=id ht
 obtain⟨⟨cls2,EH,data2,Ij⟩,ho2,hc2,n2,hd2⟩:=id hb
 simp only at hc hd hc2 hd2
 subst hc hd hc2 hd2
 have e:vs.toArray++ws.toArray=(vs++ws).toArray:=by simp
 by_cases hw:ws=[]
 ·exact concat_meets ⟨_,ho,U⟩ ⟨_,ho2,U⟩ noFill_tuple_add seq_tuple_add Vy Vt (Vs _ _)
   (tuple_addW1 t b vs.toArray ws.toArray n n2 dd EH sl Ij (by simpa using hv) (by simp[hw])) ⟨ho,ho2,h1 hw⟩
 ·refine concat_meets ⟨_,ho,U⟩ ⟨_,ho2,U⟩ noFill_tuple_add seq_tuple_add Vy Vt (Vs _ _)
   (tuple_addW2 t b vs.toArray ws.toArray n n2 dd EH sl Ij (by simpa using hv) (by simpa using hw) (by rw[List.size_toArray,List.size_toArray];exact hsz)) ⟨ho,ho2,?_⟩
  rw[e]
  exact h2 hw
def ck(n d:Nat):Option Int->Nat
 | none=>d
 | some v=>if v < 0 then (v+(n:Int)).toNat else min v.toNat n
theorem FP(n d:Nat)(hd:d<=n)(o:Option Int):ck n d o<=n:=by
 cases o with
 | none=>exact hd
 | some v =>
  show (if v < 0 then (v+(n:Int)).toNat else min v.toNat n)<=n
  by_cases hv:v < 0
  ·rw[if_pos hv];omega
  ·rw[if_neg hv];exact Nat.min_le_right _ _
theorem xv(v:Int)(n d:Nat):(if v < 0 then max (v+(n:Int)) 0 else min v (n:Int))=((ck n d (some v):Nat):Int):=by
 show (if v < 0 then max (v+(n:Int)) 0 else min v (n:Int))=(((if v < 0 then (v+(n:Int)).toNat else min v.toNat n):Nat):Int)
 by_cases hv:v < 0
 ·simp only[if_pos hv];omega
 ·simp only[if_neg hv];omega
theorem wa(lo hi:Option Int)(n:Nat):Builtin.Slice.sliceAdjust lo hi 1 (n:Int)=(((ck n 0 lo:Nat):Int),((ck n n hi:Nat):Int)):=by
 have h1:¬ ((1:Int) < 0):=by omega
 unfold Builtin.Slice.sliceAdjust
 simp only[h1,if_false]
 refine Prod.ext ?_ ?_
 ·cases lo with
  | none=>rfl
  | some v=>exact xv v n 0
 ·cases hi with
  | none=>rfl
  | some v=>exact xv v n n
theorem vt(i j:Nat):Builtin.Slice.slicePlaces (i:Int) (j:Int) 1=j - i:=by
 unfold Builtin.Slice.slicePlaces
 have h1:(1:Int) > 0:=by omega
 simp only[h1,if_true,Int.ediv_one]
 split<;>omega
theorem oC{v:Value}{o:Option Int}{Q:Option Int->Shared->Prop}(p:IsPart v o)(h:Q o s):wpAny (model prog w) A (Builtin.Slice.slicePartIndex v) Q E s:=by
 cases p with
 | none=>exact slicePart_none h
 | int i t=>exact slicePart_int h
theorem hJ{sl:Addr}{vl vu:Value}{lo hi:Option Int}{n:Nat}{Q:Int×Int×Nat->Shared->Prop}(hs:s.heap.IsSliceOf sl vl vu .none)(pl:IsPart vl lo)(pu:IsPart vu hi)(h:Q (((ck n 0 lo:Nat):Int),1,ck n n hi - ck n 0 lo) s):wpAny (model prog w) A (Builtin.Slice.sliceApplied (.ref sl) (pure (n:Int))) Q E s:=by
 obtain⟨os,vR,hcs,hds⟩:=id hs
 unfold Builtin.Slice.sliceApplied Builtin.Slice.sliceFields
 refine wpAny_bind (wpAny_bind (wpAny_field vR hds (x:=vl) U (wpAny_bind (wpAny_field vR hds (x:=vu) U (wpAny_bind (wpAny_field vR hds (x:=.none) U (wpAny_pure ?_)))))))
 refine wpAny_bind (slicePart_none ?_)
 show wpAny _ _ (if ((1:Int) == 0)=true then _ else _) _ _ s
 rw[if_neg (by decide)]
 refine wpAny_bind (oC pl (wpAny_bind (oC pu (wpAny_bind (wpAny_pure ?_)))))
 show wpAny _ _ (match Builtin.Slice.sliceAdjust lo hi 1 (n:Int) with | (lo,hi)=>pure (lo,(1:Int),Builtin.Slice.slicePlaces lo hi 1)) _ _ s
 rw[wa lo hi n]
 show wpAny _ _ (pure (((ck n 0 lo:Nat):Int),(1:Int),Builtin.Slice.slicePlaces ((ck n 0 lo:Nat):Int) ((ck n n hi:Nat):Int) 1)) _ _ s
 rw[vt]
 exact wpAny_pure h
theorem Bs(xs:Array Value)(i k:Nat):((List.range k).filterMap λ(m:Nat)=>xs[((i:Int)+(m:Int) * 1).toNat]?).toArray=((xs.toList.drop i).take k).toArray:=by
 have e:(λ(m:Nat)=>xs[((i:Int)+(m:Int) * 1).toNat]?)=λm=>xs[i+m]?:=by
  funext m
  have:((i:Int)+(m:Int) * 1).toNat=i+m:=by omega
  rw[this]
 rw[e]
 have:=pick_run xs i k
 rw[List.filterMap_map] at this
 have e2:((λx=>xs[x]?)∘λx=>i+x)=λm=>xs[i+m]?:=rfl
 rw[e2] at this
 rw[this]
theorem kT{t sl:Addr}{items:Array Value}{vl vu:Value}{lo hi:Option Int}{Q:VG}(ht:IsTup s.heap t items)(hs:s.heap.IsSliceOf sl vl vu .none)(pl:IsPart vl lo)(pu:IsPart vu hi)(hw:¬ (ck items.size 0 lo=0/\ck items.size items.size hi=items.size))(h:Q (.ref s.heap.objs.size) { s with heap:=s.heap.push { cls:=.type "tuple",data:=.seq ((items.toList.drop (ck items.size 0 lo)).take (ck items.size items.size hi - ck items.size 0 lo)).toArray } })(hsz:items.size<=sizeLine):wpAny (model prog w) A (getItem (.ref t) (.ref sl)) Q E s:=by
 have htake:sizeOk (.seq ((items.toList.drop (ck items.size 0 lo)).take (ck items.size items.size hi - ck items.size 0 lo)).toArray):=by
  show ((items.toList.drop (ck items.size 0 lo)).take (ck items.size items.size hi - ck items.size 0 lo)).toArray.size<=sizeLine
  rw[TV,UG,UB,Array.length_toList]
  omega
 have hj:ck items.size items.size hi<=items.size:=FP _ _ (TB _) hi
 obtain⟨os,vR,hcs,hds⟩:=id hs
 have hTs:s.TypeIs (.ref sl) "slice":=⟨os,vR,hcs⟩
 unfold getItem
 try with_reducible refine wpAny_holding ?_
 first | refine wpAny_bind (wpAny_pure ?_) | skip
 refine wpAny_bind (wpAny_sequenceKey ht.typeIs (by decide) ?_)
 refine wpAny_bind (wpAny_callSpecial?_slot (name:=Str.ofString "__getitem__") ht.typeIs PyProof.Rows.slot_tuple_getitem
  (wpAny_call_entry PyProof.Rows.slot_tuple_getitem ht.typeIs entry_tuple_getitem ?_ (args_tuple_getitem _ _)))
 show wpAny _ _ (Builtin.Tuple.tupleItemsOf (.ref t) >>= _) _ _ s
 refine wpAny_bind (tupleItemsOf_ ht ?_)
 refine wpAny_bind (wpAny_typeOf hTs ?_)
 rw[if_pos (by decide)]
 refine wpAny_bind (hJ hs pl pu ?_)
 have hno:¬ ((((ck items.size 0 lo:Nat):Int) == 0&&(1:Int) == 1&&(ck items.size items.size hi - ck items.size 0 lo) == items.size)=true):=by
  intro q
  rw[T8,T8] at q
  have q1:((ck items.size 0 lo:Nat):Int)=0:=eq_of_beq q.1.1
  have q2:ck items.size items.size hi - ck items.size 0 lo=items.size:=eq_of_beq q.2
  exact hw ⟨by omega,by omega⟩
 show wpAny _ _ (if (((ck items.size 0 lo:Nat):Int) == 0&&(1:Int) == 1&&(ck items.size items.size hi - ck items.size 0 lo) == items.size)=true then _ else _) _ _ s
 rw[if_neg hno,Bs]
 first
  | exact wpAny_bind (m:=Builtin.Tuple.tupleExact _) (wpAny_newObj_type (wpAny_pure ⟨_,U,wpAny_pure h⟩) htake)
  | exact wpAny_bind (m:=Builtin.Tuple.tupleExact _) (wpAny_newObj_type (wpAny_bind (wpAny_pure (wpAny_pure ⟨_,U,wpAny_pure h⟩))) htake)
  | exact wpAny_bind (wpAny_bind (m:=Builtin.Tuple.tupleExact _) (wpAny_newObj_type (wpAny_pure (wpAny_pure ⟨_,U,wpAny_pure h⟩)) htake))
  | exact wpAny_bind (wpAny_bind (m:=Builtin.Tuple.tupleExact _) (wpAny_newObj_type (wpAny_pure ⟨_,U,wpAny_pure h⟩) htake))
end
end HT
namespace L2
open PySem PySem.Spec PyProof.Rows
abbrev TO:=St->Hp->(Option Int->Hp->Prop)->Prop
def PO(X:Cx)(e:Option Expr)(t:TO):Prop :=
 ∀ (pins:VH) (s:Shared) (O:St) (H:Hp) (Q:Option Int->Hp->Prop),Inv X pins O H s->t O H Q ->
  wpAny (model X.prog X.w) X.A (evalPart e X.env) (λu s'=>∃ o H',Inv X pins O H' s'/\IsPart u o/\Q o H') X.xe s
def CL:TO:=λ_ H Q=>Q none H
def Bk(t:TE):TO:=λO H Q=>t O H λx H1=>∃ i,x=.int i/\Q (some i) H1
section
variable{X:Cx}{e:Expr}{te:TE}{lo hi:Option Expr}{tl th:TO}{pos p2:Pos}
theorem De:PO X none CL:=by
 intro pins s O H Q I h
 rw[evalPart_none]
 exact wpAny_pure ⟨none,H,I,.none,h⟩
theorem rX(h:PE X e te):PO X (some e) (Bk te):=by
 intro pins s O H Q I hw
 rw[evalPart_some]
 refine b8 (h pins s O H _ I hw) λu s1 zz=>el2 zz λx H1 I1 r1 q1=>?_
 obtain⟨i,rfl,q⟩:=q1
 obtain⟨t,rfl⟩:=r1
 exact⟨some i,H1,I1,.int i t,q⟩
def Kc(X:Cx)(r:V->Option Int->Option Int->Hp->VK->Prop):Prop :=
 ∀ (pins:VH) (s:Shared) (O:St) (H:Hp) (x:V) (v vl vu:Value) (lo hi:Option Int) (sl:Addr) (Q:VK),Inv X pins O H s->RelV x v->s.heap.IsSliceOf sl vl vu .none->IsPart vl lo->IsPart vu hi->r x lo hi H Q ->
  ∃ T id,typeLookup (.type T) "__getitem__"=pure (some (.builtin id))/\s.TypeIs v T/\wpAny (model X.prog X.w) X.A (getItem v (.ref sl)) (EP X pins O Q) X.xe s
def Pj(r:V->Option Int->Option Int->Hp->VK->Prop)(te:TE)(tl th:TO):TE:=λO H Q=>te O H λx H1=>tl O H1 λl H2=>th O H2 λu H3=>r x l u H3 Q
theorem kX{r:V->Option Int->Option Int->Hp->VK->Prop}(hr:Kc X r)(he:PE X e te)(hl:PO X lo tl)(hu:PO X hi th):PE X (.Subscript e (.Slice lo hi none p2) pos) (Pj r te tl th):=by
 intro pins s O H Q I h
 refine Subscript_ (b8 (he pins s O H _ I h) λv s1 z0q=>?_)
 obtain⟨x,H1,I1,r1,q1⟩:=z0q
 refine wpAny_Slice (b8 (hl pins s1 O H1 _ I1 q1) λvl s2 zz=>el2 zz λl H2 I2 pl q2=>b8 (hu pins s2 O H2 _ I2 q2) λvu s3 z1q=>?_)
 obtain⟨u,H3,I3,pu,q3⟩:=z1q
 rw[evalPart_none]
 refine wpAny_pure ?_
 have I4:Inv X pins O H3 { s3 with heap:=s3.heap.push { cls:=.type "slice",data:=.fields #[vl,vu,.none] } }:=I3.kept (t':=s3.toks) λb ob q=>Ts _ q
 obtain⟨T,id,hT,ht,hg⟩:=hr pins { s3 with heap:=s3.heap.push { cls:=.type "slice",data:=.fields #[vl,vu,.none] } } O H3 x v vl vu l u s3.heap.objs.size Q I4 r1 (Heap.IsSliceOf.new ..) pl pu q3
 show wpAny (model X.prog X.w) X.A (subscriptTail e (.Slice lo hi none p2) v (.ref s3.heap.objs.size)) (EP X pins O Q) X.xe { s3 with heap:=s3.heap.push { cls:=.type "slice",data:=.fields #[vl,vu,.none] } }
 exact tail_any (ops:=[.ref s3.heap.objs.size,v]) ht hT hg (by with_unfolding_all rfl)
def o7(xs:List V)(lo hi:Option Int):List V:=(xs.drop (HT.ck xs.length 0 lo)).take (HT.ck xs.length xs.length hi - HT.ck xs.length 0 lo)
theorem mF(xs:List V)(lo hi:Option Int):(o7 xs lo hi).length<=xs.length:=by
 unfold o7
 rw[UG,UB]
 omega
def Nx(K:Frag):V->Option Int->Option Int->Hp->VK->Prop:=λx lo hi H Q=>∃ a xs,x=.ref a/\hV K H a xs /\
 ¬ (HT.ck xs.length 0 lo=0/\HT.ck xs.length xs.length hi=xs.length)/\∀ p,H p=none->Q (.ref p) (upd H p (.tup (o7 xs lo hi)))
theorem Gb:Kc X (Nx X.K):=by
 intro pins s O H x v vl vu lo hi sl Q I rx hs pl pu h
 obtain⟨a,xs,rfl,hx,hw,q⟩:=h
 cases rx
 obtain⟨its,r,ht,hz⟩:=I.tuple hx
 have hlen:its.toArray.size=xs.length:=by rw[TV];exact r.length.symm
 refine⟨"tuple",_,PyProof.Rows.slot_tuple_getitem.lookup,ht.typeIs,?_⟩
 refine HT.kT ht hs pl pu (by rw[hlen];exact hw) ?_ (by rw[hlen];exact hz)
 rw[hlen]
 refine⟨.ref s.heap.objs.size,_,I.laid (t':=s.toks) (o:=.tup (o7 xs lo hi)) (λb ob q=>Ts _ q) (TB _) ?_,U,q _ (I.aL.fresh (TB _))⟩
 exact⟨TU (mF xs lo hi) hz,_,(r.drop (HT.ck xs.length 0 lo)).take (HT.ck xs.length xs.length hi - HT.ck xs.length 0 lo),IsTup.new _ _⟩
def EN(K:Frag):R2:=λx y H Q=>∃ a b xs ys,x=.ref a/\y=.ref b/\hV K H a xs/\hV K H b ys/\xs≠[]/\xs.length+ys.length<=sizeLine /\
 (ys=[]->Q (.ref a) H)/\(ys≠[]->∀ p,H p=none->Q (.ref p) (upd H p (.tup (xs++ys))))
theorem Vals.ny{xs:List V}{us:List Value}(r:Vals xs us):us=[]↔xs=[]:=by
 cases r with
 | nil=>simp
 | cons _ _=>simp
theorem rK:iV X (binaryOp .Add) (EN X.K):=by
 intro pins s O H x y v u Q I rx ry h
 obtain⟨a,b,xs,ys,rfl,rfl,ha,hb,hx,hz,q1,q2⟩:=h
 cases rx
 cases ry
 obtain⟨its,r1,p1,_⟩:=I.tuple ha
 obtain⟨dU,r2,p2,_⟩:=I.tuple hb
 refine HT.Dg p1 p2 (λz=>hx (r1.ny.mp z)) (λz=>⟨.ref a,H,I,U,q1 (r2.ny.mp z)⟩) (λz=>?_) (by rw[<- r1.length,<- r2.length];exact hz)
 refine⟨.ref s.heap.objs.size,_,I.laid (t':=s.toks) (o:=.tup (xs++ys)) (λb ob q=>Ts _ q) (TB _) ?_,U,q2 (λw=>z (r2.ny.mpr w)) _ (I.aL.fresh (TB _))⟩
 exact⟨by rw[Tt];exact hz,_,r1.append r2,IsTup.new _ _⟩
end
def Bd(n:Nat)(i:Int):Option Nat:=if 0<=i then (if i < n then some i.toNat else none) else if -(n:Int)<=i then some (i+n).toNat else none
def jQ{α:Type}(xs:List α)(i:Int):Option α:=(Bd xs.length i).bind λj=>xs[j]?
theorem xm{n:Nat}{i:Int}{j:Nat}(h:Bd n i=some j):seqIndex? i n=some j/\j < n/\-(n:Int)<=i/\i < n:=by
 unfold Bd at h
 by_cases h0:0<=i
 ·rw[if_pos h0] at h
  by_cases h1:i < n
  ·rw[if_pos h1] at h
   have e:i.toNat=j:=Ue h
   exact⟨by rw[seqIndex_of h0 h1,e],by omega,by omega,h1⟩
  ·rw[if_neg h1] at h;cases h
 ·rw[if_neg h0] at h
  by_cases h1:-(n:Int)<=i
  ·rw[if_pos h1] at h
   have e:(i+n).toNat=j:=Ue h
   exact⟨by rw[seqIndex_neg (by omega) h1,e],by omega,h1,by omega⟩
  ·rw[if_neg h1] at h;cases h
theorem r9{α:Type}{xs:List α}{i:Int}{v:α}(h:jQ xs i=some v):∃ j,seqIndex? i xs.length=some j/\xs[j]?=some v/\j < xs.length/\-(xs.length:Int)<=i/\i < xs.length:=by
 unfold jQ at h
 cases e:Bd xs.length i with
 | none=>rw[e] at h;cases h
 | some j =>
  rw[e] at h
  obtain⟨h1,h2,h3,h4⟩:=xm e
  exact⟨j,h1,h,h2,h3,h4⟩
theorem nj{α:Type}{xs:List α}{j:Nat}{v:α}(h:xs[j]?=some v):jQ xs (j:Int)=some v:=by
 have hj:j < xs.length:=(Tw.mp h).1
 have e:Bd xs.length (j:Int)=some j:=by
  unfold Bd
  rw[if_pos (by omega),if_pos (by omega)];simp
 unfold jQ;rw[e];exact h
def m9(b:Expr):Prop:=∀ o i,subscripted b false o i=operate [o,i] (getItem o i)
def JM(X:Cx)(r:R2):Prop :=
 ∀ (value slice:Expr) (pins:VH) (s:Shared) (O:St) (H:Hp) (x y:V) (v u:Value) (Q:VK),Inv X pins O H s->RelV x v->RelV y u->r x y H Q ->
  subscripted slice false v u=operate [v,u] (getItem v u)->wpAny (model X.prog X.w) X.A (subscriptTail value slice v u) (EP X pins O Q) X.xe s
def Mc(X:Cx)(id:String)(r:V->List V->Hp->VK->Prop):Prop :=
 ∀ (pins:VH) (s:Shared) (O:St) (H:Hp) (x:V) (xs:List V) (v:Value) (us:List Value) (Q:VK),Inv X pins O H s->RelV x v->Vals xs us->r x xs H Q ->
  wpAny (model X.prog X.w) X.A (call (.builtin id) (v::us)) (EP X pins O Q) X.xe s
section
variable{X:Cx}{a b:Expr}{ta tb:TE}{pos:Pos}
theorem EA{r:R2}(hr:JM X r)(ha:PE X a ta)(hb:PE X b tb)(hs:m9 b):PE X (.Subscript a b pos) (jg r ta tb):=by
 intro pins s O H Q I h
 exact Subscript_ (Fq ha hb I h λv u s2 x y H2 I2 rx ry q=>hr a b pins s2 O H2 x y v u Q I2 rx ry q (hs _ _))
def FD(K:Frag):R2:=λx y H Q=>∃ p xs i v,x=.ref p/\y=.int i/\d5 K H p xs/\jQ xs i=some v/\Q v H
def LM(K:Frag):R2:=λx y H Q=>∃ p xs i v,x=.ref p/\y=.int i/\hV K H p xs/\jQ xs i=some v/\Q v H
def K3:R2:=λx y H Q=>∃ z i c,x=.str z/\y=.int i/\z.length<=sizeLine/\jQ z.cps.toList i=some c/\Q (.str ⟨#[c]⟩) H
theorem xV:JM X (FD X.K):=by
 intro value slice pins s O H x y v u Q I rx ry h hs
 obtain⟨p,xs,i,z,rfl,rfl,hq,he,q⟩:=h
 cases rx
 obtain⟨t,rfl⟩:=ry
 obtain⟨its,r,pl,hz⟩:=I.list hq
 obtain⟨j,h1,h2,h3,h4,h5⟩:=r9 he
 obtain⟨w,ew,rw'⟩:=r.get h2
 have hl:=r.length
 have hn:=ki
 have fin:EP X pins O Q w s:=⟨z,H,I,rw',q⟩
 by_cases h0:0<=i
 ·have hj:i.toNat=j:=by
   rw[seqIndex_of h0 h5] at h1
   exact Ue h1
  exact item_listR pl.isList h0 (by omega) (by rw[hj];simpa using ew) fin hs
 ·have hj:(i+(its.toArray.size:Int)).toNat=j:=by
   rw[seqIndex_neg (by omega) h4] at h1
   rw[TV,<- hl]
   exact Ue h1
  exact subscriptTail_builtinR (x:=w) pl.isList.typeIs slot_list_getitem.lookup
   (wpAny_getItem_list_neg (Q:=λr s'=>r=w/\EP X pins O Q r s') pl.isList (by omega) (by rw[List.size_toArray]<;>omega) (by omega) (by rw[hj];simpa using ew) ⟨U,fin⟩) hs
theorem Ga:JM X (LM X.K):=by
 intro value slice pins s O H x y v u Q I rx ry h hs
 obtain⟨p,xs,i,z,rfl,rfl,hq,he,q⟩:=h
 cases rx
 obtain⟨t,rfl⟩:=ry
 obtain⟨its,r,pl,hz⟩:=I.tuple hq
 obtain⟨j,h1,h2,h3,h4,h5⟩:=r9 he
 obtain⟨w,ew,rw'⟩:=r.get h2
 have hl:=r.length
 have hn:=ki
 have fin:EP X pins O Q w s:=⟨z,H,I,rw',q⟩
 exact subscriptTail_builtinR (x:=w) pl.typeIs slot_tuple_getitem.lookup
  (getItem_tuple (j:=j) (Q:=λr s'=>r=w/\EP X pins O Q r s') pl (by omega) (by omega) (by rw[List.size_toArray,<- hl];exact h1) (by simpa using ew) ⟨U,fin⟩) hs
theorem vb:JM X K3:=by
 intro value slice pins s O H x y v u Q I rx ry h hs
 obtain⟨z,i,c,rfl,rfl,hz,he,q⟩:=h
 obtain⟨t,rfl⟩:=rx
 obtain⟨t',rfl⟩:=ry
 obtain⟨j,h1,h2,h3,h4,h5⟩:=r9 he
 have hl:z.cps.toList.length=z.length:=by simp[Str.length]
 rw[hl] at h1 h4 h5
 have hn:=ki
 exact tail_any (typeIs_str s z t) slot_str_getitem.lookup (getItem_str (c:=c) (by
  have e1:decide (i < -(2 ^ 63:Int))=false:=decide_eq_false (by omega)
  have e2:decide (i ≥ 2 ^ 63)=false:=decide_eq_false (by omega)
  rw[e1,e2,Bool.or_false]) (by rw[h1];simpa using h2) ⟨.str ⟨#[c]⟩,H,I.tok _,⟨_,U⟩,q⟩) hs
theorem we(its:List Value)(n j:Nat)(u:Value):Obj.mapSeq (·.setIfInBounds j u) { cls:=.type "list",data:=.seq its.toArray n }={ cls:=.type "list",data:=.seq (its.set j u).toArray n }:=by
 simp[Obj.mapSeq]
theorem Inv.lst{pins:VH}{O:St}{H:Hp}{s:Shared}{p:Addr}{xs:List V}(I:Inv X pins O H s)(h:H p=some (.lst xs)) :
  ∃ (its:List Value) (n:Nat),Vals xs its/\s.heap.get? p=some { cls:=.type "list",data:=.seq its.toArray n }/\xs.length<=sizeLine:=by
 obtain⟨z,its,n,r,e⟩:=I.aL p _ h
 exact⟨its,n,r,e,z⟩
theorem Inv.GX{pins:VH}{O:St}{H:Hp}{s:Shared}{p:Addr}{xs ys:List V}{its its':List Value}{n n':Nat}{f:Obj->Obj}(I:Inv X pins O H s)(h:H p=some (.lst xs))(ho:s.heap.get? p=some { cls:=.type "list",data:=.seq its.toArray n })(hf:f { cls:=.type "list",data:=.seq its.toArray n }={ cls:=.type "list",data:=.seq its'.toArray n' })(r:Vals ys its')(hz:ys.length<=sizeLine)(t:Nat) :
  Inv X pins O (upd H p (.lst ys)) { s with heap:=s.heap.update p f,toks:=t }:=by
 have e:(s.heap.update p f).get? p=some { cls:=.type "list",data:=.seq its'.toArray n' }:=by
  rw[Ul f ho (by rw[hf]<;>rfl),hf]
 refine I.write (x:=p) (e:=p) (by rw[h];trivial) (.inl U) (λb u hb q=>(Uc _ _ (Ne.symm hb)).trans q) ⟨_,e⟩ ?_
 exact⟨hz,its',n',r,e⟩
def Fg:V->V->V->Hp->(Hp->Prop)->Prop:=λo i v H Q=>∃ p xs k j,o=.ref p/\i=.int k/\H p=some (.lst xs)/\Bd xs.length k=some j/\Q (upd H p (.lst (xs.set j v)))
theorem set_list:LJ X Fg:=by
 intro pins s O H o i v ov iv u Q I ro ri rv h
 obtain⟨p,xs,k,j,rfl,rfl,hp,hj,q⟩:=h
 cases ro
 obtain⟨t,rfl⟩:=ri
 obtain⟨its,n,r,ho,hz⟩:=I.lst hp
 obtain⟨h1,h2,h3,h4⟩:=xm hj
 have hl:=r.length
 have hn:=ki
 have I':Inv X pins O (upd H p (.lst (xs.set j v))) { s with heap:=s.heap.update p (Obj.mapSeq (·.setIfInBounds j u)) } :=
  I.GX hp ho (we its n j u) (r.set rv j) (by rw[Uu];exact hz) s.toks
 by_cases h0:0<=k
 ·have hk:k.toNat=j:=by
   rw[seqIndex_of h0 h4] at h1
   exact Ue h1
  exact PySem.W.ki_setAt ho h0 (by omega) (by rw[TV,<- hl];exact h4) (by rw[hk];exact⟨_,I',q⟩)
 ·have hk:(k+(its.toArray.size:Int)).toNat=j:=by
   rw[seqIndex_neg (by omega) h3] at h1
   rw[TV,<- hl]
   exact Ue h1
  exact PySem.W.ki_setBack ho (by omega) (by rw[TV,<- hl];exact h3) (by omega) (by rw[hk];exact⟨_,I',q⟩)
theorem rY(lo hi:Option Int)(n:Nat):(sliceBounds lo hi none n).1=((HT.ck n 0 lo:Nat):Int)/\(sliceBounds lo hi none n).2.1=((HT.ck n n hi:Nat):Int)/\(sliceBounds lo hi none n).2.2=1:=by
 refine⟨?_,?_,U⟩
 ·cases lo with
  | none=>simp[sliceBounds,HT.ck]
  | some i =>
   simp only[sliceBounds,HT.ck,Option.getD_none,show (1:Int) > 0 by decide,if_true]
   by_cases h:i < 0
   ·simp only[h,if_true]<;>omega
   ·simp only[h,if_false]<;>omega
 ·cases hi with
  | none=>simp[sliceBounds,HT.ck]
  | some i =>
   simp only[sliceBounds,HT.ck,Option.getD_none,show (1:Int) > 0 by decide,if_true]
   by_cases h:i < 0
   ·simp only[h,if_true]<;>omega
   ·simp only[h,if_false]<;>omega
theorem pD(its:List Value)(lo hi:Option Int):slicePick its.toArray lo hi none=((its.drop (HT.ck its.length 0 lo)).take (HT.ck its.length its.length hi - HT.ck its.length 0 lo)).toArray:=by
 obtain⟨h1,h2,h3⟩:=rY lo hi its.toArray.size
 unfold slicePick
 rw[h1,h2,h3]
 simp only[sliceRange_one,pick_run,List.size_toArray]<;>rfl
def JF(K:Frag):V->Option Int->Option Int->Hp->VK->Prop:=λx lo hi H Q=>∃ a xs,x=.ref a/\d5 K H a xs/\∀ p,H p=none->Q (.ref p) (upd H p (.lst (o7 xs lo hi)))
theorem wL:Kc X (JF X.K):=by
 intro pins s O H x v vl vu lo hi sl Q I rx hs pl pu h
 obtain⟨a,xs,rfl,hx,q⟩:=h
 cases rx
 obtain⟨its,r,ht,hz⟩:=I.list hx
 have hlen:=r.length
 refine⟨"list",_,slot_list_getitem.lookup,ht.isList.typeIs,?_⟩
 refine wpAny_getItem_list_slice ht.isList hs pl pu .none (by simp) ?_ (by rw[List.size_toArray]<;>omega)
 rw[pD,<- hlen]
 refine⟨.ref s.heap.objs.size,_,I.laid (t':=s.toks) (o:=.lst (o7 xs lo hi)) (λb ob q=>Ts _ q) (TB _) ?_,U,q _ (I.aL.fresh (TB _))⟩
 exact⟨TU (mF xs lo hi) hz,_,0,(r.drop (HT.ck xs.length 0 lo)).take (HT.ck xs.length xs.length hi - HT.ck xs.length 0 lo),TK _ U⟩
def jr:V->Bool
 | .bD=>true
 | .bl _=>true
 | .int _=>true
 | .str _=>true
 | _=>false
def Df:V->V->Bool
 | .bD,.bD=>true
 | .bl a,.bl b=>a == b
 | .bl a,.int b=>(if a then 1 else 0) == b
 | .int a,.bl b=>a == (if b then 1 else 0)
 | .int a,.int b=>a == b
 | .str a,.str b=>a == b
 | _,_=>false
theorem HV{A:Around}{s:Shared}{y x:V}{u v:Value}(ry:RelV y u)(rx:RelV x v)(fy:jr y=true)(fx:jr x=true):SeqAt.EqAt A s u v (Df y x):=by
 cases y with
 | bD =>
  cases ry
  cases x with
  | bD=>cases rx;exact SeqAt.EqAt.same _
  | bl b=>cases rx;exact SeqAt.EqAt.none_bool b
  | int b=>obtain⟨t,rfl⟩:=rx;exact SeqAt.EqAt.none_int b t
  | str b=>obtain⟨t,rfl⟩:=rx;exact SeqAt.EqAt.none_str b t
  | _=>exact absurd (show false=true from fx) TF
 | bl a =>
  cases ry
  cases x with
  | bD=>cases rx;exact SeqAt.EqAt.bool_none a
  | bl b=>cases rx;exact SeqAt.EqAt.bool_bool a b
  | int b=>obtain⟨t,rfl⟩:=rx;exact SeqAt.EqAt.bool_int a b t
  | str b=>obtain⟨t,rfl⟩:=rx;exact SeqAt.EqAt.bool_str a b t
  | _=>exact absurd (show false=true from fx) TF
 | int a =>
  obtain⟨t',rfl⟩:=ry
  cases x with
  | bD=>cases rx;exact SeqAt.EqAt.int_none a t'
  | bl b=>cases rx;exact SeqAt.EqAt.int_bool a t' b
  | int b=>obtain⟨t,rfl⟩:=rx;exact SeqAt.EqAt.int_int a t' b t
  | str b=>obtain⟨t,rfl⟩:=rx;exact SeqAt.EqAt.int_str a t' b t
  | _=>exact absurd (show false=true from fx) TF
 | str a =>
  obtain⟨t',rfl⟩:=ry
  cases x with
  | bD=>cases rx;exact SeqAt.EqAt.str_none a t'
  | bl b=>cases rx;exact SeqAt.EqAt.str_bool a t' b
  | int b=>obtain⟨t,rfl⟩:=rx;exact SeqAt.EqAt.str_int a t' b t
  | str b=>obtain⟨t,rfl⟩:=rx;exact SeqAt.EqAt.str_str a t' b t
  | _=>exact absurd (show false=true from fx) TF
 | _=>exact absurd (show false=true from fy) TF
def wc(x:V)(u:Value):Bool:=match u with
 | .none=>Df .bD x
 | .bool b=>Df (.bl b) x
 | .int i _=>Df (.int i) x
 | .str z _=>Df (.str z) x
 | _=>false
theorem Bo{x y:V}{u:Value}(r:RelV y u)(f:jr y=true):wc x u=Df y x:=by
 cases y with
 | bD=>cases r;rfl
 | bl b=>cases r;rfl
 | int i=>obtain⟨t,rfl⟩:=r;rfl
 | str z=>obtain⟨t,rfl⟩:=r;rfl
 | _=>exact absurd (show false=true from f) TF
theorem kC{x:V}:∀ {xs:List V} {us:List Value},Vals xs us->xs.all jr=true->us.any (wc x)=xs.any λy=>Df y x
 | _,_,.nil,_=>rfl
 | y::xs,u::us,.cons r t,f=>by
  rw[List.all_cons,T8] at f
  rw[Uz,Uz,Bo r f.1,kC t f.2]
theorem jm{A:Around}{s:Shared}{x:V}{v:Value}(rx:RelV x v)(fx:jr x=true):∀ {xs:List V} {us:List Value},Vals xs us->xs.all jr=true->∀ u∈us,SeqAt.EqAt A s u v (wc x u)
 | _,_,.nil,_=>λu hu=>by cases hu
 | y::xs,u::us,.cons r t,f=>λu' hu=>by
  rw[List.all_cons,T8] at f
  rcases TX.mp hu with rfl | hu
  ·rw[Bo r f.1];exact HV r rx f.1 fx
  ·exact jm rx fx t f.2 u' hu
def qU(x:V)(xs:List V):Bool:=xs.any λy=>Df y x
def GS(K:Frag)(neg:Bool):R2:=λx y H Q=>∃ p xs,y=.ref p/\(d5 K H p xs\/hV K H p xs)/\jr x=true/\xs.all jr=true/\Q (.bl (if neg then !qU x xs else qU x xs)) H
theorem cL:iV X (compareOp .In) (GS X.K false):=by
 intro pins s O H x y v u Q I rx ry h
 obtain⟨p,xs,rfl,hq,fx,fs,q⟩:=h
 cases ry
 rcases hq with hq | hq
 ·obtain⟨its,r,pl,hz⟩:=I.list hq
  refine SeqAt.in_listAt (wc x) pl.isList (λw hw=>jm rx fx r fs w (by simpa using hw)) ⟨.bl _,H,I,U,?_⟩
  rw[show its.toArray.any (wc x)=its.any (wc x) by simp,kC r fs]
  exact q
 ·obtain⟨its,r,pl,hz⟩:=I.tuple hq
  refine SeqAt.in_tupleAt (wc x) pl (λw hw=>jm rx fx r fs w (by simpa using hw)) ⟨.bl _,H,I,U,?_⟩
  rw[show its.toArray.any (wc x)=its.any (wc x) by simp,kC r fs]
  exact q
theorem eC:iV X (compareOp .NotIn) (GS X.K true):=by
 intro pins s O H x y v u Q I rx ry h
 obtain⟨p,xs,rfl,hq,fx,fs,q⟩:=h
 cases ry
 rcases hq with hq | hq
 ·obtain⟨its,r,pl,hz⟩:=I.list hq
  refine SeqAt.notIn_listAt (wc x) pl.isList (λw hw=>jm rx fx r fs w (by simpa using hw)) ⟨.bl _,H,I,U,?_⟩
  rw[show its.toArray.any (wc x)=its.any (wc x) by simp,kC r fs]
  exact q
 ·obtain⟨its,r,pl,hz⟩:=I.tuple hq
  refine SeqAt.notIn_tupleAt (wc x) pl (λw hw=>jm rx fx r fs w (by simpa using hw)) ⟨.bl _,H,I,U,?_⟩
  rw[show its.toArray.any (wc x)=its.any (wc x) by simp,kC r fs]
  exact q
theorem cE:fq X (.builtin "len") (λxs H Q=>∃ p ys,xs=[.ref p]/\(d5 X.K H p ys\/hV X.K H p ys)/\Q (.int ys.length) H):=by
 intro pins s O H xs us Q I r h
 obtain⟨p,ys,rfl,hq,q⟩:=h
 obtain⟨u,rfl,rx⟩:=vals1 r
 cases rx
 have hn:=ki
 rcases hq with hq | hq
 ·obtain⟨its,r',pl,hz⟩:=I.list hq
  have hlen:=r'.length
  exact Calls.call_len_list pl.isList (by simp only[List.size_toArray]<;>omega) ⟨.int ys.length,H,I.tok _,⟨s.toks+1,by rw[List.size_toArray,hlen]⟩,q⟩
 ·obtain⟨its,r',pl,hz⟩:=I.tuple hq
  have hlen:=r'.length
  exact len_tuple pl (by simp only[List.size_toArray]<;>omega) ⟨.int ys.length,H,I.tok _,⟨s.toks+1,by rw[List.size_toArray,hlen]⟩,q⟩
theorem rC:fq X (.builtin "len") (λxs H Q=>∃ z,xs=[.str z]/\z.length<=sizeLine/\Q (.int z.length) H):=by
 intro pins s O H xs us Q I r h
 obtain⟨z,rfl,hz,q⟩:=h
 obtain⟨u,rfl,t,rfl⟩:=vals1 r
 have hn:=ki
 exact len_str (by omega) ⟨.int z.length,H,I.tok _,⟨_,U⟩,q⟩
theorem dk:fq X (.type "list") (λxs H Q=>∃ p ys,xs=[.ref p]/\(d5 X.K H p ys\/hV X.K H p ys)/\∀ l,H l=none->Q (.ref l) (upd H l (.lst ys))):=by
 intro pins s O H xs us Q I r h
 obtain⟨p,ys,rfl,hq,q⟩:=h
 obtain⟨u,rfl,rx⟩:=vals1 r
 cases rx
 have fin:∀ (its:List Value),Vals ys its->ys.length<=sizeLine->∀ (h':Heap) (c':Nat),(∀ b o',s.heap.get? b=some o'->h'.get? b=some o') ->
   h'.get? s.heap.objs.size=some { cls:=.type "list",dict:=none,data:=.seq its.toArray c',slots:=#[] }->EP X pins O Q (.ref s.heap.objs.size) { s with heap:=h' }:=λits r' hz h' c' kp e =>
  ⟨.ref s.heap.objs.size,_,I.laid (t':=s.toks) kp (TB _) (show cf X.prog X.w _ h' _ (.lst ys) from ⟨hz,its,c',r',e⟩),U,q _ (I.aL.fresh (TB _))⟩
 rcases hq with hq | hq
 ·obtain⟨its,r',pl,hz⟩:=I.list hq
  have hlen:=r'.length
  obtain⟨o,ho,hc,n,hd⟩:=pl.isList
  exact call_list_seq p (.inl U) ho hc hd (λh' c' kp e=>fin its r' hz h' c' kp e) (by simp only[List.size_toArray]<;>omega)
 ·obtain⟨its,r',pl,hz⟩:=I.tuple hq
  have hlen:=r'.length
  obtain⟨o,ho,hc,n,hd⟩:=pl
  exact call_list_seq p (.inr U) ho hc hd (λh' c' kp e=>fin its r' hz h' c' kp e) (by simp only[List.size_toArray]<;>omega)
theorem pG:fq X (.type "tuple") (λxs H Q=>∃ p ys,xs=[.ref p]/\((d5 X.K H p ys/\∀ l,H l=none->Q (.ref l) (upd H l (.tup ys)))\/(hV X.K H p ys/\Q (.ref p) H))):=by
 intro pins s O H xs us Q I r h
 obtain⟨p,ys,rfl,h⟩:=h
 obtain⟨u,rfl,rx⟩:=vals1 r
 cases rx
 rcases h with ⟨hq,q⟩ | ⟨hq,q⟩
 ·obtain⟨its,r',pl,hz⟩:=I.list hq
  have hlen:=r'.length
  refine call_tuple_list pl.isList (λh' kp=>?_) (by simp only[List.size_toArray]<;>omega)
  have I1:Inv X pins O H { s with heap:=h' }:=I.kept (t':=s.toks) kp
  have I2:Inv X pins O (upd H h'.objs.size (.tup ys)) { s with heap:=h'.push { cls:=.type "tuple",data:=.seq its.toArray } } :=
   I1.laid (t':=s.toks) (λb o e=>Ts _ e) (TB _) (show cf X.prog X.w _ _ _ (.tup ys) from ⟨hz,its,r',IsTup.new _ _⟩)
  exact⟨.ref h'.objs.size,_,I2,U,q _ (I1.aL.fresh (TB _))⟩
 ·obtain⟨its,r',pl,hz⟩:=I.tuple hq
  exact call_tuple_same pl ⟨.ref p,H,I,U,q⟩
def MG(K:Frag)(T:String)(x:V)(H:Hp):Prop:=match x with
 | .str _=>T="str"
 | .int _=>T="int"
 | .ref p=>(T="list"/\∃ xs,d5 K H p xs)\/(T="tuple"/\∃ o,K.lookup p=some o/\o.cls=.type "tuple"/\o.dict=none) \/
   (T="dict"/\((∃ kvs,H p=some (.dK kvs))\/∃ kvs,H p=some (.dT kvs)))\/(T="set"/\∃ S n,H p=some (.set S n))
 | _=>False
theorem Au{pins:VH}{O:St}{H:Hp}{s:Shared}{T:String}{x:V}{v:Value}(I:Inv X pins O H s)(r:RelV x v)(ty:MG X.K T x H) :
  s.TypeIs v T/\∀ a,v=.ref a->∃ ob,s.heap.get? a=some ob/\ob.dict=none:=by
 cases x with
 | str z =>
  obtain⟨t,rfl⟩:=r
  cases (show T="str" from ty)
  exact⟨typeIs_str s z t,λ_ e=>nomatch e⟩
 | int i =>
  obtain⟨t,rfl⟩:=r
  cases (show T="int" from ty)
  exact⟨typeIs_int s i t,λ_ e=>nomatch e⟩
 | ref p =>
  cases r
  rcases ty with ⟨rfl,xs,hq⟩ | ⟨rfl,o,hk,hc,hd⟩ | ⟨rfl,hk⟩ | ⟨rfl,S,n,hk⟩
  ·obtain⟨its,_,pl,_⟩:=I.list hq
   refine⟨pl.isList.typeIs,λa e=>?_⟩
   cases e
   obtain⟨o,n,e,c,hd,_⟩:=pl
   exact⟨o,e,hd⟩
  ·refine⟨⟨o,I.i7 p o hk,hc⟩,λa e=>?_⟩
   cases e
   exact⟨o,I.i7 _ o hk,hd⟩
  ·have z:∃ o,s.heap.get? p=some o/\o.ExactDict:=by
    rcases hk with ⟨kvs,hk⟩ | ⟨kvs,hk⟩
    ·obtain⟨_,_,_,_,o,_,_,e,ex,_⟩:=I.aL p _ hk
     exact⟨o,e,ex⟩
    ·obtain⟨_,_,_,_,o,_,_,e,ex,_⟩:=I.aL p _ hk
     exact⟨o,e,ex⟩
   obtain⟨o,e,ex⟩:=z
   refine⟨⟨o,e,ex.1⟩,λa e2=>?_⟩
   cases e2
   exact⟨o,e,ex.2.1⟩
  ·obtain⟨o,_,_,_,e,ex,_⟩:=I.aL p _ hk
   refine⟨⟨o,e,ex.1⟩,λa e2=>?_⟩
   cases e2
   exact⟨o,e,ex.2.1⟩
 | _=>exact False.elim ty
def FR(K:Frag)(T:String)(r:V->List V->Hp->VK->Prop)(to:TE):TE:=λO H Q=>to O H λx H1=>MG K T x H1/\r x [] H1 Q
def PN(K:Frag)(T:String)(r:V->List V->Hp->VK->Prop)(to:TE)(t:TA):TE:=λO H Q=>to O H λx H1=>MG K T x H1/\t O H1 λxs H2=>r x xs H2 Q
variable{o e:Expr}{es:List Expr}{to:TE}{t:TA}{name:Str}{apos cY:Pos}{T id:String}{r:V->List V->Hp->VK->Prop}
theorem BM(pa:PlainAttrs T)(slot:Slot T name id)(HB:typeOf (.builtin id)=pure (.type "method_descriptor"))(hm:Mc X id r)(ho:PE X o to)(jj:attributeBase o name X.env (eval o X.env)=eval o X.env:=by rfl)(iJ:(apos.endLine == cY.line)=true:=by rfl):PE X (.Call (.Attribute o name apos) [] [] cY) (FR X.K T r to):=by
 intro pins s O H Q I h
 refine wpAny_Call_method0_late jj iJ (b8 (ho pins s O H _ I h) λv s1 z2q=>?_)
 obtain⟨x,H1,I1,r1,ty,q1⟩:=z2q
 obtain⟨h1,h2⟩:=Au I1 r1 ty
 exact⟨T,id,pa,slot,HB,h1,h2,Calls.callWith_builtin U (PySem.evalArgs_none (hm pins s1 O H1 x [] v [] Q I1 r1 .nil q1))⟩
theorem EV(pa:PlainAttrs T)(slot:Slot T name id)(HB:typeOf (.builtin id)=pure (.type "method_descriptor"))(hm:Mc X id r)(ho:PE X o to)(ha:PA X (e::es) t)(jj:attributeBase o name X.env (eval o X.env)=eval o X.env:=by rfl)(wk:((backTo cY (starEach (e::es) X.env)).all (λx=>!x.1)&&(backToKw cY (keywordEach [] X.env)).all (λx=>x.1.isSome)
   && decide ((e::es).length+([]:List Keyword).length+(if ([]:List Keyword).isEmpty then 0 else 1) < 30))=true:=by rfl)(iJ:(apos.endLine == cY.line)=true:=by rfl)(hs:VJ X.env e es:=by rfl)(j8:(backTo cY (starEach es X.env)).any (·.1)=false:=by rfl) :
  PE X (.Call (.Attribute o name apos) (e::es) [] cY) (PN X.K T r to t):=by
 intro pins s O H Q I h
 refine wpAny_Call_method_late jj wk iJ U (b8 (ho pins s O H _ I h) λv s1 z3q=>?_)
 obtain⟨x,H1,I1,r1,ty,q1⟩:=z3q
 obtain⟨h1,h2⟩:=Au I1 r1 ty
 refine⟨T,id,pa,slot,HB,h1,h2,?_⟩
 have hA:=ha cY pins s1 O H1 _ I1 q1
 rw[hs] at hA ⊢
 refine Calls.callWith_builtin (by show (false||(backTo cY (starEach es X.env)).any (·.1))=false;rw[j8]<;>rfl) (Calls.evalArgs_plain ?_)
 exact b8 hA λus s2 ⟨vs,H2,I2,r2,q2⟩=>hm pins s2 O H2 x vs v us Q I2 r1 r2 q2
end
def Iy(X:Cx)(id:String)(r:V->List V->Hp->VK->Prop):Prop :=
 ∀ (pins:VH) (s:Shared) (O:St) (H:Hp) (x:V) (xs:List V) (v:Value) (us:List Value) (Q:VK),Inv X pins O H s->RelV x v->Vals xs us->r x xs H Q ->
  wpAny (model X.prog X.w) X.A (call (.builtin id) (v::us)) (EP X pins O Q) X.xe s
theorem Vals.one{x:V}{us:List Value}(h:Vals [x] us):∃ u,us=[u]/\RelV x u:=by
 cases h with
 | cons r t=>cases t with
  | nil=>exact⟨_,U,r⟩
theorem Vals.two{x y:V}{us:List Value}(h:Vals [x,y] us):∃ u v,us=[u,v]/\RelV x u/\RelV y v:=by
 cases h with
 | cons r t=>cases t with
  | cons q t=>cases t with
   | nil=>exact⟨_,_,U,r,q⟩
theorem Vals.zero:∀ {us:List Value},Vals [] us->us=[]
 | _,.nil=>rfl
theorem Vals.dropLast{xs:List V}{us:List Value}(h:Vals xs us):Vals xs.dropLast us.dropLast:=by
 induction h with
 | nil=>exact .nil
 | cons r t ih =>
  cases t with
  | nil=>exact .nil
  | cons q t'=>exact .cons r ih
theorem Vals.eraseIdx:∀ {xs:List V} {us:List Value} (i:Nat),Vals xs us->Vals (xs.eraseIdx i) (us.eraseIdx i)
 | _,_,_,.nil=>.nil
 | _,_,0,.cons _ t=>t
 | _,_,i+1,.cons r t=>.cons r (Vals.eraseIdx i t)
theorem Vals.reverse{xs:List V}{us:List Value}(h:Vals xs us):Vals xs.reverse us.reverse:=by
 induction h with
 | nil=>exact .nil
 | cons r t ih=>rw[U8,U8];exact Vals.append ih (.cons r .nil)
theorem vo{α:Type}(l:List α):l.eraseIdx (l.length - 1)=l.dropLast:=by
 induction l with
 | nil=>rfl
 | cons a r ih =>
  cases r with
  | nil=>rfl
  | cons b r =>
   have e:(a::b::r).length - 1=((b::r).length - 1)+1:=by
    have h1:(a::b::r).length=r.length+2:=rfl
    have h2:(b::r).length=r.length+1:=rfl
    omega
   rw[e,Vu,ih]
   all_goals rfl
theorem qF{α:Type}:∀ (l:List α) (i:Nat),(l.eraseIdx i).length<=l.length
 | [],_=>TB _
 | _::_,0=>Vm _
 | _::r,i+1=>VB (qF r i)
section
variable{X:Cx}{pins:VH}{O:St}{H:Hp}{s:Shared}{l b:Addr}{xs ys zs:List V}
theorem Inv.AJ{its its':List Value}{n:Nat}{f:Array Value->Array Value}{t':Nat}(I:Inv X pins O H s)(hH:H l=some (.lst xs))(e:s.heap.get? l=some { cls:=.type "list",data:=.seq its.toArray n })(hf:f its.toArray=its'.toArray)(hv:Vals ys its')(hz:ys.length<=sizeLine) :
  Inv X pins O (upd H l (.lst ys)) { s with heap:=s.heap.update l (Obj.mapSeq f),toks:=t' }:=by
 have q:=PySem.IsL.update e f
 rw[hf] at q
 refine I.write (x:=l) (e:=l) (by rw[hH];exact trivial) (.inl U) (λb' u hb hu=>(Uc s.heap (Obj.mapSeq f) (Ne.symm hb)).trans hu) ⟨_,q⟩ ?_
 exact⟨hz,its',_,hv,q⟩
theorem Inv.LN{its:List Value}{t':Nat}(I:Inv X pins O H s)(hv:Vals ys its)(hz:ys.length<=sizeLine) :
  Inv X pins O (upd H s.heap.objs.size (.lst ys)) { s with heap:=s.heap.push { cls:=.type "list",data:=.seq its.toArray },toks:=t' } :=
 I.laid (λ_ _ q=>Ts _ q) (TB _) ⟨hz,its,0,hv,TK _ U⟩
theorem Inv.fresh(I:Inv X pins O H s):H s.heap.objs.size=none:=I.aL.fresh (TB _)
theorem Inv.uL(I:Inv X pins O H s)(hH:H l=some (.lst xs)):xs.length<=sizeLine/\∃ (its:List Value) (n:Nat),Vals xs its/\xs.length=its.length/\s.heap.get? l=some { cls:=.type "list",data:=.seq its.toArray n }:=by
 obtain⟨z,its,n,r,e⟩:=I.aL l _ hH
 exact⟨z,its,n,r,r.length,e⟩
theorem AU{n:Nat}(h:n<=sizeLine):Builtin.List.listTooLong n=false:=by
 unfold Builtin.List.listTooLong
 exact decide_eq_false (by omega)
end
section
variable{X:Cx}
def wU:V->List V->Hp->VK->Prop:=λx vs H Q=>∃ l xs y,x=.ref l/\vs=[y]/\H l=some (.lst xs)/\xs.length < sizeLine/\Q .bD (upd H l (.lst (xs++[y])))
theorem qD:Iy X "list.append" wU:=by
 intro pins s O H x vs v us Q I rx rv h
 obtain⟨l,xs,y,rfl,rfl,hH,hz,q⟩:=h
 cases rx
 obtain⟨u,rfl,ru⟩:=rv.one
 obtain⟨z,its,n,r,hl,e⟩:=I.uL hH
 refine call_meets F.slot_list_append ⟨_,e,U⟩ F.entry_list_append (F.args_list_append_2 _ _) (PySem.list_append l its.toArray n u (by rw[TV];omega)) ⟨e,?_⟩
 refine⟨.bD,_,I.AJ (its':=its++[u]) hH e (by simp) (r.append (.cons ru .nil)) ?_,U,q⟩
 rw[Tt,List.length_singleton]
 omega
def xi:V->List V->Hp->VK->Prop:=λx vs H Q=>∃ l b xs zs,x=.ref l/\vs=[.ref b]/\H l=some (.lst xs)/\H b=some (.lst zs)/\xs.length+zs.length<=sizeLine/\Q .bD (upd H l (.lst (xs++zs)))
theorem qm:Iy X "list.extend" xi:=by
 intro pins s O H x vs v us Q I rx rv h
 obtain⟨l,b,xs,zs,rfl,rfl,hH,hB,hz,q⟩:=h
 cases rx
 obtain⟨u,rfl,ru⟩:=rv.one
 cases ru
 obtain⟨z,its,n,r,hl,e⟩:=I.uL hH
 obtain⟨z2,dU,n2,r2,Cb,e2⟩:=I.uL hB
 have hsz:its.toArray.size+dU.toArray.size<=sizeLine:=by rw[TV,TV];omega
 have hlong:¬ (!its.toArray.isEmpty&&Builtin.List.listTooLong (its.toArray.size+dU.toArray.size))=true:=by
  rw[AU hsz,Bool.and_false]
  exact TF
 refine call_meets F.slot_list_extend ⟨_,e,U⟩ F.entry_list_extend (F.args_list_extend_2 _ _)
  (AutoSeq1.list_extend_list_list_0 l its.toArray n b dU.toArray n2 hlong (by rw[TV];omega) (by omega)) ⟨e,e2,?_⟩
 refine⟨.bD,_,I.AJ (its':=its++dU) hH e (by simp) (r.append r2) ?_,U,q⟩
 rw[Tt]
 omega
def HN:V->List V->Hp->VK->Prop:=λx vs H Q=>∃ l xs y,x=.ref l/\vs=[]/\H l=some (.lst xs)/\xs[xs.length - 1]?=some y/\Q y (upd H l (.lst xs.dropLast))
theorem zv:Iy X "list.pop" HN:=by
 intro pins s O H x vs v us Q I rx rv h
 obtain⟨l,xs,y,rfl,rfl,hH,hy,q⟩:=h
 cases rx
 have hus:=rv.zero
 subst hus
 obtain⟨z,its,n,r,hl,e⟩:=I.uL hH
 obtain⟨u,hu,ru⟩:=r.get hy
 have hy':its.toArray[its.toArray.size - 1]?=some u:=by
  show its.toArray[its.length - 1]?=some u
  rw[<- Va,<- hl]
  exact hu
 refine call_meets F.slot_list_pop ⟨_,e,U⟩ F.entry_list_pop (F.args_list_pop_1 _) (MeetsSeq.list_pop_last l its.toArray n u hy' (by rw[TV];omega)) ⟨e,?_⟩
 refine⟨y,_,I.AJ (its':=its.dropLast) hH e ?_ r.dropLast ?_,ru,q⟩
 ·show its.toArray.eraseIdxIfInBounds (its.toArray.size - 1)=its.dropLast.toArray
  rw[TV,List.eraseIdxIfInBounds_toArray,vo]
 ·rw[List.length_dropLast]
  omega
def AD:V->List V->Hp->VK->Prop:=λx vs H Q=>∃ l xs i k y,x=.ref l/\vs=[.int i]/\H l=some (.lst xs)/\-(2 ^ 63)<=i/\i < 2 ^ 63/\seqIndex? i xs.length=some k/\xs[k]?=some y/\Q y (upd H l (.lst (xs.eraseIdx k)))
theorem oF:Iy X "list.pop" AD:=by
 intro pins s O H x vs v us Q I rx rv h
 obtain⟨l,xs,i,k,y,rfl,rfl,hH,h1,h2,hk,hy,q⟩:=h
 cases rx
 obtain⟨u,rfl,ru⟩:=rv.one
 obtain⟨t,rfl⟩:=ru
 obtain⟨z,its,n,r,hl,e⟩:=I.uL hH
 obtain⟨w,hw,rw'⟩:=r.get hy
 refine call_meets F.slot_list_pop ⟨_,e,U⟩ F.entry_list_pop (F.args_list_pop_2 _ _)
  (MeetsSeq.list_pop_at l its.toArray n i t k w (fitsIndex_both h1 h2) (by rw[TV,<- hl];exact hk) (by rw[<- Va];exact hw) (by rw[TV];omega)) ⟨e,?_⟩
 refine⟨y,_,I.AJ (its':=its.eraseIdx k) hH e ?_ (r.eraseIdx k) ?_,rw',q⟩
 ·show its.toArray.eraseIdxIfInBounds k=(its.eraseIdx k).toArray
  rw[List.eraseIdxIfInBounds_toArray]
 ·have:=qF xs k
  omega
def K9:R2:=λx y H Q=>∃ l b xs zs,x=.ref l/\y=.ref b/\H l=some (.lst xs)/\H b=some (.lst zs)/\xs.length+zs.length<=sizeLine/\∀ p,H p=none->Q (.ref p) (upd H p (.lst (xs++zs)))
theorem dE:iV X (binaryOp .Add) K9:=by
 intro pins s O H x y v u Q I rx ry h
 obtain⟨l,b,xs,zs,rfl,rfl,hH,hB,hz,q⟩:=h
 cases rx
 cases ry
 obtain⟨z,its,n,r,hl,e⟩:=I.uL hH
 obtain⟨z2,dU,n2,r2,Cb,e2⟩:=I.uL hB
 refine PySem.P.add_list e e2 ?_ (by rw[TV,TV];omega)
 have ea:its.toArray++dU.toArray=(its++dU).toArray:=by simp
 rw[ea]
 exact⟨.ref _,_,I.LN (t':=s.toks) (r.append r2) (by rw[Tt];omega),U,q _ I.fresh⟩
end
section
variable{prog:Program}{w:World}{A:Around}{E:VG}{s:Shared}
end
section
variable{X:Cx}
end
section
variable{κ:Type}[DecidableEq κ]
def il(kvs:List (κ×V))(k:κ):Option V:=(kvs.find? λkv=>decide (kv.1=k)).map (·.2)
def putK(kvs:List (κ×V))(k:κ)(v:V):List (κ×V) :=
 if (kvs.any λkv=>decide (kv.1=k))=true then kvs.map (λkv=>if kv.1=k then (kv.1,v) else kv) else kvs++[(k,v)]
theorem ow{k:κ}:il ([]:List (κ×V)) k=none:=rfl
theorem gc{p:κ×V}{r:List (κ×V)}{k:κ}(e:p.1=k):il (p::r) k=some p.2:=by simp[il,List.find?_cons,e]
theorem dI{p:κ×V}{r:List (κ×V)}{k:κ}(e:¬ p.1=k):il (p::r) k=il r k:=by simp[il,List.find?_cons,e]
theorem o8(k:κ):∀ kvs:List (κ×V),(kvs.any λkv=>decide (kv.1=k))=(il kvs k).isSome
 | []=>rfl
 | p::r=>by
  rw[Uz]
  by_cases e:p.1=k
  ·simp only[gc e,decide_eq_true e,Bool.true_or,Option.isSome_some]
  ·rw[dI e,decide_eq_false e,Bool.false_or];exact o8 k r
theorem fc(kvs:List (κ×V))(k:κ)(v:V):(putK kvs k v).length<=kvs.length+1:=by
 unfold putK
 split
 ·rw[Tr];omega
 ·rw[Tt,TH,List.length_nil];omega
theorem oH{kvs:List (κ×V)}{k:κ}(v:V)(h:il kvs k=none):putK kvs k v=kvs++[(k,v)]:=by
 unfold putK
 rw[o8,h]
 exact if_neg (by decide)
theorem iP.lO{o:Option V}{u:Option Value}(r:iP o u):o.isSome=u.isSome:=by
 cases o with
 | none=>cases u with
  | none=>rfl
  | some _=>exact (show False from r).elim
 | some _=>cases u with
  | none=>exact (show False from r).elim
  | some _=>rfl
theorem iP.getD{o:Option V}{u:Option Value}{d:V}{d':Value}(r:iP o u)(rd:RelV d d'):RelV (o.getD d) (u.getD d'):=by
 cases o with
 | none=>cases u with
  | none=>exact rd
  | some _=>exact (show False from r).elim
 | some _=>cases u with
  | none=>exact (show False from r).elim
  | some _=>exact r
theorem KV.val{kvs:List (κ×V)}{vs:List (κ×Value)}(r:KV kvs vs)(k:κ):iP (il kvs k) (valueAt vs k):=by
 unfold KV at r
 induction r with
 | nil=>exact True.intro
 | @cons p q ps qs h t ih =>
  obtain⟨h1,h2⟩:=h
  by_cases e:p.1=k
  ·have e':q.1=k:=h1.symm.trans e
   have b:valueAt (q::qs) k=some q.2:=by simp[valueAt,List.find?_cons,e']
   rw[gc e,b];exact h2
  ·have e':¬ q.1=k:=λz=>e (h1.trans z)
   have b:valueAt (q::qs) k=valueAt qs k:=by simp[valueAt,List.find?_cons,e']
   rw[dI e,b];exact ih
theorem KV.any{kvs:List (κ×V)}{vs:List (κ×Value)}(r:KV kvs vs)(k:κ):(kvs.any λkv=>decide (kv.1=k))=vs.any λkv=>decide (kv.1=k):=by
 unfold KV at r
 induction r with
 | nil=>rfl
 | cons h t ih=>rw[Uz,Uz,ih,h.1]
theorem KV.Hk{kvs:List (κ×V)}{vs:List (κ×Value)}(r:KV kvs vs)(k:κ){y:V}{u:Value}(ry:RelV y u) :
  KV (kvs.map λkv=>if kv.1=k then (kv.1,y) else kv) (vs.map λkv=>if kv.1=k then (kv.1,u) else kv):=by
 unfold KV at r ⊢
 induction r with
 | nil=>exact .nil
 | @cons p q ps qs h t ih =>
  rw[TC,TC]
  refine .cons ?_ ih
  obtain⟨h1,h2⟩:=h
  by_cases e:p.1=k
  ·rw[if_pos e,if_pos (h1.symm.trans e)];exact⟨h1,ry⟩
  ·rw[if_neg e,if_neg (λz=>e (h1.trans z))];exact⟨h1,h2⟩
theorem KV.put{kvs:List (κ×V)}{vs:List (κ×Value)}(r:KV kvs vs)(k:κ){y:V}{u:Value}(ry:RelV y u):KV (putK kvs k y) (stored vs k u):=by
 unfold putK stored
 rw[r.any k]
 by_cases e:(vs.any λkv=>decide (kv.1=k))=true
 ·rw[if_pos e,if_pos e];exact r.Hk k ry
 ·rw[if_neg e,if_neg e];exact Paired.snoc r ⟨U,ry⟩
theorem KV.length{kvs:List (κ×V)}{vs:List (κ×Value)}(r:KV kvs vs):kvs.length=vs.length:=Paired.length r
end
theorem qL{P:Program}{w:World}{k:Key}{u:Value}(r:RelV (kV k) u):(bV P w).is k u=true:=by
 cases k with
 | inl i=>obtain⟨t,e⟩:=(show ∃ t,u=Value.int i t from r);subst e;exact uQ P w i t
 | inr x=>obtain⟨t,e⟩:=(show ∃ t,u=Value.str x t from r);subst e;exact t6 P w x t
theorem pS{P:Program}{w:World}:∀ {ks:List Key} {us:List Value},Vals (ks.map kV) us->ItemsAre (bV P w) ks us
 | [],_,r=>by rw[UH] at r;cases r;exact .nil
 | k::ks,_,r=>by
  rw[TC] at r
  cases r with
  | cons h t=>exact .cons (qL h) (pS t)
abbrev KT(H:Hp):List (List Key×V)->List (List Key×Addr×Value)->Prop:=Paired λp q=>p.1=q.1/\H q.2.1=some (.tup (p.1.map kV))/\RelV p.2 q.2.2
theorem KT.val{H:Hp}{kvs:List (List Key×V)}{xs:List (List Key×Addr×Value)}(r:KT H kvs xs)(k:List Key):iP (il kvs k) ((atKey xs k).map (·.2)):=by
 induction r with
 | nil=>exact True.intro
 | @cons p q ps qs h t ih =>
  obtain⟨h1,_,h2⟩:=h
  by_cases e:p.1=k
  ·have e':q.1=k:=h1.symm.trans e
   have b:atKey (q::qs) k=some q.2:=by simp[atKey,List.find?_cons,e']
   rw[gc e,b];exact h2
  ·have e':¬ q.1=k:=λz=>e (h1.trans z)
   have b:atKey (q::qs) k=atKey qs k:=by simp[atKey,List.find?_cons,e']
   rw[dI e,b];exact ih
theorem KT.Hk{H:Hp}{kvs:List (List Key×V)}{xs:List (List Key×Addr×Value)}(r:KT H kvs xs)(k:List Key){y:V}{u:Value}(ry:RelV y u) :
  KT H (kvs.map λkv=>if kv.1=k then (kv.1,y) else kv) (xs.map (putAt k u)):=by
 induction r with
 | nil=>exact .nil
 | @cons p q ps qs h t ih =>
  rw[TC,TC]
  refine .cons ?_ ih
  obtain⟨h1,h2,h3⟩:=h
  unfold putAt
  by_cases e:p.1=k
  ·rw[if_pos e,if_pos (h1.symm.trans e)];exact⟨h1,h2,ry⟩
  ·rw[if_neg e,if_neg (λz=>e (h1.trans z))];exact⟨h1,h2,h3⟩
theorem KT.put{H:Hp}{kvs:List (List Key×V)}{xs:List (List Key×Addr×Value)}(r:KT H kvs xs)(k:List Key){b:Addr}{y:V}{u:Value}(hb:H b=some (.tup (k.map kV)))(ry:RelV y u) :
  KT H (putK kvs k y) (storedH xs k b u):=by
 have e:(kvs.any λkv=>decide (kv.1=k))=(atKey xs k).isSome:=by
  rw[o8,(r.val k).lO,Option.isSome_map]
 unfold putK storedH
 rw[e]
 by_cases q:(atKey xs k).isSome=true
 ·rw[if_pos q,if_pos q];exact r.Hk k ry
 ·rw[if_neg q,if_neg q];exact Paired.snoc r ⟨U,hb,ry⟩
theorem KT.keeps{H H':Hp}{kvs:List (List Key×V)}{xs:List (List Key×Addr×Value)}(r:KT H kvs xs)(ht:∀ b ys,H b=some (.tup ys)->H' b=some (.tup ys)):KT H' kvs xs :=
 Paired.zA r λ_ _ z=>⟨z.1,ht _ _ z.2.1,z.2.2⟩
section
variable{P:Program}{w:World}{H:Hp}{h:Heap}{a:Addr}
theorem Fc{u:HO}(ok:j0 P w H h)(e:Rd H a u):cf P w H h a u:=e.ok ok
theorem pW{kvs:List (Key×V)}(ok:j0 P w H h)(e:Rd H a (.dK kvs)):kvs.length<=sizeLine/\(a == sysModules)=false/\∃ vs,KV kvs vs/\h.DictOf (bV P w) a vs :=
 show cf P w H h a (.dK kvs) from Fc ok e
theorem EG{kvs:List (Key×V)}(ok:j0 P w H h)(e:H a=some (.dK kvs)):kvs.length<=sizeLine/\(a == sysModules)=false/\∃ vs,KV kvs vs/\h.DictOf (bV P w) a vs:=pW ok (.inl e)
theorem lZ{ks:List Key}(ok:j0 P w H h)(e:H a=some (.tup (ks.map kV))):(tupleKind (bV P w)).is h ks a:=by
 obtain⟨_,its,r,o,h1,h2,n,h3⟩:=(show cf P w H h a (.tup (ks.map kV)) from ok a _ e)
 exact⟨o,its.toArray,n,h1,h2,h3,by simpa using pS r⟩
theorem pI{kvs:List (List Key×V)}(ok:j0 P w H h)(e:Rd H a (.dT kvs)):kvs.length<=sizeLine/\(a == sysModules)=false /\
  ∃ xs,KT H kvs xs/\h.DictOfH (tupleKind (bV P w)) a xs:=by
 obtain⟨z,y,xs,r,o,es,ep,h1,h2,h3,h4,h5⟩:=(show cf P w H h a (.dT kvs) from Fc ok e)
 refine⟨z,y,xs,r,o,es,ep,h1,h2,h3,h4,λx hx=>?_,h5⟩
 have all:∀ {l:List (List Key×V)} {m:List (List Key×Addr×Value)},KT H l m->∀ x∈m,(tupleKind (bV P w)).is h x.1 x.2.1:=by
  intro l m q
  induction q with
  | nil=>intro x hx;exact nomatch hx
  | @cons p q ps qs hq t ih =>
   intro x hx
   rcases TX.mp hx with e | hx
   ·subst e
    exact lZ ok (by rw[<- hq.1];exact hq.2.1)
   ·exact ih x hx
 exact all r x hx
theorem Ek{kvs:List (List Key×V)}(ok:j0 P w H h)(e:H a=some (.dT kvs)):kvs.length<=sizeLine/\(a == sysModules)=false /\
  ∃ xs,KT H kvs xs/\h.DictOfH (tupleKind (bV P w)) a xs:=pI ok (.inl e)
end
def gX(H:Hp)(a:Addr)(y:V)(r:Option V):Prop :=
 (∃ kvs k,Rd H a (.dK kvs)/\y=kV k/\r=il kvs k)\/∃ kvs k b,Rd H a (.dT kvs)/\y=.ref b/\H b=some (.tup (k.map kV))/\r=il kvs k
def lQ(H:Hp)(a:Addr)(y v:V)(H':Hp):Prop :=
 (∃ kvs k,H a=some (.dK kvs)/\y=kV k/\kvs.length < sizeLine/\H'=upd H a (.dK (putK kvs k v))) \/
 ∃ kvs k b,H a=some (.dT kvs)/\y=.ref b/\H b=some (.tup (k.map kV))/\kvs.length < sizeLine/\H'=upd H a (.dT (putK kvs k v))
theorem gX.k{H:Hp}{a:Addr}{kvs:List (Key×V)}{k:Key}(e:H a=some (.dK kvs)):gX H a (kV k) (il kvs k):=.inl ⟨kvs,k,.inl e,U,U⟩
theorem gX.t{H:Hp}{a b:Addr}{kvs:List (List Key×V)}{k:List Key}(e:H a=some (.dT kvs))(eb:H b=some (.tup (k.map kV))):gX H a (.ref b) (il kvs k):=.inr ⟨kvs,k,b,.inl e,U,eb,U⟩
theorem lQ.k{H:Hp}{a:Addr}{kvs:List (Key×V)}{k:Key}{v:V}(e:H a=some (.dK kvs))(hl:kvs.length < sizeLine):lQ H a (kV k) v (upd H a (.dK (putK kvs k v))):=.inl ⟨kvs,k,e,U,hl,U⟩
theorem lQ.t{H:Hp}{a b:Addr}{kvs:List (List Key×V)}{k:List Key}{v:V}(e:H a=some (.dT kvs))(eb:H b=some (.tup (k.map kV)))(hl:kvs.length < sizeLine) :
  lQ H a (.ref b) v (upd H a (.dT (putK kvs k v))):=.inr ⟨kvs,k,b,e,U,eb,hl,U⟩
section
variable{X:Cx}{pins:VH}{O:St}{H:Hp}{s:Shared}{a:Addr}{y v:V}{u r:Value}{o:Option V}{A:Around}{E:VG}
theorem Inv.big(I:Inv X pins O H s):sysModules < s.heap.objs.size:=by
 have h:mainGlobals < s.heap.objs.size:=(I.mod.glob.keeps I.bk).lt
 exact Nat.lt_trans (by decide) h
theorem yT{Q:VG}(hu:A.units+1 < cLine)(I:Inv X pins O H s)(g:gX H a y (some v))(ry:RelV y u)(h:∀ w' s',Inv X pins O H s'->RelV v w'->Q w' s') :
  wpAny (model X.prog X.w) A (getItem (.ref a) u) Q E s:=by
 rcases g with ⟨kvs,k,e,ey,l⟩ | ⟨kvs,k,b,e,ey,eb,l⟩
 ·subst ey
  obtain⟨z,hd,vs,rel,dd⟩:=pW I.aL e
  obtain⟨w',hw,rw'⟩:=iP.some_of (v:=v) (o:=valueAt vs k) (by rw[l];exact rel.val k)
  exact wpAny_getItem_of (qL ry) dd.mapOf hw (h w' _ (I.tok _) rw')
 ·subst ey
  cases (show u=Value.ref b from ry)
  obtain⟨z,hd,xs,rel,dd⟩:=pI I.aL e
  obtain⟨w',hw,rw'⟩:=iP.some_of (v:=v) (o:=(atKey xs k).map (·.2)) (by rw[l];exact rel.val k)
  obtain⟨p,hp,hp2⟩:=Up.mp hw
  refine wpAny_getItem_heap (tupleKind_room_in1 hu) (lZ I.aL eb) dd hp ?_
  rw[hp2]
  exact h w' _ (I.tok _) rw'
theorem NY{Q:VG}(hu:A.units+1 < cLine)(I:Inv X pins O H s)(g:gX H a y o)(ry:RelV y u)(h:∀ s',Inv X pins O H s'->Q (.bool o.isSome) s') :
  wpAny (model X.prog X.w) A (compareOp .In u (.ref a)) Q E s:=by
 rcases g with ⟨kvs,k,e,ey,l⟩ | ⟨kvs,k,b,e,ey,eb,l⟩
 ·subst ey
  obtain⟨z,hd,vs,rel,dd⟩:=pW I.aL e
  refine wpAny_in_of (qL ry) hd dd.mapOf ?_
  rw[<- (rel.val k).lO,<- l]
  exact h _ (I.tok _)
 ·subst ey
  cases (show u=Value.ref b from ry)
  obtain⟨z,hd,xs,rel,dd⟩:=pI I.aL e
  refine wpAny_in_heap (tupleKind_room_in1 hu) (lZ I.aL eb) hd dd ?_
  have q:=(rel.val k).lO
  rw[Option.isSome_map] at q
  rw[<- q,<- l]
  exact h _ (I.tok _)
theorem mZ{h':Heap}{t':Nat}{ob:HO}(I:Inv X pins O H s)(mu:Fx (H a))(hs:Heap.SameBut a s.heap h')(he:∃ q,h'.get? a=some q)(new:cf X.prog X.w (upd H a ob) h' a ob) :
  Inv X pins O (upd H a ob) { s with heap:=h',toks:=t' } :=
 I.write (x:=a) (e:=a) mu (.inl U) (λb q hb z=>(hs.2 b hb).trans z) he new
theorem Be{P:Program}{w:World}{H':Hp}{h':Heap}{kvs:List (Key×V)}{vs:List (Key×Value)}(z:kvs.length<=sizeLine)(hd:(a == sysModules)=false)(rel:KV kvs vs)(dd:h'.DictOf (bV P w) a vs) :
  cf P w H' h' a (.dK kvs):=⟨z,hd,vs,rel,dd⟩
theorem yC{H':Hp}{Q:Unit->Shared->Prop}(hu:A.units+1 < cLine)(I:Inv X pins O H s)(g:lQ H a y v H')(ry:RelV y u)(rv:RelV v r)(h:∀ s',Inv X pins O H' s'->Q () s') :
  wpAny (model X.prog X.w) A (setItem (.ref a) u r) Q E s:=by
 rcases g with ⟨kvs,k,e,ey,l,eH⟩ | ⟨kvs,k,b,e,ey,eb,l,eH⟩
 ·subst ey eH
  obtain⟨z,hd,vs,rel,dd⟩:=EG I.aL e
  have hz:vs.length<=sizeLine:=by rw[<- rel.length];exact z
  have hl:(putK kvs k v).length<=sizeLine:=by have:=fc kvs k v;omega
  refine wpAny_setItem_pairs (hsz:=hz) (qL ry) dd λh' dd' hs=>h _ ?_
  have he:∃ q,h'.get? a=some q:=let ⟨q,_,_,hq,_⟩:=dd';⟨q,hq⟩
  exact mZ I (by rw[e];exact True.intro) hs he (Be hl hd (rel.put k rv) dd')
 ·subst ey eH
  cases (show u=Value.ref b from ry)
  obtain⟨z,hd,xs,rel,dd⟩:=Ek I.aL e
  have hz:xs.length<=sizeLine:=by rw[<- Paired.length rel];exact z
  have hl:(putK kvs k v).length<=sizeLine:=by have:=fc kvs k v;omega
  refine wpAny_setItem_heap (hsz:=hz) (tupleKind_room_in1 hu) (lZ I.aL eb) dd λh' dd' hs=>h _ ?_
  obtain⟨q,es,ep,hq,h2,h3,h4,_,h5⟩:=dd'
  refine mZ I (by rw[e];exact True.intro) hs ⟨q,hq⟩ ⟨hl,hd,_,(rel.put k eb rv).keeps λc ys ec=>?_,q,es,ep,hq,h2,h3,h4,h5⟩
  rw[aj (wQ ec e (λz=>nomatch z))]
  exact ec
end
section
variable{X:Cx}{pins:VH}{O:St}{H:Hp}{s:Shared}{a:Addr}{kvs:List (Key×V)}{k:Key}{u:Value}{A:Around}{E:VG}
end
def Km(i:Expr):Prop:=∀ ov iv,subscripted i false ov iv=operate [ov,iv] (getItem ov iv)
theorem C1{prog:Program}{w:World}{A:Around}{E:VG}{s:Shared}{env:Env}{value slice:Expr}{pos:Pos}{T id:String}{Q:VG}(hl:typeLookup (.type T) "__getitem__"=pure (some (.builtin id)))(hs:Km slice)(h:wpAny (model prog w) A (eval value env) (λo s₁=>wpAny (model prog w) A (eval slice env) (λi s₂=>s₂.TypeIs o T/\wpAny (model prog w) A (getItem o i) Q E s₂) E s₁) E s) :
  wpAny (model prog w) A (eval (.Subscript value slice pos) env) Q E s:=by
 refine Subscript_ (wpAny_mono h (λo s₁ h₁=>wpAny_mono h₁ (λi s₂ h₂=>?_) λ_ _ x=>x) λ_ _ x=>x)
 obtain⟨hT,h₂⟩:=h₂
 unfold subscriptTail
 refine wpAny_bind ?_
 rw[getitemInPython_of_ne hT.not_modules]
 refine wpAny_bind (wpAny_specialOf hT hl ?_)
 have fin:wpAny (model prog w) A (subscripted slice false o i) (λr s₃=>wpAny (model prog w) A (letTemporaryGo value o r >>= λ_=>pure r) Q E s₃) E s₂:=by
  rw[hs o i]
  exact wpAny_operating (wpAny_mono h₂ (λr s₃ h₃=>wpAny_bind (wpAny_letTemporaryGo (wpAny_pure h₃))) λ_ _ x=>x)
 first
  | exact wpAny_pure (wpAny_bind fin)
  | exact wpAny_bind (wpAny_pure (wpAny_bind fin))
  | exact wpAny_bind fin
theorem tq{X:Cx}{pins:VH}{O:St}{H:Hp}{s:Shared}{a:Addr}{y:V}{o:Option V}(I:Inv X pins O H s)(g:gX H a y o):s.TypeIs (.ref a) "dict":=by
 rcases g with ⟨kvs,k,e,_,_⟩ | ⟨kvs,k,b,e,_,_,_⟩
 ·obtain⟨_,_,vs,_,dd⟩:=pW I.aL e
  exact dd.typeIs
 ·obtain⟨_,_,xs,_,dd⟩:=pI I.aL e
  exact dd.typeIs
def lj(td ty:TE):TE:=λO H Q=>td O H λx H1=>ty O H1 λy H2=>∃ a v,x=.ref a/\gX H2 a y (some v)/\Q v H2
def KC(ty td:TE):TE:=λO H Q=>ty O H λy H1=>td O H1 λx H2=>∃ a o,x=.ref a/\gX H2 a y o/\Q (.bl o.isSome) H2
def tK(td ty tv:TE):TS:=λD O H=>tv O H λv H1=>td O H1 λx H2=>ty O H2 λy H3=>∃ a H4,x=.ref a/\lQ H3 a y v H4/\D.nx O H4
section
variable{X:Cx}{o i e value:Expr}{pos pos' lL:Pos}{td ty tv:TE}
theorem aW(hu:X.A.units+1 < cLine)(ho:PE X o td)(hi:PE X i ty)(hs:Km i):PE X (.Subscript o i pos) (lj td ty):=by
 intro pins s O H Q I h
 refine C1 PySem.F.slot_dict_getitem.lookup hs (b8 (ho pins s O H _ I h) λu s1 zz=>el2 zz λx H1 I1 rx q1=>b8 (hi pins s1 O H1 _ I1 q1) λiv s2 z4q=>?_)
 obtain⟨y,H2,I2,ry,a,v,ex,g,q2⟩:=z4q
 subst ex
 obtain rfl:u=Value.ref a:=rx
 exact⟨tq I2 g,yT hu I2 g ry λw' s3 I3 rw'=>⟨v,H2,I3,rw',q2⟩⟩
theorem Hv(hu:X.A.units+1 < cLine)(hi:PE X i ty)(ho:PE X o td):PC X .In i o (KC ty td):=by
 intro pins s O H Q I h
 refine b8 (hi pins s O H _ I h) λiv s1 zz=>el2 zz λy H1 I1 ry q1=>b8 (ho pins s1 O H1 _ I1 q1) λu s2 z5q=>?_
 obtain⟨x,H2,I2,rx,a,ov,ex,g,q2⟩:=z5q
 subst ex
 obtain rfl:u=Value.ref a:=rx
 exact NY hu I2 g ry λs3 I3=>⟨.bl ov.isSome,H2,I3,U,q2⟩
theorem jK(hu:X.A.units+1 < cLine)(ho:PE X o td)(hi:PE X i ty)(hv:PE X value tv)(hs:swapsWith value (some (.Subscript o i pos')) pos.line X.env=pure false) :
  PS X (.Assign [.Subscript o i pos'] value pos) (tK td ty tv):=by
 intro pins s O H D I h
 refine wpAny_Assign_Subscript (b8 (hv pins s O H _ I h) λr s1 zz=>el2 zz λv H1 I1 rv q1=>b8 (ho pins s1 O H1 _ I1 q1) λu s2 zz=>el2 zz λx H2 I2 rx q2=>b8 (hi pins s2 O H2 _ I2 q2) λiv s3 ⟨y,H3,I3,ry,a,H4,ex,g,q3⟩=>?_) hs
 subst ex
 obtain rfl:u=Value.ref a:=rx
 exact yC hu I3 g ry rv λs4 I4=>⟨O,H4,I4,q3⟩
end
theorem BU{P:Program}{w:World}{H:Hp}(h:Heap)(hb:sysModules < h.objs.size):cf P w H (h.push { cls:=.type "dict",data:=.dict #[] }) h.objs.size (.dK []) :=
 ⟨Uh _,beq_eq_false_iff_ne.mpr (Ne.symm (TQ hb)),[],.nil,Heap.DictOf.new h⟩
theorem uu{P:Program}{w:World}{H:Hp}(h:Heap)(hb:sysModules < h.objs.size):cf P w H (h.push { cls:=.type "dict",data:=.dict #[] }) h.objs.size (.dT []) :=
 ⟨Uh _,beq_eq_false_iff_ne.mpr (Ne.symm (TQ hb)),[],.nil,_,#[],0,TK _ U,⟨U,U,U⟩,U,U,List.nodup_nil⟩
def Hq:TE:=λ_ H Q=>∀ p,H p=none->Q (.ref p) (upd H p (.dT []))
section
variable{X:Cx}{pos:Pos}
theorem Ax:PE X (.Dict [] [] pos) Hq:=λpins s O H Q I h =>
 wpAny_Dict_empty ⟨.ref s.heap.objs.size,_,I.laid (a:=s.heap.objs.size) (o:=.dT []) (t':=s.toks) (λ_ _ q=>Ts _ q) (TB _) (uu s.heap I.big),U,h _ (I.aL.fresh (TB _))⟩
end
def oq:List (TE×TE)->St->Hp->(List (V×V)->Hp->Prop)->Prop
 | [],_,H,Q=>Q [] H
 | (tk,tv)::r,O,H,Q=>tk O H λx H1=>tv O H1 λy H2=>oq r O H2 λps H3=>Q ((x,y)::ps) H3
abbrev VV:List (V×V)->List (Value×Value)->Prop:=Paired λp q=>RelV p.1 q.1/\RelV p.2 q.2
def KL(X:Cx)(pos:Pos)(keys:List (Option Expr))(values:List Expr)(D5:List (TE×TE)):Prop :=
 ∀ (pins:VH) (s:Shared) (O:St) (H:Hp) (Q:List (V×V)->Hp->Prop),Inv X pins O H s->oq D5 O H Q ->
  wpAny (model X.prog X.w) X.A (evalPairs (pairTrees keys values X.env pos)) (λvs s'=>∃ ps H',Inv X pins O H' s'/\VV ps vs/\Q ps H') X.xe s
theorem wJ{X:Cx}{pos:Pos}:KL X pos [] [] []:=λpins s O H Q I h=>pairTrees_nil_walk ⟨[],H,I,.nil,h⟩
theorem kH{X:Cx}{pos:Pos}{k v:Expr}{ks:List (Option Expr)}{vs:List Expr}{tk tv:TE}{D5:List (TE×TE)}(hk:PE X k tk)(hv:PE X v tv)(hr:KL X pos ks vs D5) :
  KL X pos (some k::ks) (v::vs) ((tk,tv)::D5):=λpins s O H Q I h =>
 pairTrees_cons_walk (b8 (hk pins s O H _ I h) λu s1 zz=>el2 zz λx H1 I1 rx q1=>b8 (hv pins s1 O H1 _ I1 q1) λw2 s2 zz=>el2 zz λy H2 I2 ry q2 =>
  b8 (hr pins s2 O H2 _ I2 q2) λws s3 zz=>el2 zz λps H3 I3 rel q3=>⟨(x,y)::ps,H3,I3,.cons ⟨rx,ry⟩ rel,q3⟩)
def gP(kvs more:List (Key×V)):List (Key×V):=more.foldl (λacc kv=>putK acc kv.1 kv.2) kvs
theorem KV.merge:∀ {more:List (Key×V)} {rs:List (Key×Value)} {kvs:List (Key×V)} {vs:List (Key×Value)},KV more rs->KV kvs vs->KV (gP kvs more) (merged vs rs):=by
 intro more rs kvs vs r
 unfold KV at r
 induction r generalizing kvs vs with
 | nil=>intro q;exact q
 | @cons p q ps qs h t ih =>
  intro r0
  have e:KV (putK kvs p.1 p.2) (stored vs q.1 q.2):=by
   have:=r0.put p.1 h.2
   rw[<- h.1];exact this
  exact ih e
theorem jY:∀ (more kvs:List (Key×V)),(gP kvs more).length<=kvs.length+more.length
 | [],kvs=>by show kvs.length<=kvs.length+0;omega
 | p::r,kvs=>by
  have h1:=jY r (putK kvs p.1 p.2)
  have h2:=fc kvs p.1 p.2
  show (gP (putK kvs p.1 p.2) r).length<=_
  rw[TH];omega
theorem oj{P:Program}{w:World}:∀ {kvs:List (Key×V)} {ws:List (Value×Value)},VV (kvs.map λkv=>(kV kv.1,kv.2)) ws->∃ rs,Carries (bV P w) ws rs/\KV kvs rs
 | [],_,r=>by rw[UH] at r;cases r;exact⟨[],True.intro,.nil⟩
 | p::kvs,_,r=>by
  rw[TC] at r
  cases r with
  | @cons a b as bs h t =>
   obtain⟨rs,c,q⟩:=oj (P:=P) (w:=w) t
   obtain⟨b1,b2⟩:=b
   exact⟨(p.1,b2)::rs,⟨qL h.1,U,c⟩,.cons ⟨U,h.2⟩ q⟩
def EW(D5:List (TE×TE)):TE:=λO H Q=>∀ p,H p=none->oq D5 O (upd H p (.dK [])) λps H2=>H2 p=some (.dK [])/\∃ kvs:List (Key×V),ps=kvs.map (λkv=>(kV kv.1,kv.2))/\kvs.length<=15/\Q (.ref p) (upd H2 p (.dK (gP [] kvs)))
theorem xR{X:Cx}{pos:Pos}{keys:List (Option Expr)}{values:List Expr}{D5:List (TE×TE)}(h:KL X pos keys values D5)(uC:keys.all (·.isSome)=true)(hl:keys.length=values.length)(h0:keys≠[])(Iw:keys.length<=15):PE X (.Dict keys values pos) (EW D5):=by
 intro pins s O H Q I q
 have hn:=I.aL.fresh (TB s.heap.objs.size)
 have I1:=I.laid (a:=s.heap.objs.size) (o:=.dK []) (h':=s.heap.push { cls:=.type "dict",data:=.dict #[] }) (t':=s.toks) (λ_ _ q=>Ts _ q) (TB _) (BU s.heap I.big)
 refine wpAny_Dict_walk (knd:=bV X.prog X.w) uC hl h0 Iw (b8 (h pins _ O _ _ I1 (q _ hn)) λws s2 z6q=>?_)
 obtain⟨ps,H2,I2,rel,e,kvs,ep,lk,q2⟩:=z6q
 subst ep
 obtain⟨rs,c,rk⟩:=oj (P:=X.prog) (w:=X.w) rel
 obtain⟨z,hd,vs0,r0,dd⟩:=EG I2.aL e
 cases r0
 refine⟨rs,c,dd,λh' dd' hs=>⟨.ref s.heap.objs.size,_,?_,U,q2⟩⟩
 have hz:(gP [] kvs).length<=sizeLine:=by
  have h1:=jY kvs []
  rw[List.length_nil] at h1
  rw[sizeLine_eq];omega
 have he:∃ q,h'.get? s.heap.objs.size=some q:=let ⟨q,_,_,hq,_⟩:=dd';⟨q,hq⟩
 exact mZ I2 (by rw[e];exact True.intro) hs he (Be hz hd (rk.merge .nil) dd')
structure M1(X:Cx)(o:Expr)(m:Str)(apos:Pos)(e:Expr)(cY:Pos):Prop where
 base:attributeBase o m X.env (eval o X.env)=eval o X.env
 Mz:((backTo cY (starEach [e] X.env)).all (λx=>!x.1)&&(backToKw cY (keywordEach [] X.env)).all (λx=>x.1.isSome)
  && decide (([e]:List Expr).length+([]:List Keyword).length+(if ([]:List Keyword).isEmpty then 0 else 1) < 30))=true
 line:(apos.endLine == cY.line)=true
 trees:backTo cY (starEach [e] X.env)=[(false,eval e X.env)]
def NU(H:Hp)(a:Addr):Prop:=(∃ kvs,Rd H a (.dK kvs))\/∃ kvs,Rd H a (.dT kvs)
theorem HM{X:Cx}{pins:VH}{O:St}{H:Hp}{s:Shared}{a:Addr}(I:Inv X pins O H s)(d:NU H a) :
  s.TypeIs (.ref a) "dict"/\(∀ b,Value.ref a=.ref b->∃ ob,s.heap.get? b=some ob/\ob.dict=none)/\(a == sysModules)=false:=by
 rcases d with ⟨kvs,e⟩ | ⟨kvs,e⟩
 ·obtain⟨_,hd,vs,_,dd⟩:=pW I.aL e
  refine⟨dd.typeIs,λb q=>?_,hd⟩
  cases q
  obtain⟨ob,_,_,h1,h2,_⟩:=dd
  exact⟨ob,h1,h2.2.1⟩
 ·obtain⟨_,hd,xs,_,dd⟩:=pI I.aL e
  refine⟨dd.typeIs,λb q=>?_,hd⟩
  cases q
  obtain⟨ob,_,_,h1,h2,_⟩:=dd
  exact⟨ob,h1,h2.2.1⟩
section
variable{X:Cx}{pins:VH}{O:St}{H:Hp}{s:Shared}{a:Addr}{y d:V}{u r:Value}{o:Option V}{A:Around}{E:VG}
theorem HK{Q:VG}(hu:A.units+1 < cLine)(I:Inv X pins O H s)(g:gX H a y o)(ry:RelV y u)(h:∀ w' s',Inv X pins O H s'->RelV (o.getD .bD) w'->Q w' s') :
  wpAny (model X.prog X.w) A (call (.builtin "dict.get") [.ref a,u]) Q E s:=by
 rcases g with ⟨kvs,k,e,ey,l⟩ | ⟨kvs,k,b,e,ey,eb,l⟩
 ·subst ey
  obtain⟨z,hd,vs,rel,dd⟩:=pW I.aL e
  refine call_meetsIn VE dd.typeIs PySem.F.entry_dict_get (PySem.F.args_dict_get_2 _ _) (meets_dict_get (bV X.prog X.w) a (qL ry) hd) ⟨_,dd.mapOf,h _ _ (I.tok _) ?_⟩
  rw[l]
  exact (rel.val k).getD U
 ·subst ey
  cases (show u=Value.ref b from ry)
  obtain⟨z,hd,xs,rel,dd⟩:=pI I.aL e
  refine call_meetsIn VE dd.typeIs PySem.F.entry_dict_get (PySem.F.args_dict_get_2 _ _) (meetsH_dict_get (tupleKind (bV X.prog X.w)) a b hd) ⟨tupleKind_room_in1 hu,k,xs,lZ I.aL eb,dd,h _ _ (I.tok _) ?_⟩
  rw[l]
  exact (rel.val k).getD U
end
def AB(td ty:TE):TE:=λO H Q=>td O H λx H1=>∃ a,x=.ref a/\NU H1 a/\ty O H1 λy H2=>∃ o,gX H2 a y o/\Q (o.getD .bD) H2
section
variable{X:Cx}{o e f:Expr}{apos cY:Pos}{td ty tx:TE}
theorem uI(hu:X.A.units+1 < cLine)(ho:PE X o td)(he:PE X e ty)(m:M1 X o "get" apos e cY):PE X (.Call (.Attribute o "get" apos) [e] [] cY) (AB td ty):=by
 intro pins s O H Q I h
 refine wpAny_Call_method m.base m.Mz m.line PySem.F.plainAttrs_dict VE PySem.F.type_dict_get (b8 (ho pins s O H _ I h) λu s1 z7q=>?_)
 obtain⟨x,H1,I1,rx,a,ex,d,q1⟩:=z7q
 subst ex
 obtain rfl:u=Value.ref a:=rx
 obtain⟨t1,t2,_⟩:=HM I1 d
 refine⟨t1,t2,?_⟩
 rw[m.trees]
 refine Calls.callWith_builtin U (Calls.evalArgs_plain (Calls.spliced_cons (b8 (he pins s1 O H1 _ I1 q1) λiv s2 ⟨y,H2,I2,ry,ov,g,q2⟩=>Calls.spliced_nil ?_)))
 exact HK hu I2 g ry λw' s3 I3 rw'=>⟨_,H2,I3,rw',q2⟩
end
section
variable{X:Cx}{pins:VH}{O:St}{H:Hp}{s:Shared}{a:Addr}{kvs:List (Key×V)}{A:Around}{E:VG}
end
section
variable{X:Cx}{pins:VH}{O:St}{H:Hp}{s:Shared}{a:Addr}{y:V}{u:Value}{A:Around}{E:VG}
end
end L2
namespace Pa
open PySem PySem.W PySem.Calls PyProof.Rows
theorem mX{P:Params}{h:Heap}:∀ (ns:List Int) (vs:List Value),WellAll P h vs (ns.map WData.int)->IntsAre vs ns:=by
 intro ns
 induction ns with
 | nil =>
  intro vs w
  rw[UH] at w
  cases w
  exact .nil
 | cons n ns ih =>
  intro vs w
  rw[TC] at w
  cases w with
  | cons a b =>
   cases a
   exact .cons _ _ (ih _ b)
theorem yi{l:OpenLaw}{n:Nat}(hn:l.most=some n){P:Params}{h:Heap}{args:List WData}{vals:List Value}(yk:l.row.toRowW.claim.pre args=true)(nq:WellAll P h vals args) :
  ∃ a vs ns,vals=[Value.ref a]/\args=[WData.list (ns.map WData.int)]/\h.get? a=some { cls:=.type "list",data:=.seq vs.toArray }/\IntsAre vs ns/\ns.length<=n:=by
 have hsh:WShape.hasAll [] args [.list .int]=true:=(pre_splitW yk).1
 have hc:l.pre.holds [] { args:=args }=true:=(pre_splitW yk).2
 obtain⟨d,r,rfl,h1,h2⟩:=hasAllW_cons hsh
 obtain rfl:=hasAllW_nil h2
 obtain⟨xs,rfl,h3⟩:=hasW_list h1
 obtain⟨ns,rfl⟩:=items_int h3
 have hlen:ns.length<=n:=by
  unfold OpenLaw.pre at hc
  have h4:(WTm.not (.lt (.lit (.int (n:Int))) (.len (.arg 0)))).holds [] { args:=[.list (ns.map .int)] }=true:=by
   have h4:=(holds_andW hc).1
   rw[hn] at h4
   exact h4
  have h5:=condW_of h4 (w_not (w_lt w_lit (w_len_list (w_arg U))))
  rw[Tr] at h5
  refine Nat.le_of_not_lt λq=>?_
  have q':(n:Int) < ((ns.length:Nat):Int):=by omega
  first
   | (rw[decide_eq_true q'] at h5;exact absurd h5 (by decide))
   | (simp at h5;omega)
 cases nq with
 | cons w1 w2 =>
  cases w2
  cases w1 with
  | list ho uC=>exact⟨_,_,ns,U,U,ho,mX ns _ uC,hlen⟩
theorem yM(l:OpenLaw)(args:List WData):l.row.toRowW.claim.post args (.bool true) args=true :=
 postW_of (r:=l.row.toRowW) (X:=(true == true))
  (show WShape.has [] (.bool true) .bool=true by first | rfl | decide | simp[WShape.has,WShape.arms,WShape.armsAll])
  (show (WTm.eq .res (.lit (.bool true))).value [] { args:=args,res:=some (.bool true),after:=args }=some (.bool (true == true)) from w_eq_bool (w_res U) w_lit) U
theorem t9{l:OpenLaw}{n:Nat}{q:Program}{loose:List Str}{XP:(Str->Option Value)->Heap->Prop}{YP:World->Heap->Prop}{d:DefRec}(hn:l.most=some n)(Ju:d.params.defaults=[])(call:∀ (w:World) (s₀ s₁:Shared) (mg mb:Str->Option Value) (fa:Addr) (o:Obj) (pm cd doc:Value) (a:Addr) (vs:List Value) (ns:List Int),
   Ground q loose [] XP w s₀ mg mb s₁.heap->YP w s₁.heap ->
   s₁.heap.get? fa=some o->o.data=.func (docDef d.name d.params d.body d.scope pm cd doc)->s₁.heap.CodeRec cd d.name->mg d.name=some (.ref fa) ->
   s₁.heap.get? a=some { cls:=.type "list",data:=.seq vs.toArray }->IntsAre vs ns->ns.length<=n->s₁.gens=#[] ->
   codeAny (model l.prog w) callerA (.call (.ref fa) ⟨[.ref a],[]⟩) (λr s'=>r=.ok (.ret (.bool true))/\OldK s₁.heap s'.heap/\s'.os=s₁.os/\AllBare s'.gens) s₁) :
  WalkO q loose XP YP l.row.toRowW d [] (λf vs=>PySem.call f vs):=by
 intro w s₀ s₁ mg mb G Y fa o pm cd doc dV kV ho hd pj hD hmg hg args vals as yk hlay hrd nq hlo
 obtain rfl:dV=.none:=Dflts.none hD Ju
 obtain rfl:kV=.none:=Dflts.noKw hD
 obtain⟨a,vs,ns,rfl,rfl,hobj,hints,hlen⟩:=yi hn yk nq
 refine enter_call (codeAny_mono (call w s₀ s₁ mg mb fa o pm cd doc a vs ns G Y ho (fd_plain hd) pj hmg hobj hints hlen hg) λr s' hq=>?_)
 obtain⟨rfl,h2,h3,h4⟩:=hq
 exact⟨.inl ⟨.bool true,.bool true,[],U,λ_=>rfl,.bool true,yM l _,λ_=>⟨List.Pairwise.nil,λ_ hm=>(nomatch hm)⟩⟩,h2,h3,h4⟩
section
variable{prog:Program}{w:World}{A:Around}{E:VG}{s:Shared}{K:Frag}
end
end Pa
namespace L2
open PySem PySem.Spec PyProof.Rows
theorem qG:∀ {vs:List Value} {ns:List Int},IntsAre vs ns->Vals (ns.map V.int) vs
 | _,_,.nil=>.nil
 | _,_,.cons n t h=>.cons ⟨t,U⟩ (qG h)
def HP(H:Hp):Prop:=∀ b,H b=none\/∃ o xs,H b=some (.je o (.lst xs))
theorem B0{P:Program}{w:World}{K:Frag}{mg mb:Str->Option Value}{CX:vT}{k:Nat}{fa a:Addr}{fd:FuncData}{x:Str}{sp:Sp}{s₁:Shared}{vs:List Value}{ns:List Int}(KX:K.In s₁.heap)(nJ:s₁.heap.Ns mainGlobals mg)(hb:s₁.heap.Ns builtinsNs mb)(FQ:∀ x:Str,x≠"__name__"->mb x=bootBuiltins x)(M9:s₁.heap.NoLimit)(hg:s₁.gens=#[])(ha:s₁.heap.get? a=some { cls:=.type "list",data:=.seq vs.toArray })(hi:IntsAre vs ns)(hl:ns.length<=sizeLine)(hr:cb k callerA)(F:∀ base:Heap,K.In base->base.Ns mainGlobals mg->cw P w K mg base CX k fa fd [x] sp)(IV:∀ (s:Shared) (u:Value),BindsTo s fd ⟨[u],[]⟩ [(x,u)])(Ca:∀ H:Hp,HP H->d5 K H a (ns.map V.int)->sp [.ref a] H (λv _=>v=.bl true) λ_ _ _=>False)(Nw:∀ H e s',CX [] H s₁ (λ_ _ _=>False) e s'->False) :
  codeAny (model P w) callerA (.call (.ref fa) ⟨[.ref a],[]⟩) (λr s'=>r=.ok (.ret (.bool true))/\OldK s₁.heap s'.heap/\s'.os=s₁.os/\AllBare s'.gens) s₁:=by
 have rv:=qG hi
 have lenV:=hi.length
 -- from an abstract heap in which nothing but the script may be tracked
 have core:∀ H:Hp,HP H->d5 K H a (ns.map V.int)->j0 P w H s₁.heap->(∀ b,H b≠none->b=a)->(H a≠none->K.lookup a=none) ->
   codeAny (model P w) callerA (.call (.ref fa) ⟨[.ref a],[]⟩) (λr s'=>r=.ok (.ret (.bool true))/\OldK s₁.heap s'.heap/\s'.os=s₁.os/\AllBare s'.gens) s₁:=by
  intro H hO hS aL hA hK
  have base_of:∀ {b:Addr} {o:Obj},s₁.heap.get? b=some o->H b=none->(sk s₁.heap H).get? b=some o:=λe n=>Bf e n
  have noA:∀ {b:Addr} {o:Obj} {es:Array DictEntry} {ep:Nat},s₁.heap.get? b=some o->o.data=.dict es ep->H b=none:=λ{b o es ep} e d=>by
   cases q:H b with
   | none=>rfl
   | some u =>
    have e':b=a:=hA b (by rw[q];simp)
    subst e'
    rw[ha] at e;cases e
    have d':Data.seq vs.toArray _=Data.dict es ep:=d
    cases d'
  have nsK:∀ {b:Addr} {m:Str->Option Value},s₁.heap.Ns b m->(sk s₁.heap H).Ns b m:=λ{b m} ⟨o,es,ep,e,d,r⟩=>⟨o,es,ep,base_of e (noA e d),d,r⟩
  have hKb:K.In (sk s₁.heap H):=λb o e=>base_of (KX b o e) (by
   cases q:H b with
   | none=>rfl
   | some u =>
    have e':b=a:=hA b (by rw[q];simp)
    subst e'
    rw[hK (by rw[q];simp)] at e;cases e)
  have hM:Mod K mg (sk s₁.heap H):=⟨hKb,nsK nJ,⟨mb,nsK hb,FQ⟩,let ⟨mc,h1,h2⟩:=M9;⟨mc,nsK h1,h2⟩⟩
  have e0:vC P w K mg (sk s₁.heap H) callerA [] s₁ H:=⟨U,hM,λb o e=>CV e,Nat.le_of_eq (yN _ _),trivial,λb hb=>absurd (show b∈([]:List Addr) from hb) (by simp),aL,.of_eq hg⟩
  refine codeAny_mono ((F _ hKb (nsK nJ)).run callerA [] s₁ H ⟨[.ref a],[]⟩ [.ref a] [.ref a] _ _ hr e0 (IV s₁ (.ref a)) (.cons U .nil) (Ca H hO hS)) λr s' h=>?_
  cases r with
  | error e=>exact (Nw H e s' h).elim
  | ok fl =>
   cases fl with
   | next=>exact False.elim h
   | brk=>exact False.elim h
   | cont=>exact False.elim h
   | ret u =>
    obtain⟨v,H',os,bare,un,hok',r',q⟩:=h
    have q':v=.bl true:=q
    subst q'
    obtain rfl:u=Value.bool true:=r'
    refine⟨U,OldK.of_keep λb o e=>?_,os,bare⟩
    cases q:H b with
    | none=>exact un.keep b o e q (by intro z;exact absurd (show b∈([]:List Addr) from z) (by simp)) (by simp)
    | some u =>
     rcases hO b with z | ⟨ob,xs,z⟩
     ·rw[q] at z;cases z
     ·have z2:=un.pH b ob _ z
      obtain⟨e1,_⟩:=aL b _ z
      obtain⟨e2,_⟩:=hok' b _ z2
      rw[e] at e1;cases e1
      exact e2
 cases hk:K.lookup a with
 | some o =>
  -- the script is one of the module's own objects
  have e:=KX a o hk
  rw[ha] at e
  cases e
  refine core (λ_=>none) (λ_=>.inl U) (.inr ⟨_,vs.toArray,_,hk,U,U,U,by rw[List.size_toArray,lenV];exact hl,by simpa using rv⟩) (λb u z=>by have z':(none:Option HO)=some u:=z;cases z') (λb z=>absurd U z) λz=>absurd U z
 | none =>
  refine core (λb=>if b=a then some (.je { cls:=.type "list",data:=.seq vs.toArray } (.lst (ns.map V.int))) else none) (λb=>?_) (.inl (.inr ⟨{ cls:=.type "list",data:=.seq vs.toArray },if_pos U⟩)) (λb u z=>?_) (λb z=>?_) λ_=>hk
  ·by_cases hb:b=a
   ·exact .inr ⟨_,_,if_pos hb⟩
   ·exact .inl (if_neg hb)
  ·by_cases hb:b=a
   ·have z':=(if_pos hb).symm.trans z
    cases z'
    subst hb
    exact⟨ha,by rw[Tr];exact hl,vs,_,rv,ha⟩
   ·have z':=(if_neg hb).symm.trans z
    cases z'
  ·by_cases hb:b=a
   ·exact hb
   ·exact absurd (if_neg hb) z
theorem Dk{l:PySem.W.OpenLaw}{n k:Nat}{q:Program}{loose:List Str}{XP:(Str->Option Value)->Heap->Prop}{YP:World->Heap->Prop}{d:DefRec}{K:Params->Frag}{CX:World->vT}{sp:World->Sp}{x:Str}(hn:l.most=some n)(FT:n<=sizeLine)(Ju:d.params.defaults=[])(hr:cb k callerA)(hY:∀ (w:World) (h:Heap),YP w h->(K w.params).In h)(F:∀ (w:World) (mg:Str->Option Value) (fa:Addr) (h:Heap),(K w.params).In h->h.Ns mainGlobals mg->mg d.name=some (.ref fa) ->
   ∃ fd:FuncData,(∀ (s:Shared) (u:Value),BindsTo s fd ⟨[u],[]⟩ [(x,u)]) /\
    ∀ base:Heap,(K w.params).In base->base.Ns mainGlobals mg->cw l.prog w (K w.params) mg base (CX w) k fa fd [x] (sp w))(Ca:∀ (w:World) (H:Hp) (a:Addr) (ns:List Int),ns.length<=n->HP H->d5 (K w.params) H a (ns.map V.int)->sp w [.ref a] H (λv _=>v=.bl true) λ_ _ _=>False)(Nw:∀ (w:World) (H:Hp) (s:Shared) (e:Value) (s':Shared),CX w [] H s (λ_ _ _=>False) e s'->False) :
  PySem.W.WalkO q loose XP YP l.row.toRowW d [] (λf vs=>PySem.call f vs):=by
 refine Pa.t9 hn Ju λw s₀ s₁ mg mb fa o pm cd doc a vs ns G Y ho hd pj hmg hobj hints hlen hg=>?_
 have KX:=hY w _ Y
 obtain⟨fd,hb,hF⟩:=F w mg fa _ KX G.T.g hmg
 exact B0 KX G.T.g G.T.b G.T.builtins G.T.nolimit hg hobj hints (TU hlen FT) hr hF hb (λH hO hS=>Ca w H a ns hlen hO hS) λH e s'=>Nw w H s₁ e s'
def inClass(s:Stmt)(j:Nat):Stmt:=match s with
 | .ClassDef _ _ _ body _ _ _ _ _ _ _=>body.getD j (.Pass ⟨0,0,0,0⟩)
 | _=>.Pass ⟨0,0,0,0⟩
def eZ(s:Stmt):Arguments:=match s with
 | .FunctionDef _ a _ _ _ _ _ _ _ _=>a
 | _=>{ posonlyargs:=[],args:=[],vararg:=none,kwonlyargs:=[],kw_defaults:=[],kwarg:=none,defaults:=[] }
def bc(s:Stmt):List Stmt:=match s with
 | .FunctionDef _ _ b _ _ _ _ _ _ _=>b
 | _=>[]
def ai(s:Stmt):Scope:=match s with
 | .FunctionDef _ _ _ _ _ _ sc _ _ _=>sc
 | _=>{ kind:=.function,names:=[],isGenerator:=false,isCoroutine:=false }
abbrev bb:vT:=λ_ _ _ _ _ _=>False
abbrev E0:XK:=λ_ _ _=>False
theorem mH{X:Cx}:Passes bb X E0:=λ_ _ _ _ _ _ _ h=>h.elim
structure sR(K:Frag)(x qual:Str)(st:Stmt)(f:Addr)(fd:FuncData):Prop where
 ex:∃ (oc:Value) (od:Option Addr) (kV doc pm:Value) (an:Option Addr) (bN ct:Value) (zl:Array (Option Value)),
  fd=fnOf x qual (eZ st) (bc st) (ai st) .none kV doc pm an bN ct/\K.lookup f=some ⟨oc,od,.func fd,zl⟩/\codeIn K bN qual=true
 kp:keepIn K (.ref f)=true
section
variable{P:Program}{w:World}{K:Frag}{mg:Str->Option Value}{base:Heap}
theorem sR.ok{x qual:Str}{st:Stmt}{f:Addr}{fd:FuncData}{N ps:List Str}{k:Nat}{sp:Sp}(F:sR K x qual st f fd)(S:az N ps (ai st))(len:∀ vs H Q E,sp vs H Q E->vs.length=ps.length)(uN:∀ (bN:Value) (A:Around) (outer:List Env) (s:Shared) (H:Hp) (vs:List V) (Q:VK) (E:XK),cb k (A.deeper (envOfC qual (ai st) s.heap.objs.size f bN))->sp vs H Q E ->
   ∃ t,nz (jl bb P w K mg base N qual (ai st) f bN A outer s H E).sV (bc st) t/\t { nx:=λ_ H'=>Q .bD H',rt:=Q } (start N vs) H):cw P w K mg base bb (k+1) f fd ps sp:=by
 obtain⟨oc,od,kV,doc,pm,an,bN,ct,zl,rfl,lk,pj⟩:=F.ex
 refine Fe lk pj S len λA outer s H vs Q E hr Ca=>?_
 obtain⟨t,h,q⟩:=uN bN A outer s H vs Q E hr Ca
 exact⟨t,h.sV,q⟩
theorem sR.binds{x qual:Str}{st:Stmt}{f:Addr}{fd:FuncData}{ps:List Str}(F:sR K x qual st f fd)(h:∀ (kV doc pm:Value) (an:Option Addr) (bN ct:Value) (us:List Value),us.length=ps.length->bindArgs (fnOf x qual (eZ st) (bc st) (ai st) .none kV doc pm an bN ct) ⟨us,[]⟩=pure (ps.zip us)):Binds K fd ps []:=by
 obtain⟨oc,od,kV,doc,pm,an,bN,ct,zl,rfl,lk,pj⟩:=F.ex
 exact .all (h kV doc pm an bN ct)
theorem oG{x qual:Str}{st:Stmt}{f:Addr}{oc:Value}{od an:Option Addr}{zl:Array (Option Value)}{kV doc pm bN ct:Value}(l:K.lookup f=some ⟨oc,od,.func (fnOf x qual (eZ st) (bc st) (ai st) .none kV doc pm an bN ct),zl⟩)(c:codeIn K bN qual=true)(k:keepIn K (.ref f)=true):sR K x qual st f (fnOf x qual (eZ st) (bc st) (ai st) .none kV doc pm an bN ct):=⟨⟨oc,od,kV,doc,pm,an,bN,ct,zl,U,l,c⟩,k⟩
end
theorem b7{A:Around}{k:Nat}(hr:cb k A):A.units+1 < cLine:=Nat.lt_of_le_of_lt (Nat.add_le_add_left (by decide:1<=64) _) hr.units
theorem lz{n:Nat}(h:n<=1000):n < sizeLine:=Nat.lt_of_le_of_lt h (by decide)
section
variable{X:Cx}
theorem pv(i:Nat){x:Str}{pos:Pos}(hN:X.N[i]?=some x:=by rfl)(hv:Im X.env.scope x:=by first | exact Or.inl U | exact Or.inr (Or.inl U) | exact Or.inr (Or.inr U))(hd:VM x:=by decide)(pj:(x == ("__classdict__":Str))=false:=by decide):PE X (.Name x pos) (bB i):=vk hN hv hd pj
end
theorem sv{A B:Prop}(h:B):if false=true then A else B:=by
 rw[if_neg TF]
 exact h
theorem lJ{A B:Prop}(h:A):if true=true then A else B:=by
 rw[if_pos U]
 exact h
theorem Fs{c A B:Prop}[Decidable c](h1:c->A)(h2:¬ c->B):if c then A else B:=by
 by_cases h:c
 ·rw[if_pos h]
  exact h1 h
 ·rw[if_neg h]
  exact h2 h
def eQ(H H':Hp):Prop:=∀ b o,H b=some o->H' b=some o
theorem eQ.trans{H H1 H2:Hp}(a:eQ H H1)(b:eQ H1 H2):eQ H H2:=λc o h=>b c o (a c o h)
theorem eQ.free{H H':Hp}(e:eQ H H'){l:Addr}(h:H' l=Option.none):H l=Option.none:=by
 cases q:H l with
 | none=>rfl
 | some o =>
  rw[e l o q] at h
  cases h
theorem eQ.seq{K:Frag}{H H':Hp}{a:Addr}{xs:List V}(e:eQ H H')(h:d5 K H a xs):d5 K H' a xs:=by
 rcases h with (h | ⟨o,h⟩) | h
 ·exact .inl (.inl (e _ _ h))
 ·exact .inl (.inr ⟨o,e _ _ h⟩)
 ·exact .inr h
section
variable{X:Cx}
end
section
variable{κ:Type}[DecidableEq κ]
end
def gg(env:Env):List (Str×NameKind)->List (Str×Addr)->List (Str×Addr)
 | [],acc=>acc
 | (n,k)::r,acc=>if k == .free then gg env r ((n,(env.cells.lookup n).getD 0)::acc) else gg env r acc
def lV(env:Env)(x:Str×NameKind)(cs:List (Str×Addr)):Sem (ForInStep (List (Str×Addr))) :=
 if x.2 == .free then do
  let a <- cellOf env x.1
  pure (ForInStep.yield ((x.1,a)::cs))
 else pure (ForInStep.yield cs)
theorem mM{env:Env}:∀ (l:List (Str×NameKind)) (acc:List (Str×Addr)),(∀ x∈l,x.2=.free->(env.cells.lookup x.1).isSome=true) ->
  (forIn l acc (lV env):Sem (List (Str×Addr)))=pure (gg env l acc)
 | [],acc,_=>rfl
 | (n,k)::r,acc,h=>by
  have ih:=λacc'=>mM (env:=env) r acc' λx hx=>h x (Tv _ hx)
  rw[List.forIn_cons]
  by_cases hk:k=.free
  ·subst hk
   obtain⟨c,hc⟩:=UP.mp (h (n,.free) Tu U)
   have e:cellOf env n=pure c:=by
    unfold cellOf
    rw[hc]
   have e2:lV env (n,NameKind.free) acc=pure (ForInStep.yield ((n,c)::acc)):=by
    show (if (NameKind.free == NameKind.free)=true then (cellOf env n >>= λa=>pure (ForInStep.yield ((n,a)::acc))) else pure (ForInStep.yield acc))=_
    rw[if_pos (by decide),e]
    rfl
   have e3:gg env ((n,NameKind.free)::r) acc=gg env r ((n,c)::acc):=by
    show (if (NameKind.free == NameKind.free)=true then gg env r ((n,(env.cells.lookup n).getD 0)::acc) else gg env r acc)=_
    rw[if_pos (by decide),hc]
    rfl
   rw[e2,e3,<- ih]
   rfl
  ·have hb:(k == NameKind.free)=false:=by simpa using hk
   have e2:lV env (n,k) acc=pure (ForInStep.yield acc):=by
    show (if (k == NameKind.free)=true then (cellOf env n >>= λa=>pure (ForInStep.yield ((n,a)::acc))) else pure (ForInStep.yield acc))=_
    rw[if_neg (by simp[hb])]
   have e3:gg env ((n,k)::r) acc=gg env r acc:=by
    show (if (k == NameKind.free)=true then gg env r ((n,(env.cells.lookup n).getD 0)::acc) else gg env r acc)=_
    rw[if_neg (by simp[hb])]
   rw[e2,e3,<- ih]
   rfl
theorem jT{scope:Scope}{env:Env}(h:∀ x∈scope.names,x.2=.free->(env.cells.lookup x.1).isSome=true):closureFor scope env=pure (gg env scope.names []):=by
 rw[<- mM scope.names [] h]
 unfold closureFor
 have:(λ(x:Str×NameKind) (r:List (Str×Addr))=>lV env x r)=lV env:=rfl
 first
  | (simp only[lV];rfl)
  | (show (forIn scope.names [] _ >>= λr=>pure r)=_;rw[bind_pure];rfl)
  | rfl
theorem jc{env:Env}{x:Str}{c:Addr}:∀ {l:List (Str×NameKind)} {acc:List (Str×Addr)},(∀ y∈l,y.2=.free->(env.cells.lookup y.1).isSome=true) ->
  (gg env l acc).lookup x=some c->env.cells.lookup x=some c\/acc.lookup x=some c
 | [],acc,_,h=>.inr h
 | (n,k)::r,acc,hl,h=>by
  have hl':=λy hy=>hl y (Tv _ hy)
  unfold gg at h
  by_cases hk:k=.free
  ·subst hk
   rw[if_pos (by decide)] at h
   obtain⟨d,hd⟩:=UP.mp (hl (n,.free) Tu U)
   rw[hd] at h
   rcases jc hl' h with q | q
   ·exact .inl q
   ·rw[UT] at q
    cases e:x == n with
    | true =>
     rw[e] at q
     have e':x=n:=eq_of_beq e
     subst e'
     left
     rw[hd]
     exact q
    | false =>
     rw[e] at q
     exact .inr q
  ·rw[if_neg (by simpa using hk)] at h
   exact jc hl' h
theorem oY{env:Env}{x:Str}:∀ {l:List (Str×NameKind)} {acc:List (Str×Addr)},(acc.lookup x).isSome=true->((gg env l acc).lookup x).isSome=true
 | [],acc,h=>h
 | (n,k)::r,acc,h=>by
  unfold gg
  split
  ·refine oY ?_
   rw[UT]
   cases e:x == n with
   | true=>rfl
   | false=>exact h
  ·exact oY h
theorem nN{env:Env}{x:Str}:∀ {l:List (Str×NameKind)} {acc:List (Str×Addr)},(x,NameKind.free)∈l->((gg env l acc).lookup x).isSome=true
 | (n,k)::r,acc,h=>by
  unfold gg
  rcases TX.mp h with e | h'
  ·cases e
   rw[if_pos (by decide)]
   exact oY (by rw[UT,beq_self_eq_true];rfl)
  ·split<;>exact nN h'
def N9(env:Env)(x:Str×NameKind):Str×NameKind:=if (x.2 == NameKind.free&&env.scope.kind == .function&&env.kindOf x.1 == some .cell)=true then (x.1,NameKind.cell) else (x.1,x.2)
theorem oi{env:Env}{x:Str}{k:NameKind}:∀ {names:List (Str×NameKind)},(names.map (N9 env)).lookup x=some k->names.lookup x=some k\/(names.lookup x=some .free/\k=.cell)
 | [],h=>by simp at h
 | (n,k0)::r,h=>by
  have ih:=@oi env x k r
  rw[TC] at h
  by_cases hc:(k0 == NameKind.free&&env.scope.kind == .function&&env.kindOf n == some .cell)=true
  ·have e:N9 env (n,k0)=(n,NameKind.cell):=if_pos hc
   rw[e,UT] at h
   rw[UT]
   cases e:x == n with
   | true =>
    rw[e] at h
    have hk:k0=.free:=by
     rw[T8,T8] at hc
     exact eq_of_beq hc.1.1
    subst hk
    right
    exact⟨U,(Ue h).symm⟩
   | false =>
    rw[e] at h
    exact ih h
  ·have e:N9 env (n,k0)=(n,k0):=if_neg hc
   rw[e,UT] at h
   rw[UT]
   cases e:x == n with
   | true =>
    rw[e] at h
    exact .inl h
   | false =>
    rw[e] at h
    exact ih h
theorem fW{env:Env}{x:Str}{scope:Scope}{k:NameKind}(h:(relabel scope env).names.lookup x=some k) :
  scope.names.lookup x=some k\/(scope.names.lookup x=some .free/\k=.cell):=oi (env:=env) h
section
variable{prog:Program}{w:World}{A:Around}{R:Result->Shared->Prop}{s:Shared}
theorem rM{elt target iter:Expr}{ifs:List Expr}{scope:Scope}{pos:Pos}{it acc:Value}{env:Env}(I:Nat->Shared->Prop)(turn:∀ n s,I n s->wpAny (model prog w) A (pyNext it) (λr s₁=>match r with
   | none=>R (.ok .next) s₁
   | some v=>wpAny (model prog w) A (letOwnedTupleGo target it v) (λ_ s₁'=>wpAny (model prog w) A (assign target env v) (λ_ s₂ =>
     wpAny (model prog w) A (forIn ifs true λc r=>if r=true then do let ok <- isTrue c env (eval c env);pure (ForInStep.yield ok) else pure (ForInStep.yield r)) (λok s₃ =>
      if ok=true then wpAny (model prog w) A (eval elt env) (λx s₄ =>
       wpAny (model prog w) A (call (.builtin "list.append") [acc,x]) (λ_ s₅=>∃ m,m < n/\I m s₅) (notedBy (model prog w) A env λe s'=>R (.error e) s') s₄) (notedBy (model prog w) A env λe s'=>R (.error e) s') s₃
      else ∃ m,m < n/\I m s₃) (notedBy (model prog w) A env λe s'=>R (.error e) s') s₂) (notedBy (model prog w) A env λe s'=>R (.error e) s') s₁') (notedBy (model prog w) A env λe s'=>R (.error e) s') s₁)
   (notedBy (model prog w) A env λe s'=>R (.error e) s') s)(n:Nat)(h:I n s) :
  codeAny (model prog w) A (.compLoop (.ListComp elt [⟨target,iter,ifs,0⟩] scope pos) 0 it acc env) R s:=by
 refine codeAny_loop U I (λn s hI=>?_) n h
 show wpAny _ A ((compTurn (.ListComp elt [⟨target,iter,ifs,0⟩] scope pos) 0 it acc env).onRaise (λx=>do noteFrame x env;theTreesLotGoes x)) _ _ s
 refine wpAny_noted ?_
 rw[compTurn_list]
 refine wpAny_bind (wpAny_standAt (wpAny_bind (wpAny_mono (turn n s hI) (λr s₁ h₁=>?_) λ_ _ h'=>h')))
 cases r with
 | none=>exact wpAny_pure h₁
 | some v =>
  refine wpAny_bind (wpAny_mono h₁ (λ_ s₁' h₁'=>?_) λ_ _ h'=>h')
  refine wpAny_bind (wpAny_mono h₁' (λ_ s₂ h₂=>wpAny_bind (wpAny_mono h₂ (λok s₃ h₃=>?_) λ_ _ h'=>h')) λ_ _ h'=>h')
  cases ok with
  | false=>exact wpAny_pure ⟨U,h₃⟩
  | true =>
   exact wpAny_bind (wpAny_bind (wpAny_mono h₃ (λx s₄ h₄=>wpAny_bind (wpAny_mono h₄ (λ_ s₅ h₅=>wpAny_pure (wpAny_pure ⟨U,h₅⟩)) λ_ _ h'=>h')) λ_ _ h'=>h'))
end
def lift(nt:Nat)(us:List Nat)(O:St):St:=List.replicate nt none++us.map λj=>(O[j]?).join
def tj(ts:List Str)(us:List Nat)(N:List Str):List Str:=ts++us.map λj=>N.getD j ""
def Cx.comp(X:Cx)(ts:List Str)(us:List Nat)(scope:Scope)(C:Addr)(s:Shared)(H:Hp)(fp:List Addr):Cx :=
 { X with N:=tj ts us X.N,s₀:=s,H₀:=H,env:=compEnvC scope (gg X.env scope.names []) C X.env,outer:=X.stack,ex:=fp,fn:=λ_=>false,pn:=[],xe:=λ_ _=>False }
def Ii(X:Cx)(ifs:List Expr)(t:TT):Prop :=
 ∀ (pins:VH) (s:Shared) (O:St) (H:Hp) (Q:Bool->Hp->Prop),Inv X pins O H s->t O H Q ->
  wpAny (model X.prog X.w) X.A (forIn ifs true λc r=>if r=true then do let ok <- isTrue c X.env (eval c X.env);pure (ForInStep.yield ok) else pure (ForInStep.yield r)) (TP X pins O Q) X.xe s
def El:TT:=λ_ H Q=>Q true H
theorem xp{X:Cx}:Ii X [] El:=λ_ _ _ H _ I h=>wpAny_tests_nil ⟨H,I,h⟩
theorem xC{X:Cx}{c:Expr}{t:TT}(hc:PT X c t):Ii X [c] t:=λpins s O H Q I h=>wpAny_tests_one (hc pins s O H Q I h)
structure bG(X:Cx)(ts:List Str)(us:List Nat)(scope:Scope):Prop where
 kind:scope.kind=.function
 FU:(scope.names.all λx=>x.2 != .cell)=true
 loc:(scope.names.all λx=>x.2 != .local||scope.names.lookup x.1 == some .local)=true
 free:(scope.names.all λx=>x.2 != .free||(X.env.cells.lookup x.1).isSome)=true
 To:(ts.all λx=>scope.names.lookup x == some .local)=true
 SA:(us.all λj=>match X.N[j]? with | some x=>scope.names.lookup x == some .free&&(X.env.kindOf x == some .cell||X.env.kindOf x == some .free) | none=>false)=true
section
variable{X:Cx}{ts:List Str}{us:List Nat}{scope:Scope}
theorem bG.nc(S:bG X ts us scope):∀ x∈scope.names,x.2≠.cell:=λx hx e=>by
 have q:=Uv.mp S.FU x hx
 rw[e] at q
 exact absurd q (by decide)
theorem bG.lc(S:bG X ts us scope):∀ x∈scope.names,x.2=.local->scope.names.lookup x.1=some .local:=λx hx e=>by
 have q:=Uv.mp S.loc x hx
 rw[e] at q
 have q':(scope.names.lookup x.1 == some .local)=true:=by simpa using q
 exact eq_of_beq q'
theorem bG.fr(S:bG X ts us scope):∀ x∈scope.names,x.2=.free->(X.env.cells.lookup x.1).isSome=true:=λx hx e=>by
 have q:=Uv.mp S.free x hx
 rw[e] at q
 simpa using q
theorem bG.Jg(S:bG X ts us scope){j:Nat}(hj:j∈us):∃ x,X.N[j]?=some x/\scope.names.lookup x=some .free/\(X.env.kindOf x=some .cell\/X.env.kindOf x=some .free):=by
 have q:=Uv.mp S.SA j hj
 cases e:X.N[j]? with
 | none=>rw[e] at q;exact absurd (show false=true from q) TF
 | some x =>
  rw[e] at q
  have q:(scope.names.lookup x == some .free&&(X.env.kindOf x == some .cell||X.env.kindOf x == some .free))=true:=q
  rw[T8,Bool.or_eq_true] at q
  exact⟨x,U,eq_of_beq q.1,q.2.imp eq_of_beq eq_of_beq⟩
theorem Bb{pins:VH}{O:St}{H:Hp}{s:Shared}{fp:List Addr}{h₁:Heap}{t:Nat}{m:Str->Option Value}(S:bG X ts us scope)(I:Inv X pins O H s)(hf:∀ b∈fp,fz X pins H b)(zc:∀ b∈fp,b < s.heap.objs.size)(nJ:h₁.Ns s.heap.objs.size m)(keep:∀ b o,s.heap.get? b=some o->h₁.get? b=some o) :
  Inv (X.comp ts us scope s.heap.objs.size s H fp) [] (lift ts.length us O) H { s with heap:=h₁,toks:=t }:=by
 have cl:∀ x c,(gg X.env scope.names []).lookup x=some c->X.env.cells.lookup x=some c:=λx c e=>by
  rcases jc S.fr e with q | q
  ·exact q
  ·simp at q
 have kd:∀ x,((relabel scope X.env).names.lookup x=some .cell\/(relabel scope X.env).names.lookup x=some .free)->scope.names.lookup x=some .free:=λx hx=>by
  rcases hx with hx | hx
  ·rcases fW hx with q | q
   ·exact absurd U (S.nc _ (UE q))
   ·exact q.1
  ·rcases fW hx with q | q
   ·exact q
   ·cases q.2
 have ok:(X.comp ts us scope s.heap.objs.size s H fp).Ok:=by
  refine⟨I.ok.mod,S.kind,I.ok.glob,I.ok.blt,TB _,λx y c e1 e2=>I.ok.inj x y c (cl x c e1) (cl y c e2),λx hx=>?_,λx c e=>?_,I.ok.hd,I.ok.frames,.inl U,λb hb=>?_,I.bs,TU I.ok.Ce I.sz,λb o e hb=>?_,λb hb hb2=>?_,I.stack,I.rG⟩
  ·have q:=kd x hx
   exact UP.mp (nN (UE q))
  ·cases (show (false:Bool)=true from e)
  ·obtain⟨f0,f1,f2,f3,f4,f5⟩:=hf b hb
   exact⟨TQ (zc b hb),λx c e=>f4 x c (cl x c e)⟩
  ·obtain⟨f0,f1,f2,f3,f4,f5⟩:=hf b hb
   rcases f3 with z | z
   ·exact I.ok.yW b o e z
   ·exact absurd (TN (Tz e) (TU I.ok.Ce z)) (UR _)
  ·obtain⟨f0,f1,f2,f3,f4,f5⟩:=hf b hb
   rcases TX.mp (I.vE b hb2) with z | z
   ·exact f1 z
   ·exact f2 z
 refine⟨ok,U,I.bare,Un.kept keep,⟨m,nJ,λi x v h1 h2 h3=>?_⟩,λx c e=>?_,I.aL.fresh (Nat.le_refl _),λx c e=>I.gu x c (cl x c e),λp hp=>absurd (show p∈([]:VH) from hp) (by simp),I.aL.kept keep,?_⟩
 ·have h1:(tj ts us X.N)[i]?=some x:=h1
  have h2:(lift ts.length us O)[i]?=some (some v):=h2
  by_cases hi:i < ts.length
  ·unfold lift at h2
   rw[List.getElem?_append_left (by simpa using hi),List.getElem?_replicate] at h2
   split at h2<;>cases h2
  ·have zW:ts.length<=i:=Nat.le_of_not_lt hi
   unfold lift at h2
   unfold tj at h1
   rw[List.getElem?_append_right (by simpa using zW),List.length_replicate,List.getElem?_map] at h2
   rw[List.getElem?_append_right zW,Us] at h1
   cases ej:us[i - ts.length]? with
   | none=>rw[ej] at h1;cases h1
   | some j =>
    rw[ej] at h1 h2
    obtain⟨y,hy,hyf,hyk⟩:=S.Jg (Uw ej)
    have e1:X.N.getD j ""=x:=Ue h1
    have e2:X.N.getD j ""=y:=by rw[List.getD_eq_getElem?_getD,hy];rfl
    have exy:y=x:=e2.symm.trans e1
    subst exy
    have e3:(O[j]?).join=some v:=Ue h2
    have e4:O[j]?=some (some v):=by
     cases q:O[j]? with
     | none=>rw[q] at e3;cases e3
     | some z =>
      rw[q] at e3
      have:z=some v:=e3
      rw[this]
    obtain⟨m0,hn0,hl0⟩:=I.loc
    have hvis:Im X.env.scope y:=.inr hyk
    obtain⟨u,r,l⟩:=hl0 j y v hy e4 hvis
    refine⟨u,r,?_⟩
    rcases l with ⟨k1,_⟩ | ⟨k1,c,hc,hcell⟩
    ·rcases hyk with z | z
     ·rw[k1] at z;cases z
     ·rw[k1] at z;cases z
    ·refine .inr ⟨?_,c,?_,?_⟩
     ·have h3:(relabel scope X.env).names.lookup y=some .local\/(relabel scope X.env).names.lookup y=some .cell\/(relabel scope X.env).names.lookup y=some .free:=h3
      rcases h3 with z | z
      ·rcases fW z with q | q
       ·rw[hyf] at q;cases q
       ·cases q.2
      ·exact z
     ·obtain⟨c',hc'⟩:=UP.mp (nN (env:=X.env) (acc:=[]) (UE hyf))
      have q:=cl y c' hc'
      rw[hc] at q
      cases q
      exact hc'
     ·obtain⟨o,ho,hd⟩:=hcell
      exact⟨o,keep c o ho,hd⟩
 ·obtain⟨v,o,ho,hd⟩:=I.cell x c (cl x c e)
  exact⟨v,o,keep c o ho,hd⟩
 ·show (lift ts.length us O).length=(tj ts us X.N).length
  unfold lift tj
  rw[Tt,Tt,List.length_replicate,Tr,Tr]
def BD(O O':St):Prop:=∀ (i:Nat) (v:V),O[i]?=some (some v)->O'[i]?=some (some v)
theorem BP{nt i:Nat}{us:List Nat}{O:St}{x:Option V}(hi:i < nt):BD (lift nt us O) ((lift nt us O).set i x):=λj v e=>by
 by_cases hj:j=i
 ·subst hj
  unfold lift at e
  rw[List.getElem?_append_left (by simpa using hi),List.getElem?_replicate] at e
  split at e<;>cases e
 ·rw[TZ (Ne.symm hj)]
  exact e
def vZ(nt:Nat)(us:List Nat)(O:St)(g:TG)(ti:TT)(te:TE)(J:It)(H1:Hp)(Q:VK):Prop :=
 ∀ D,H1 D=none->∃ W:Nat->Nat->List V->Hp->Prop,(∃ m,W 0 m [] (upd H1 D (.lst [])))/\∀ i m ys H2,W i m ys H2->H2 D=some (.lst ys) /\
  ((J.stop i H2/\Q (.ref D) H2)\/(J.go i H2/\ys.length < sizeLine/\∀ x H3,J.Lj i H2 x H3->g x (lift nt us O) H3 λO4 H4=>BD (lift nt us O) O4/\ti O4 H4 λb H5 =>
    if b=true then te O4 H5 λy H6=>H6 D=some (.lst ys)/\∃ m',m' < m/\W (i+1) m' (ys++[y]) (upd H6 D (.lst (ys++[y]))) else ∃ m',m' < m/\W (i+1) m' ys H5))
def uK(nt:Nat)(us:List Nat)(wi:TI)(g:TG)(ti:TT)(te:TE):TE:=λO H Q=>wi O H λJ H1=>vZ nt us O g ti te J H1 Q
theorem nP{tg elt iter:Expr}{ifs:List Expr}{pos:Pos}{g:TG}{ti:TT}{te:TE}{pins:VH}{O:St}{H:Hp}{s:Shared}{it:Addr}{fp:List Addr}{tn:Nat->Heap->Prop}{J:It}{Q:VK}{E:VG}{RR:Value->Addr->Result->Shared->Prop}(S:bG X ts us scope)(hc:X.calm=true)(I:Inv X pins O H s)(T:Turn X.prog X.w X.K tg J fp it tn)(st:tn 0 s.heap)(hf:∀ b∈fp,fz X pins H b)(hg:∀ C s H fp,PG (X.comp ts us scope C s H fp) tg g)(BY:∀ C s H fp,Ii (X.comp ts us scope C s H fp) ifs ti)(he:∀ C s H fp,PE (X.comp ts us scope C s H fp) elt te)(q:vZ ts.length us O g ti te J H Q)(QB:∀ D C s' H',Inv X pins O H' s'->(∃ m,s'.heap.Ns C m)->fz X pins H' C->Q (.ref D) H'->RR (.ref D) C (.ok .next) s') :
  wpAny (model X.prog X.w) X.A (newList []) (λacc s₃=>wpAny (model X.prog X.w) X.A (newFunctionEnv scope X.env.globals (gg X.env scope.names []) [] X.env.qual none .none (some X.env)) (λcenv s₄ =>
   codeAny (model X.prog X.w) X.A (.compStart (.ListComp elt [⟨tg,iter,ifs,0⟩] scope pos) 0 (.ref it) acc { cenv with scope:=relabel scope X.env }) (RR acc cenv.locals) s₄) E s₃) E s:=by
 refine wpAny_newObj_type (wpAny_newFunctionEnv S.nc (by intro y hy;simp at hy) (λh₁ hns₁ hsb₁=>?_) S.kind)
 dsimp only at hns₁ hsb₁ ⊢
 have I3:Inv X pins O (upd H s.heap.objs.size (.lst [])) { s with heap:=s.heap.push { cls:=.type "list",data:=.seq ([]:List Value).toArray } }:=I.LN (its:=[]) (ys:=[]) (t':=s.toks) .nil (Uh _)
 have zc:∀ b∈fp,b < s.heap.objs.size:=λb hb=>by
  obtain⟨o,e,_⟩:=T.obj 0 _ st b hb
  exact Tz e
 have hf3:∀ b∈fp,fz X pins (upd H s.heap.objs.size (.lst [])) b:=λb hb=>by
  obtain⟨f0,fr⟩:=hf b hb
  exact⟨by rw[aj (TQ (zc b hb))];exact f0,fr⟩
 generalize IE:({ s with heap:=s.heap.push { cls:=.type "list",data:=.seq ([]:List Value).toArray } }:Shared)=s3 at I3
 have hs3h:s3.heap=s.heap.push { cls:=.type "list",data:=.seq ([]:List Value).toArray }:=by rw[<- IE]
 have keep:∀ b o,s3.heap.get? b=some o->h₁.get? b=some o:=λb o e=>by
  rw[hs3h] at e
  exact hsb₁.extBut b o (TQ (Tz e)) (Ts _ e)
 have keep0:∀ b o,s.heap.get? b=some o->h₁.get? b=some o:=λb o e=>keep b o (by rw[hs3h];exact Ts _ e)
 obtain⟨W,⟨m0,w0⟩,turn⟩:=q s.heap.objs.size (I.aL.fresh (TB _))
 have hC:(s.heap.push { cls:=.type "list",data:=.seq ([]:List Value).toArray }).objs.size=s3.heap.objs.size:=by rw[hs3h]
 have hfl3:∀ b∈fp,b < s3.heap.objs.size:=λb hb=>by
  rw[hs3h,UA]
  exact Nat.lt_succ_of_lt (zc b hb)
 have hns3:h₁.Ns s3.heap.objs.size (λx=>([]:List (Str×Value)).reverse.lookup x):=by rw[<- hC];exact hns₁
 have I4:∀ t,Inv (X.comp ts us scope s3.heap.objs.size s3 (upd H s.heap.objs.size (.lst [])) fp) [] (lift ts.length us O) (upd H s.heap.objs.size (.lst [])) { s3 with heap:=h₁,toks:=t }:=λt=>Bb S I3 hf3 hfl3 hns3 keep
 have Ip:tn 0 h₁:=T.keep 0 _ _ st λb _ o e=>keep0 b o e
 have loop:∀ s₄:Shared,(∃ t,s₄={ s3 with heap:=h₁,toks:=t }) ->
   codeAny (model X.prog X.w) X.A (.compLoop (.ListComp elt [⟨tg,iter,ifs,0⟩] scope pos) 0 (.ref it) (.ref s.heap.objs.size) (compEnvC scope (gg X.env scope.names []) s3.heap.objs.size X.env)) (RR (.ref s.heap.objs.size) s3.heap.objs.size) s₄:=by
  rintro s₄ ⟨t4,rfl⟩
  have stat:∀ {H':Hp},(∀ b∈fp,H' b=none)->∀ b∈fp,fz (X.comp ts us scope s3.heap.objs.size s3 (upd H s.heap.objs.size (.lst [])) fp) [] H' b:=λ{H'} hn b hb=>by
   have ok:=(I4 0).ok
   exact⟨hn b hb,(ok.Ks b hb).1,ok.yo b hb,.inl hb,(ok.Ks b hb).2,λp hp=>absurd (show p∈([]:VH) from hp) (by simp)⟩
  refine rM (λn s'=>∃ i ys H',Inv (X.comp ts us scope s3.heap.objs.size s3 (upd H s.heap.objs.size (.lst [])) fp) [] (lift ts.length us O) H' s'/\tn i s'.heap/\(∀ b∈fp,H' b=none)/\W i n ys H') ?_ m0
   ⟨0,[],_,I4 t4,Ip,λb hb=>(hf3 b hb).1,w0⟩
  rintro n s5 ⟨i,ys,H5,I5,st5,fr5,w5⟩
  obtain⟨hD,hturn⟩:=turn i n ys H5 w5
  rcases hturn with ⟨stop,qn⟩ | ⟨go,hlen,step⟩
  ·refine b8 (T.done (X.comp ts us scope s3.heap.objs.size s3 (upd H s.heap.objs.size (.lst [])) fp) U U U hc i [] s5 (lift ts.length us O) H5 _ I5 (stat fr5) st5 stop) λr s6 z9q=>?_
   obtain⟨hr,I6⟩:=z9q
   subst hr
   have I7:Inv X pins O H5 s6:=I3.Ei (ch:=fp) I6.os I6.base I6.aL I6.bare λb hb=>by
    obtain⟨f0,f1,f2,f3,f4,f5⟩:=hf3 b hb
    exact⟨f3,f1,f4,f5⟩
   obtain⟨m6,hn6,_⟩:=I6.loc
   exact QB _ _ s6 H5 I7 ⟨m6,hn6⟩ (I3.pq (TB _) I6.free) qn
  ·refine b8 (T.item (X.comp ts us scope s3.heap.objs.size s3 (upd H s.heap.objs.size (.lst [])) fp) U U U hc i [] s5 (lift ts.length us O) H5 _ I5 (stat fr5) st5 go) λr s6 z0q=>?_
   obtain⟨u,hr,h6⟩:=z0q
   subst hr
   refine b8 h6 λ_ s7 z1q=>?_
   obtain⟨x,H7,I7,r7,y7,st7,fr7⟩:=z1q
   have I7':=I7.pinned (stat fr7) (T.obj _ _ st7)
   refine wpAny_mono (hg _ _ _ _ _ s7 (lift ts.length us O) H7 x u _ I7' r7 (step x H7 y7)) (λ_ s8 ⟨O8,H8,I8,kp8,q8⟩=>?_) λ_ _ z=>False.elim z
   refine wpAny_mono (BY _ _ _ _ _ s8 O8 H8 _ I8 q8) (λb s9 ⟨H9,I9,q9⟩=>?_) λ_ _ z=>False.elim z
   have fin:∀ {s':Shared} {H':Hp} {Np:List V},Inv (X.comp ts us scope s3.heap.objs.size s3 (upd H s.heap.objs.size (.lst [])) fp) ([]++nY fp s7.heap) O8 H' s'->(∃ m',m' < n/\W (i+1) m' Np H') ->
     ∃ m,m < n/\∃ i ys H',Inv (X.comp ts us scope s3.heap.objs.size s3 (upd H s.heap.objs.size (.lst [])) fp) [] (lift ts.length us O) H' s'/\tn i s'.heap/\(∀ b∈fp,H' b=none)/\W i m ys H':=λ{s' H' Np} J' z2q=>by
    obtain⟨m',hm,w'⟩:=z2q
    refine⟨m',hm,i+1,Np,H',J'.k9.weak ?_ kp8,T.keep _ _ _ st7 λb hb o e=>(J'.pin (b,o) (Ub _ (Ub _ (iG hb e)))).1,λb hb=>?_,w'⟩
    ·rw[J'.len,I7.len]
    ·obtain⟨o,e,d⟩:=T.obj _ _ st7 b hb
     exact (J'.pin (b,o) (Ub _ (Ub _ (iG hb e)))).2.1
   cases b with
   | false =>
    rw[if_neg TF] at q9 ⊢
    exact fin I9 q9
   | true =>
    rw[if_pos U] at q9 ⊢
    refine wpAny_mono (he _ _ _ _ _ s9 O8 H9 _ I9 q9) (λyv s10 ⟨y,H10,I10,r10,hD10,q10⟩=>?_) λ_ _ z=>False.elim z
    refine wpAny_mono (qD (X:=X.comp ts us scope s3.heap.objs.size s3 (upd H s.heap.objs.size (.lst [])) fp) _ s10 O8 H10 (.ref s.heap.objs.size) [y] (.ref s.heap.objs.size) [yv] (λ_ H'=>∃ m',m' < n/\W (i+1) m' (ys++[y]) H') I10 U (.cons r10 .nil) ⟨_,ys,y,U,U,hD10,hlen,q10⟩) (λ_ s11 ⟨_,H11,I11,_,q11⟩=>?_) λ_ _ z=>False.elim z
    exact fin I11 q11
 have e4:({ s with heap:=h₁,toks:=s.toks+([]:List (Str×Value)).length }:Shared)={ s3 with heap:=h₁,toks:=s.toks+([]:List (Str×Value)).length }:=by rw[<- IE]
 first
  | (rw[e4,hC];exact codeAny_compStart_list (loop _ ⟨_,rfl⟩) (T.self _ 0 _ _ _ Ip (loop _ ⟨_,rfl⟩)))
  | (have L4:=codeAny_compStart_list (elt:=elt) (target:=tg) (iter:=iter) (ifs:=ifs) (rest:=[]) (scope:=scope) (pos:=pos) (loop _ ⟨s.toks+([]:List (Str×Value)).length,U⟩) (T.self _ 0 _ _ _ Ip (loop _ ⟨s.toks+([]:List (Str×Value)).length,U⟩))
     subst IE
     exact L4)
theorem xq{tg elt iter:Expr}{ifs:List Expr}{pos:Pos}{wi:TI}{g:TG}{ti:TT}{te:TE}(S:bG X ts us scope)(hc:X.calm=true)(hi:PI X tg iter wi)(hg:∀ C s H fp,PG (X.comp ts us scope C s H fp) tg g)(BY:∀ C s H fp,Ii (X.comp ts us scope C s H fp) ifs ti)(he:∀ C s H fp,PE (X.comp ts us scope C s H fp) elt te)(hs:VO iter X.env:=by intro _;rfl):PE X (.ListComp elt [⟨tg,iter,ifs,0⟩] scope pos) (uK ts.length us wi g ti te):=by
 intro pins s O H Q I h
 rw[eval_ListComp]
 refine wpAny_comprehension_free (use:=none) U hs (jT S.fr) S.kind S.lc (b8 (hi pins s O H _ I h) λv s1 h1=>b8 h1 λLZ s2 h2=>?_)
 obtain⟨it,fp,tn,J,H2,e,I2,T,E8,f2,q⟩:=h2
 subst e
 refine nP (RR:=λacc C=>compPost (model X.prog X.w) X.A X.xe none (EP X pins O Q) acc C) S hc I2 T E8 f2 hg BY he q ?_
 intro D C s' H' I' hn F q'
 obtain⟨m,hn⟩:=hn
 obtain⟨f0,f1,f2,f3,f4,f5⟩:=F
 refine⟨m,hn,λh' sb=>?_⟩
 have I8:Inv X pins O H' { s' with heap:=h' }:=I'.turned (t':=s'.toks) (λb o hb e=>(sb.2 b hb).trans e) f0 f1 f3 f4 f5
 exact⟨.ref D,H',I8,U,q'⟩
theorem xj{i:Nat}{x:Str}{tg elt iter:Expr}{ifs:List Expr}{pos px B7:Pos}{wi:TI}{g:TG}{ti:TT}{te:TE}(hN:X.N.Nodup)(zW:X.N[i]?=some x)(hx:X.env.scope.names.lookup x=some .local)(S:bG X ts us scope)(hc:X.calm=true)(hi:PI X tg iter wi)(hg:∀ C s H fp,PG (X.comp ts us scope C s H fp) tg g)(BY:∀ C s H fp,Ii (X.comp ts us scope C s H fp) ifs ti)(he:∀ C s H fp,PE (X.comp ts us scope C s H fp) elt te)(FO:swapsWith (.ListComp elt [⟨tg,iter,ifs,0⟩] scope pos) (some (.Name x px)) B7.line X.env=pure true:=by rfl)(hs:VO iter X.env:=by intro _;rfl):PS X (.Assign [.Name x px] (.ListComp elt [⟨tg,iter,ifs,0⟩] scope pos) B7) (jO (uK ts.length us wi g ti te) (d7 i)):=by
 intro pins s O H D I h
 rw[exec_Assign_Name_used _ _ _ _ FO]
 refine wpAny_bind (wpAny_standAt (wpAny_bind ?_))
 show wpAny _ _ (do let _ <- comprehension (.ListComp elt [⟨tg,iter,ifs,0⟩] scope pos) scope X.env _ (newList []) false (eval iter X.env) (some (assign (.Name x px) X.env))) _ _ s
 refine wpAny_bind (wpAny_mono (wpAny_comprehension_free (use:=some (assign (.Name x px) X.env)) (Q:=λ_ s'=>SP X pins D .next s') U hs (jT S.fr) S.kind S.lc
  (b8 (hi pins s O H _ I h) λv s1 h1=>b8 h1 λLZ s2 h2=>?_)) (λ_ s' hq=>wpAny_pure (wpAny_pure hq)) λ_ _ e=>e)
 obtain⟨it,fp,tn,J,H2,e,I2,T,E8,f2,q⟩:=h2
 subst e
 refine nP (RR:=λacc C=>compPost (model X.prog X.w) X.A X.xe (some (assign (.Name x px) X.env)) (λ_ s'=>SP X pins D .next s') acc C) S hc I2 T E8 f2 hg BY he q ?_
 intro L C s' H' I' hn F q'
 obtain⟨m,hn⟩:=hn
 obtain⟨f0,f1,f2,f3,f4,f5⟩:=F
 show wpAny _ _ (assign (.Name x px) X.env (.ref L)) _ _ s'
 refine wpAny_assign_Name (qx I' hN zW (.inl hx) (v:=.ref L) U (λCY I'' hsb=>?_) (.inr hx))
 obtain⟨a,sb,ha⟩:=hsb
 have va:C≠a:=by
  rcases ha with z | z
  ·rw[z];exact f1
  ·exact λw=>f4 x a z w.symm
 refine⟨m,hn.sameBut sb va,λh' sb'=>?_⟩
 have I8:Inv X pins (O.set i (some (.ref L))) H' { CY with heap:=h' }:=I''.turned (t':=CY.toks) (λb o hb e=>(sb'.2 b hb).trans e) f0 f1 f3 f4 f5
 exact⟨_,H',I8,q'⟩
end
end L2
namespace PySem
open Sem (wp)
namespace F
theorem yj:typeLookup (.type "list_reverseiterator") "__len__"=pure none:=by rw[typeLookup_type,builtinLookup_eq_fast];kernel_rfl
theorem Ag:typeLookup (.type "list_reverseiterator") "__length_hint__"=pure (some (.builtin "list_reverseiterator.__length_hint__")):=by rw[typeLookup_type,builtinLookup_eq_fast];kernel_rfl
end F
section
variable{prog:Program}{w:World}{A:Around}{E:VG}{s:Shared}
theorem rZ{R:Result->Shared->Prop}{I:Addr}{fp wr:List Addr}{n:Nat}{P:Nat->Value->Prop}{St:Nat->Heap->Prop}(W:Walks prog w A.in1 I fp wr n P St)(hT:∀ i h,St i h->∃ o,h.get? I=some o/\o.cls=.type "list_reverseiterator")(S:Addr)(res:Value)(c₀:Nat)(qM:St 0 s.heap)(Pu:S∉fp)(hI:I∈fp)(hS:s.heap.get? S=some { cls:=.type "list",data:=.seq #[] c₀ })(hR:∀ h' tk acc' c',(∀ b o,b≠S->b∉wr->s.heap.get? b=some o->h'.get? b=some o)->h'.get? S=some { cls:=.type "list",dict:=none,data:=.seq acc' c',slots:=#[] } ->
   ItemsOf P acc' n->R (.ok (.ret res)) { s with heap:=h',toks:=tk })(hn:n<=sizeLine) :
  wpAny (model prog w) A.in1 (Builtin.List.listExtendWith (.ref S) (.ref I) res)
   (λfin s'=>match fin with | .done f=>R (.ok f) s' | .again c'=>c'.quiet=true/\codeAny (model prog w) A c' R s') (λe s'=>R (.error e) s') s:=by
 have hSI:S≠I:=λe=>Pu (e▸hI)
 have hTs:s.TypeIs (.ref I) "list_reverseiterator":=hT 0 _ qM
 unfold Builtin.List.listExtendWith
 refine wpAny_bind (wpAny_typeOf hTs ?_)
 have h1:Builtin.List.listSameRef (.ref S) (.ref I)=false:=by simp[Builtin.List.listSameRef,hSI]
 have h2:(Value.type "list_reverseiterator" == Value.type "list")=false:=by decide
 have h3:(Value.type "list_reverseiterator" == Value.type "tuple")=false:=by decide
 simp only[h1,h2,h3,Bool.or_false,Bool.false_eq_true,if_false]
 refine wpAny_bind (W.self 0 _ _ _ qM ?_)
 refine wpAny_bind (wpAny_holding ?_)
 unfold Builtin.List.listLengthHint
 refine wpAny_bind (wpAny_specialOf hTs F.yj ?_)
 show wpAny _ A.in1 (specialOf (Value.ref I) (Str.ofString "__length_hint__") >>= _) _ _ _
 refine wpAny_bind (wpAny_specialOf hTs F.Ag ?_)
 generalize hid:("list_reverseiterator.__length_hint__":String)=id0
 wp_delta
 rw[show splitId id0=some ("list_reverseiterator","__length_hint__") from by subst hid;decide+kernel]
 subst hid
 refine wpAny_bind (wpAny_isInstance (b:=true) hTs (by rw[isSubtype_type];kernel_rfl) ?_)
 refine wpAny_pure ?_
 rw[if_neg (by decide)]
 refine wpAny_pure ⟨plainId_quiet F.plain_extend_loop _,codeAny_extend_loopS W.toS hn _ Pu _ n 0 _ _ _ U (Uh _) qM hS (ItemsOf.nil P) λs' acc' c' hm hS' hacc=>?_⟩
 rw[Moved.eq_with hm]
 refine hR s'.heap s'.toks acc' c' (λb ob hb hw e=>hm.heap b ob (λhmem=>?_) e) hS' hacc
 rcases TX.mp hmem with e' | hmem
 ·exact hb e'
 ·exact hw hmem
theorem mW{Q:VG}(hh:A.handled=none){I l:Addr}{items:Array Value}(va:l≠I)(hit:s.heap.IsRevIter I l ((items.size:Int) - 1))(hl:s.heap.IsList l items)(hQ:∀ h' tk acc' c',(∀ b o,b≠I->s.heap.get? b=some o->h'.get? b=some o)->h'.get? s.heap.objs.size=some { cls:=.type "list",dict:=none,data:=.seq acc' c',slots:=#[] } ->
   ItemsOf (λi v=>items[items.size - 1 - i]?=some v) acc' items.size->Q (.ref s.heap.objs.size) { s with heap:=h',toks:=tk })(hn:items.size<=sizeLine) :
  wpAny (model prog w) A (call (.type "list") [.ref I]) Q E s:=by
 have hIlt:I < s.heap.objs.size:=by obtain⟨o,e,_⟩:=hit;exact Tz e
 have hllt:l < s.heap.objs.size:=by obtain⟨o,e,_⟩:=hl;exact Tz e
 refine callType_codes (Q₁:=λobj s₁=>obj=.ref s.heap.objs.size/\s₁={ s with heap:=s.heap.push { cls:=.type "list",data:=.seq #[] } }) F.called_list (F.typeCall_list_1 _) F.entry_list_init
  (code_list_new _ ⟨U,U⟩) λobj s₁ h₁=>?_
 obtain⟨rfl,rfl⟩:=h₁
 have hS:(s.heap.push { cls:=.type "list",data:=.seq #[] }).get? s.heap.objs.size=some { cls:=.type "list",data:=.seq #[] }:=TK _ U
 refine⟨⟨_,hS,U⟩,F.args_list_init_2 _ _,?_⟩
 show wpAny _ _ (do let old <- Builtin.List.listItems (.ref s.heap.objs.size);Builtin.List.listUpdate (.ref s.heap.objs.size) (λ_=>#[]);letGo old.toList.reverse;Builtin.List.listExtendWith (.ref s.heap.objs.size) (.ref I) .none) _ _ _
 refine wpAny_bind ?_
 unfold Builtin.List.listItems
 refine wpAny_bind (wpAny_seqItems hS U (wpAny_pure ?_))
 show wpAny _ _ (updateSeq s.heap.objs.size (λ_=>#[]) >>= λ_=>letGo (#[]:Array Value).toList.reverse >>= λ_=>Builtin.List.listExtendWith (.ref s.heap.objs.size) (.ref I) .none) _ _ _
 refine wpAny_bind (wpAny_updateSeq hS U ?_)
 have hS₂:=Ul (Obj.mapSeq (λ_=>(#[]:Array Value))) hS U
 have oth:∀ b o,b≠s.heap.objs.size->s.heap.get? b=some o->((s.heap.push { cls:=.type "list",data:=.seq #[] }).update s.heap.objs.size (Obj.mapSeq (λ_=>(#[]:Array Value)))).get? b=some o :=
  λb o hb e=>(Uc _ _ (Ne.symm hb)).trans (Ts _ e)
 refine wpAny_bind (wpAny_letGo ?_)
 have W:=Walks.listRev (prog:=prog) (w:=w) (A:=A.in1.in1) hh I l va items
 refine rZ (A:=A.in1) W (λi h st=>let ⟨o,e,c,_⟩:=st.2.1;⟨o,e,c⟩) s.heap.objs.size .none _ ?_ ?_ (by simp) hS₂ (λh' tk acc' c' kp e hacc=>?_) hn
 ·refine⟨Uh _,?_,?_⟩
  ·have e0:(items.size:Int) - 1 - ((0:Nat):Int)=(items.size:Int) - 1:=by omega
   rw[e0]
   exact hit.at λo e=>oth I o (TQ hIlt) e
  ·exact hl.at λo e=>oth l o (TQ hllt) e
 ·intro hm
  rcases TX.mp hm with e | hm
  ·exact absurd e (UO hIlt)
  ·exact absurd (TL.mp hm) (UO hllt)
 ·exact⟨U,hQ h' tk acc' c' (λb o hb eb=>kp b o (Nat.ne_of_lt (Heap.lt_size eb)) (by simpa using hb) (oth b o (Nat.ne_of_lt (Heap.lt_size eb)) eb)) e hacc⟩
end
end PySem
namespace L2
open PySem PySem.Spec PyProof.Rows
section
variable{X:Cx}{tg:Expr}
end
section
variable{X:Cx}
def uO(K:Frag)(te:TE):TE:=λO H Q=>te O H λx H1=>∃ a xs,x=.ref a/\d5 K H1 a xs/\∀ l,H1 l=none->Q (.ref l) (upd H1 l (.lst xs.reverse))
theorem yn{items acc:Array Value}(h:ItemsOf (λi v=>items[items.size - 1 - i]?=some v) acc items.size):acc.toList=items.toList.reverse:=by
 obtain⟨h1,h2⟩:=h
 apply List.ext_getElem?
 intro i
 by_cases hi:i < items.size
 ·have zW:i < acc.size:=by omega
  have e:acc[i]?=some acc[i]:=by simp[zW]
  have:=h2 i _ e
  rw[List.getElem?_reverse (by simpa using hi)]
  rw[Va,e,Array.length_toList,Va]
  rw[<- this]
 ·rw[List.getElem?_eq_none (by simpa using (by omega:acc.size<=i)),List.getElem?_eq_none (by simpa using (by omega:items.size<=i))]
theorem wq{e:Expr}{te:TE}{p p2 pos j4:Pos}(hc:X.calm=true)(IP:Gl X "list")(DX:X.mg "list"=none)(Su:Gl X "reversed")(RA:X.mg "reversed"=none)(he:PE X e te)(hs:starEach [.Call (.Name "reversed" p2) [e] [] j4] X.env=[(false,eval (.Call (.Name "reversed" p2) [e] [] j4) X.env)]:=by rfl)(qt:starEach [e] X.env=[(false,eval e X.env)]:=by rfl) :
  PE X (.Call (.Name "list" p) [.Call (.Name "reversed" p2) [e] [] j4] [] pos) (uO X.K te):=by
 intro pins s O H Q I h
 refine wpAny_Call_Name_kw (gT I IP DX PyProof.Rows.boot_list ?_ (by decide) (by decide))
 refine PyProof.Rows.callWith_type1 ?_ hs U
 rw[hs]
 show wpAny _ _ (spliced ((false,eval (.Call (.Name "reversed" p2) [e] [] j4) X.env)::backTo pos [])) _ _ s
 refine Calls.spliced_cons ?_
 refine wpAny_Call_Name_kw (gT I Su RA PyProof.Rows.boot_reversed ?_ (by decide) (by decide))
 refine PyProof.Rows.callWith_type1 ?_ qt U
 rw[qt]
 show wpAny _ _ (spliced ((false,eval e X.env)::backTo j4 [])) _ _ s
 refine Calls.spliced_cons (b8 (he pins s O H _ I h) λu s1 z3q=>?_)
 obtain⟨x,H1,I1,r1,a,xs,ex,hq,q⟩:=z3q
 subst ex
 cases r1
 refine Calls.spliced_nil ?_
 obtain⟨its,rv,pl,hz⟩:=I1.list hq
 have hp:a < s1.heap.objs.size:=by obtain⟨o,_,e,_⟩:=pl;exact Tz e
 have hlen:=rv.length
 refine call_reversed_list pl.isList ?_
 refine Calls.spliced_nil ?_
 have I2:Inv X pins O H1 { s1 with heap:=s1.heap.push (revObj a ((its.toArray.size:Int) - 1)) }:=I1.kept (t':=s1.toks) λb o e=>Ts _ e
 refine mW (I.ok.hd hc) (items:=its.toArray) (TQ hp) ⟨_,TK _ U,U,U⟩ (pl.isList.push _) (λh' tk acc' c' kp e hacc=>?_) (by rw[TV];omega)
 have e2:=yn hacc
 have F:fz X pins H1 s1.heap.objs.size:=I1.pq (TB _) (I1.aL.fresh (TB _))
 obtain⟨f0,f1,f2,f3,f4,f5⟩:=F
 have hk:∀ b o,s1.heap.get? b=some o->h'.get? b=some o:=λb o eb=>kp b o (TQ (Tz eb)) (Ts _ eb)
 refine⟨.ref _,_,I1.laid (t':=tk) (h':=h') (o:=.lst xs.reverse) hk (by rw[UA];exact Vm _) ?_,U,q _ (I1.aL.fresh (by rw[UA];exact Vm _))⟩
 refine⟨by rw[List.length_reverse];exact hz,acc'.toList,c',?_,by simpa using e⟩
 rw[e2]
 simpa using rv.reverse
theorem vD{ys:List Str}:∀ {us:List Value},Vals (ys.map V.str) us->StrsAre us ys:=by
 induction ys with
 | nil=>intro us r;rw[UH] at r;cases r;exact .nil
 | cons n ns ih =>
  intro us r
  rw[TC] at r
  cases r with
  | cons r1 r2 =>
   obtain⟨t,e⟩:=r1
   subst e
   exact .cons n t (ih r2)
def rJoin(K:Frag):V->List V->Hp->VK->Prop:=λx vs H Q=>∃ (z:Str) (p:Addr) (zs:List Str),x=.str z/\vs=[.ref p]/\d5 K H p (zs.map V.str)/\(zs.map (·.length)).sum+zs.length * z.length<=16777216/\Q (.str (Txt.join z zs)) H
theorem Cy:Iy X "str.join" (rJoin X.K):=by
 intro pins s O H x vs v us Q I rx rv h
 obtain⟨z,p,zs,rfl,rfl,hq,hz,q⟩:=h
 obtain⟨t,rfl⟩:=rx
 obtain⟨u,rfl,ru⟩:=rv.one
 cases ru
 obtain⟨its,r,pl,_⟩:=I.list hq
 exact PyProof.Rows.join_list pl.isList (by simpa using vD r) hz λt' k=>⟨.str _,H,I.tok k,⟨t',U⟩,q⟩
def NC:V->Option Int->Option Int->Hp->VK->Prop:=λx lo hi H Q=>∃ z,x=.str z/\z.length<=sizeLine/\Q (.str (Txt.slice z lo hi)) H
theorem Gs:Kc X NC:=by
 intro pins s O H x v vl vu lo hi sl Q I rx hs pl pu h
 obtain⟨z,rfl,hz,q⟩:=h
 obtain⟨t,rfl⟩:=rx
 refine⟨"str",_,F.slot_str_getitem.lookup,typeIs_str _ _ _,?_⟩
 have fin:∀ t' k,EP X pins O Q (.str (Txt.slice z lo hi) t') { s with toks:=k }:=λt' k=>⟨.str _,H,I.tok k,⟨t',U⟩,q⟩
 cases pl with
 | none =>
  cases pu with
  | none=>exact wpAny_getItem_str_slice (l:=none) (u:=none) (st:=none) hs U (post_val_or_str ⟨TU (Txt.slice_le z _ _) hz,fin⟩)
  | int j uj=>exact wpAny_getItem_str_slice (l:=none) (u:=some (j,uj)) (st:=none) hs U (post_val_or_str ⟨TU (Txt.slice_le z _ _) hz,fin⟩)
 | int i ui =>
  cases pu with
  | none=>exact wpAny_getItem_str_slice (l:=some (i,ui)) (u:=none) (st:=none) hs U (post_val_or_str ⟨TU (Txt.slice_le z _ _) hz,fin⟩)
  | int j uj=>exact wpAny_getItem_str_slice (l:=some (i,ui)) (u:=some (j,uj)) (st:=none) hs U (post_val_or_str ⟨TU (Txt.slice_le z _ _) hz,fin⟩)
theorem oh:iV X (binaryOp .Mult) (λx y H Q=>∃ z n,x=.str z/\y=.int n/\MulOk z n/\Q (.str (Txt.mul z n)) H):=by
 intro pins s O H x y v u Q I rx ry h
 obtain⟨z,n,rfl,rfl,ok,q⟩:=h
 obtain⟨t,rfl⟩:=rx
 obtain⟨t',rfl⟩:=ry
 exact SB.mul ok λt' k=>⟨.str _,H,I.tok k,⟨t',U⟩,q⟩
def FF(K:Frag)(te:TE):TE:=λO H Q=>te O H λx H1=>∃ a xs,x=.ref a/\d5 K H1 a xs/\∀ l,H1 l=none->Q (.ref l) (upd H1 l (.lst xs.reverse))
theorem zJ{e st:Expr}{te:TE}{p2 pos:Pos}(he:PE X e te)(qM:PE X st (tC (.int (-1)))):PE X (.Subscript e (.Slice none none (some st) p2) pos) (FF X.K te):=by
 intro pins s O H Q I h
 refine Subscript_ (b8 (he pins s O H _ I h) λv s1 ⟨x,H1,I1,r1,a,xs,ex,hq,q⟩=>?_)
 subst ex
 cases r1
 refine wpAny_Slice ?_
 rw[evalPart_none]
 refine wpAny_pure ?_
 refine wpAny_pure ?_
 rw[evalPart_some]
 refine b8 (qM pins s1 O H1 (λx H'=>x=.int (-1)/\H'=H1) I1 ⟨U,U⟩) λu s2 ⟨x,H2,I2,r2,ex,eH⟩=>?_
 subst ex eH
 obtain⟨t,rfl⟩:=r2
 obtain⟨its,r,ht,hz⟩:=I2.list hq
 have hlen:=r.length
 have I3:Inv X pins O H2 { s2 with heap:=s2.heap.push { cls:=.type "slice",data:=.fields #[.none,.none,.int (-1) t] } }:=I2.kept (t':=s2.toks) λb ob q=>Ts _ q
 show wpAny (model X.prog X.w) X.A (subscriptTail e (.Slice none none (some st) p2) (.ref a) (.ref s2.heap.objs.size)) (EP X pins O Q) X.xe { s2 with heap:=s2.heap.push { cls:=.type "slice",data:=.fields #[.none,.none,.int (-1) t] } }
 refine tail_any (ops:=[.ref a,.ref s2.heap.objs.size]) (ht.isList.push _).typeIs slot_list_getitem.lookup ?_ (by with_unfolding_all rfl)
 refine wpAny_getItem_list_slice (ht.isList.push _) (Heap.IsSliceOf.new ..) .none .none (.int (-1) t) (by decide) ?_ (by rw[TV];omega)
 rw[PySem.W.krv_pick]
 refine⟨.ref _,_,I3.laid (t':=s2.toks) (o:=.lst xs.reverse) (λb ob q=>Ts _ q) (TB _) ?_,U,q _ (I3.aL.fresh (TB _))⟩
 exact⟨by rw[List.length_reverse];exact hz,_,0,by simpa using r.reverse,Heap.get?_push_size _ U⟩
end
theorem Ng{H:Hp}{a:Addr}{o u:HO}:upd (upd H a o) a u=upd H a u:=DD
theorem j3{K:Frag}{nt:Nat}{us:List Nat}{O:St}{ti:TT}{te:TE}{a:Addr}{xs:List V}{H1:Hp}{Q:VK}(p:V->Bool)(f:V->V)(hx:d5 K H1 a xs)(hz:xs.length<=sizeLine)(MQ:0 < nt)(hp:∀ x∈xs,∀ (H:Hp) (k:Bool->Hp->Prop),k (p x) H->ti ((lift nt us O).set 0 (some x)) H k)(he:∀ x∈xs,p x=true->∀ (H:Hp) (k:VK),k (f x) H->te ((lift nt us O).set 0 (some x)) H k)(hQ:∀ D,H1 D=none->Q (.ref D) (upd H1 D (.lst ((xs.filter p).map f)))):vZ nt us O (d7 0) ti te (HA K a) H1 Q:=by
 intro D hD
 have hS:∀ ys,d5 K (upd H1 D (.lst ys)) a xs:=λys=>eQ.seq (λb o e=>by rw[aj (aC e hD)];exact e) hx
 refine⟨λi m ys H2=>i<=xs.length/\m=xs.length - i/\ys=((xs.take i).filter p).map f/\H2=upd H1 D (.lst ys),⟨xs.length,Nat.zero_le _,by simp,by simp,U⟩,?_⟩
 rintro i m ys H2 ⟨hi,rfl,rfl,rfl⟩
 refine⟨au,?_⟩
 by_cases iQ:i < xs.length
 ·refine .inr ⟨⟨xs,xs[i],hS _,by simp[iQ]⟩,?_,?_⟩
  ·rw[Tr]
   have h1:=UL p (xs.take i)
   rw[UG] at h1
   omega
  ·rintro x H3 ⟨rfl,hy⟩
   have hc':xs[i]?=some x:=hy xs (hS _)
   have hm:=Uw hc'
   refine⟨BP MQ,hp x hm _ _ ?_⟩
   cases e:p x with
   | true =>
    rw[if_pos U]
    refine he x hm e _ _ ⟨au,xs.length - (i+1),by omega,iQ,U,?_,Ng⟩
    rw[List.take_add_one,hc',List.filter_append,Tx]
    simp[e]
   | false =>
    rw[if_neg TF]
    refine⟨xs.length - (i+1),by omega,iQ,U,?_,U⟩
    rw[List.take_add_one,hc',List.filter_append,Tx]
    simp[e]
 ·have e:i=xs.length:=by omega
  subst e
  refine .inl ⟨⟨xs,hS _,TB _⟩,?_⟩
  have:=hQ D hD
  rw[List.take_of_length_le (TB _)]
  exact this
theorem eQ.upd{H:Hp}{a:Addr}{o:HO}(h:H a=none):eQ H (upd H a o):=λb u e=>by rw[aj (aC e h)];exact e
theorem eQ.Kh{H H':Hp}{a:Addr}{o:HO}(s:eQ H H')(h:H a=none):eQ H (L2.upd H' a o):=λb u e=>by rw[aj (aC e h)];exact s b u e
section
variable{X:Cx}
theorem gn{j p pos}:PE X (.UnaryOp .USub (.Constant (.int 1) j p) pos) (tC (.int (-1))):=λpins s O H Q I h=>Lo Gi bX pins s O H Q I ⟨1,U,h⟩
def xE:List Expr->List Str
 | []=>[]
 | .Constant (.str x) _ _::r=>x::xE r
 | _=>[]
def qZ:List Expr->Bool
 | []=>true
 | .Constant (.str _) _ _::r=>qZ r
 | _=>false
def Kv(zs:List Str):TA:=λ_ H Q=>Q (zs.map V.str) H
theorem wO:∀ {es:List Expr},qZ es=true->PA X es (Kv (xE es))
 | [],h=>bY
 | e::r,h=>by
  cases e with
  | Constant c j pos =>
   cases c with
   | str x=>exact aG dD (wO (es:=r) h)
   | _=>cases h
  | _=>cases h
def zL:Stmt->List Expr
 | .Assign _ (.List es _) _=>es
 | .Assign _ (.BinOp _ _ (.List es _) _) _=>es
 | _=>[]
def rep1:Stmt->List Expr->Stmt
 | .Assign t (.List _ p) q,es=>.Assign t (.List es p) q
 | .Assign t (.BinOp a o (.List _ p) r) q,es=>.Assign t (.BinOp a o (.List es p) r) q
 | s,_=>s
def yG:Stmt:=.Pass ⟨0,0,0,0⟩
def K2(b:List Stmt)(i:Nat)(es:List Expr):List Stmt:=b.set i (rep1 (b.getD i yG) es)
end
end L2
namespace PySem
open Sem (wp)
section
variable{prog:Program}{w:World}{A:Around}{E:VG}{h:Heap}{g:Array GenState}{d:Drawn}{t:Nat}{os:OsState}
variable{nm q:Str}{C N:Addr}{bs bm Iv:List Value}{IY:Bool}{sn:List Str}{sub:List Value}{ab:Bool}{col:Option Bool}{dd:Option Addr}{k0 k1 k2 k3 k5:Option Value}{B Bn newId PR BZ O0:String}{Qs:List Value}
abbrev fQ(h:Heap)(C:Addr)(rest:List Value):Heap:=(h.push { cls:=.type "tuple",data:=.seq rest.toArray }).push { cls:=.ref C,data:=.fields #[.ref h.objs.size,.none,.none,.none,.bool false,.none] }
theorem ky(Fn:ExcBaseFacts Bn newId O0 Qs)(Mh:Iv.contains (.type Bn)=true)(F:ExcBaseFacts B PR BZ Iv)(T:OwnTail h Iv bm){rest:List Value}{f:Addr}{Q:Fin->Shared->Prop}(hC:h.get? C=some (excClassObj nm q C N bs bm IY sn sub ab col dd k0 k1 k2 k3 k5 newId))(hl:Looks (model prog w) h (typeLookup (.ref C) "__init__") (some (.ref f)))(hb:∀ self,Looks (model prog w) h (bindSpecial (.ref f) self) (.ref f,[self]))(hq:codeAny (model prog w) A (.call (.ref f) ⟨.ref (h.objs.size+1)::rest,[]⟩) (λr s'=>match r with
   | .ok (.ret v)=>v=.none/\Q (.done (.ret (.ref (h.objs.size+1)))) s'
   | .ok _=>False
   | .error e=>E e s') ⟨fQ h C rest,g,d,t,os⟩)(hrest:rest.length<=sizeLine:=by size_fits) :
  wpAny (model prog w) A (Builtin.«type.__call__» ⟨.ref C::rest,[]⟩) Q E ⟨h,g,d,t,os⟩:=by
 repeat (first | with_reducible refine wpAny_loadPart_at hC ?_ | with_reducible refine wpAny_madeBy_exc hC ?_ | wp_step)
 refine codeAny_call_builtin_code (Code.quiet_builtin _ Fn.quiet) (wpAny_check_new_subU Fn Mh T hC ?_)
 refine codeAny_exc_new_subU Fn Mh F T hC ?_ hrest
 show wpAny _ _ _ _ _ _
 have kk:∀ b o,h.get? b=some o->(fQ h C rest).get? b=some o:=λb o e=>Ts _ (Ts _ e)
 have hC₁:=kk _ _ hC
 have hget:(fQ h C rest).get? (h.objs.size+1)=some { cls:=.ref C,data:=.fields #[.ref h.objs.size,.none,.none,.none,.bool false,.none] }:=by heap_get
 have hcC:(Value.ref C::bm).contains (.ref C)=true:=by simp
 have T₁:=T.keeps (h':=fQ h C rest) kk
 have b1:=(hb (.ref (h.objs.size+1))).keeps kk
 unfold isInstance
 repeat (first | with_reducible refine wpAny_loadPart_at hget ?_ | (with_reducible refine wpAny_isSubtype_exc hC₁ ?_;rw[hcC]) | wp_step)
 show wpAny _ _ (typeLookup (.ref C) _) _ _ _
 refine (hl.keeps kk).at ?_
 refine wpAny_holding (wpAny_bind (b1.at ?_))
 refine wpAny_bind (wpAny_call (codeAny_mono hq λr s' z=>?_))
 cases r with
 | error e=>exact z
 | ok fl =>
  cases fl with
  | ret v =>
   obtain⟨rfl,z⟩:=z
   exact wpAny_pure (wpAny_pure z)
  | next=>exact z.elim
  | brk=>exact z.elim
  | cont=>exact z.elim
theorem sM(Fn:ExcBaseFacts Bn newId O0 Qs)(Mh:Iv.contains (.type Bn)=true)(F:ExcBaseFacts B PR BZ Iv)(T:OwnTail h Iv bm){rest:List Value}{f:Addr}{Q:VG}(hC:h.get? C=some (excClassObj nm q C N bs bm IY sn sub ab col dd k0 k1 k2 k3 k5 newId))(hl:Looks (model prog w) h (typeLookup (.ref C) "__init__") (some (.ref f)))(hb:∀ self,Looks (model prog w) h (bindSpecial (.ref f) self) (.ref f,[self]))(hq:codeAny (model prog w) (A.under (.builtin "type.__call__" ⟨.ref C::rest,[]⟩)) (.call (.ref f) ⟨.ref (h.objs.size+1)::rest,[]⟩) (λr s'=>match r with
   | .ok (.ret v)=>v=.none/\Q (.ref (h.objs.size+1)) s'
   | .ok _=>False
   | .error e=>E e s') ⟨fQ h C rest,g,d,t,os⟩)(hrest:rest.length<=sizeLine:=by size_fits) :
  wpAny (model prog w) A (call (.ref C) rest) Q E ⟨h,g,d,t,os⟩:=by
 have f1:=tc_lookup
 have f2:=tc_bind (.ref C)
 have hT:(⟨h,g,d,t,os⟩:Shared).TypeIs (.ref C) "type":=⟨_,hC,U⟩
 refine wpAny_call (codeAny_of_tree ?_)
 show wpAny _ _ (callAny (.ref C) _) _ _ _
 repeat (any_goals (first | assumption | with_reducible refine wpAny_loadPart_at hC ?_ | wp_step))
 refine⟨U,?_⟩
 refine codeAny_call_builtin_at (Code.quiet_builtin _ (by decide+kernel)) entry_typeCall (wpAny_check_type_call_sub hC (ky (hrest:=hrest) Fn Mh F T hC hl hb (codeAny_mono hq λr s' z=>?_)))
 cases r with
 | error e=>exact z
 | ok fl =>
  cases fl with
  | ret v=>exact z
  | next=>exact z.elim
  | brk=>exact z.elim
  | cont=>exact z.elim
end
section
variable{M:Model}{A:Around}{E:VG}{s:Shared}
structure gb(fs ch:List Addr)(h h':Heap):Prop where
 keep:∀ b o,b∉fs->b∉ch->h.get? b=some o->h'.get? b=some o
 slot:∀ b o,b∈fs->h.get? b=some o->∃ sl,h'.get? b=some { o with slots:=sl }
def uc(h:Heap)(T:Addr)(fl:Value):Prop:=∃ oT ts,h.get? T=some oT/\oT.data=.fields ts/\ts[3]?=some fl
theorem qc{base:Heap}{env:Env}{outer:List Env}{L e:Addr}{oe:Obj}{vs:Array Value}{head:Value}{Cq:Bool}{Q:Unit->Shared->Prop}(qS:A.frames=some (env::outer))(hl:s.heap.FunFrames base (env::outer))(hf:env.frame=some L)(he:s.heap.get? e=some oe)(hd:oe.data=.fields vs)(hsz:1 < vs.size)(h:∀ h' T,gb ((env::outer).filterMap (·.frame)) [e] s.heap h'->h'.get? e=some (Obj.mapFields (·.setIfInBounds 1 (.ref T)) oe)->s.heap.objs.size<=T->uc h' T (rawInt L)->h'.FunFrames base (env::outer)->Q () { s with heap:=h' }) :
  wpAny M A (do let a <- frameOf env;let pl <- entryPlaceOf L Cq;let b <- EntryCells.newEntry head a .none (rawInt L) .none pl;setField (.ref e) 1 b) Q E s:=by
 have hene:e∉(env::outer).filterMap (·.frame):=λhm=>by
  obtain⟨_,o,ho,hnf⟩:=hl.mem hm
  rw[he] at ho;injection ho with ho;subst ho;exact hnf vs hd
 refine wpAny_bind (wpAny_frameOf_fun qS hl hf λh₁ hs₁=>?_)
 refine wpAny_bind (wpAny_entryPlaceOf λpl dA=>?_)
 unfold EntryCells.newEntry newFields
 refine wpAny_bind (wpAny_newObj_type ?_ (dA.sizeOk5 _ _ _ _ _))
 have he₁:h₁.get? e=some oe:=(hs₁.2.1 e hene).trans he
 have he₂:=Ts (h:=h₁) { cls:=.type "traceback",dict:=none,data:=.fields ([head,.ref L,.none,rawInt L,.none]++(if pl.isEmpty then List.replicate 6 Value.none else pl)).toArray } he₁
 refine wpAny_setField he₂ hd hsz (h _ h₁.objs.size ?_ ?_ ?_ ?_ ?_)
 ·refine⟨λb o h1 h2 eb=>?_,λb o hb eb=>?_⟩
  ·have hbe:b≠e:=by simpa using h2
   rw[Uc _ _ (Ne.symm hbe)]
   exact Ts _ ((hs₁.2.1 b h1).trans eb)
  ·have hbe:b≠e:=λq=>hene (q▸hb)
   obtain⟨sl,hs⟩:=hs₁.2.2 b o eb
   exact⟨sl,by rw[Uc _ _ (Ne.symm hbe)];exact Ts _ hs⟩
 ·exact Ul _ he₂ (Obj.isFreed_of_fields (Obj.data_mapFields hd _))
 ·exact U2 hs₁.1.symm
 ·have CH:h₁.objs.size≠e:=UO (Tz he₁)
  refine⟨_,_,(Uc _ _ (Ne.symm CH)).trans (TK h₁ U),U,?_⟩
  first | (simp;done) | (rcases dA with rfl | ⟨_,_,_,_,_,_,_,rfl⟩<;>simp)
 ·refine hl.of_keeps λb o hb hnf=>?_
  have hbe:b≠e:=λq=>by
   rw[q,he] at hb;injection hb with hb;subst hb;exact hnf vs hd
  obtain⟨sl,hs⟩:=hs₁.2.2 b o hb
  exact⟨{ o with slots:=sl },by rw[Uc _ _ (Ne.symm hbe)];exact Ts _ hs,U⟩
theorem yZ{base:Heap}{env:Env}{outer:List Env}{L e:Addr}{oe:Obj}{vs:Array Value}{Q:Unit->Shared->Prop}(qS:A.frames=some (env::outer))(hl:s.heap.FunFrames base (env::outer))(hf:env.frame=some L)(he:s.heap.get? e=some oe)(hd:oe.data=.fields vs)(h1:vs[1]?=some .none)(h:∀ h' T,gb ((env::outer).filterMap (·.frame)) [e] s.heap h'->h'.get? e=some (Obj.mapFields (·.setIfInBounds 1 (.ref T)) oe)->s.heap.objs.size<=T->uc h' T (rawInt L)->h'.FunFrames base (env::outer)->Q () { s with heap:=h' }) :
  wpAny M A (noteFrame (.ref e) env) Q E s:=by
 unfold noteFrame
 simp only[hf]
 refine wpAny_bind (wpAny_field he hd h1 ?_)
 rw[if_neg (by decide)]
 exact qc qS hl hf he hd (UK.mp h1).1 h
theorem zX{base:Heap}{env:Env}{outer:List Env}{L e T0:Addr}{oe:Obj}{vs:Array Value}{Q:Unit->Shared->Prop}(qS:A.frames=some (env::outer))(hl:s.heap.FunFrames base (env::outer))(hf:env.frame=some L)(he:s.heap.get? e=some oe)(hd:oe.data=.fields vs)(h1:vs[1]?=some (.ref T0))(CH:T0≠e)(ht:uc s.heap T0 .none)(h:∀ h' T,gb ((env::outer).filterMap (·.frame)) [e,T0] s.heap h'->h'.get? e=some (Obj.mapFields (·.setIfInBounds 1 (.ref T)) oe)->s.heap.objs.size<=T->uc h' T (rawInt L)->h'.FunFrames base (env::outer)->Q () { s with heap:=h' }) :
  wpAny M A (noteFrame (.ref e) env) Q E s:=by
 obtain⟨oT,ts,hT,hdT,h3⟩:=ht
 unfold noteFrame
 simp only[hf]
 refine wpAny_bind (wpAny_field he hd h1 ?_)
 rw[if_pos (show (Value.ref T0 != Value.none)=true from by simp)]
 refine wpAny_bind (wpAny_field hT hdT h3 ?_)
 rw[if_neg (show ¬ ((Value.none == rawInt L)=true) from by simp[rawInt])]
 refine wpAny_bind (wpAny_setField hT hdT (UK.mp h3).1 ?_)
 have other:∀ b,b≠T0->(s.heap.update T0 (Obj.mapFields (·.setIfInBounds 3 Value.none))).get? b=s.heap.get? b:=λb hb=>Uc _ _ (Ne.symm hb)
 have noRecord:∀ b o,s.heap.get? b=some o->(∀ vs,o.data≠.fields vs)->b≠T0:=λb o hb hnf q=>by
  rw[q,hT] at hb;injection hb with hb;subst hb;exact hnf ts hdT
 have nfr:T0∉(env::outer).filterMap (·.frame):=λhm=>by
  obtain⟨_,o,ho,hnf⟩:=hl.mem hm
  rw[hT] at ho;injection ho with ho;subst ho;exact hnf ts hdT
 refine qc qS (hl.of_keeps λb o hb hnf=>⟨o,(other b (noRecord b o hb hnf)).trans hb,U⟩) hf ((other e (Ne.symm CH)).trans he) hd (UK.mp h1).1
  λh' T k1 k2 k3 k4 k5=>h h' T ⟨λb o hb hc eb=>?_,λb o hb eb=>?_⟩ k2 ?_ k4 k5
 ·have n1:b≠e:=λq=>hc (by simp[q])
  have n2:b≠T0:=λq=>hc (by simp[q])
  exact k1.keep b o hb (by simpa using n1) ((other b n2).trans eb)
 ·exact k1.slot b o hb ((other b λq=>nfr (q▸hb)).trans eb)
 ·exact TU (U2 (Heap.size_after_update ..).symm) k3
theorem lu{e T:Addr}{oe:Obj}{vs:Array Value}{fl:Value}{fs:List Addr}{Q:Unit->Shared->Prop}(he:s.heap.get? e=some oe)(hd:oe.data=.fields vs)(h1:vs[1]?=some (.ref T))(ht:uc s.heap T fl)(Oz:T∉fs)(h:∀ h',gb fs [T] s.heap h'->(∀ b o,b≠T->s.heap.get? b=some o->h'.get? b=some o)->uc h' T .none->Q () { s with heap:=h' }):wpAny M A (setFlight (.ref e) none) Q E s:=by
 obtain⟨oT,ts,hT,hdT,h3⟩:=ht
 have hsz3:3 < ts.size:=(UK.mp h3).1
 have other:∀ b o,b≠T->s.heap.get? b=some o->(s.heap.update T (Obj.mapFields (·.setIfInBounds 3 ((none:Option Addr).elim Value.none λf=>rawInt f)))).get? b=some o :=
  λb o hb e=>(Uc _ _ (Ne.symm hb)).trans e
 unfold setFlight
 refine wpAny_bind (wpAny_field he hd h1 ?_)
 rw[if_pos (show (Value.ref T != Value.none)=true from by simp)]
 refine wpAny_setField hT hdT hsz3 (h _ ⟨λb o _ hc e=>other b o (by simpa using hc) e,λb o hb e=>⟨o.slots,other b o (λq=>Oz (q▸hb)) e⟩⟩ other ?_)
 exact⟨_,_,Heap.get?_update_self _ hT (Obj.isFreed_of_fields (Obj.data_mapFields hdT _)),Obj.data_mapFields hdT _,by simp[hsz3]⟩
end
end PySem
namespace L2
open PySem PySem.Spec PyProof.Rows
abbrev jt:List Value:=[.type "ValueError",.type "Exception",.type "BaseException",.type "object"]
def xo(ea C:Addr)(dd:Option Addr)(fresh:Bool):HO:=.ext λh=>∃ vs:Array Value,h.get? ea=some { cls:=.ref C,dict:=dd,data:=.fields vs }/\vs.size=6/\(fresh=true->vs[1]?=some .none)
def xf(d:Addr)(fs:List (Str×V)):HO:=.ext λh=>fs.length<=1000/\∃ mA,h.Ns1 d mA/\(∀ f,iP (fs.lookup f) (mA f))/\PySem.Within mA (fs.map (·.1))
section
variable{P:Program}{w:World}{H:Hp}{h:Heap}{ea C d:Addr}{dd:Option Addr}{fr:Bool}{fs:List (Str×V)}
theorem w9{vs:Array Value}(e:h.get? ea=some { cls:=.ref C,dict:=dd,data:=.fields vs })(z:vs.size=6)(f:fr=true->vs[1]?=some .none):cf P w H h ea (xo ea C dd fr) :=
 ⟨⟨vs,e,z,f⟩,⟨_,e⟩,λ_ _ ⟨vs,e,r⟩ k=>⟨vs,k _ e,r⟩⟩
theorem ko(aL:j0 P w H h)(e:H ea=some (xo ea C dd fr)):∃ vs:Array Value,h.get? ea=some { cls:=.ref C,dict:=dd,data:=.fields vs }/\vs.size=6/\(fr=true->vs[1]?=some .none) :=
 (show cf P w H h ea (xo ea C dd fr) from aL ea _ e).1
theorem zM{mA:Str->Option Value}(n:h.Ns1 d mA)(r:∀ f,iP (fs.lookup f) (mA f))(wi:PySem.Within mA (fs.map (·.1)))(hl:fs.length<=1000):cf P w H h d (xf d fs) :=
 ⟨⟨hl,mA,n,r,wi⟩,let ⟨o,_,_,e,_⟩:=n;⟨o,e⟩,λ_ _ ⟨hl,mA,n,r⟩ k=>⟨hl,mA,n.at k,r⟩⟩
theorem vF(aL:j0 P w H h)(e:H d=some (xf d fs)):fs.length<=1000/\∃ mA,h.Ns1 d mA/\(∀ f,iP (fs.lookup f) (mA f))/\PySem.Within mA (fs.map (·.1)) :=
 (show cf P w H h d (xf d fs) from aL d _ e).1
theorem Bm(e:H ea=some (xo ea C dd fr)):Fx (H ea):=by rw[e];exact True.intro
theorem z0(e:H d=some (xf d fs)):Fx (H d):=by rw[e];exact True.intro
end
def Gw(es:Array DictEntry):Bool:=es.toList.all λe=>match e.key with | .str _ _=>true | _=>false
theorem yY{es:Array DictEntry}(h:Gw es=true):StrKeys es:=λe he=>by
 have q:=Uv.mp h e (Array.mem_toList_iff.mpr he)
 cases k:e.key with
 | str z t=>exact⟨z,t,U⟩
 | _=>rw[k] at q;cases q
structure ExC(K:Frag)(C:Addr):Prop where
 cls:∃ (nm q:Str) (N S:Addr) (bs:List Value) (sn:List Str) (sub:List Value) (ab:Bool) (col:Option Bool) (dd:Option Addr) (k0 k1 k2 k3 k5:Option Value) (cS:Value) (dS:Option Addr) (Er:ClassData) (Mx:Array (Option Value))
  (cN:Value) (dN:Option Addr) (es:Array DictEntry) (ep:Nat) (Ml:Array (Option Value)),K.lookup C=some (excClassObj nm q C N bs (.ref S::jt) true sn sub ab col dd k0 k1 k2 k3 k5 "ValueError.__new__") /\
  K.lookup S=some ⟨cS,dS,.cls Er,Mx⟩/\K.lookup Er.ns=some ⟨cN,dN,.dict es ep,Ml⟩/\Gw es=true/\nsFind es "__init__"=none
 sa:findIn K (.ref C) "__setattr__"=some (some (.builtin "object.__setattr__"))
 ga:findIn K (.ref C) "__getattribute__"=some (some (.builtin "BaseException.__getattribute__"))
 gt:findIn K (.ref C) "__getattr__"=some none
structure Dy(K:Frag)(C f:Addr):Prop extends ExC K C where
 LS:findIn K (.ref C) "__init__"=some (some (.ref f))
 fn:typeIn K (.ref f)=some (.type "function")
 kp:keepIn K (.ref C)=true
structure D8(K:Frag)(C:Addr)(f:Str):Prop where
 no:findIn K (.ref C) f=some none
theorem ExC.at{K:Frag}{C:Addr}{h:Heap}(c:ExC K C)(X:K.In h):∃ (nm q:Str) (N S:Addr) (bs:List Value) (sn:List Str) (sub:List Value) (ab:Bool) (col:Option Bool) (dd:Option Addr) (k0 k1 k2 k3 k5:Option Value),
  h.get? C=some (excClassObj nm q C N bs (.ref S::jt) true sn sub ab col dd k0 k1 k2 k3 k5 "ValueError.__new__")/\OwnTail h jt (.ref S::jt) /\
  PySem.W.clsIn K C=some { name:=nm,bases:=bs,mro:=.ref C::.ref S::jt,ns:=N,qualname:=q,hasDict:=true,slotNames:=sn,subclasses:=sub,abstract:=ab,collection:=col,hasDel:=false }:=by
 obtain⟨nm,q,N,S,bs,sn,sub,ab,col,dd,k0,k1,k2,k3,k5,cS,dS,Er,Mx,cN,dN,es,ep,Ml,h1,h2,h3,h4,h5⟩:=c.cls
 refine⟨nm,q,N,S,bs,sn,sub,ab,col,dd,k0,k1,k2,k3,k5,X _ _ h1,.own (X _ _ h2) ⟨_,es,ep,X _ _ h3,U,yY h4,λ_=>rfl⟩ h5 .base,?_⟩
 unfold PySem.W.clsIn
 rw[h1]
def zB(C:Addr)(sp:Sp)(t:TA):TE:=λO H Q=>t O H λvs H1=>vs.length<=1000/\∀ x,H1 x=none->sp (.ref x::vs) (upd H1 x (xo x C none true)) (λv H2=>v=.bD/\Q (.ref x) H2) E0
section
variable{X:Cx}{pins:VH}{O:St}{H:Hp}{s:Shared}{C f:Addr}{k:Nat}{fd:FuncData}{ps:List Str}{sp:Sp}{x:Str}{p pos:Pos}{e:Expr}{es:List Expr}{t:TA}
theorem qj{Q:VK}{us:List Value}{vs:List V}(M:Dy X.K C f)(F:cw X.prog X.w X.K X.mg X.base bb k f fd ps sp)(hr:cb (k+1) X.A)(hb:Binds X.K fd ps [])(I:Inv X pins O H s)(r:Vals vs us)(hz:vs.length<=1000)(h:∀ x,H x=none->sp (.ref x::vs) (upd H x (xo x C none true)) (λv H2=>v=.bD/\Q (.ref x) H2) E0) :
  wpAny (model X.prog X.w) X.A (call (.ref C) us) (EP X pins O Q) X.xe s:=by
 obtain⟨nm,q,N,S,bs,sn,sub,ab,col,dd,k0,k1,k2,k3,k5,hC,T,hcl⟩:=M.toExC.at I.i7
 have hq:=h (s.heap.objs.size+1) (I.aL.fresh (Vm _))
 have kk:∀ b o,s.heap.get? b=some o->(fQ s.heap C us).get? b=some o:=λb o e=>Ts _ (Ts _ e)
 have hget:(fQ s.heap C us).get? (s.heap.objs.size+1)=some { cls:=.ref C,data:=.fields #[.ref s.heap.objs.size,.none,.none,.none,.bool false,.none] }:=by heap_get
 have I2:Inv X pins O (upd H (s.heap.objs.size+1) (xo (s.heap.objs.size+1) C none true)) { s with heap:=fQ s.heap C us } :=
  I.laid (a:=s.heap.objs.size+1) (t':=s.toks) kk (Vm _) (w9 hget U λ_=>rfl)
 have r2:Vals (V.ref (s.heap.objs.size+1)::vs) (Value.ref (s.heap.objs.size+1)::us):=.cons U r
 have hl:(Value.ref (s.heap.objs.size+1)::us++[]).length=ps.length:=by
  have e:=r2.length
  rw[F.len _ _ _ _ hq] at e
  rw[TM]
  exact e.symm
 have hus:us.length<=sizeLine:=by rw[<- r.length];exact U9 (lz hz)
 have FQ:=hb { s with heap:=fQ s.heap C us } (Value.ref (s.heap.objs.size+1)::us) I2.i7 hl
 rw[TM] at FQ
 obtain⟨hh,g,d,t,os⟩:=s
 refine PySem.sM (hrest:=hus) Vj (by decide) Vj T hC (Vf I.i7 M.LS) (λself=>PySem.W.bind_fn I.i7 self M.fn) ?_
 refine codeAny_mono (F.run _ X.stack _ _ ⟨Value.ref (hh.objs.size+1)::us,[]⟩ (Value.ref (hh.objs.size+1)::us) _ _ E0 (hr.make C us []) (I2.Hn.make C us []) FQ r2 hq) λr s' hq'=>?_
 cases r with
 | error e=>exact False.elim hq'
 | ok fl =>
  cases fl with
  | ret u =>
   obtain⟨v,H',I3,rv,ev,q3⟩:=I2.after hq'
   subst ev
   exact⟨rv,⟨V.ref (hh.objs.size+1),H',I3,U,q3⟩⟩
  | next=>exact False.elim hq'
  | brk=>exact False.elim hq'
  | cont=>exact False.elim hq'
theorem AK(M:Dy X.K C f)(F:cw X.prog X.w X.K X.mg X.base bb k f fd ps sp)(hr:cb (k+1) X.A)(hg:Gl X x)(hm:X.mg x=some (.ref C))(hb:Binds X.K fd ps [])(ha:PA X (e::es) t)(fP:VM x:=by decide)(he:VJ X.env e es:=by rfl)(dA:VL X.env pos es:=by rfl) :
  PE X (.Call (.Name x p) (e::es) [] pos) (zB C sp t):=by
 intro pins s O H Q I h
 refine wpAny_Call_Name_kw (iw I hg hm ?_ fP)
 refine Vr (h₀:=X.base) I.ok.mod.Iq M.kp (b8 (ha pos pins s O H _ I h) λus s1 ⟨vs,H1,I1,r,z,q⟩=>⟨I1.i7,?_⟩) he dA
 exact qj M F hr hb I1 r z q
theorem yh(M:Dy X.K C f)(F:cw X.prog X.w X.K X.mg X.base bb k f fd ps sp)(hr:cb (k+1) X.A)(hg:Gl X x)(hm:X.mg x=some (.ref C))(hb:Binds X.K fd ps [])(fP:VM x:=by decide):PE X (.Call (.Name x p) [] [] pos) (zB C sp uJ):=by
 intro pins s O H Q I h
 obtain⟨z,q⟩:=h
 refine wpAny_Call_Name_kw (iw I hg hm ?_ fP)
 exact PySem.W.callWith_K0 I.i7 M.kp (qj (us:=[]) M F hr hb I .nil z q)
end
section
variable{X:Cx}{pins:VH}{O:St}{H:Hp}{s:Shared}{ea C d:Addr}{dd:Option Addr}{fr:Bool}{fs:List (Str×V)}{f:Str}{v:V}{A:Around}{E:VG}
theorem C6{us:List Value}{Q:VG}(I:Inv X pins O H s)(e:H ea=some (xo ea C dd fr))(c:ExC X.K C)(hz:us.length<=1000)(h:∀ s',Inv X pins O H s'->Q .none s') :
  wpAny (model X.prog X.w) A (call (.builtin "ValueError.__init__") (.ref ea::us)) Q E s:=by
 obtain⟨nm,q,N,S,bs,sn,sub,ab,col,dd',k0,k1,k2,k3,k5,hC,T,hcl⟩:=c.at I.i7
 obtain⟨vs,he,h6,hf⟩:=ko I.aL e
 have hus:us.length<=sizeLine:=U9 (lz hz)
 obtain⟨hh,g,d,t,os⟩:=s
 refine wpAny_call (codeAny_call_builtin PySem.F.excBase_ValueError.init.plain PySem.F.excBase_ValueError.initEntry (wpAny_check_init_subU Vj T hC he U ?_))
 unfold Builtin.«BaseException.__init__»
 have ne:ea≠hh.objs.size:=TQ (Tz he)
 have he1:(hh.push { cls:=.type "tuple",data:=.seq us.toArray }).get? ea=some { cls:=.ref C,dict:=dd,data:=.fields vs }:=Ts _ he
 obtain⟨x0,hx0⟩:∃ x0,vs[0]?=some x0:=⟨vs[0]'(by omega),by simp[h6]⟩
 have fin:∀ t',Inv X pins O H ⟨(hh.push { cls:=.type "tuple",data:=.seq us.toArray }).update ea (Obj.mapFields (·.setIfInBounds 0 (.ref hh.objs.size))),g,d,t',os⟩:=λt'=>by
  have hu:=Ul (Obj.mapFields (·.setIfInBounds 0 (.ref hh.objs.size))) he1 (Obj.isFreed_of_fields (Obj.data_mapFields U _))
  have ke:upd H ea (xo ea C dd fr)=H:=by funext b;by_cases hb:b=ea<;>simp[upd,hb,e]
  have J:=I.write (x:=ea) (e:=ea) (o:=xo ea C dd fr) (t':=t') (h':=(hh.push { cls:=.type "tuple",data:=.seq us.toArray }).update ea (Obj.mapFields (·.setIfInBounds 0 (.ref hh.objs.size)))) (Bm e) (.inl U)
   (λb u hb q=>(Heap.get?_update_other _ _ (Ne.symm hb)).trans (Heap.get?_push_of_some _ q)) ⟨_,hu⟩ (w9 hu (by simp[h6]) (λz=>by rw[Array.getElem?_setIfInBounds_ne (by decide)];exact hf z))
  rw[ke] at J
  exact J
 refine wpAny_bind (wpAny_newTuple ?_)
 unfold Builtin.BaseException.bexcPut
 refine wpAny_bind (wpAny_bind (wpAny_field he1 U hx0 (wpAny_bind (wpAny_setField he1 U (by omega) ?_))))
 cases x0<;>first
  | exact wpAny_pure (wpAny_pure (h _ (fin _)))
  | exact wpAny_letGo (wpAny_pure (h _ (fin _)))
structure AX(K:Frag)(S:Addr):Prop where
 sp:specialIn K (.ref S) "__getattribute__"=some (some (.builtin "type.__getattribute__"))
 rd:PySem.W.readsIn K S (.type "type")=true
 fd:PySem.W.findCls K (.ref S) (.type "type") "__init__"=some (.val (.builtin "ValueError.__init__"))
theorem r8:PySem.W.handedIn (.builtin "ValueError.__init__")=true:=by decide+kernel
def FY(K:Frag)(t:TA):TE:=λO H Q=>t O H λvs H1=>∃ ea rest C dd fr,vs=.ref ea::rest/\H1 ea=some (xo ea C dd fr)/\ExC K C/\rest.length<=1000/\Q .bD H1
theorem uG{S:Addr}{x:Str}{p apos pos:Pos}{e:Expr}{es:List Expr}{t:TA}{pl:Sem Bool}(B:AX X.K S)(hg:Gl X x)(hm:X.mg x=some (.ref S))(ha:PA X (e::es) t)(fP:VM x:=by decide)(he:VJ X.env e es:=by rfl)(dA:VL X.env pos es:=by rfl)(ht:eval (.Call (.Attribute (.Name x p) "__init__" apos) (e::es) [] pos) X.env=(do
   let ov <- eval (.Name x p) X.env
   standAt apos.atName
   let (f,first) <- holding [ov] (getMethod ov "__init__" pl)
   callWith pos f first (backTo pos (starEach (e::es) X.env)) (backToKw pos (keywordEach [] X.env))):=by rfl) :
  PE X (.Call (.Attribute (.Name x p) "__init__" apos) (e::es) [] pos) (FY X.K t):=by
 intro pins s O H Q I h
 refine PySem.W.methodCall_KW (pl:=pl) (iw I hg hm ?_ fP) ht
 refine PySem.W.method_cls I.i7 B.sp (PySem.W.cls_value (mc:=.type "type") I.i7 B.rd B.fd r8 ?_)
 have I0:=I.tok (s.toks+1)
 show wpAny _ _ (callWith pos (.builtin "ValueError.__init__") [] (backTo pos (starEach (e::es) X.env)) []) _ _ _
 refine PyProof.Rows.callWith_builtin1 (b8 (ha pos pins _ O H _ I0 h) λus s1 ⟨vs,H1,I1,r,ea,rest,C,dd,fr,ev,eo,c,z,q⟩=>?_) he dA
 subst ev
 cases r with
 | @cons _ u _ us' ru rr =>
  obtain rfl:u=Value.ref ea:=ru
  exact C6 I1 eo c (by rw[<- rr.length];exact z) λs' I'=>⟨.bD,H1,I',U,q⟩
theorem vj(self:Value)(C S:Addr):refuseLoop self "__setattr__" (.ref C::.ref S::jt)=pure ():=by
 rw[refuseLoop_ref,refuseLoop_ref]
 kernel_rfl
theorem xQ{prog:Program}{w:World}{K:Frag}{x:Addr}{ox:Obj}{od:Option Obj}{name:Str}{tk:Tok}{u:Value}{R:Result->Shared->Prop}(X:K.In s.heap)(I:InstAt s.heap x ox C od)(c:ExC K C)(n:D8 K C name)(h:∀ b,wpAny (model prog w) A.in1 (Builtin.ObjectAttr.storeInOwnDict (.ref x) (.ref C) (.str name tk) name u b)
   (λfin s'=>match fin with | .done f=>R (.ok f) s' | .again c'=>c'.quiet=true/\codeAny (model prog w) A c' R s') (λe s'=>R (.error e) s') s) :
  codeAny (model prog w) A (.call (.builtin "object.__setattr__") ⟨[.ref x,.str name tk,u],[]⟩) R s:=by
 have SF:=PySem.F.store_object
 obtain⟨nm,q,N,S,bs,sn,sub,ab,col,dd',k0,k1,k2,k3,k5,hC,T,hcl⟩:=c.at X
 have sb:Looks (model prog w) s.heap (isInstance (.ref x) (.type "object")) true:=I.type.andThen (PySem.W.looks_mroIn X (by unfold PySem.W.mroIn;rw[hcl,Option.bind_some];rfl))
 refine codeAny_call_builtin SF.slot.plain SF.entry (@PySem.W.check_slot (model prog w) _ _ s "object.__setattr__" "object" "__setattr__" (.ref x) [.str name tk,u] [] _ SF.kind SF.split sb (SF.args (.ref x) (.str name tk) u) ?_)
 have hm:Looks (model prog w) s.heap (mroOf (.ref C)) (.ref C::.ref S::jt):=(PySem.W.looks_clsIn X hcl).andThen .now
 rw[PySem.W.osa_eq,refuse_eq]
 refine wpAny_bind (wpAny_bind (I.type.here (wpAny_bind (hm.here ?_))))
 rw[vj]
 refine wpAny_pure (wpAny_bind (I.type.here (wpAny_bind ((Vf X n.no).here (wpAny_bind (wpAny_pure ?_))))))
 exact h _
theorem KU{y:V}{u:Value}{Q:Unit->Shared->Prop}(I:Inv X pins O H s)(e:H ea=some (xo ea C none fr))(c:ExC X.K C)(n:D8 X.K C f)(ry:RelV y u)(h:∀ d s',H d=none->d≠ea->Inv X pins O (upd (upd H ea (xo ea C (some d) fr)) d (xf d [(f,y)])) s'->Q () s'):wpAny (model X.prog X.w) A (setAttr (.ref ea) f u) Q E s:=by
 obtain⟨nm,q,N,S,bs,sn,sub,ab,col,dd',k0,k1,k2,k3,k5,hC,T,hcl⟩:=c.at I.i7
 obtain⟨vs,he,h6,hf⟩:=ko I.aL e
 have J:InstAt s.heap ea { cls:=.ref C,dict:=none,data:=.fields vs } C none:=⟨he,U,U,True.intro⟩
 refine PySem.W.set_plain I.i7 J c.sa (xQ (s:={ s with toks:=s.toks+1 }) I.i7 J c n λb=>?_)
 refine wpAny_bind (wpAny_pure (wpAny_bind (wpAny_bind (wpAny_loadPart he (wpAny_bind (Looks.here (s:={ s with toks:=s.toks+1 }) (PySem.W.looks_clsIn I.i7 hcl) ?_))))))
 have hxs:ea≠s.heap.objs.size:=TQ (Tz he)
 have hx₁:(s.heap.push { cls:=.type "dict",data:=.dict #[] }).get? ea=some { cls:=.ref C,dict:=none,data:=.fields vs }:=Ts _ he
 rw[if_neg (show ¬ ((!true)=true) from by decide)]
 dsimp only
 rw[if_neg (by simp[typeHasDict])]
 refine wpAny_bind (wpAny_alloc' ?_)
 refine wpAny_bind (wpAny_update' hx₁ ?_)
 refine wpAny_pure ?_
 have hu:((s.heap.push { cls:=.type "dict",data:=.dict #[] }).update ea λo=>{ cls:=o.cls,dict:=some s.heap.objs.size,data:=o.data,slots:=o.slots }).get? ea=some { cls:=.ref C,dict:=some s.heap.objs.size,data:=.fields vs } :=
  Ul _ hx₁ U
 have hgd:((s.heap.push { cls:=.type "dict",data:=.dict #[] }).update ea λo=>{ cls:=o.cls,dict:=some s.heap.objs.size,data:=o.data,slots:=o.slots }).get? s.heap.objs.size=some { cls:=.type "dict",data:=.dict #[] } :=
  (Uc _ _ hxs).trans (Heap.get?_push_at U U)
 have eW:((s.heap.push { cls:=.type "dict",data:=.dict #[] }).update ea λo=>{ cls:=o.cls,dict:=some s.heap.objs.size,data:=o.data,slots:=o.slots }).Ns s.heap.objs.size (λ_=>none) :=
  ⟨_,#[],_,hgd,U,λe he=>absurd he (by simp),λ_=>rfl⟩
 have k1:∀ b o,b≠ea->s.heap.get? b=some o->((s.heap.push { cls:=.type "dict",data:=.dict #[] }).update ea λo=>{ cls:=o.cls,dict:=some s.heap.objs.size,data:=o.data,slots:=o.slots }).get? b=some o :=
  λb o hb z=>(Uc _ _ (Ne.symm hb)).trans (Ts _ z)
 show wpAny _ _ (Builtin.ObjectAttr.storeInDict s.heap.objs.size (.str f s.toks) f u) _ _ _
 unfold Builtin.ObjectAttr.storeInDict Builtin.ObjectAttr.newKeyGuard
 refine wpAny_bind (wpAny_pure (wpAny_bind (wpAny_nsSet1 (Heap.Ns1.of_empty eW) λh' hn' hs=>?_)))
 obtain⟨oD,esD,epD,hoD,rE,hcD⟩:=hn'.count (PySem.Within.cons f u PySem.Within.nil)
 refine wpAny_bind (wpAny_lookBehind hoD (by rw[rE];exact pastItsLine_dict (TU hcD (by rw[TH,List.length_nil,sizeLine_eq];omega))) ?_)
 refine wpAny_pure (h s.heap.objs.size _ (I.aL.fresh (TB _)) (Ne.symm hxs) ?_)
 have ed:(s.heap.push { cls:=.type "dict",data:=.dict #[] }).get? s.heap.objs.size=some { cls:=.type "dict",data:=.dict #[] }:=Heap.get?_push_at U U
 have Ia:=I.laid (a:=s.heap.objs.size) (o:=xf s.heap.objs.size []) (h':=s.heap.push { cls:=.type "dict",data:=.dict #[] }) (t':=s.toks+1) (λb o z=>Ts _ z) (TB _)
  (zM (mA:=λ_=>none) (Heap.Ns1.of_empty ⟨_,#[],_,ed,U,λe he=>absurd he (by simp),λ_=>rfl⟩) (λ_=>True.intro) (λy hy=>absurd U hy) (Nat.zero_le _))
 have e1:upd H s.heap.objs.size (xf s.heap.objs.size []) ea=some (xo ea C none fr):=by rw[aj hxs];exact e
 have Ib:=Ia.write (x:=ea) (e:=ea) (o:=xo ea C (some s.heap.objs.size) fr) (t':=s.toks+1) (Bm e1) (.inl U) (λb o hb z=>(Uc _ _ (Ne.symm hb)).trans z) ⟨_,hu⟩ (w9 hu h6 hf)
 have e2:upd (upd H s.heap.objs.size (xf s.heap.objs.size [])) ea (xo ea C (some s.heap.objs.size) fr) s.heap.objs.size=some (xf s.heap.objs.size []):=by rw[aj (Ne.symm hxs)];exact au
 have Ic:=Ib.write (x:=s.heap.objs.size) (e:=s.heap.objs.size) (o:=xf s.heap.objs.size [(f,y)]) (h':=h') (t':=s.toks+1+1) (z0 e2) (.inl U) (λb o hb z=>(hs.2 b hb).trans z) ⟨_,hoD⟩
  (zM hn' (λg=>by
   show iP (List.lookup g [(f,y)]) (if g=f then some u else none)
   by_cases q:g=f
   ·have hb:(g == f)=true:=beq_iff_eq.mpr q
    simp only[List.lookup,hb,if_pos q]
    exact ry
   ·have hb:(g == f)=false:=beq_eq_false_iff_ne.mpr q
    simp only[List.lookup,hb,if_neg q]
    exact True.intro) (PySem.Within.cons f u PySem.Within.nil) (by show 1<=1000;decide))
 have ke:upd (upd (upd H s.heap.objs.size (xf s.heap.objs.size [])) ea (xo ea C (some s.heap.objs.size) fr)) s.heap.objs.size (xf s.heap.objs.size [(f,y)])
   = upd (upd H ea (xo ea C (some s.heap.objs.size) fr)) s.heap.objs.size (xf s.heap.objs.size [(f,y)]):=by
  funext b
  by_cases h1:b=s.heap.objs.size
  ·subst h1;rw[au,au]
  ·rw[aj h1,aj h1]
   by_cases h2:b=ea
   ·subst h2;rw[au,au]
   ·rw[aj h2,aj h2,aj h1]
 rw[ke] at Ic
 exact Ic
theorem KH{y:V}{u:Value}{Q:Unit->Shared->Prop}(I:Inv X pins O H s)(e:H ea=some (xo ea C (some d) fr))(ed:H d=some (xf d fs))(va:d≠ea)(hl:fs.length < 1000)(c:ExC X.K C)(n:D8 X.K C f)(ry:RelV y u)(h:∀ s',Inv X pins O (upd H d (xf d (jR f y fs))) s'->Q () s'):wpAny (model X.prog X.w) A (setAttr (.ref ea) f u) Q E s:=by
 obtain⟨nm,q,N,S,bs,sn,sub,ab,col,dd',k0,k1,k2,k3,k5,hC,T,hcl⟩:=c.at I.i7
 obtain⟨vs,he,h6,hf⟩:=ko I.aL e
 obtain⟨_,mA,hn,r,wi⟩:=vF I.aL ed
 obtain⟨od,hod,_⟩:=pV hn
 have J:InstAt s.heap ea { cls:=.ref C,dict:=some d,data:=.fields vs } C (some od):=⟨he,U,U,hod⟩
 refine PySem.W.set_plain I.i7 J c.sa (xQ (s:={ s with toks:=s.toks+1 }) I.i7 J c n λb=>?_)
 refine wpAny_bind (wpAny_pure (wpAny_bind (wpAny_bind (wpAny_loadPart he (wpAny_bind (Looks.here (s:={ s with toks:=s.toks+1 }) (PySem.W.looks_clsIn I.i7 hcl) ?_))))))
 rw[if_neg (show ¬ ((!true)=true) from by decide)]
 refine wpAny_pure (a:=some d) (wpAny_bind (wpAny_pure (wpAny_bind ?_)))
 refine wpAny_nsSet1 (s:={ s with toks:=s.toks+1 }) hn λh' FT qt=>?_
 obtain⟨oD,esD,epD,hoD,rE,hcD⟩:=FT.count (PySem.Within.cons f u wi)
 have hz:(fs.map (·.1)).length<=1000:=by rw[Tr];omega
 refine wpAny_bind (wpAny_lookBehind hoD (by rw[rE];exact pastItsLine_dict (TU hcD (by rw[TH,sizeLine_eq];omega))) ?_)
 refine wpAny_pure (h _ ?_)
 refine I.write (x:=d) (e:=d) (z0 ed) (.inl U) (λb o hb z=>(qt.2 b hb).trans z) ⟨_,hoD⟩ (zM FT (λg=>?_) (λg hg=>?_) ?_)
 ·show iP ((jR f y fs).lookup g) (if g=f then some u else mA g)
  rw[mK]
  by_cases q:g=f
  ·rw[if_pos q,if_pos q];exact ry
  ·rw[if_neg q,if_neg q];exact r g
 ·by_cases q:g=f
  ·rw[q];exact (lG f y fs).1
  ·refine (lG f y fs).2 g (wi g λz=>hg ?_)
   show (if g=f then some u else mA g)=none
   rw[if_neg q];exact z
 ·have:=mz f y fs;omega
theorem NF{u:Value}{b:Bool}{Q:VG}(I:Inv X pins O H s)(e:H ea=some (xo ea C (some d) fr))(ed:H d=some (xf d fs))(c:ExC X.K C)(n:D8 X.K C f)(l:fs.lookup f=some v)(h:∀ u s',Inv X pins O H s'->RelV v u->Q u s'):wpAny (model X.prog X.w) A (getAttr (.ref ea) f b) Q E s:=by
 obtain⟨nm,q,N,S,bs,sn,sub,ab,col,dd',k0,k1,k2,k3,k5,hC,T,hcl⟩:=c.at I.i7
 obtain⟨vs,he,h6,hf⟩:=ko I.aL e
 obtain⟨_,mA,hn,r,wi⟩:=vF I.aL ed
 obtain⟨u,hu,ru⟩:=iP.some_of (v:=v) (o:=mA f) (by rw[<- l];exact r f)
 obtain⟨od,hod,hlk⟩:=pV hn
 have J:InstAt s.heap ea { cls:=.ref C,dict:=some d,data:=.fields vs } C (some od):=⟨he,U,U,hod⟩
 have hfo:PySem.W.findObj X.K C (some od) f=some (.value u):=PySem.W.findObj_own (by unfold PySem.W.hasDictIn;rw[hcl];rfl) n.no U (by rw[hlk,hu])
 have LT:=J.type (M:=model X.prog X.w)
 have LF:=PySem.W.looks_find (M:=model X.prog X.w) I.i7 J hfo
 have LB:Looks (model X.prog X.w) s.heap (isInstance (.ref ea) (.type "BaseException")) true:=LT.andThen (PySem.W.looks_mroIn I.i7 (by unfold PySem.W.mroIn;rw[hcl,Option.bind_some];rfl))
 have hx2:(Value.builtin "BaseException.__getattribute__" == Value.builtin "object.__getattribute__")=false:=by decide+kernel
 refine wpAny_bind (wpAny_mkText (wpAny_holding (wpAny_bind (LT _ _ _ _ (λ_ _ e=>e) (wpAny_bind (Vf I.i7 c.ga _ _ _ _ (λ_ _ e=>e) ?_))))))
 dsimp only
 rw[hx2,Bool.and_false,if_neg (by decide)]
 refine wpAny_bind (PySem.W.looks_hook (mc:=.ref C) I.i7 c.gt _ _ _ _ (λ_ _ e=>e) (wpAny_bind (wpAny_attempt (wpAny_holding ?_))))
 unfold callGetattribute
 rw[show (b&&onTheHeap (Value.builtin "BaseException.__getattribute__"))=false from Bool.and_false _,if_neg (by decide)]
 unfold boundAndCalled
 rw[PySem.F.attr_ValueError.ga.bind]
 refine wpAny_bind (wpAny_pure ?_)
 show wpAny _ _ (call (.builtin "BaseException.__getattribute__") [.ref ea,.str f s.toks]) _ _ _
 refine wpAny_call (codeAny_call_builtin PySem.F.attr_ValueError.ga.plain PySem.F.entry_bexc_ga ?_)
 refine @PySem.W.check_slot (model X.prog X.w) _ _ { s with toks:=s.toks+1 } "BaseException.__getattribute__" "BaseException" "__getattribute__" (.ref ea) [.str f s.toks] [] _ (by decide+kernel) (by decide+kernel) LB (PySem.F.args_bexc_ga (.ref ea) (.str f s.toks)) ?_
 refine wpAny_bind (wpAny_pure (wpAny_bind (wpAny_pure (wpAny_bind (LT _ _ _ _ (λ_ _ e=>e) (wpAny_bind (LF _ _ _ _ (λ_ _ e=>e) ?_)))))))
 refine wpAny_pure ?_
 show wpAny _ _ (handedOut u) _ _ _
 rw[PySem.W.handedOut_of (y4 ru)]
 exact wpAny_pure (h u _ (I.tok _) ru)
end
theorem AA:specialIn [] (.builtin "object.__class__") "__get__"=some (some (.builtin "getset_descriptor.__get__")):=by decide+kernel
theorem yy:PySem.W.takesIn [] (.builtin "object.__class__")=some true:=by decide+kernel
section
variable{K:Frag}
theorem uo{x C:Addr}{ox:Obj}{od:Option Obj}(c:ExC K C)(ha:findIn K (.ref C) "__class__"=some (some (.builtin "object.__class__"))):PySem.W.KitX K (.ref x) (.ref C) (λh=>InstAt h x ox C od) where
 ty:=λ_ _ _ I=>I.type
 it:=λ_ _ X _=>by
  obtain⟨nm,q,N,S,bs,sn,sub,ab,col,dd',k0,k1,k2,k3,k5,hC,T,hcl⟩:=c.at X
  intro A' Q' E' s' k q
  unfold isType loadHead
  exact wpAny_bind (wpAny_loadPart (k _ _ hC) (wpAny_pure q))
 ne:=λh tp dd its n sl X htp=>by
  obtain⟨nm,q,N,S,bs,sn,sub,ab,col,dd',k0,k1,k2,k3,k5,hC,T,hcl⟩:=c.at X
  refine Bool.eq_false_iff.mpr λq=>?_
  have e:C=tp:=Value.ref.inj (beq_iff_eq.mp q)
  subst e
  have z:Data.cls _=Data.seq its.toArray n:=congrArg Obj.data (Ue (hC.symm.trans htp))
  cases z
 ca:=λ{prog w A E Q s} X I k=>by
  obtain⟨nm,q,N,S,bs,sn,sub,ab,col,dd',k0,k1,k2,k3,k5,hC,T,hcl⟩:=c.at X
  have hf:PySem.W.findObj K C od "__class__"=some (.bind (.builtin "getset_descriptor.__get__") (.builtin "object.__class__")):=by
   have h1:specialIn K (.builtin "object.__class__") "__get__"=some (some (.builtin "getset_descriptor.__get__")):=AA
   have h2:PySem.W.takesIn K (.builtin "object.__class__")=some true:=yy
   unfold PySem.W.findObj
   rw[hcl,Option.bind_some,ha,Option.bind_some]
   simp[h1,h2]
  have LT:=I.type (M:=model prog w)
  have LF:=PySem.W.looks_find (M:=model prog w) X I hf
  have LB:Looks (model prog w) s.heap (isInstance (.ref x) (.type "BaseException")) true:=LT.andThen (PySem.W.looks_mroIn X (by unfold PySem.W.mroIn;rw[hcl,Option.bind_some];rfl))
  have hx2:(Value.builtin "BaseException.__getattribute__" == Value.builtin "object.__getattribute__")=false:=by decide+kernel
  refine wpAny_bind (wpAny_mkText (wpAny_bind (wpAny_attempt ?_)))
  refine wpAny_holding (wpAny_bind (LT _ _ _ _ (λ_ _ e=>e) (wpAny_bind (Vf X c.ga _ _ _ _ (λ_ _ e=>e) ?_))))
  dsimp only
  rw[hx2,Bool.and_false,if_neg (by decide)]
  refine wpAny_bind (PySem.W.looks_hook (mc:=.ref C) X c.gt _ _ _ _ (λ_ _ e=>e) (wpAny_bind (wpAny_attempt (wpAny_holding ?_))))
  unfold callGetattribute
  rw[show (false&&onTheHeap (Value.builtin "BaseException.__getattribute__"))=false from U,if_neg (by decide)]
  unfold boundAndCalled
  rw[PySem.F.attr_ValueError.ga.bind]
  refine wpAny_bind (wpAny_pure ?_)
  show wpAny _ _ (call (.builtin "BaseException.__getattribute__") [.ref x,.str "__class__" s.toks]) _ _ _
  refine wpAny_call (codeAny_call_builtin PySem.F.attr_ValueError.ga.plain PySem.F.entry_bexc_ga ?_)
  refine @PySem.W.check_slot (model prog w) _ _ { s with toks:=s.toks+1 } "BaseException.__getattribute__" "BaseException" "__getattribute__" (.ref x) [.str "__class__" s.toks] [] _ (by decide+kernel) (by decide+kernel) LB (PySem.F.args_bexc_ga (.ref x) (.str "__class__" s.toks)) ?_
  refine wpAny_bind (wpAny_pure (wpAny_bind (wpAny_pure (wpAny_bind (LT _ _ _ _ (λ_ _ e=>e) (wpAny_bind (LF _ _ _ _ (λ_ _ e=>e) ?_)))))))
  show wpAny _ _ (Builtin.ObjectAttr.bindTo _ _ _ _) _ _ _
  unfold Builtin.ObjectAttr.bindTo
  dsimp only
  refine wpAny_bind (wpAny_holding (wpAny_call (PySem.W.class_get (s:={ s with toks:=s.toks+1 }) (ox:=ox) (od:=od) X I (by unfold PySem.W.mroIn;rw[hcl,Option.bind_some];rfl) ?_)))
  refine wpAny_pure ?_
  show wpAny _ _ (handedOut (.ref C)) _ _ _
  exact PySem.W.handed_on U (wpAny_pure k)
end
section
variable{X:Cx}{pins:VH}{O:St}{H:Hp}{s:Shared}{ea C d:Addr}{dd:Option Addr}{fr:Bool}{fs:List (Str×V)}{f:Str}{v:V}{A:Around}{E:VG}
structure Ir(K:Frag)(C:Addr):Prop extends ExC K C where
 cc:findIn K (.ref C) "__class__"=some (some (.builtin "object.__class__"))
theorem xX(I:Inv X pins O H s)(e:H ea=some (xo ea C dd fr))(hd:∀ d,dd=some d->∃ o,s.heap.get? d=some o):∃ ox od,InstAt s.heap ea ox C od:=by
 obtain⟨vs,he,h6,hf⟩:=ko I.aL e
 cases dd with
 | none=>exact⟨_,none,he,U,U,True.intro⟩
 | some d =>
  obtain⟨o,ho⟩:=hd d U
  exact⟨_,some o,he,U,U,ho⟩
def eM(H:Hp)(dd:Option Addr):Prop:=∀ d,dd=some d->∃ fs,H d=some (xf d fs)
theorem eM.at(D:eM H dd)(I:Inv X pins O H s):∀ d,dd=some d->∃ o,s.heap.get? d=some o:=λd e=>by
 obtain⟨fs,h⟩:=D d e
 obtain⟨_,mA,⟨o,_,_,h1,_⟩,_⟩:=vF I.aL h
 exact⟨o,h1⟩
def JD(K:Frag)(c:Value):List V->Hp->VK->Prop:=λxs H Q=>∃ ea C dd fr b cv,xs=[.ref ea,cv]/\RelV cv c/\H ea=some (xo ea C dd fr)/\eM H dd/\Ir K C/\kitOne K (.ref C) c=some b/\Q (.bl b) H
theorem jo{K:Frag}{c:Value}(hK:X.K=K)(hc:∀ (cv:V) (u:Value),RelV cv c->RelV cv u->u=c):fq X (.builtin "isinstance") (JD K c):=by
 subst hK
 intro pins s O H xs us Q I r h
 obtain⟨ea,C,dd,fr,b,cv,rfl,rc,e,D,t,k,q⟩:=h
 cases r with
 | @cons _ u _ us' ru rr =>
  cases rr with
  | @cons _ u2 _ us2 ru2 rr2 =>
   cases rr2
   obtain rfl:u=Value.ref ea:=ru
   obtain rfl:=hc cv u2 rc ru2
   obtain⟨ox,od,J⟩:=xX I e (D.at I)
   exact PySem.W.kia_one (uo t.toExC t.cc) I.i7 J k (λz=>nomatch z) λtk=>⟨.bl b,H,I.tok _,U,q⟩
def Ai(K:Frag)(ta:TE)(f:Str):TE:=λO H Q=>ta O H λx H1=>∃ ea C d fr fs v,x=.ref ea/\H1 ea=some (xo ea C (some d) fr)/\H1 d=some (xf d fs)/\ExC K C/\D8 K C f/\fs.lookup f=some v/\Q v H1
theorem wV{K:Frag}{e:Expr}{ta:TE}{pos:Pos}(hK:X.K=K)(he:PE X e ta)(hb:attributeBase e f X.env (eval e X.env)=eval e X.env):PE X (.Attribute e f pos) (Ai K ta f):=by
 subst hK
 intro pins s O H Q I h
 refine Cf hb (b8 (he pins s O H _ I h) λu s1 z8q=>?_)
 obtain⟨x,H1,I1,rx,ea,C,d,fr,fs,v,ex,e1,e2,c,n,l,q⟩:=z8q
 subst ex
 obtain rfl:u=Value.ref ea:=rx
 exact NF (u:=.none) I1 e1 e2 c n l λu' s2 I2 ru=>⟨v,H1,I2,ru,q⟩
def K0(K:Frag)(ta tv:TE)(f:Str):TS:=λD O H=>tv O H λy H1=>ta O H1 λx H2=>∃ ea C fr,x=.ref ea/\ExC K C/\D8 K C f /\
 ((H2 ea=some (xo ea C none fr)/\∀ d,H2 d=none->d≠ea->D.nx O (upd (upd H2 ea (xo ea C (some d) fr)) d (xf d [(f,y)]))) \/
  ∃ d fs,H2 ea=some (xo ea C (some d) fr)/\H2 d=some (xf d fs)/\d≠ea/\fs.length < 1000/\D.nx O (upd H2 d (xf d (jR f y fs))))
theorem Dc{o value:Expr}{ta tv:TE}{pos pos':Pos}(ha:PE X o ta)(hv:PE X value tv)(hs:swapsWith value (some (.Attribute o f pos')) pos.line X.env=pure false):PS X (.Assign [.Attribute o f pos'] value pos) (K0 X.K ta tv f):=by
 intro pins s O H D I h
 refine plainObj_wpAny_Assign_Attribute (b8 (hv pins s O H _ I h) λu s1 zz=>el2 zz λy H1 I1 ry q=>b8 (ha pins s1 O H1 _ I1 q) λov s2 ⟨x,H2,I2,rx,ea,C,fr,ex,c,n,q2⟩=>?_) hs
 subst ex
 obtain rfl:ov=Value.ref ea:=rx
 rcases q2 with ⟨e,q3⟩ | ⟨d,fs,e,e2,ne,hl,q3⟩
 ·exact KU I2 e c n ry λd s3 hd va I3=>⟨O,_,I3,q3 d hd va⟩
 ·exact KH I2 e e2 ne hl c n ry λs3 I3=>⟨O,_,I3,q3⟩
end
structure Cc(X:Cx)(pins:VH)(H:Hp)(s:Shared)(ea C:Addr)(dd:Option Addr)(T:Addr):Prop where
 ex:∃ vs:Array Value,s.heap.get? ea=some { cls:=.ref C,dict:=dd,data:=.fields vs }/\vs.size=6/\vs[1]?=some (.ref T)
 tb:uc s.heap T .none
 at_:H ea=some (xo ea C dd false)
 free:H T=none
 new:X.s₀.heap.objs.size<=T
 nl:T≠X.env.locals
 nc:∀ x c,X.env.cells.lookup x=some c->c≠T
 np:∀ p∈X.pn++pins,p.1≠T
 nf:T∉X.fs
section
variable{X:Cx}{pins:VH}{O:St}{H:Hp}{s:Shared}{ea C T:Addr}{dd:Option Addr}{fr:Bool}{A:Around}{E:VG}{h':Heap}
theorem tF{b:Addr}{o:HO}(e:H ea=some (xo ea C dd fr))(h:H b=some o)(n:∀ φ,o≠.ext φ):b≠ea:=wQ h e λz=>n _ z
theorem Inv.apart(I:Inv X pins O H s)(h:s.heap.objs.size<=T):X.s₀.heap.objs.size<=T/\T≠X.env.locals/\(∀ x c,X.env.cells.lookup x=some c->c≠T)/\(∀ p∈X.pn++pins,p.1≠T)/\T∉X.fs :=
 ⟨TU I.sz h,UO (TN I.lt h),λx c e=>by
  obtain⟨_,o,ho,_⟩:=I.cell x c e
  exact TQ (TN (Tz ho) h),λp hp=>TQ (TN (Tz (I.pin p hp).1) h),I.IH h⟩
theorem ou{ch:List Addr}{Bg:Array Value}(I:Inv X pins O H s)(hs:X.stack=X.env::X.outer)(hf:X.env.frame=some X.env.locals)(e:H ea=some (xo ea C dd fr))(P:gb ((X.env::X.outer).filterMap (·.frame)) (ea::ch) s.heap h')(qa:∀ b∈ch,H b=none/\X.s₀.heap.objs.size<=b/\b≠X.env.locals/\(∀ x c,X.env.cells.lookup x=some c->c≠b)/\∀ p∈X.pn++pins,p.1≠b)(sT:h'.get? ea=some { cls:=.ref C,dict:=dd,data:=.fields Bg })(h6:Bg.size=6):Inv X pins O (upd H ea (xo ea C dd false)) { s with heap:=h' }:=by
 have qS:(X.env::X.outer).filterMap (·.frame)=X.env.locals::X.fs:=by rw[List.filterMap_cons,hf];rfl
 rw[qS] at P
 have frN:∀ b,b∈X.env.locals::X.fs->H b=none:=λb hb=>I.rG b (by rw[hs];show b∈(X.env::X.outer).filterMap (·.frame);rw[qS];exact hb)
 refine I.step (g':=s.gens) (t':=s.toks) (d':=s.drawn) (ch:=ch) (λb hb=>⟨.inr (qa b hb).2.1,(qa b hb).2.2.1,(qa b hb).2.2.2.1,(qa b hb).2.2.2.2⟩) (λb o hL hb hc e1 n=>?_) (λb o hL hb hc e1 n=>?_) (λb o hc e1 n=>?_) (λb o hc e1=>?_)
  (λb xs q=>?_) (λb o u q=>?_) (λb ps q=>?_) (λm hm=>?_) (λb u q=>?_) I.bare
 ·refine P.keep b o (λz=>(TX.mp z).elim hL hb) (λz=>(TX.mp z).elim (λq=>?_) hc) e1
  rw[q,e] at n;cases n
 ·exact P.slot b o (Tv _ hb) e1
 ·rw[aj λq=>by rw[q,e] at n;cases n];exact n
 ·by_cases q:b=ea
  ·exact⟨_,by rw[q];exact sT⟩
  ·by_cases z:b∈X.env.locals::X.fs
   ·obtain⟨sl,h1⟩:=P.slot b o z e1
    exact⟨_,h1⟩
   ·exact⟨o,P.keep b o z (λy=>(TX.mp y).elim q hc) e1⟩
 ·rw[aj (tF e q λφ z=>nomatch z)];exact q
 ·rw[aj (tF e q λφ z=>nomatch z)];exact q
 ·exact⟨#[],by rw[aj (tF e q λφ z=>nomatch z),q];simp⟩
 ·obtain⟨o,es,ep,ho,r⟩:=hm
  obtain⟨sl,h1⟩:=P.slot _ o Tu ho
  exact⟨_,es,ep,h1,r⟩
 ·by_cases hb:b=ea
  ·subst hb
   rw[au] at q;cases q
   exact w9 sT h6 λz=>nomatch z
  ·rw[aj hb] at q
   have own:∀ c,H c=some (.own b)->c≠ea:=λc r=>tF e r λφ z=>nomatch z
   refine (I.aL b u q).pz (λc v hc r=>P.keep c v (λz=>?_) (λz=>?_) r) (λc r=>by rw[aj (own c r)];exact r) λc xs r=>by rw[aj (tF e r λφ z=>nomatch z)];exact r
   ·have n:=frN c z
    rcases hc with rfl | hc
    ·rw[q] at n;cases n
    ·rw[hc] at n;cases n
   ·rcases TX.mp z with z | z
    ·rcases hc with rfl | hc
     ·exact hb z
     ·exact own c hc z
    ·have n:=(qa c z).1
     rcases hc with rfl | hc
     ·rw[q] at n;cases n
     ·rw[hc] at n;cases n
theorem Ah{o:HO}(e:H ea=some o):upd H ea o=H:=by funext b;by_cases hb:b=ea<;>simp[upd,hb,e]
theorem oz(vs:Array Value)(v:Value):Obj.mapFields (·.setIfInBounds 1 v) { cls:=.ref C,dict:=dd,data:=.fields vs }={ cls:=.ref C,dict:=dd,data:=.fields (vs.setIfInBounds 1 v) }:=rfl
theorem yE{Q:Unit->Shared->Prop}(I:Inv X pins O H s)(hA:A.frames=some X.stack)(hs:X.stack=X.env::X.outer)(hf:X.env.frame=some X.env.locals)(e:H ea=some (xo ea C dd true))(h:∀ s2 T2,Inv X pins O (upd H ea (xo ea C dd false)) s2->Cc X pins (upd H ea (xo ea C dd false)) s2 ea C dd T2->Q () s2) :
  wpAny (model X.prog X.w) A (noteFrame (.ref ea) X.env) (λ_ s1=>wpAny (model X.prog X.w) A (setFlight (.ref ea) none) Q E s1) E s:=by
 obtain⟨vs,he,h6,h1⟩:=ko I.aL e
 have fun1:=I.stack
 rw[hs] at hA fun1
 refine yZ hA fun1 hf he U (h1 U) λha T2 P sT hT ht _=>?_
 rw[oz] at sT
 have hv1:(vs.setIfInBounds 1 (Value.ref T2))[1]?=some (.ref T2):=by rw[Vk (by omega)]
 refine lu (fs:=[]) sT U hv1 ht (by simp) λhb P2 k2 ht2=>?_
 have lt:∀ b o,s.heap.get? b=some o->b≠T2:=λb o q=>TQ (TN (Tz q) hT)
 have hea2:=k2 _ _ (lt _ _ he) sT
 have P':gb ((X.env::X.outer).filterMap (·.frame)) (ea::[]) s.heap hb:=⟨λb o n1 n2 q=>k2 b o (lt b o q) (P.keep b o n1 n2 q),λb o n1 q=>by
  obtain⟨sl,r⟩:=P.slot b o n1 q
  exact⟨sl,k2 b _ (lt b o q) r⟩⟩
 have I2:=ou I hs hf e P' (λb z=>nomatch z) hea2 (by simp[h6])
 obtain⟨a1,a2,a3,a4,a5⟩:=I.apart hT
 exact h _ T2 I2 ⟨⟨_,hea2,by simp[h6],hv1⟩,ht2,au,by rw[aj (Ne.symm (lt _ _ he))];exact I.aL.fresh hT,a1,a2,a3,a4,a5⟩
theorem ue{Q:Unit->Shared->Prop}(I:Inv X pins O H s)(hA:A.frames=some X.stack)(hs:X.stack=X.env::X.outer)(hf:X.env.frame=some X.env.locals)(F:Cc X pins H s ea C dd T)(h:∀ s2 T2,Inv X pins O H s2->Cc X pins H s2 ea C dd T2->Q () s2) :
  wpAny (model X.prog X.w) A (noteFrame (.ref ea) X.env) (λ_ s1=>wpAny (model X.prog X.w) A (setFlight (.ref ea) none) Q E s1) E s:=by
 obtain⟨vs,he,h6,h1⟩:=F.ex
 have fun1:=I.stack
 rw[hs] at hA fun1
 have CH:T≠ea:=λq=>by have:=F.free;rw[q,F.at_] at this;cases this
 refine zX hA fun1 hf he U h1 CH F.tb λha T2 P sT hT ht _=>?_
 rw[oz] at sT
 have hv1:(vs.setIfInBounds 1 (Value.ref T2))[1]?=some (.ref T2):=by rw[Vk (by omega)]
 refine lu (fs:=[]) sT U hv1 ht (by simp) λhb P2 k2 ht2=>?_
 have lt:∀ b o,s.heap.get? b=some o->b≠T2:=λb o q=>TQ (TN (Tz q) hT)
 have hea2:=k2 _ _ (lt _ _ he) sT
 have P':gb ((X.env::X.outer).filterMap (·.frame)) (ea::[T]) s.heap hb:=⟨λb o n1 n2 q=>k2 b o (lt b o q) (P.keep b o n1 n2 q),λb o n1 q=>by
  obtain⟨sl,r⟩:=P.slot b o n1 q
  exact⟨sl,k2 b _ (lt b o q) r⟩⟩
 have I2:=ou I hs hf F.at_ P' (λb z=>by
  have q:b=T:=TL.mp z
  rw[q]
  exact⟨F.free,F.new,F.nl,F.nc,F.np⟩) hea2 (by simp[h6])
 rw[Ah F.at_] at I2
 obtain⟨a1,a2,a3,a4,a5⟩:=I.apart hT
 exact h _ T2 I2 ⟨⟨_,hea2,by simp[h6],hv1⟩,ht2,F.at_,I.aL.fresh hT,a1,a2,a3,a4,a5⟩
theorem CM{Q:Unit->Shared->Prop}(I:Inv X pins O H s)(F:Cc X pins H s ea C dd T)(h:∀ s2,Inv X pins O H s2->Cc X pins H s2 ea C dd T->Q () s2):wpAny (model X.prog X.w) A (setFlight (.ref ea) none) Q E s:=by
 obtain⟨vs,he,h6,h1⟩:=F.ex
 have CH:T≠ea:=λq=>by have:=F.free;rw[q,F.at_] at this;cases this
 refine lu (fs:=[]) he U h1 F.tb (by simp) λhb _ k2 ht2=>?_
 exact h _ (I.turned (t':=s.toks) k2 F.free F.nl (.inr F.new) F.nc F.np) ⟨⟨vs,k2 _ _ (Ne.symm CH) he,h6,h1⟩,ht2,F.at_,F.free,F.new,F.nl,F.nc,F.np,F.nf⟩
end
def tH(P:Program)(w:World):vT:=λouter H s E e s'=>∃ (ea C:Addr) (dd:Option Addr) (T:Addr) (H':Hp),e=.ref ea/\s'.os=s.os/\AllBare s'.gens/\Un (zi outer) [] H H' s.heap s'.heap/\j0 P w H' s'.heap/\H' ea=some (xo ea C dd false) /\
 (∃ vs:Array Value,s'.heap.get? ea=some { cls:=.ref C,dict:=dd,data:=.fields vs }/\vs.size=6/\vs[1]?=some (.ref T))/\uc s'.heap T .none/\H' T=none/\s.heap.objs.size<=T/\E (.ref C) dd H'
section
variable{X:Cx}{pins:VH}{O:St}{H:Hp}{s s':Shared}{ea C T:Addr}{dd:Option Addr}{E:XK}{e:Value}
theorem EI(I:Inv X pins O H s)(h:tH X.prog X.w X.stack H s E e s'):∃ ea C dd T H',e=.ref ea/\Inv X pins O H' s'/\Cc X pins H' s' ea C dd T/\E (.ref C) dd H':=by
 obtain⟨ea,C,dd,T,H',rfl,os,bare,un,aL,at_,ex,tb,free,new,q⟩:=h
 obtain⟨a1,a2,a3,a4,a5⟩:=I.apart new
 exact⟨ea,C,dd,T,H',U,I.Ei (ch:=[]) os un aL bare (λb z=>nomatch z),⟨ex,tb,at_,free,a1,a2,a3,a4,a5⟩,q⟩
end
section
variable{P:Program}{w:World}{K:Frag}{mg:Str->Option Value}{base:Heap}{N:List Str}{qual:Str}{scope:Scope}{f:Addr}{cd:Value}{A:Around}{outer:List Env}{s:Shared}{H:Hp}{E E':XK}
abbrev Ku(P:Program)(w:World)(K:Frag)(mg:Str->Option Value)(base:Heap)(N:List Str)(qual:Str)(scope:Scope)(f:Addr)(cd:Value)(A:Around)(outer:List Env)(s:Shared)(H:Hp)(E:XK):Cx :=
 jl (tH P w) P w K mg base N qual scope f cd A outer s H E
theorem qe(h:∀ c dd H',E' c dd H'->E c dd H'):Passes (tH P w) (Ku P w K mg base N qual scope f cd A outer s H E) E':=λpins O H1 s1 e s' I hx=>by
 obtain⟨ea,C,dd,T,H',rfl,I1,F,q⟩:=EI (X:=Ku P w K mg base N qual scope f cd A outer s H E) I hx
 show wpAny _ _ (leaving _ _) _ _ _
 unfold leaving
 refine wpAny_bind (ue I1 I1.ok.frames U U F λs2 T2 I2 F2=>?_)
 exact⟨ea,C,dd,T2,H',U,I2.os,I2.bare,I2.base,I2.aL,F2.at_,F2.ex,F2.tb,F2.free,F2.new,h _ _ _ q⟩
def Raises(X:Cx)(E:XK):Prop:=∀ (pins:VH) (O:St) (H:Hp) (s:Shared) (ea C:Addr) (dd:Option Addr),Inv X pins O H s->H ea=some (xo ea C dd true)->E (.ref C) dd (upd H ea (xo ea C dd false))->X.xe (.ref ea) s
theorem qu:Raises (Ku P w K mg base N qual scope f cd A outer s H E) E:=λpins O H1 s1 ea C dd I e q=>by
 show wpAny _ _ (leaving _ _) _ _ _
 unfold leaving
 refine wpAny_bind (yE I I.ok.frames U U e λs2 T2 I2 F2=>?_)
 exact⟨ea,C,dd,T2,_,U,I2.os,I2.bare,I2.base,I2.aL,F2.at_,F2.ex,F2.tb,F2.free,F2.new,q⟩
end
section
variable{X:Cx}{pins:VH}{O:St}{H:Hp}{s:Shared}{ea C:Addr}{dd:Option Addr}{fr:Bool}
theorem vg{M:Model}{A:Around}{env:Env}{E:VG}{s:Shared}{x:Sem Value}{K:Frag}{Q:Flow->Shared->Prop}(hh:A.handled=none)(h:wpAny M A x (λv s₁=>∃ e C dd vs,v=.ref e/\K.In s₁.heap/\ExC K C/\s₁.heap.get? e=some { cls:=.ref C,dict:=dd,data:=.fields vs }/\vs[1]?=some .none/\E (.ref e) s₁) E s) :
  wpAny M A (raiseStmt env (some x) none) Q E s:=by
 unfold raiseStmt
 refine wpAny_bind (wpAny_mono h (λv s₁ h₁=>?_) λ_ _ x=>x)
 obtain⟨e,C,dd,vs,rfl,X,c,he,hv,hE⟩:=h₁
 obtain⟨nm,q,N,S,bs,sn,sub,ab,col,dd',k0,k1,k2,k3,k5,hC,T,hcl⟩:=c.at X
 have hcB:(Value.ref C::Value.ref S::jt).contains (.type "BaseException")=true:=by simp[jt]
 obtain⟨hp,g,d,tk,os⟩:=s₁
 repeat (first | with_reducible refine wpAny_loadPart_at he ?_ | with_reducible refine wpAny_loadPart_at hC ?_ | (with_reducible refine wpAny_isSubtype_exc hC ?_;rw[hcB]) | wp_step)
 rw[hv]
 refine wpAny_pure ?_
 rw[if_neg (by decide)]
 exact wpAny_pure (wpAny_raiseNew_none hh hE)
def Hb(K:Frag)(E:XK)(te:TE):TS:=λ_ O H=>te O H λx H1=>∃ ea C dd,x=.ref ea/\H1 ea=some (xo ea C dd true)/\ExC K C/\E (.ref C) dd (upd H1 ea (xo ea C dd false))
theorem tD{E:XK}{e:Expr}{te:TE}{pos:Pos}(hc:X.calm=true)(hr:Raises X E)(he:PE X e te):PS X (.Raise (some e) none pos) (Hb X.K E te):=by
 intro pins s O H D I h
 rw[arm_exec_Raise]
 refine wpAny_bind (wpAny_standAt (vg (K:=X.K) (I.ok.hd hc) ?_))
 refine wpAny_bind (wpAny_mono (he pins s O H _ I h) (λv s1 h1=>wpAny_bind (wpAny_standAt (wpAny_pure ?_))) λ_ _ x=>x)
 obtain⟨x,H1,I1,rx,ea,C,dd,ex,e1,c,q⟩:=h1
 subst ex
 obtain rfl:v=Value.ref ea:=rx
 obtain⟨vs,h1,_,h2⟩:=ko I1.aL e1
 exact⟨ea,C,dd,vs,U,I1.i7,c,h1,h2 U,hr pins O H1 s1 ea C dd I1 e1 q⟩
end
abbrev Cx.hand(X:Cx)(ev:Value):Cx:={ X with A:=X.A.mark (some ev),calm:=false,xe:=λ_ _=>False }
section
variable{X:Cx}{pins:VH}{O:St}{H:Hp}{s:Shared}{ev:Value}
theorem uB{A:Around}{l:List Env}(h:A.frames=some l):(A.mark (some ev)).frames=some l:=h
theorem Inv.hand(I:Inv X pins O H s):Inv (X.hand ev) pins O H s :=
 ⟨⟨I.ok.mod,I.ok.kind,I.ok.glob,I.ok.blt,I.ok.above,I.ok.inj,I.ok.has,I.ok.Iu,(λz=>nomatch z),uB I.ok.frames,I.ok.JA,I.ok.Ks,I.ok.bs,I.ok.Ce,I.ok.yW,I.ok.yo,I.ok.lD,I.ok.EK⟩,
  I.os,I.bare,I.base,I.loc,I.cell,I.free,I.gu,I.pin,I.aL,I.len⟩
theorem Inv.lC(ok:X.Ok)(I:Inv (X.hand ev) pins O H s):Inv X pins O H s:=⟨ok,I.os,I.bare,I.base,I.loc,I.cell,I.free,I.gu,I.pin,I.aL,I.len⟩
theorem SP.lC{D:Ends}{f:Flow}(ok:X.Ok)(h:SP (X.hand ev) pins D f s):SP X pins D f s:=by
 cases f with
 | next=>obtain⟨O',H',I,q⟩:=h;exact⟨O',H',I.lC ok,q⟩
 | brk=>obtain⟨O',H',I,q⟩:=h;exact⟨O',H',I.lC ok,q⟩
 | cont=>obtain⟨O',H',I,q⟩:=h;exact⟨O',H',I.lC ok,q⟩
 | ret u=>obtain⟨v,O',H',I,r,q⟩:=h;exact⟨v,O',H',I.lC ok,r,q⟩
theorem jw{M:Model}{A:Around}{E:VG}{i:Nat}{n:Str}{pos:Pos}{Q:Unit->Shared->Prop}(I:Inv X pins O H s)(hN:X.N.Nodup)(hi:X.N[i]?=some n)(hl:X.env.kindOf n=some .local)(h:∀ s',Inv X pins (O.set i none) H s'->Q () s'):wpAny M A (do bindName X.env n .none;unbindBehindTheSuite X.env n pos) Q E s:=by
 obtain⟨m,hn,hm⟩:=id I.loc
 obtain⟨oL,_,_,hoL,_⟩:=id hn
 have hcls:(X.env.scope.kind == .class||(X.env.scope.kind == .module&&X.env.locals != X.env.globals))=false:=by rw[I.ok.kind];rfl
 refine wpAny_nameGoes_keeps hl hn hcls λh' v hn' hs=>h _ ?_
 have ne:∀ b o,X.s₀.heap.get? b=some o->b≠X.env.locals:=λb o e=>TQ (TN (Tz e) I.ok.above)
 refine⟨I.ok,I.os,I.bare,⟨λb o e n hb hx=>?_,λb o e n hb hx=>?_,I.base.free,λb o e hx=>?_,I.base.rO,I.base.pH,I.base.sE⟩,⟨_,hn',λj y v' e1 e2 e3=>?_⟩,λy c e=>?_,I.free,I.gu,λp hp=>?_,λb ob e=>?_,by rw[Uu];exact I.len⟩
 ·exact (hs.2 b (ne b o e)).trans (I.base.keep b o e n hb hx)
 ·obtain⟨sl,e1⟩:=I.base.slot b o e n hb hx
  exact⟨sl,(hs.2 b (ne b o e)).trans e1⟩
 ·obtain⟨o',e1⟩:=I.base.there b o e hx
  exact⟨o',(hs.2 b (ne b o e)).trans e1⟩
 ·by_cases hj:j=i
  ·subst hj
   have iQ:j < O.length:=by rw[I.len];exact (Tw.mp hi).1
   rw[Uo iQ] at e2
   cases e2
  ·rw[TZ (Ne.symm hj)] at e2
   obtain⟨u',r',q⟩:=hm j y v' e1 e2 e3
   refine⟨u',r',?_⟩
   have hy:y≠n:=λe=>hj (nZ hN e1 (e▸hi))
   rcases q with ⟨k,e⟩ | ⟨k,c,e,z⟩
   ·exact .inl ⟨k,by show (if y=n then v else m y)=some u';rw[if_neg hy];exact e⟩
   ·exact .inr ⟨k,c,e,z.sameBut hs (I.CG y c e)⟩
 ·obtain⟨w',z⟩:=I.cell y c e
  exact⟨w',z.sameBut hs (I.CG y c e)⟩
 ·obtain⟨e,n,ne,nf,d⟩:=I.pin p hp
  exact⟨(hs.2 p.1 ne).trans e,n,ne,nf,d⟩
 ·refine (I.aL b ob e).pz (λc w' hc q=>(hs.2 c ?_).trans q) (λ_ q=>q) λ_ _ q=>q
  rintro rfl
  rcases hc with rfl | hc
  ·rw[I.free] at e;cases e
  ·rw[I.free] at hc;cases hc
abbrev Ed:=Addr->Option Addr->Addr->Ends->St->Hp->Prop
def PH(X:Cx)(hs:List ExceptHandler)(t:Ed):Prop:=∀ (pins:VH) (s:Shared) (O:St) (H:Hp) (D:Ends) (ea C:Addr) (dd:Option Addr) (T:Addr),Inv X pins O H s->Cc X pins H s ea C dd T->t C dd ea D O H ->
 wpAny (model X.prog X.w) X.A (handleBy (.ref ea) X.env hs) (SP X pins D) X.xe s
def IT:Ed:=λ_ _ _ _ _ _=>False
theorem Ie:PH X [] IT:=λ_ _ _ _ _ _ _ _ _ _ _ h=>h.elim
theorem Cc.ty{M:Model}{ea C T:Addr}{dd:Option Addr}(F:Cc X pins H s ea C dd T):Looks M s.heap (typeOf (.ref ea)) (.ref C):=by
 obtain⟨vs,he,_⟩:=F.ex
 exact (Looks.ld he).andThen .now
def Ni(i:Nat)(D:Ends):Ends:={ nx:=λO' H'=>D.nx (O'.set i none) H',rt:=D.rt,bk:=λO' H'=>D.bk (O'.set i none) H',ct:=λO' H'=>D.ct (O'.set i none) H' }
def O7(K:Frag)(c:Value)(i:Nat)(ts:TS)(tr:Ed):Ed:=λC dd ea D O H=>∃ b,PySem.W.exmOne K (.ref C) c=some b/\if b=true then ts (Ni i D) (O.set i (some (.ref ea))) H else tr C dd ea D O H
theorem IX{x n:Str}{i:Nat}{p pos:Pos}{c:Value}{b₀:Stmt}{kG:List Stmt}{rest:List ExceptHandler}{ts:TS}{tr:Ed}(hg:Gl X x)(hm:X.mg x=some c)(hN:X.N.Nodup)(hi:X.N[i]?=some n)(hl:X.env.scope.names.lookup n=some .local)(hb:∀ ev,nz (X.hand ev) (b₀::kG) ts)(hr:PH X rest tr)(hd:VM x:=by decide):PH X (.ExceptHandler (some (.Name x p)) (some n) (b₀::kG) pos::rest) (O7 X.K c i ts tr):=by
 intro pins s O H D ea C dd T I F h
 obtain⟨b,eb,q⟩:=h
 refine wpAny_handleBy_cons (codeAny_handlers_test (iw (X:=X.hand (.ref ea)) I.hand hg hm ((PySem.W.exm_one I.i7 F.ty eb).here ?_) hd)) (by intro z;cases z)
 cases b with
 | false=>exact hr pins s O H D ea C dd T I F q
 | true =>
  refine codeAny_handlers_suite_as (CM I F λs2 I2 F2=>?_)
  refine kD (v:=.ref ea) I2 hN hi (.inl hl) U (λs3 I3=>?_) (.inr hl)
  refine wpAny_mono (hb (.ref ea) pins s3 _ H (Ni i D) I3.hand q) (λf s4 h4=>?_) λ_ _ z=>z.elim
  have h5:=SP.lC I.ok h4
  cases f with
  | next=>obtain⟨O',H',J,q⟩:=h5;exact jw J hN hi hl λs5 J5=>⟨_,H',J5,q⟩
  | brk=>obtain⟨O',H',J,q⟩:=h5;exact jw J hN hi hl λs5 J5=>⟨_,H',J5,q⟩
  | cont=>obtain⟨O',H',J,q⟩:=h5;exact jw J hN hi hl λs5 J5=>⟨_,H',J5,q⟩
  | ret u=>obtain⟨v,O',H',J,r,q⟩:=h5;exact jw J hN hi hl λs5 J5=>⟨v,_,H',J5,r,q⟩
abbrev XR:=Addr->Option Addr->Addr->St->Hp->Prop
def XP(X:Cx)(pins:VH)(R:XR)(e:Value)(s':Shared):Prop:=∃ ea C dd T O H,e=.ref ea/\Inv X pins O H s'/\Cc X pins H s' ea C dd T/\R C dd ea O H
abbrev Mp:=Ends->XR->St->Hp->Prop
abbrev IC:=St->Hp->VK->XR->Prop
def Oa(X:Cx)(st:List Stmt)(t:Mp):Prop:=∀ (pins:VH) (s:Shared) (O:St) (H:Hp) (D:Ends) (R:XR),Inv X pins O H s->t D R O H->wpAny (model X.prog X.w) X.A (execs st X.env) (SP X pins D) (XP X pins R) s
def Md(X:Cx)(e:Expr)(t:IC):Prop:=∀ (pins:VH) (s:Shared) (O:St) (H:Hp) (Q:VK) (R:XR),Inv X pins O H s->t O H Q R->wpAny (model X.prog X.w) X.A (eval e X.env) (EP X pins O Q) (XP X pins R) s
def Ol(tb:Mp)(th:Ed):TS:=λD O H=>tb D (λC dd ea O' H'=>th C dd ea D O' H') O H
theorem Hz{body:List Stmt}{h₀:ExceptHandler}{hs:List ExceptHandler}{pos:Pos}{tb:Mp}{th:Ed}(h1:X.stack=X.env::X.outer)(h2:X.env.frame=some X.env.locals)(hb:Oa X body tb)(hh:PH X (h₀::hs) th) :
  PS X (.Try body (h₀::hs) [] [] pos) (Ol tb th):=by
 intro pins s O H D I h
 refine wpAny_Try_except (wpAny_mono (hb pins s O H D _ I h) (λf s1 h1=>?_) λe s1 hx=>?_)
 ·cases f with
  | next=>exact wpAny_execs_nil h1
  | brk=>exact h1
  | cont=>exact h1
  | ret u=>exact h1
 ·obtain⟨ea,C,dd,T,O',H',rfl,J,F,q⟩:=hx
  exact ue J J.ok.frames h1 h2 F λs2 T2 J2 F2=>hh pins s2 O' H' D ea C dd T2 J2 F2 q
def Gg(sp:Sp)(t:TA):IC:=λO H Q R=>t O H λvs H1=>sp vs H1 Q λc dd H'=>∃ C,c=.ref C/\∀ ea,H' ea=some (xo ea C dd false)->R C dd ea O H'
theorem CC{Q:VK}{R:XR}{us:List Value}{vs:List V}{k:Nat}{f:Addr}{fd:FuncData}{ps:List Str}{sp:Sp}(F:cw X.prog X.w X.K X.mg X.base (tH X.prog X.w) k f fd ps sp)(hr:cb k X.A)(hb:Binds X.K fd ps [])(I:Inv X pins O H s)(r:Vals vs us)(h:sp vs H Q λc dd H'=>∃ C,c=.ref C/\∀ ea,H' ea=some (xo ea C dd false)->R C dd ea O H'):wpAny (model X.prog X.w) X.A (call (.ref f) us) (EP X pins O Q) (XP X pins R) s:=by
 have hl:(us++[]).length=ps.length:=by rw[TM,<- r.length];exact F.len _ _ _ _ h
 have FQ:=hb s us I.i7 hl
 rw[TM] at FQ
 refine wpAny_call (codeAny_mono (F.run X.A X.stack s H ⟨us,[]⟩ us vs Q _ hr I.Hn FQ r h) λr s' hq=>?_)
 cases r with
 | error e =>
  obtain⟨ea,C,dd,T,H',rfl,J,Fl,C',ec,q⟩:=EI I (show tH X.prog X.w X.stack H s (λc dd H'=>∃ C,c=.ref C/\∀ ea,H' ea=some (xo ea C dd false)->R C dd ea O H') e s' from hq)
  cases ec
  exact⟨ea,C,dd,T,O,H',U,J,Fl,q ea Fl.at_⟩
 | ok fl =>
  cases fl with
  | ret u=>exact I.after hq
  | next=>exact False.elim hq
  | brk=>exact False.elim hq
  | cont=>exact False.elim hq
theorem zG{k:Nat}{f:Addr}{fd:FuncData}{ps:List Str}{sp:Sp}{x:Str}{p pos:Pos}{e:Expr}{es:List Expr}{t:TA}(F:cw X.prog X.w X.K X.mg X.base (tH X.prog X.w) k f fd ps sp)(hr:cb k X.A)(hg:Gl X x)(hm:X.mg x=some (.ref f))(hk:keepIn X.K (.ref f)=true)(hb:Binds X.K fd ps [])(ha:PA X.sV (e::es) t)(fP:VM x:=by decide)(he:VJ X.env e es:=by rfl)(dA:VL X.env pos es:=by rfl) :
  Md X (.Call (.Name x p) (e::es) [] pos) (Gg sp t):=by
 intro pins s O H Q R I h
 refine wpAny_Call_Name_kw (iw I hg hm ?_ fP)
 refine Vr (h₀:=X.base) I.ok.mod.Iq hk (wpAny_mono (ha pos pins s O H _ (I.mQ _) h) (λus s1 ⟨vs,H1,I1,r,q⟩=>⟨I1.i7,?_⟩) λ_ _ z=>False.elim z) he dA
 exact CC F hr hb I1.gO r q
theorem zm{st:Stmt}{t:Mp}(h:∀ (pins:VH) (s:Shared) (O:St) (H:Hp) (D:Ends) (R:XR),Inv X pins O H s->t D R O H->wpAny (model X.prog X.w) X.A (exec st X.env) (SP X pins D) (XP X pins R) s):Oa X [st] t:=by
 intro pins s O H D R I h1
 refine wpAny_execs_cons (b8 (h pins s O H D R I h1) λf s1 q=>?_)
 cases f with
 | next=>exact wpAny_execs_nil q
 | ret v=>exact q
 | brk=>exact q
 | cont=>exact q
theorem D4{i:Nat}{x:Str}{e:Expr}{te:IC}{pos pos':Pos}(hN:X.N.Nodup)(hi:X.N[i]?=some x)(hx:Loc X.env.scope x)(he:Md X e te)(hs:swapsWith e (some (.Name x pos')) pos.line X.env=pure false:=by rfl)(hf:VN X x:=by first | exact .inl U | exact .inr U | assumption):Oa X [.Assign [.Name x pos'] e pos] (λD R O H=>te O H (λv H1=>D.nx (O.set i (some v)) H1) R) :=
 zm λpins s O H D R I h=>wpAny_Assign_Name (b8 (he pins s O H _ R I h) λv s1 zz=>el2 zz λy H1 I1 r1 q1=>kD I1 hN hi hx r1 (λs2 I2=>⟨_,H1,I2,q1⟩) hf) hs
end
section
variable{P:Program}{w:World}{K:Frag}{mg:Str->Option Value}{base:Heap}
theorem sR.QG{x qual:Str}{st:Stmt}{f:Addr}{fd:FuncData}{N ps:List Str}{k:Nat}{sp:Sp}(F:sR K x qual st f fd)(S:az N ps (ai st))(len:∀ vs H Q E,sp vs H Q E->vs.length=ps.length)(uN:∀ (bN:Value) (A:Around) (outer:List Env) (s:Shared) (H:Hp) (vs:List V) (Q:VK) (E:XK),cb k (A.deeper (envOfC qual (ai st) s.heap.objs.size f bN))->sp vs H Q E ->
   ∃ t,nz (Ku P w K mg base N qual (ai st) f bN A outer s H E) (bc st) t/\t { nx:=λ_ H'=>Q .bD H',rt:=Q } (start N vs) H):cw P w K mg base (tH P w) (k+1) f fd ps sp:=by
 obtain⟨oc,od,kV,doc,pm,an,bN,ct,zl,rfl,lk,pj⟩:=F.ex
 exact Fe lk pj S len λA outer s H vs Q E hr Ca=>uN bN A outer s H vs Q E hr Ca
end
section
variable{X:Cx}
def Ff(i j:Int):Prop:=0 < j/\j < 9223372036854775808
theorem dh:iV X (binaryOp .FloorDiv) (rI Ff λi j=>.int (i / j)):=Mr λi j _ _ _ _ _ hc q=>by
 have h1:(0:Int) < j:=hc.1
 have h2:j < 9223372036854775808:=hc.2
 refine floordiv_int (by omega) (by rw[Int.fdiv_eq_ediv_of_nonneg i (by omega)];exact q) (.inl (PyProof.noPylong_of_log2 ?_))
 have h3:j.natAbs < 2 ^ 63:=by
  have:(2:Nat) ^ 63=9223372036854775808:=by decide
  omega
 have h4:j.natAbs.log2 < 63:=(Nat.log2_lt (by omega)).mpr h3
 omega
end
end L2
namespace cK
open PySem L2
abbrev kS:Key:=Sum.inr "seed"
abbrev kN:Key:=Sum.inr "number"
abbrev kL:Key:=Sum.inr "left"
theorem sn:¬ kS=kN:=by decide+kernel
theorem sl:¬ kS=kL:=by decide+kernel
theorem nl:¬ kN=kL:=by decide+kernel
def cP(a b:Int)(l:Addr):List (Key×V):=[(kS,.int a),(kN,.int b),(kL,.ref l)]
theorem BB(a b:Int)(l:Addr):il (cP a b l) (kS)=some (.int a):=gc U
theorem vI(a b:Int)(l:Addr):il (cP a b l) (kN)=some (.int b):=by
 unfold cP
 rw[dI sn]
 exact gc U
theorem Ae(a b:Int)(l:Addr):il (cP a b l) (kL)=some (.ref l):=by
 unfold cP
 rw[dI sl,dI nl]
 exact gc U
theorem BW(a b c:Int)(l:Addr):putK (cP a b l) (kS) (.int c)=cP c b l:=by
 unfold cP putK
 simp only[List.any_cons,List.any_nil,List.map_cons,List.map_nil,decide_true,Bool.true_or,if_true,if_neg (Ne.symm sn),if_neg (Ne.symm sl)]
theorem vy(a b c:Int)(l:Addr):putK (cP a b l) (kN) (.int c)=cP a c l:=by
 unfold cP putK
 simp only[List.any_cons,List.any_nil,List.map_cons,List.map_nil,decide_true,Bool.true_or,Bool.or_true,if_true,if_neg sn,if_neg (Ne.symm nl)]
theorem Gz(a b:Int)(l:Addr):gP [] (cP a b l)=cP a b l:=by
 have e1:putK [] kS (V.int a)=[(kS,V.int a)]:=oH _ ow
 have e2:putK [(kS,V.int a)] kN (V.int b)=[(kS,V.int a),(kN,V.int b)]:=oH _ (by rw[dI sn];exact ow)
 have e3:putK [(kS,V.int a),(kN,V.int b)] kL (V.ref l)=[(kS,V.int a),(kN,V.int b),(kL,V.ref l)]:=oH _ (by rw[dI sl,dI nl];exact ow)
 unfold gP cP
 simp only[List.foldl_cons,List.foldl_nil]
 rw[e1,e2,e3]
section
variable{H:Hp}{d l:Addr}{a b:Int}
theorem oJ(h:H d=some (.dK (cP a b l))):gX H d (.str "seed") (some (.int a)):=by
 have q:=gX.k (k:=kS) h
 rw[BB] at q
 exact q
theorem oN(h:H d=some (.dK (cP a b l))):gX H d (.str "number") (some (.int b)):=by
 have q:=gX.k (k:=kN) h
 rw[vI] at q
 exact q
theorem t7(h:H d=some (.dK (cP a b l))):gX H d (.str "left") (some (.ref l)):=by
 have q:=gX.k (k:=kL) h
 rw[Ae] at q
 exact q
theorem yP{c:Int}(h:H d=some (.dK (cP a b l))):lQ H d (.str "seed") (.int c) (upd H d (.dK (cP c b l))):=by
 have q:=lQ.k (k:=kS) (v:=.int c) h (by show 3 < sizeLine;decide)
 rw[BW] at q
 exact q
theorem mq{c:Int}(h:H d=some (.dK (cP a b l))):lQ H d (.str "number") (.int c) (upd H d (.dK (cP a c l))):=by
 have q:=lQ.k (k:=kN) (v:=.int c) h (by show 3 < sizeLine;decide)
 rw[vy] at q
 exact q
end
structure At(H:Hp)(d l:Addr):Prop where
 ex:∃ (a b:Int) (ns:List Int),H d=some (.dK (cP a b l))/\H l=some (.lst (ns.map V.int))/\0<=a/\a < 2147483647/\0<=b/\∀ n∈ns,0<=n
def Il(d l:Addr)(H H':Hp):Prop:=∀ c o,H c=some o->c≠d->c≠l->H' c=some o
theorem Il.refl(d l:Addr)(H:Hp):Il d l H H:=λ_ _ h _ _=>h
theorem At.ne{H:Hp}{d l:Addr}(h:At H d l):d≠l:=by
 obtain⟨a,b,ns,h1,h2,r⟩:=h.ex
 exact wQ h1 h2 (by intro z;cases z)
def vi:Sp:=λvs H Q _=>∃ (d l:Addr) (m:Int),vs=[.ref d,.int m]/\At H d l/\0 < m/\m < 9223372036854775808/\∀ (r:Int) (H':Hp),0<=r->r < m->At H' d l->Il d l H H'->Q (.int r) H'
def vM(K:Frag):Sp:=λvs H Q _=>∃ (a:Addr) (ns:List Int) (base:Int),vs=[.ref a,.int base]/\d5 K H a (ns.map V.int)/\ns.length<=63/\0<=base/\base < 1000000/\∀ (d l:Addr) (H':Hp),H d=none->H l=none->At H' d l->eQ H H'->Q (.ref d) H'
section
variable{P:Program}{w:World}{K:Frag}{mg:Str->Option Value}{base:Heap}
abbrev nD:List Str:=["_law_deal_here","_law_many","_law_number","_law_one","_law_other"]
def tQ:TS :=
 oI (jO (lj (bB 0) (tC (.str "number"))) (d7 2))
  (oI (LX (pJ (jg (sU λi j=>.bl (decide (j < i))) (bB 2) (tC (.int 0))))
    (oI (tK (bB 0) (tC (.str "number")) (jg (rI Ff λi j=>.int (i / j)) (bB 2) (bB 1))) (CT (jg (rI (λ_ j=>0 < j) λi j=>.int (i % j)) (bB 2) (bB 1)))) Fd)
  (oI (jO (jg (rI (λ_ j=>0 < j) λi j=>.int (i % j)) (jg (sU λi j=>.int (i+j)) (jg (rI qR λi j=>.int (i * j)) (lj (bB 0) (tC (.str "seed"))) (tC (.int 48271))) (tC (.int 7919))) (tC (.int 2147483647))) (d7 3))
  (oI (tK (bB 0) (tC (.str "seed")) (jg (rI (λ_ j=>0 < j) λi j=>.int (i % j)) (jg (sU λi j=>.int (i+j)) (jg (rI qR λi j=>.int (i * j)) (bB 3) (tC (.int 40692))) (tC (.int 104729))) (tC (.int 2147483399))))
  (oI (jO (jg (rI (λ_ j=>0 < j) λi j=>.int (i % j)) (jg (rI qR λi j=>.int (i * j)) (lj (bB 0) (tC (.str "seed"))) (lj (bB 0) (tC (.str "seed")))) (tC (.int 2147483563))) (d7 4))
  (CT (jg (rI (λ_ j=>0 < j) λi j=>.int (i % j)) (jg (sU λi j=>.int (i+j)) (jg (rI qR λi j=>.int (i * j)) (jg (rI (λ_ j=>0 < j) λi j=>.int (i % j)) (jg (rI qR λi j=>.int (i * j)) (bB 3) (bB 3)) (tC (.int 2147483629))) (tC (.int 2147483563))) (bB 4)) (bB 1)))))))
def Lr(K:Frag):TS :=
 oI (BE (LV (pJ (jg Nb (lj (bB 0) (tC (.str "number"))) (tC (.int 0)))) (pJ (jg (sU λi j=>.bl (decide (j < i))) (Dv (λxs H Q=>∃ p ys,xs=[.ref p]/\(d5 K H p ys\/hV K H p ys)/\Q (.int ys.length) H) (jU (lj (bB 0) (tC (.str "left"))) uJ)) (tC (.int 0)))))
  (tK (bB 0) (tC (.str "number")) (FR K "list" HN (lj (bB 0) (tC (.str "left")))))) tQ
theorem CD{st:Stmt}{f:Addr}{fd:FuncData}(F:sR K "_law_draw" "_law_draw" st f fd)(sc:az nD ["_law_deal_here","_law_many"] (ai st))(hb:∀ (bN:Value) (A:Around) (outer:List Env) (s:Shared) (H:Hp) (E:XK),(A.deeper (PyProof.Rows.envOfC "_law_draw" (ai st) s.heap.objs.size f bN)).units+1 < cLine ->
   nz (jl bb P w K mg base nD "_law_draw" (ai st) f bN A outer s H E).sV (bc st) (Lr K)) :
  cw P w K mg base bb 1 f fd ["_law_deal_here","_law_many"] vi:=by
 refine F.ok sc (λvs H Q E h=>?_) (λbN A outer s H vs Q E hr h=>?_)
 ·obtain⟨d,l,m,rfl,_⟩:=h
  rfl
 ·obtain⟨d,l,m,rfl,D,hm,hm2,k⟩:=h
  refine⟨_,hb _ _ _ _ _ _ (b7 hr),?_⟩
  obtain⟨a0,b0,ns0,hd0,hl0,ha0,ha0',hb0,hns0⟩:=D.ex
  have ndl:d≠l:=D.ne
  -- while
  refine⟨λμ O H1=>∃ (b:Int) (ns:List Int),O=[some (.ref d),some (.int m),none,none,none]/\H1 d=some (.dK (cP a0 b l))/\H1 l=some (.lst (ns.map V.int))/\0<=b/\(∀ n∈ns,0<=n)/\Il d l H H1/\μ=ns.length,
   ⟨ns0.length,b0,ns0,U,hd0,hl0,hb0,hns0,Il.refl _ _ _,U⟩,?_⟩
  rintro μ O H1 ⟨b,ns,rfl,hd,hl,hb,nJ,bt,rfl⟩
  -- behind the loop
  have rest:tQ
    { nx:=λ_ H'=>Q .bD H',rt:=Q } [some (.ref d),some (.int m),none,none,none] H1:=by
   refine⟨_,U,d,_,U,oN hd,?_⟩
   refine⟨_,U,_,_,U,U,_,U,Fs (λhpos=>?_) (λhpos=>?_)⟩
   ·have hpos:0 < b:=of_decide_eq_true hpos
    refine⟨_,U,_,U,_,_,U,U,⟨hm,hm2⟩,_,U,d,_,U,mq hd,?_⟩
    refine⟨_,U,_,U,_,_,U,U,hm,?_⟩
    refine k (b % m) _ (UX _ (by omega)) (UU _ hm) ⟨a0,b / m,ns,au,by rw[aj (Ne.symm ndl)];exact hl,ha0,ha0',Vq hb (by omega),nJ⟩ λc o e h1 h2=>?_
    rw[aj h1]
    exact bt c o e h1 h2
   ·refine⟨_,U,d,_,U,oJ hd,_,_,U,U,.inr ⟨by decide,by decide⟩,_,_,U,U,_,_,U,U,(by show (0:Int) < 2147483647;decide),?_⟩
    have h1:0<=(a0 * 48271+7919) % 2147483647:=UX _ (by decide)
    have h2:(a0 * 48271+7919) % 2147483647 < 2147483647:=UU _ (by decide)
    refine⟨_,U,_,_,U,U,.inr ⟨by decide,by decide⟩,_,_,U,U,_,_,U,U,(by show (0:Int) < 2147483399;decide),_,U,d,_,U,yP hd,?_⟩
    have h3:0<=((a0 * 48271+7919) % 2147483647 * 40692+104729) % 2147483399:=UX _ (by decide)
    have h4:((a0 * 48271+7919) % 2147483647 * 40692+104729) % 2147483399 < 2147483399:=UU _ (by decide)
    refine⟨_,U,d,_,U,oJ au,_,U,d,_,U,oJ au,_,_,U,U,.inl ⟨by omega,by omega⟩,_,_,U,U,(by show (0:Int) < 2147483563;decide),?_⟩
    refine⟨_,U,_,U,_,_,U,U,.inl ⟨by omega,by omega⟩,_,_,U,U,(by show (0:Int) < 2147483629;decide),_,_,U,U,.inr ⟨by decide,by decide⟩,_,U,_,_,U,U,_,U,_,_,U,U,hm,?_⟩
    refine k _ _ (UX _ (by omega)) (UU _ hm) ⟨_,b,ns,au,by rw[aj (Ne.symm ndl)];exact hl,h3,by omega,hb,nJ⟩ λc o e h1 h2=>?_
    rw[aj h1]
    exact bt c o e h1 h2
  refine⟨_,U,d,_,U,oN hd,U,_,U,?_⟩
  refine Fs (λh0=>?_) (λh0=>?_)
  ·refine⟨_,U,d,_,U,t7 hd,l,_,U,.inl (d5.of hl),_,_,U,U,_,U,?_⟩
   refine Fs (λh1=>?_) (λh1=>?_)
   ·have h1:(0:Int) < ((ns.map V.int).length:Int):=of_decide_eq_true h1
    rw[Tr] at h1
    obtain⟨init,x,rfl⟩:∃ init x,ns=init++[x]:=by
     rcases List.eq_nil_or_concat ns with e | ⟨i,x,e⟩
     ·subst e;simp at h1
     ·exact⟨i,x,by simpa using e⟩
    refine⟨λO' H'=>∃ (b:Int) (ns:List Int),O'=[some (.ref d),some (.int m),none,none,none]/\H' d=some (.dK (cP a0 b l))/\H' l=some (.lst (ns.map V.int))/\0<=b/\(∀ n∈ns,0<=n)/\Il d l H H'/\ns.length < (init++[x]).length,?_,?_⟩
    ·rintro O' H' ⟨b',ns',e1,e2,e3,e4,e5,e6,e7⟩
     exact⟨ns'.length,e7,b',ns',e1,e2,e3,e4,e5,e6,U⟩
    ·refine⟨_,U,d,_,U,t7 hd,.inl ⟨U,_,d5.of hl⟩,l,_,.int x,U,U,hl,by simp,?_⟩
     have hd':(upd H1 l (.lst ((init++[x]).map V.int).dropLast)) d=some (.dK (cP a0 b l)):=by rw[aj ndl];exact hd
     refine⟨_,U,d,_,U,mq hd',?_⟩
     refine⟨x,init,U,au,?_,nJ x (by simp),λn hn=>nJ n (by simp[hn]),λc o e h1 h2=>?_,by simp⟩
     ·rw[aj (Ne.symm ndl),au,Tx,TC,UH,List.dropLast_concat]
     ·rw[aj h1,aj h2]
      exact bt c o e h1 h2
   ·exact rest
  ·exact rest
def Nn:List V->Hp->VK->Prop:=λxs H Q=>∃ i j,xs=[.int i,.int j]/\Q (.int (if j > i then j else i)) H
def Kq(K:Frag):TS :=
 oI (jO (uK 1 [] (xO K (Pj (JF K) (bB 0) (Bk (bB 1)) (Bk (tC (.int 63))))) (d7 0) El (Dv Nn (jU (bB 0) (jU (jg (sU λi j=>.int (i - j)) (tC (.int 0)) (bB 0)) uJ)))) (d7 2))
 (oI (jO (jg (sU λi j=>.int (i+j)) (tC (.int 7919)) (bB 1)) (d7 3))
 (oI (La (xO K (bB 2)) (d7 4) (jO (jg (rI (λ_ j=>0 < j) λi j=>.int (i % j)) (jg (sU λi j=>.int (i+j)) (jg (rI qR λi j=>.int (i * j)) (bB 3) (tC (.int 48271))) (jg (rI (λ_ j=>0 < j) λi j=>.int (i % j)) (bB 4) (tC (.int 2147483629)))) (tC (.int 2147483647))) (d7 3)))
 (CT (EW [(tC (.str "seed"),bB 3),(tC (.str "number"),tC (.int 0)),(tC (.str "left"),uO K (uK 1 [] (xO K (bB 2)) (d7 0) (pJ (jg (sU λi j=>.bl (decide (j<=i))) (bB 0) (jg (rI IJ λi j=>.int (i ^ j.toNat)) (tC (.int 10)) (tC (.int 18))))) (bB 0)))]))))
theorem CB(ns:List Int)(lo hi:Option Int):∃ ms:List Int,o7 (ns.map V.int) lo hi=ms.map V.int/\ms.length<=ns.length:=by
 refine⟨(ns.drop (HT.ck ns.length 0 lo)).take (HT.ck ns.length ns.length hi - HT.ck ns.length 0 lo),?_,?_⟩
 ·unfold o7
  rw[Tr,<- List.map_drop,<- List.map_take]
 ·rw[UG,UB]
  omega
def mT(i:Int):Int:=if 0 - i > i then 0 - i else i
theorem D0(i:Int):0<=mT i:=by
 unfold mT
 split<;>omega
def Ew:V->V
 | .int i=>.int (mT i)
 | v=>v
def Gx:V->Bool
 | .int i=>decide ((10:Int) ^ (18:Int).toNat<=i)
 | _=>false
end
theorem jF(c:Nat):(⟨#[c]⟩:Str).length=1:=rfl
theorem cJ(x y:Str):(x++y).length=x.length+y.length:=by
 first
  | exact Str.length_append x y
  | (show (x.cps++y.cps).size=x.cps.size+y.cps.size;exact Array.size_append)
theorem join_ones:∀ (cs:List Nat),(Txt.join ("":Str) (cs.map λc=>(⟨#[c]⟩:Str))).length<=cs.length
 | []=>TB _
 | [c]=>TB _
 | c::d::r=>by
  have ih:=join_ones (d::r)
  have e:(Txt.join ("":Str) ((c::d::r).map λc=>(⟨#[c]⟩:Str)))=(⟨#[c]⟩:Str)++("":Str)++Txt.join ("":Str) ((d::r).map λc=>(⟨#[c]⟩:Str)):=by
   unfold Txt.join
   rw[UW,UW]
   rfl
  rw[e,cJ,cJ]
  have:("":Str).length=0:=rfl
  rw[jF]
  show _<=(d::r).length+1
  omega
theorem uR:∀ (cs:List Nat),((cs.map λc=>(⟨#[c]⟩:Str)).map (·.length)).sum=cs.length
 | []=>rfl
 | c::r=>by
  rw[TC,TC,List.sum_cons,uR r,TH]
  have:(⟨#[c]⟩:Str).length=1:=rfl
  omega
abbrev JE:Str:="abcdefghijklmnopqrstuvwxyz"
def near:List Str:=["lets","asks","maker","tabs","too","news","zeros","casey","madex","defa","num","askedx"]
end cK
namespace DL
open PySem PySem.Spec L2
open PyProof.Rows hiding St
theorem ei{α β γ δ:Type}{P Q R:α->β->γ->δ->Prop}{C:Prop}(h:∃ a b c d,P a b c d/\Q a b c d/\R a b c d)(k:∀ a b c d,P a b c d->Q a b c d->R a b c d->C):C:=by
 obtain⟨a,b,c,d,h1,h2,h3⟩:=h
 exact k a b c d h1 h2 h3
inductive D where
 | bD | bl (b:Bool) | int (i:Int) | str (x:Str) | eW (a:Addr) | ty (n:String)
 | tup (ds:List D) | lst (ds:List D) | qX (ks:List Key) (vs:List D) | kq (ks:List (List Key)) (vs:List D)
def TupAt(_K:Frag)(H:Hp)(M:Addr->Prop)(a:Addr)(xs:List V):Prop:=M a/\H a=some (.tup xs)
theorem TupAt.sq{K:Frag}{H:Hp}{M:Addr->Prop}{a:Addr}{xs:List V}(h:TupAt K H M a xs):hV K H a xs:=.of h.2
section
variable(K:Frag)(H:Hp)(M:Addr->Prop)
mutual
def Rep:D->V->Prop
 | .bD,v=>v=.bD
 | .bl b,v=>v=.bl b
 | .int i,v=>v=.int i
 | .str x,v=>v=.str x
 | .eW a,v=>v=.ref a
 | .ty n,v=>v=.ty n
 | .tup ds,v=>∃ a xs,v=.ref a/\TupAt K H M a xs/\ay ds xs
 | .lst ds,v=>∃ a xs,v=.ref a/\(M a/\H a=some (.lst xs))/\ay ds xs
 | .qX ks vs,v=>∃ (a:Addr) (kvs:List (Key×V)),v=.ref a/\(M a/\H a=some (.dK kvs))/\kvs.map (·.1)=ks/\ay vs (kvs.map (·.2))
 | .kq ks vs,v=>∃ (a:Addr) (kvs:List (List Key×V)),v=.ref a/\(M a/\H a=some (.dT kvs))/\kvs.map (·.1)=ks/\ay vs (kvs.map (·.2))
def ay:List D->List V->Prop
 | [],xs=>xs=[]
 | d::ds,xs=>∃ x r,xs=x::r/\Rep d x/\ay ds r
end
def cH:D->HO->Prop
 | .lst ds,.lst xs=>ay K H M ds xs
 | .qX ks vs,.dK kvs=>kvs.map (·.1)=ks/\ay K H M vs (kvs.map (·.2))
 | .kq ks vs,.dT kvs=>kvs.map (·.1)=ks/\ay K H M vs (kvs.map (·.2))
 | _,_=>False
end
section
variable{K:Frag}{H H':Hp}{M M':Addr->Prop}
theorem TupAt.mono(hM:∀ b,M b->M' b)(hH:∀ b o,M b->H b=some o->H' b=some o){a:Addr}{xs:List V}(h:TupAt K H M a xs):TupAt K H' M' a xs:=⟨hM a h.1,hH a _ h.1 h.2⟩
mutual
theorem Rep.mono(hM:∀ b,M b->M' b)(hH:∀ b o,M b->H b=some o->H' b=some o):∀ (d:D) (v:V),Rep K H M d v->Rep K H' M' d v
 | .bD,v,h=>h
 | .bl b,v,h=>h
 | .int i,v,h=>h
 | .str x,v,h=>h
 | .eW a,v,h=>h
 | .ty n,v,h=>h
 | .tup ds,v,h=>by
  obtain⟨a,xs,e,t,r⟩:=h
  exact⟨a,xs,e,t.mono hM hH,ay.mono hM hH ds xs r⟩
 | .lst ds,v,h=>by
  obtain⟨a,xs,e,⟨m,t⟩,r⟩:=h
  exact⟨a,xs,e,⟨hM a m,hH a _ m t⟩,ay.mono hM hH ds xs r⟩
 | .qX ks vs,v,h=>by
  obtain⟨a,xs,e,⟨m,t⟩,k,r⟩:=h
  exact⟨a,xs,e,⟨hM a m,hH a _ m t⟩,k,ay.mono hM hH vs _ r⟩
 | .kq ks vs,v,h=>by
  obtain⟨a,xs,e,⟨m,t⟩,k,r⟩:=h
  exact⟨a,xs,e,⟨hM a m,hH a _ m t⟩,k,ay.mono hM hH vs _ r⟩
theorem ay.mono(hM:∀ b,M b->M' b)(hH:∀ b o,M b->H b=some o->H' b=some o):∀ (ds:List D) (vs:List V),ay K H M ds vs->ay K H' M' ds vs
 | [],vs,h=>h
 | d::ds,vs,h=>by
  obtain⟨x,r,e,h1,h2⟩:=h
  exact⟨x,r,e,Rep.mono hM hH d x h1,ay.mono hM hH ds r h2⟩
end
theorem cH.mono(hM:∀ b,M b->M' b)(hH:∀ b o,M b->H b=some o->H' b=some o){d:D}{o:HO}(h:cH K H M d o):cH K H' M' d o:=by
 unfold cH at h ⊢
 split at h
 ·exact ay.mono hM hH _ _ h
 ·exact⟨h.1,ay.mono hM hH _ _ h.2⟩
 ·exact⟨h.1,ay.mono hM hH _ _ h.2⟩
 ·exact h.elim
theorem ay.length:∀ {ds:List D} {vs:List V},ay K H M ds vs->vs.length=ds.length
 | [],vs,h=>by
  have h:vs=[]:=h
  rw[h];rfl
 | d::ds,vs,h=>by
  obtain⟨x,r,e,h1,h2⟩:=h
  rw[e,TH,TH,ay.length h2]
theorem ay.get:∀ {ds:List D} {vs:List V} {i:Nat} {d:D},ay K H M ds vs->ds[i]?=some d->∃ v,vs[i]?=some v/\Rep K H M d v
 | [],vs,i,d,h,e=>by simp at e
 | c::ds,vs,0,d,h,e=>by
  obtain⟨x,r,rfl,h1,h2⟩:=h
  simp at e
  subst e
  exact⟨x,U,h1⟩
 | c::ds,vs,i+1,d,h,e=>by
  obtain⟨x,r,rfl,h1,h2⟩:=h
  obtain⟨v,h3,h4⟩:=ay.get (i:=i) (d:=d) h2 (by simpa using e)
  exact⟨v,by simpa using h3,h4⟩
theorem ay.append:∀ {ds es:List D} {vs ws:List V},ay K H M ds vs->ay K H M es ws->ay K H M (ds++es) (vs++ws)
 | [],es,vs,ws,h,h'=>by
  have h:vs=[]:=h
  rw[h]
  exact h'
 | d::ds,es,vs,ws,h,h'=>by
  obtain⟨x,r,rfl,h1,h2⟩:=h
  exact⟨x,r++ws,U,h1,ay.append h2 h'⟩
theorem ay.take:∀ {ds:List D} {vs:List V} (n:Nat),ay K H M ds vs->ay K H M (ds.take n) (vs.take n)
 | [],vs,n,h=>by
  have h:vs=[]:=h
  rw[h]
  simp[ay]
 | d::ds,vs,0,h=>by simp[ay]
 | d::ds,vs,n+1,h=>by
  obtain⟨x,r,rfl,h1,h2⟩:=h
  exact⟨x,r.take n,U,h1,ay.take n h2⟩
theorem ay.drop:∀ {ds:List D} {vs:List V} (n:Nat),ay K H M ds vs->ay K H M (ds.drop n) (vs.drop n)
 | [],vs,n,h=>by
  have h:vs=[]:=h
  rw[h]
  simp[ay]
 | d::ds,vs,0,h=>h
 | d::ds,vs,n+1,h=>by
  obtain⟨x,r,rfl,h1,h2⟩:=h
  exact ay.drop n h2
theorem ay.one{d:D}{v:V}(h:Rep K H M d v):ay K H M [d] [v]:=⟨v,[],U,h,U⟩
theorem ay.reverse:∀ {ds:List D} {vs:List V},ay K H M ds vs->ay K H M ds.reverse vs.reverse
 | [],vs,h=>by
  have h:vs=[]:=h
  rw[h]
  rfl
 | d::ds,vs,h=>by
  obtain⟨x,r,rfl,h1,h2⟩:=h
  rw[U8,U8]
  exact ay.append (ay.reverse h2) (ay.one h1)
theorem ay.set{d:D}{v:V}(r:Rep K H M d v):∀ {ds:List D} {vs:List V} (i:Nat),ay K H M ds vs->ay K H M (ds.set i d) (vs.set i v)
 | [],vs,i,h=>by
  have h:vs=[]:=h
  rw[h]
  rfl
 | c::ds,vs,0,h=>by
  obtain⟨x,r',rfl,h1,h2⟩:=h
  exact⟨v,r',U,r,h2⟩
 | c::ds,vs,i+1,h=>by
  obtain⟨x,r',rfl,h1,h2⟩:=h
  exact⟨x,r'.set i v,U,h1,ay.set r i h2⟩
theorem ay.eraseIdx:∀ {ds:List D} {vs:List V} (i:Nat),ay K H M ds vs->ay K H M (ds.eraseIdx i) (vs.eraseIdx i)
 | [],vs,i,h=>by
  have h:vs=[]:=h
  rw[h]
  rfl
 | c::ds,vs,0,h=>by
  obtain⟨x,r',rfl,h1,h2⟩:=h
  exact h2
 | c::ds,vs,i+1,h=>by
  obtain⟨x,r',rfl,h1,h2⟩:=h
  exact⟨x,r'.eraseIdx i,U,h1,ay.eraseIdx i h2⟩
end
structure BF where
 own:Addr->Prop
 inv:Hp->Prop
 loc:∀ H H',inv H->(∀ b o,(own b\/∃ φ,o=HO.ext φ)->H b=some o->H' b=some o)->inv H'
 GZ:∀ H b,inv H->own b->∃ o,H b=some o
 nt:∀ H b xs,inv H->own b->H b≠some (.tup xs)
 pB:List Addr:=[]
def BF.no:BF:=⟨λ_=>False,λ_=>True,λ_ _ _ _=>trivial,λ_ _ _ h=>h.elim,λ_ _ _ _ h=>h.elim,[]⟩
def Nu(H:Hp)(b:Addr):Prop:=H b=none\/∃ xs,H b=some (.tup xs)
def aU(d l:Addr):BF where
 own:=λb=>b=d\/b=l
 inv:=λH=>cK.At H d l
 loc:=λH H' h k=>by
  obtain⟨a,b,ns,h1,h2,r⟩:=h.ex
  exact⟨a,b,ns,k _ _ (.inl (.inl U)) h1,k _ _ (.inl (.inr U)) h2,r⟩
 GZ:=λH b h e=>by
  obtain⟨a,_,ns,h1,h2,r⟩:=h.ex
  rcases e with rfl | rfl
  ·exact⟨_,h1⟩
  ·exact⟨_,h2⟩
 nt:=λH b xs h e=>by
  obtain⟨a,_,ns,h1,h2,r⟩:=h.ex
  rcases e with rfl | rfl
  ·rw[h1];intro z;cases z
  ·rw[h2];intro z;cases z
structure Ent where
 g:BF
 M0:Addr->Prop
 H0:Hp
structure Base(c:Ent)(M:Addr->Prop)(H:Hp):Prop where
 qv:c.g.inv H
 fr:∀ b o,c.H0 b=some o->¬ c.g.own b->H b=some o
 md:∀ b,M b->∃ o,H b=some o
 mo:∀ b,M b->¬ c.g.own b
 m0:∀ b,c.M0 b->M b
 mn:∀ b,M b->c.M0 b\/Nu c.H0 b
inductive Sl where
 | no | dat (d:D) | own (k:Nat)
structure DS where
 sl:List Sl
 os:List (Option D)
def eR(s:DS)(as:List Addr)(b:Addr):Prop:=∃ (k:Nat) (d:D),s.os[k]?=some (some d)/\as[k]?=some b
structure aE(K:Frag)(c:Ent)(M:Addr->Prop)(s:DS)(as:List Addr)(O:St)(H:Hp):Prop where
 base:Base c M H
 len:s.sl.length=O.length
 fI:as.length=s.os.length
 dat:∀ (i:Nat) (d:D),s.sl[i]?=some (.dat d)->∃ v,O[i]?=some (some v)/\Rep K H M d v
 own:∀ (i k:Nat),s.sl[i]?=some (.own k)->∃ a,as[k]?=some a/\O[i]?=some (some (.ref a))
 obj:∀ (k:Nat) (d:D) (a:Addr),s.os[k]?=some (some d)->as[k]?=some a->(∃ o,H a=some o/\cH K H M d o)/\¬ M a/\¬ c.g.own a/\c.H0 a=none
 inj:∀ (k l:Nat) (d e:D) (a:Addr),s.os[k]?=some (some d)->s.os[l]?=some (some e)->as[k]?=some a->as[l]?=some a->k=l
 lt:∀ (k:Nat) (a:Addr),c.g.pB[k]?=some a->as[k]?=some a
structure Ext(c:Ent)(as:List Addr)(M:Addr->Prop)(s:DS)(H:Hp)(M':Addr->Prop)(s':DS)(H':Hp):Prop where
 sub:∀ b,M b->M' b
 new:∀ b,M' b->M b\/Nu H b\/eR s as b
 keep:∀ b o,H b=some o->¬ c.g.own b->¬ eR s as b->H' b=some o
 jP:∀ b,eR s' as b->eR s as b
section
variable{K:Frag}{c:Ent}{M M' M1 M2:Addr->Prop}{s s' s1 s2:DS}{as:List Addr}{O:St}{H H' H1 H2:Hp}{a p:Addr}{o:HO}{d:D}{v:V}
theorem aE.nM(L:aE K c M s as O H)(h:eR s as a):¬ M a/\¬ c.g.own a/\c.H0 a=none/\∃ o,H a=some o:=by
 obtain⟨k,d,h1,h2⟩:=h
 obtain⟨⟨o,q,_⟩,q1,q2,q3⟩:=L.obj k d a h1 h2
 exact⟨q1,q2,q3,o,q⟩
theorem Base.uD(B:Base c M H)(h:H a=none):c.H0 a=none:=by
 cases e:c.H0 a with
 | none=>rfl
 | some o =>
  exfalso
  by_cases q:c.g.own a
  ·obtain⟨o',h'⟩:=c.g.GZ H a B.qv q
   rw[h] at h'
   cases h'
  ·have:=B.fr a o e q
   rw[h] at this
   cases this
theorem Ext.zu(E:Ext c as M s H M' s' H')(L:aE K c M s as O H):∀ b o,M b->H b=some o->H' b=some o:=λb o m h =>
 E.keep b o h (L.base.mo b m) λq=>(L.nM q).1 m
theorem Ext.rep(E:Ext c as M s H M' s' H')(L:aE K c M s as O H)(r:Rep K H M d v):Rep K H' M' d v:=Rep.mono E.sub (E.zu L) d v r
theorem Ext.tL(E:Ext c as M s H M' s' H')(L:aE K c M s as O H){ds:List D}{vs:List V}(r:ay K H M ds vs):ay K H' M' ds vs:=ay.mono E.sub (E.zu L) ds vs r
theorem Ext.refl:Ext c as M s H M s H:=⟨λ_ h=>h,λ_ h=>.inl h,λ_ _ h _ _=>h,λ_ h=>h⟩
theorem Ext.trans(E1:Ext c as M s H M1 s1 H1)(B1:Base c M1 H1)(E2:Ext c as M1 s1 H1 M2 s2 H2):Ext c as M s H M2 s2 H2 where
 sub:=λb h=>E2.sub b (E1.sub b h)
 new:=λb h=>by
  rcases E2.new b h with h | h | h
  ·exact E1.new b h
  ·cases q:H b with
   | none=>exact .inr (.inl (.inl q))
   | some o =>
    by_cases g:c.g.own b
    ·rcases h with h | ⟨xs,h⟩
     ·obtain⟨o',h'⟩:=c.g.GZ H1 b B1.qv g
      rw[h] at h'
      cases h'
     ·exact absurd h (c.g.nt H1 b xs B1.qv g)
    ·by_cases w:eR s as b
     ·exact .inr (.inr w)
     ·have:=E1.keep b o q g w
      rcases h with h | ⟨xs,h⟩
      ·rw[h] at this
       cases this
      ·rw[h] at this
       cases this
       exact .inr (.inl (.inr ⟨xs,q⟩))
  ·exact .inr (.inr (E1.jP b h))
 keep:=λb o h g w=>E2.keep b o (E1.keep b o h g w) g λq=>w (E1.jP b q)
 jP:=λb h=>E1.jP b (E2.jP b h)
theorem aE.laid(L:aE K c M s as O H)(hp:H p=none):aE K c M s as O (upd H p o):=by
 have kp:∀ b u,H b=some u->upd H p o b=some u:=λb u e=>by rw[aj (aC e hp)];exact e
 refine⟨⟨c.g.loc H _ L.base.qv λb u _ e=>kp b u e,λb u e g=>kp b u (L.base.fr b u e g),λb m=>?_,L.base.mo,L.base.m0,L.base.mn⟩,L.len,L.fI,λi d e=>?_,L.own,λk d a e1 e2=>?_,L.inj,L.lt⟩
 ·obtain⟨u,e⟩:=L.base.md b m
  exact⟨u,kp b u e⟩
 ·obtain⟨v,h1,h2⟩:=L.dat i d e
  exact⟨v,h1,Rep.mono (λ_ h=>h) (λb u _ e=>kp b u e) d v h2⟩
 ·obtain⟨⟨u,q,r⟩,q1⟩:=L.obj k d a e1 e2
  exact⟨⟨u,kp _ _ q,cH.mono (λ_ h=>h) (λb u _ e=>kp b u e) r⟩,q1⟩
theorem Ext.laid(hp:H p=none):Ext c as M s H M s (upd H p o):=⟨λ_ h=>h,λ_ h=>.inl h,λb u e _ _=>by rw[aj (aC e hp)];exact e,λ_ h=>h⟩
theorem aE.Gr(L:aE K c M s as O H)(ha:H a=some o)(g:¬ c.g.own a)(w:¬ eR s as a)(h0:Nu c.H0 a):aE K c (λb=>M b\/b=a) s as O H:=by
 have mk:∀ b u,M b->H b=some u->H b=some u:=λ_ _ _ e=>e
 refine⟨⟨L.base.qv,L.base.fr,λb m=>?_,λb m=>?_,λb m=>.inl (L.base.m0 b m),λb m=>?_⟩,L.len,L.fI,λi d e=>?_,L.own,λk d b e1 e2=>?_,L.inj,L.lt⟩
 ·rcases m with m | rfl
  ·exact L.base.md b m
  ·exact⟨o,ha⟩
 ·rcases m with m | rfl
  ·exact L.base.mo b m
  ·exact g
 ·rcases m with m | rfl
  ·exact L.base.mn b m
  ·exact .inr h0
 ·obtain⟨v,h1,h2⟩:=L.dat i d e
  exact⟨v,h1,Rep.mono (λ_ h=>.inl h) mk d v h2⟩
 ·obtain⟨⟨u,q,r⟩,q1,q2⟩:=L.obj k d b e1 e2
  refine⟨⟨u,q,cH.mono (λ_ h=>.inl h) mk r⟩,λm=>?_,q2⟩
  rcases m with m | rfl
  ·exact q1 m
  ·exact w ⟨k,d,e1,e2⟩
theorem aE.grown(L:aE K c M s as O H)(ha:H a=some o)(g:¬ c.g.own a)(w:¬ eR s as a)(h0:c.H0 a=none):aE K c (λb=>M b\/b=a) s as O H:=L.Gr ha g w (.inl h0)
theorem cH.Bh{xs:List V}(h:cH K H M d (.tup xs)):False:=by cases d<;>exact h
theorem cH.next{φ:Heap->Prop}(h:cH K H M d (.ext φ)):False:=by cases d<;>exact h
theorem aE.fresh(L:aE K c M s as O H)(hp:H p=none):aE K c (λb=>M b\/b=p) s as O (upd H p o):=by
 refine (L.laid (o:=o) hp).grown au (λg=>?_) (λw=>?_) (L.base.uD hp)
 ·obtain⟨u,e⟩:=c.g.GZ H p L.base.qv g
  rw[hp] at e
  cases e
 ·obtain⟨_,_,_,u,e⟩:=L.nM w
  rw[hp] at e
  cases e
theorem Ext.fresh(hp:H p=none):Ext c as M s H (λb=>M b\/b=p) s (upd H p o):=⟨λ_ h=>.inl h,λb h=>by
 rcases h with h | rfl
 ·exact .inl h
 ·exact .inr (.inl (.inl hp)),λb u e _ _=>by rw[aj (aC e hp)];exact e,λ_ h=>h⟩
theorem j9(hp:H p=none)(r:Rep K H M d v):Rep K (upd H p o) (λb=>M b\/b=p) d v:=Rep.mono (λ_ h=>.inl h) (λb u _ e=>by rw[aj (aC e hp)];exact e) d v r
theorem iq(hp:H p=none){ds:List D}{vs:List V}(r:ay K H M ds vs):ay K (upd H p o) (λb=>M b\/b=p) ds vs:=ay.mono (λ_ h=>.inl h) (λb u _ e=>by rw[aj (aC e hp)];exact e) ds vs r
theorem cH.rep(h:cH K H M d o)(ha:H a=some o)(m:M a):Rep K H M d (.ref a):=by
 unfold cH at h
 split at h
 ·exact⟨a,_,U,⟨m,ha⟩,h⟩
 ·exact⟨a,_,U,⟨m,ha⟩,h.1,h.2⟩
 ·exact⟨a,_,U,⟨m,ha⟩,h.1,h.2⟩
 ·exact h.elim
end
abbrev br:=DS->(D->DS->Prop)->Prop
abbrev mJ:=DS->(Bool->DS->Prop)->Prop
abbrev fU:=DS->(List D->DS->Prop)->Prop
structure mN where
 nx:DS->Prop
 rt:D->Prop
 rf:D->Prop:=λ_=>False
 bk:DS->Prop:=λ_=>False
 ct:DS->Prop:=λ_=>False
 rs:D->DS->Prop:=λ_ _=>False
abbrev kY:=mN->DS->Prop
section
variable(K:Frag)(c:Ent)
def tE(t:br):TE:=λO H Q=>∃ M s as R,aE K c M s as O H/\t s R/\∀ d s',R d s'->∀ M' H' v,aE K c M' s' as O H'->Ext c as M s H M' s' H'->Rep K H' M' d v->Q v H'
def tN(t:br):TE:=λO H Q=>∃ M s as R,aE K c M s as O H/\t s R/\∀ d s',R d s'->∀ M' H' a o,aE K c M' s' as O H'->Ext c as M s H M' s' H'->H' a=some o->cH K H' M' d o->¬ M' a->¬ c.g.own a->¬ eR s' as a->c.H0 a=none->(H a=none\/eR s as a)->Q (.ref a) H'
def tT(t:mJ):TT:=λO H Q=>∃ M s as R,aE K c M s as O H/\t s R/\∀ b s',R b s'->∀ M' H',aE K c M' s' as O H'->Ext c as M s H M' s' H'->Q b H'
def tA(n:Nat)(t:fU):TA:=λO H Q=>∃ M s as R,aE K c M s as O H/\t s R/\∀ ds s',R ds s'->∀ M' H' vs,aE K c M' s' as O H'->Ext c as M s H M' s' H'->ay K H' M' ds vs->ds.length=n->Q vs H'
def dW(M:Addr->Prop)(H:Hp)(M':Addr->Prop)(H':Hp):Prop:=∀ b,M b->M' b/\∀ o,H b=some o->H' b=some o
structure t5(M:Addr->Prop)(H:Hp)(R:mN)(E:Ends):Prop where
 nx:∀ s as M' O H',R.nx s->aE K c M' s as O H'->dW M H M' H'->E.nx O H'
 bk:∀ s as M' O H',R.bk s->aE K c M' s as O H'->dW M H M' H'->E.bk O H'
 ct:∀ s as M' O H',R.ct s->aE K c M' s as O H'->dW M H M' H'->E.ct O H'
 rt:∀ d M' H' v,R.rt d->Base c M' H'->Rep K H' M' d v->E.rt v H'
 rf:∀ d M' H' a o,R.rf d->Base c M' H'->H' a=some o->cH K H' M' d o->¬ M' a->¬ c.g.own a->c.H0 a=none->E.rt (.ref a) H'
 rs:∀ d s as M' O H' v,R.rs d s->aE K c M' s as O H'->Rep K H' M' d v->E.rt v H'
def tS(t:kY):TS:=λE O H=>∃ M s as R,aE K c M s as O H/\t R s/\t5 K c M H R E
end
structure DE(X:Cx)(c:Ent)(e:Expr)(t:br):Prop where
 pe:PE X e (tE X.K c t)
structure DN(X:Cx)(c:Ent)(e:Expr)(t:br):Prop where
 pe:PE X e (tN X.K c t)
structure DT(X:Cx)(c:Ent)(e:Expr)(t:mJ):Prop where
 pt:PT X e (tT X.K c t)
structure DW(X:Cx)(c:Ent)(e:Expr)(t:mJ):Prop where
 pw:PW X e (tT X.K c t)
structure DA(X:Cx)(c:Ent)(es:List Expr)(t:fU):Prop where
 pa:PA X es (tA X.K c es.length t)
structure pb(X:Cx)(c:Ent)(st:Stmt)(t:kY):Prop where
 ps:PS X st (tS X.K c t)
structure vJ(X:Cx)(c:Ent)(st:List Stmt)(t:kY):Prop where
 ps:nz X st (tS X.K c t)
section
variable{X:Cx}
theorem _root_.L2.PE.imp{e:Expr}{t t':TE}(h:PE X e t)(w:∀ O H Q,t' O H Q->t O H Q):PE X e t':=λpins s O H Q I q=>h pins s O H Q I (w O H Q q)
theorem _root_.L2.PT.imp{e:Expr}{t t':TT}(h:PT X e t)(w:∀ O H Q,t' O H Q->t O H Q):PT X e t':=λpins s O H Q I q=>h pins s O H Q I (w O H Q q)
theorem _root_.L2.PW.imp{e:Expr}{t t':TT}(h:PW X e t)(w:∀ O H Q,t' O H Q->t O H Q):PW X e t':=λwh pins s O H Q I q=>h wh pins s O H Q I (w O H Q q)
theorem _root_.L2.PA.imp{es:List Expr}{t t':TA}(h:PA X es t)(w:∀ O H Q,t' O H Q->t O H Q):PA X es t':=λpos pins s O H Q I q=>h pos pins s O H Q I (w O H Q q)
theorem _root_.L2.PS.imp{st:Stmt}{t t':TS}(h:PS X st t)(w:∀ E O H,t' E O H->t E O H):PS X st t':=λpins s O H E I q=>h pins s O H E I (w E O H q)
theorem _root_.L2.nz.imp{st:List Stmt}{t t':TS}(h:nz X st t)(w:∀ E O H,t' E O H->t E O H):nz X st t':=λpins s O H E I q=>h pins s O H E I (w E O H q)
end
section
variable{X:Cx}{c:Ent}{a b e:Expr}{es:List Expr}{ta tb te:br}{t:fU}{pos:Pos}
theorem Ext.plus{as:List Addr}{M M':Addr->Prop}{s s':DS}{H H':Hp}{a:Addr}(E:Ext c as M s H M' s' H')(n:H a=none\/eR s as a):Ext c as M s H (λb=>M' b\/b=a) s' H' :=
 ⟨λb h=>.inl (E.sub b h),λb h=>by
  rcases h with h | rfl
  ·exact E.new b h
  ·exact .inr (n.imp .inl id),E.keep,E.jP⟩
theorem DN.de(h:DN X c e te):DE X c e te:=⟨h.pe.imp λO H Q zz=>ei zz λM s as R L q k =>
 ⟨M,s,as,R,L,q,λd s' r M' H' a o L' E ha ro nm ng nw h0 hn =>
  k d s' r _ H' (.ref a) (L'.grown ha ng nw h0) (E.plus hn) ((ro.mono (λ_ h=>.inl h) λ_ _ _ e=>e).rep ha (.inr U))⟩⟩
def yQ(i:Nat):br:=λs Q=>∃ d,s.sl[i]?=some (.dat d)/\Q d s
theorem dv{i:Nat}(h:PE X e (bB i)):DE X c e (yQ i):=⟨h.imp λO H Q z6q=>by
 obtain⟨M,s,as,R,L,⟨d,e,q⟩,k⟩:=z6q
 obtain⟨v,h1,h2⟩:=L.dat i d e
 exact⟨v,h1,k d s q M H v L .refl h2⟩⟩
def Hd(d:D):br:=λs Q=>Q d s
def ND:D->V->Prop
 | .bD,v=>v=.bD
 | .bl b,v=>v=.bl b
 | .int i,v=>v=.int i
 | .str x,v=>v=.str x
 | .eW a,v=>v=.ref a
 | .ty n,v=>v=.ty n
 | _,_=>False
theorem ND.rep{d:D}{v:V}{K:Frag}{H:Hp}{M:Addr->Prop}(h:ND d v):Rep K H M d v:=by
 cases d<;>first | exact h | exact h.elim
theorem dc{d:D}{v:V}(h:PE X e (tC v))(r:ND d v):DE X c e (Hd d):=⟨h.imp λO H Q zz=>ei zz λM s as R L q k=>k d s q M H v L .refl r.rep⟩
theorem ag{i j}:DE X c (.Constant (.int i) j pos) (Hd (.int i)):=dc bX U
theorem lU{i j}:DE X c (.Constant (.bool i) j pos) (Hd (.bl i)):=dc Ez U
theorem jh{j}:DE X c (.Constant .none j pos) (Hd .bD):=dc GA U
theorem aw{i j}:DE X c (.Constant (.str i) j pos) (Hd (.str i)):=dc dD U
def kI:fU:=λs Q=>Q [] s
def jb(ta:br)(tr:fU):fU:=λs Q=>ta s λd s1=>tr s1 λds s2=>Q (d::ds) s2
theorem ae:DA X c [] kI:=⟨bY.imp λO H Q zz=>ei zz λM s as R L q k=>k [] s q M H [] L .refl U U⟩
theorem aa(ha:DE X c e te)(hr:DA X c es t)(hs:VJ X.env e es:=by rfl):DA X c (e::es) (jb te t) :=
 ⟨(aG ha.pe hr.pa hs).imp λO H Q zz=>ei zz λM s as R L q k =>
   ⟨M,s,as,_,L,q,λd s1 q1 M1 H1 x L1 E1 r1=>⟨M1,s1,as,_,L1,q1,λds s2 q2 M2 H2 xs Lb E2 r2 hl =>
    k _ s2 q2 M2 H2 _ Lb (E1.trans L1.base E2) ⟨x,xs,U,E2.rep L1 r1,r2⟩ (by rw[TH,TH,hl])⟩⟩⟩
def Et(t:fU):br:=λs Q=>t s λds s1=>Q (.tup ds) s1
def IS(t:fU):br:=λs Q=>t s λds s1=>Q (.lst ds) s1
theorem Mz{n:Nat}(h:(n<=1000:Bool)=true):n<=sizeLine:=TU (of_decide_eq_true h) (by decide)
theorem aA{x1}(h:DA X c es t)(hn:(es.length<=1000:Bool)=true:=by rfl):DE X c (.Tuple es x1 pos) (Et t):=⟨(wD h.pa).imp λO H Q zz=>ei zz λM s as R L q k =>
 ⟨M,s,as,_,L,q,λds s1 q1 M1 H1 xs L1 E1 r1 hl=>⟨by rw[r1.length,hl];exact Mz hn,λp hp =>
  k _ s1 q1 _ _ _ (L1.fresh hp) (E1.trans L1.base (Ext.fresh hp)) ⟨p,xs,U,⟨.inr U,au⟩,iq hp r1⟩⟩⟩⟩
theorem notM{K:Frag}{M:Addr->Prop}{s:DS}{as:List Addr}{O:St}{H:Hp}{p:Addr}(L:aE K c M s as O H)(hp:H p=none):¬ M p/\¬ c.g.own p/\¬ eR s as p/\c.H0 p=none:=by
 refine⟨λm=>?_,λg=>?_,λw=>?_,L.base.uD hp⟩
 ·obtain⟨u,e⟩:=L.base.md p m
  rw[hp] at e
  cases e
 ·obtain⟨u,e⟩:=c.g.GZ H p L.base.qv g
  rw[hp] at e
  cases e
 ·obtain⟨_,_,_,u,e⟩:=L.nM w
  rw[hp] at e
  cases e
theorem jk{K:Frag}{as:List Addr}{M M1:Addr->Prop}{s s1:DS}{O:St}{H H1:Hp}{p:Addr}{o:HO}{Q:VK}{d:D}(L:aE K c M s as O H)(L1:aE K c M1 s1 as O H1)(E1:Ext c as M s H M1 s1 H1)(hp:H1 p=none)(r:cH K H1 M1 d o)(k:∀ M' H' a o,aE K c M' s1 as O H'->Ext c as M s H M' s1 H'->H' a=some o->cH K H' M' d o->¬ M' a->¬ c.g.own a->¬ eR s1 as a->c.H0 a=none->(H a=none\/eR s as a)->Q (.ref a) H'):Q (.ref p) (upd H1 p o):=by
 obtain⟨n1,n2,n3,n4⟩:=notM L1 hp
 refine k M1 (upd H1 p o) p o (L1.laid hp) (E1.trans L1.base (Ext.laid hp)) au (r.mono (λ_ h=>h) λb u _ e=>by rw[aj (aC e hp)];exact e) n1 n2 n3 n4 ?_
 cases q:H p with
 | none=>exact .inl U
 | some u =>
  by_cases w:eR s as p
  ·exact .inr w
  ·have:=E1.keep p u q n2 w
   rw[hp] at this
   cases this
theorem aN(h:DA X c es t)(hn:(es.length<=1000:Bool)=true:=by rfl):DN X c (.List es pos) (IS t):=⟨(GO h.pa).imp λO H Q zz=>ei zz λM s as R L q k =>
 ⟨M,s,as,_,L,q,λds s1 q1 M1 H1 xs L1 E1 r1 hl=>⟨by rw[r1.length,hl];exact Mz hn,λp hp =>
  jk L L1 E1 hp (d:=.lst ds) r1 (k _ s1 q1)⟩⟩⟩
def Ss(C:D->(D->Prop)->Prop)(ta:br):br:=λs Q=>ta s λa s1=>C a λd=>Q d s1
def xW(C:D->D->(D->Prop)->Prop)(ta tb:br):br:=λs Q=>ta s λa s1=>tb s1 λb s2=>C a b λd=>Q d s2
def pf(X:Cx)(c:Ent)(r:R2)(C:D->D->(D->Prop)->Prop):Prop:=∀ (M:Addr->Prop) (s:DS) (as:List Addr) (O:St) (H:Hp) (x y:V) (dx dy:D) (k:D->Prop) (Q:VK),aE X.K c M s as O H->Rep X.K H M dx x->Rep X.K H M dy y->C dx dy k ->
 (∀ d,k d->∀ M' H' v,aE X.K c M' s as O H'->Ext c as M s H M' s H'->Rep X.K H' M' d v->Q v H')->r x y H Q
def Hm(X:Cx)(c:Ent)(r:R2)(C:D->D->(D->Prop)->Prop):Prop:=∀ (M:Addr->Prop) (s:DS) (as:List Addr) (O:St) (H:Hp) (x y:V) (dx dy:D) (k:D->Prop) (Q:VK),aE X.K c M s as O H->Rep X.K H M dx x->Rep X.K H M dy y->C dx dy k ->
 (∀ d,k d->∀ p o,H p=none->cH X.K H M d o->Q (.ref p) (upd H p o))->r x y H Q
theorem DC{r:R2}{C:D->D->(D->Prop)->Prop}(k:pf X c r C){O:St}{H:Hp}{Q:VK}:tE X.K c (xW C ta tb) O H Q->jg r (tE X.K c ta) (tE X.K c tb) O H Q:=λzz=>ei zz λM s as R L q kk =>
 ⟨M,s,as,_,L,q,λda s1 q1 M1 H1 x L1 E1 r1=>⟨M1,s1,as,_,L1,q1,λdb s2 q2 M2 H2 y Lb E2 r2 =>
  k M2 s2 as O H2 x y da db (λd=>R d s2) Q Lb (E2.rep L1 r1) r2 q2 λd rd M' H' v L' E' rv=>kk d s2 rd M' H' v L' ((E1.trans L1.base E2).trans Lb.base E') rv⟩⟩
theorem Ot{r:R2}{C:D->D->(D->Prop)->Prop}(k:Hm X c r C){O:St}{H:Hp}{Q:VK}:tN X.K c (xW C ta tb) O H Q->jg r (tE X.K c ta) (tE X.K c tb) O H Q:=λzz=>ei zz λM s as R L q kk =>
 ⟨M,s,as,_,L,q,λda s1 q1 M1 H1 x L1 E1 r1=>⟨M1,s1,as,_,L1,q1,λdb s2 q2 M2 H2 y Lb E2 r2 =>
  k M2 s2 as O H2 x y da db (λd=>R d s2) Q Lb (E2.rep L1 r1) r2 q2 λd rd p o hp ro=>jk L Lb (E1.trans L1.base E2) hp ro (kk d s2 rd)⟩⟩
theorem bC{op:Operator}{r:R2}{C:D->D->(D->Prop)->Prop}(ho:iV X (binaryOp op) r)(k:pf X c r C)(ha:DE X c a ta)(hb:DE X c b tb):DE X c (.BinOp a op b pos) (xW C ta tb):=⟨(c8 ho ha.pe hb.pe).imp λ_ _ _=>DC k⟩
theorem fE{op:Operator}{r:R2}{C:D->D->(D->Prop)->Prop}(ho:iV X (binaryOp op) r)(k:Hm X c r C)(ha:DE X c a ta)(hb:DE X c b tb):DN X c (.BinOp a op b pos) (xW C ta tb):=⟨(c8 ho ha.pe hb.pe).imp λ_ _ _=>Ot k⟩
theorem gw{op:CmpOp}{r:R2}{C:D->D->(D->Prop)->Prop}(ho:iV X (compareOp op) r)(k:pf X c r C)(ha:DE X c a ta)(hb:DE X c b tb)(hm:behindInMarks op b=false):DE X c (.Compare a [op] [b] pos) (xW C ta tb):=⟨(Eb ho ha.pe hb.pe hm).imp λ_ _ _=>DC k⟩
theorem zO{r:R2}{C:D->D->(D->Prop)->Prop}(ho:JM X r)(k:pf X c r C)(ha:DE X c a ta)(hb:DE X c b tb)(hs:m9 b):DE X c (.Subscript a b pos) (xW C ta tb):=⟨(EA ho ha.pe hb.pe hs).imp λ_ _ _=>DC k⟩
def Iz(t:br):mJ:=λs Q=>t s λd s1=>∃ k,d=.bl k/\Q k s1
theorem kx{t:br}{t':TE}(h:∀ {O H Q},tE X.K c t O H Q->t' O H Q){O:St}{H:Hp}{Q:Bool->Hp->Prop}:tT X.K c (Iz t) O H Q->pJ t' O H Q:=λzz=>ei zz λM s as R L q kk =>
 h ⟨M,s,as,_,L,q,λd s1 z3r M' H' v L' E' rv=>by
  obtain⟨k,e,r⟩:=z3r
  subst e
  exact⟨k,rv,kk k s1 r M' H' L' E'⟩⟩
theorem aB{op:CmpOp}{r:R2}{C:D->D->(D->Prop)->Prop}(ho:iV X (compareOp op) r)(k:pf X c r C)(ha:DE X c a ta)(hb:DE X c b tb)(hm:behindInMarks op b=false):DT X c (.Compare a [op] [b] pos) (Iz (xW C ta tb)) :=
 ⟨(ix ho ha.pe hb.pe hm).imp λ_ _ _=>kx (DC k)⟩
theorem om(h:DE X c e te)(he:∀ whole,isTrue e X.env whole=(do let v <- whole;standAt e.pos;holding [v] (truthy v)):=by intro _;rfl):DT X c e (Iz te):=⟨(Gk h.pe he).imp λ_ _ _=>kx λq=>q⟩
def IF(t u:mJ):mJ:=λs Q=>t s λb s1=>if b=true then u s1 Q else Q false s1
def torD(t u:mJ):mJ:=λs Q=>t s λb s1=>if b=true then Q true s1 else u s1 Q
theorem DW.dt{t:mJ}(h:DW X c e t):DT X c e t:=⟨h.pw.pt⟩
section
variable{tA tB:mJ}{rest:List Expr}
theorem iC(h:DT X c a tA):DW X c (.BoolOp .And [a] pos) tA:=⟨pw_and1 h.pt⟩
theorem AY(h:DT X c a tA):DW X c (.BoolOp .Or [a] pos) tA:=⟨pw_or1 h.pt⟩
theorem ik(ha:DT X c a tA)(hb:DW X c (.BoolOp .And (b::rest) pos) tB):DW X c (.BoolOp .And (a::b::rest) pos) (IF tA tB):=⟨(pw_and ha.pt hb.pw).imp λO H Q zz=>ei zz λM s as R L q k =>
 ⟨M,s,as,_,L,q,λx s1 r M1 H1 L1 E1=>by
  cases x with
  | true=>exact lJ ⟨M1,s1,as,_,L1,(by simpa using r),λy s2 r2 M2 H2 Lb E2=>k y s2 r2 M2 H2 Lb (E1.trans L1.base E2)⟩
  | false=>exact sv (k false s1 (by simpa using r) M1 H1 L1 E1)⟩⟩
theorem Ap(ha:DT X c a tA)(hb:DW X c (.BoolOp .Or (b::rest) pos) tB):DW X c (.BoolOp .Or (a::b::rest) pos) (torD tA tB):=⟨(pw_or ha.pt hb.pw).imp λO H Q zz=>ei zz λM s as R L q k =>
 ⟨M,s,as,_,L,q,λx s1 r M1 H1 L1 E1=>by
  cases x with
  | true=>exact lJ (k true s1 (by simpa using r) M1 H1 L1 E1)
  | false=>exact sv ⟨M1,s1,as,_,L1,(by simpa using r),λy s2 r2 M2 H2 Lb E2=>k y s2 r2 M2 H2 Lb (E1.trans L1.base E2)⟩⟩⟩
def torV(ta tb:br):br:=λs Q=>ta s λx s1=>∃ k,x=.bl k/\if k=true then Q (.bl true) s1 else tb s1 Q
theorem Jj{op}(h:DE X c a ta):DE X c (.BoolOp op [a] pos) ta:=⟨HQ h.pe⟩
theorem NM(ha:DE X c a ta)(hb:DE X c (.BoolOp .Or (b::rest) pos) tb):DE X c (.BoolOp .Or (a::b::rest) pos) (torV ta tb):=⟨(KO ha.pe hb.pe).imp λO H Q zz=>ei zz λM s as R L q k =>
 ⟨M,s,as,_,L,q,λx s1 z4r M1 H1 v L1 E1 rv=>by
  obtain⟨b,e,r⟩:=z4r
  subst e
  refine⟨b,rv,?_⟩
  cases b with
  | true=>exact lJ (k (.bl true) s1 (by simpa using r) M1 H1 _ L1 E1 U)
  | false=>exact sv ⟨M1,s1,as,_,L1,(by simpa using r),λy s2 r2 M2 H2 w Lb E2 rw=>k y s2 r2 M2 H2 w Lb (E1.trans L1.base E2) rw⟩⟩⟩
def NX(t:mJ)(ta tb:br):br:=λs Q=>t s λk s1=>if k=true then ta s1 Q else tb s1 Q
theorem rh{e:Expr}(hc:DT X c e tA)(ha:DE X c a ta)(hb:DE X c b tb):DE X c (.IfExp e a b pos) (NX tA ta tb):=⟨(zo hc.pt ha.pe hb.pe).imp λO H Q zz=>ei zz λM s as R L q k =>
 ⟨M,s,as,_,L,q,λx s1 r M1 H1 L1 E1=>by
  cases x with
  | true=>exact lJ ⟨M1,s1,as,_,L1,(by simpa using r),λy s2 r2 M2 H2 w Lb E2 rw=>k y s2 r2 M2 H2 w Lb (E1.trans L1.base E2) rw⟩
  | false=>exact sv ⟨M1,s1,as,_,L1,(by simpa using r),λy s2 r2 M2 H2 w Lb E2 rw=>k y s2 r2 M2 H2 w Lb (E1.trans L1.base E2) rw⟩⟩⟩
end
end
section
variable{K:Frag}{c:Ent}{M M' M1:Addr->Prop}{s s' s1:DS}{as:List Addr}{O:St}{H H' H1:Hp}{a p:Addr}{o:HO}{d:D}{v:V}
theorem dW.refl:dW M H M H:=λb m=>⟨m,λ_ e=>e⟩
theorem dW.trans{M2:Addr->Prop}{H2:Hp}(g1:dW M H M1 H1)(g2:dW M1 H1 M2 H2):dW M H M2 H2:=λb m=>⟨(g2 b (g1 b m).1).1,λo e=>(g2 b (g1 b m).1).2 o ((g1 b m).2 o e)⟩
theorem Ext.grow(E:Ext c as M s H M' s' H')(L:aE K c M s as O H):dW M H M' H':=λb m=>⟨E.sub b m,λo e=>E.zu L b o m e⟩
theorem dW.tL(G:dW M H M' H'){ds:List D}{vs:List V}(r:ay K H M ds vs):ay K H' M' ds vs:=ay.mono (λb m=>(G b m).1) (λb o m e=>(G b m).2 o e) ds vs r
theorem t5.grow{R:mN}{E:Ends}(k:t5 K c M H R E)(G:dW M H M1 H1):t5 K c M1 H1 R E :=
 ⟨λs as M' O H' r L g=>k.nx s as M' O H' r L (G.trans g),λs as M' O H' r L g=>k.bk s as M' O H' r L (G.trans g),λs as M' O H' r L g=>k.ct s as M' O H' r L (G.trans g),k.rt,k.rf,k.rs⟩
def DS.set(s:DS)(i:Nat)(x:Sl):DS:=⟨s.sl.set i x,s.os⟩
def DS.put(s:DS)(k:Nat)(d:D):DS:=⟨s.sl,s.os.set k (some d)⟩
theorem dR{α:Type}{l:List α}{i j:Nat}{x y:α}(h:(l.set i x)[j]?=some y):(i=j/\j < l.length/\y=x)\/(i≠j/\l[j]?=some y):=by
 by_cases e:i=j
 ·subst e
  by_cases hl:i < l.length
  ·rw[Uo hl] at h
   exact .inl ⟨U,hl,(Ue h).symm⟩
  ·rw[Vb (by rw[Uu];omega)] at h
   cases h
 ·rw[TZ e] at h
  exact .inr ⟨e,h⟩
theorem aE.Dx(L:aE K c M s as O H)(i:Nat)(r:Rep K H M d v):aE K c M (s.set i (.dat d)) as (O.set i (some v)) H where
 base:=L.base
 len:=by show (s.sl.set i _).length=_;rw[Uu,Uu];exact L.len
 fI:=L.fI
 dat:=λj e h=>by
  rcases dR h with ⟨rfl,hl,q⟩ | ⟨ne,q⟩
  ·cases q
   exact⟨v,Uo (by rw[<- L.len];exact hl),r⟩
  ·obtain⟨w,h1,h2⟩:=L.dat j e q
   exact⟨w,by rw[TZ ne];exact h1,h2⟩
 own:=λj k h=>by
  rcases dR h with ⟨rfl,hl,q⟩ | ⟨ne,q⟩
  ·cases q
  ·obtain⟨w,h1,h2⟩:=L.own j k q
   exact⟨w,h1,by rw[TZ ne];exact h2⟩
 obj:=L.obj
 inj:=L.inj
 lt:=L.lt
def noRef(k:Nat):Nat->List Sl->Bool
 | _,[]=>true
 | 0,_::r=>noRef k (r.length+1) r
 | i+1,.own j::r=>(j != k)&&noRef k i r
 | i+1,_::r=>noRef k i r
theorem qb{k:Nat}:∀ {l:List Sl} {i j:Nat},l.length<=i->noRef k i l=true->l[j]?≠some (.own k)
 | [],i,j,hl,h,e=>by simp at e
 | x::r,0,j,hl,h,e=>by simp at hl
 | x::r,i+1,0,hl,h,e=>by
  simp at e
  subst e
  simp[noRef] at h
 | x::r,i+1,j+1,hl,h,e=>by
  refine qb (l:=r) (i:=i) (j:=j) (by simpa using hl) ?_ (by simpa using e)
  cases x with
  | own q=>simp[noRef] at h;exact h.2
  | no=>exact h
  | dat q=>exact h
theorem sZ{k:Nat}:∀ {l:List Sl} {i j:Nat},noRef k i l=true->i≠j->l[j]?≠some (.own k)
 | [],i,j,h,ne,e=>by simp at e
 | x::r,0,0,h,ne,e=>ne U
 | x::r,0,j+1,h,ne,e=>by
  have e':r[j]?=some (.own k):=by simpa using e
  exact qb (l:=r) (i:=r.length+1) (by omega) h e'
 | x::r,i+1,0,h,ne,e=>by
  simp at e
  subst e
  simp[noRef] at h
 | x::r,i+1,j+1,h,ne,e=>by
  refine sZ (l:=r) (i:=i) (j:=j) ?_ (by omega) (by simpa using e)
  cases x with
  | own q=>simp[noRef] at h;exact h.2
  | no=>exact h
  | dat q=>exact h
theorem aE.Oj(L:aE K c M s as O H)(i k:Nat)(hk:k < s.os.length)(nr:noRef k i s.sl=true)(ha:H a=some o)(r:cH K H M d o)(nm:¬ M a)(ng:¬ c.g.own a)(nw:¬ eR s as a)(h0:c.H0 a=none)(iQ:c.g.pB.length<=k) :
  aE K c M ⟨s.sl.set i (.own k),s.os.set k (some d)⟩ (as.set k a) (O.set i (some (.ref a))) H where
 base:=L.base
 len:=by show (s.sl.set i _).length=_;rw[Uu,Uu];exact L.len
 fI:=by show (as.set k a).length=(s.os.set k _).length;rw[Uu,Uu];exact L.fI
 dat:=λj e h=>by
  rcases dR h with ⟨rfl,hl,q⟩ | ⟨ne,q⟩
  ·cases q
  ·obtain⟨w,h1,h2⟩:=L.dat j e q
   exact⟨w,by rw[TZ ne];exact h1,h2⟩
 own:=λj l h=>by
  rcases dR h with ⟨rfl,hl,q⟩ | ⟨ne,q⟩
  ·cases q
   exact⟨a,Uo (by rw[L.fI];exact hk),Uo (by rw[<- L.len];exact hl)⟩
  ·obtain⟨w,h1,h2⟩:=L.own j l q
   refine⟨w,?_,by rw[TZ ne];exact h2⟩
   have:k≠l:=λz=>by
    subst z
    exact sZ nr ne q
   rw[TZ this]
   exact h1
 obj:=λl e b h1 h2=>by
  rcases dR h1 with ⟨rfl,hl,q⟩ | ⟨ne,q⟩
  ·cases q
   rw[Uo (by rw[L.fI];exact hl)] at h2
   cases h2
   exact⟨⟨o,ha,r⟩,nm,ng,h0⟩
  ·rw[TZ ne] at h2
   exact L.obj l e b q h2
 inj:=λl m e f b h1 h2 g1 g2=>by
  rcases dR h1 with ⟨rfl,hl,q⟩ | ⟨ne,q⟩
  ·rcases dR h2 with ⟨rfl,hl',q'⟩ | ⟨ne',q'⟩
   ·rfl
   ·rw[Uo (by rw[L.fI];exact hl)] at g1
    cases g1
    rw[TZ ne'] at g2
    exact absurd ⟨m,f,q',g2⟩ nw
  ·rcases dR h2 with ⟨rfl,hl',q'⟩ | ⟨ne',q'⟩
   ·rw[Uo (by rw[L.fI];exact hl')] at g2
    cases g2
    rw[TZ ne] at g1
    exact absurd ⟨l,e,q,g1⟩ nw
   ·rw[TZ ne] at g1
    rw[TZ ne'] at g2
    exact L.inj l m e f b q q' g1 g2
 lt:=λl b h=>by
  have h1:=L.lt l b h
  have hl:l < c.g.pB.length:=(Tw.mp h).1
  rw[TZ (by omega)]
  exact h1
theorem aE.qV{d0:D}{k:Nat}(L:aE K c M s as O H)(hk:s.os[k]?=some (some d0))(ha:as[k]?=some a)(r:cH K H M d o):aE K c M (s.put k d) as O (upd H a o):=by
 obtain⟨⟨o0,q0,r0⟩,nm,ng,h0⟩:=L.obj k d0 a hk ha
 have kp:∀ b u,b≠a->H b=some u->upd H a o b=some u:=λb u ne e=>by rw[aj ne];exact e
 have km:∀ b u,M b->H b=some u->upd H a o b=some u:=λb u m e=>kp b u (λz=>nm (z▸m)) e
 refine⟨⟨c.g.loc H _ L.base.qv λb u g e=>kp b u (λz=>g.elim (λg=>ng (z▸g)) λ⟨φ,f⟩=>by subst f;rw[z,q0] at e;cases e;exact r0.next) e,λb u e g=>?_,λb m=>?_,L.base.mo,L.base.m0,L.base.mn⟩,L.len,?_,λi e h=>?_,L.own,λl e b h1 h2=>?_,λl m e f b h1 h2 g1 g2=>?_,L.lt⟩
 ·exact kp b u (λz=>by rw[z,h0] at e;cases e) (L.base.fr b u e g)
 ·obtain⟨u,e⟩:=L.base.md b m
  exact⟨u,km b u m e⟩
 ·show as.length=(s.os.set k _).length
  rw[Uu]
  exact L.fI
 ·obtain⟨w,h1,h2⟩:=L.dat i e h
  exact⟨w,h1,Rep.mono (λ_ m=>m) km e w h2⟩
 ·rcases dR h1 with ⟨rfl,hl,q⟩ | ⟨ne,q⟩
  ·cases q
   rw[ha] at h2
   cases h2
   exact⟨⟨o,au,r.mono (λ_ m=>m) km⟩,nm,ng,h0⟩
  ·obtain⟨⟨u,q1,q2⟩,q3⟩:=L.obj l e b q h2
   refine⟨⟨u,kp b u (λz=>?_) q1,q2.mono (λ_ m=>m) km⟩,q3⟩
   subst z
   exact ne (L.inj k l d0 e b hk q ha h2)
 ·have back:∀ {l:Nat} {e:D},(s.put k d).os[l]?=some (some e)->∃ e',s.os[l]?=some (some e'):=λ{l e} h=>by
   rcases dR h with ⟨rfl,hl,q⟩ | ⟨ne,q⟩
   ·exact⟨d0,hk⟩
   ·exact⟨e,q⟩
  obtain⟨e',q1⟩:=back h1
  obtain⟨f',q2⟩:=back h2
  exact L.inj l m e' f' b q1 q2 g1 g2
theorem Ext.qV{d0:D}{k:Nat}(hk:s.os[k]?=some (some d0))(ha:as[k]?=some a):Ext c as M s H M (s.put k d) (upd H a o) where
 sub:=λ_ m=>m
 new:=λ_ m=>.inl m
 keep:=λb u e g w=>by
  have ne:b≠a:=λz=>by
   subst z
   exact w ⟨k,d0,hk,ha⟩
  rw[aj ne]
  exact e
 jP:=λb z5r=>by
  obtain⟨l,e,h1,h2⟩:=z5r
  rcases dR h1 with ⟨rfl,hl,q⟩ | ⟨ne,q⟩
  ·exact⟨k,d0,hk,h2⟩
  ·exact⟨l,e,q,h2⟩
theorem aE.slot{i k:Nat}{d0:D}(L:aE K c M s as O H)(hi:s.sl[i]?=some (.own k))(hk:s.os[k]?=some (some d0)):∃ a o,as[k]?=some a/\O[i]?=some (some (.ref a))/\H a=some o/\cH K H M d0 o:=by
 obtain⟨a,h1,h2⟩:=L.own i k hi
 obtain⟨⟨o,q1,q2⟩,_⟩:=L.obj k d0 a hk h1
 exact⟨a,o,h1,h2,q1,q2⟩
end
section
variable{X:Cx}{c:Ent}{a b e:Expr}{es:List Expr}{ta tb te:br}{st:Stmt}{K1:List Stmt}{t u:kY}{pos:Pos}
def HG:kY:=λR s=>R.nx s
def Ej(t u:kY):kY:=λR s=>t { R with nx:=u R } s
theorem aJ:vJ X c [] HG:=⟨xx.imp λE O H zz=>ei zz λM s as R L q k=>k.nx s as M O H q L .refl⟩
theorem af(h1:pb X c st t)(h2:vJ X c K1 u):vJ X c (st::K1) (Ej t u):=⟨(cM h1.ps h2.ps).imp λE O H zz=>ei zz λM s as R L q k =>
 ⟨M,s,as,{ R with nx:=u R },L,q,⟨λs' pC M' O' H' r L' G=>⟨M',s',pC,R,L',r,k.grow G⟩,k.bk,k.ct,k.rt,k.rf,k.rs⟩⟩⟩
theorem ah(h1:pb X c st t):vJ X c [st] t:=⟨gI h1.ps⟩
def A9(te:br):kY:=λR s=>te s λ_ s1=>R.nx s1
theorem rH(he:DE X c e te)(hs:swapsWith e none pos.line X.env=pure false:=by rfl):pb X c (.Expr e pos) (A9 te):=⟨(nh he.pe hs).imp λE O H zz=>ei zz λM s as R L q k =>
 ⟨M,s,as,_,L,q,λd s1 r M' H' v L' E' rv=>k.nx s1 as M' O H' r L' (E'.grow L)⟩⟩
def Bt(te:br):kY:=λR s=>te s λd _=>R.rt d
theorem aP(he:DE X c e te):pb X c (.Return (some e) pos) (Bt te):=⟨(lA he.pe).imp λE O H zz=>ei zz λM s as R L q k =>
 ⟨M,s,as,_,L,q,λd s1 r M' H' v L' E' rv=>k.rt d M' H' v r L'.base rv⟩⟩
def Hy(te:br):kY:=λR s=>te s λd _=>R.rf d
theorem i9(he:DN X c e te):pb X c (.Return (some e) pos) (Hy te):=⟨(lA he.pe).imp λE O H zz=>ei zz λM s as R L q k =>
 ⟨M,s,as,_,L,q,λd s1 r M' H' a o L' E' ha ro nm ng nw h0 hn=>k.rf d M' H' a o r L'.base ha ro nm ng h0⟩⟩
def G8(i:Nat):kY:=λR s=>∃ k d,s.sl[i]?=some (.own k)/\s.os[k]?=some (some d)/\R.rf d
theorem AW{i:Nat}(he:PE X e (bB i)):pb X c (.Return (some e) pos) (G8 i):=⟨(lA he).imp λE O H z3q=>by
 obtain⟨M,s,as,R,L,⟨k,d,h1,h2,q⟩,kk⟩:=z3q
 obtain⟨a,g1,g2⟩:=L.own i k h1
 obtain⟨⟨o,q1,q2⟩,nm,ng,h0⟩:=L.obj k d a h2 g1
 exact⟨_,g2,kk.rf d M H a o q L.base q1 q2 nm ng h0⟩⟩
def NZ(tc:mJ)(t u:kY):kY:=λR s=>tc s λb s1=>if b=true then t R s1 else u R s1
theorem bZ{x:Expr}{l r:List Stmt}{tc:mJ}(hc:DT X c x tc)(ha:vJ X c l t)(hb:vJ X c r u):pb X c (.If x l r pos) (NZ tc t u):=⟨(Em hc.pt ha.ps hb.ps).imp λE O H zz=>ei zz λM s as R L q k =>
 ⟨M,s,as,_,L,q,λb s1 r M' H' L' E'=>by
  cases b with
  | true=>exact lJ ⟨M',s1,as,R,L',by simpa using r,k.grow (E'.grow L)⟩
  | false=>exact sv ⟨M',s1,as,R,L',by simpa using r,k.grow (E'.grow L)⟩⟩⟩
def ya(i:Nat)(te:br):kY:=λR s=>te s λd s1=>R.nx (s1.set i (.dat d))
theorem Fz{i:Nat}{PJ:TE}(h:∀ {O H Q},tE X.K c te O H Q->PJ O H Q){E:Ends}{O:St}{H:Hp}:tS X.K c (ya i te) E O H->jO PJ (d7 i) E O H:=λzz=>ei zz λM s as R L q k =>
 h ⟨M,s,as,_,L,q,λd s1 r M' H' v L' E' rv=>k.nx _ as M' _ H' r (L'.Dx i rv) (E'.grow L)⟩
theorem iO{i:Nat}(h:PS X st (jO (tE X.K c te) (d7 i))):pb X c st (ya i te):=⟨h.imp λE O H=>Fz λq=>q⟩
def ltB{α:Type}:Nat->List α->Bool
 | 0,[]=>false
 | _+1,[]=>false
 | 0,_::_=>true
 | k+1,_::r=>ltB k r
theorem BX{α:Type}:∀ {k:Nat} {l:List α},ltB k l=true->k < l.length
 | 0,[],h=>by cases h
 | _+1,[],h=>by cases h
 | 0,_::_,_=>by simp
 | k+1,_::r,h=>by
  have:=BX (k:=k) (l:=r) h
  simp
  omega
def E7(i k:Nat)(te:br):kY:=λR s=>te s λd s1=>(ltB k s1.os=true/\noRef k i s1.sl=true)/\R.nx ⟨s1.sl.set i (.own k),s1.os.set k (some d)⟩
theorem AF{i k:Nat}(h:PS X st (jO (tN X.K c te) (d7 i)))(iQ:c.g.pB.length<=k:=by first | exact Uh _ | exact TB _ | exact VB (Uh _)):pb X c st (E7 i k te):=⟨h.imp λE O H zz=>ei zz λM s as R L q kk =>
 ⟨M,s,as,_,L,q,λd s1 ⟨⟨hk,nr⟩,r⟩ M' H' a o L' E' ha ro nm ng nw h0 hn=>kk.nx _ _ M' _ H' r (L'.Oj i k (BX hk) nr ha ro nm ng nw h0 iQ) (E'.grow L)⟩⟩
abbrev o9:=D->DS->(DS->Prop)->Prop
abbrev vv:=List D->DS->(DS->Prop)->Prop
def tG(K:Frag)(c:Ent)(n:Nat)(g:o9):TG:=λv O H Q=>∃ M s as d R,aE K c M s as O H/\Rep K H M d v/\g d s R/\∀ s',R s'->∀ O',aE K c M s' as O' H->(∀ i,n<=i->O'[i]?=O[i]?)->s'.os=s.os->Q O' H
def R6(K:Frag)(c:Ent)(n:Nat)(g:vv):C8:=λvs O H Q=>∃ M s as ds R,aE K c M s as O H/\ay K H M ds vs/\g ds s R/\∀ s',R s'->∀ O',aE K c M s' as O' H->(∀ i,n<=i->O'[i]?=O[i]?)->s'.os=s.os->Q O' H
structure DG(X:Cx)(c:Ent)(n:Nat)(tg:Expr)(g:o9):Prop where
 pg:PG X tg (tG X.K c n g)
structure Mn(X:Cx)(c:Ent)(n:Nat)(ts:List Expr)(g:vv):Prop where
 pg:Es X ts (R6 X.K c n g)
theorem _root_.L2.PG.imp{tg:Expr}{t t':TG}(h:PG X tg t)(w:∀ v O H Q,t' v O H Q->t v O H Q):PG X tg t':=λpins s O H v u Q I r q=>h pins s O H v u Q I r (w v O H Q q)
theorem _root_.L2.Es.imp{tg:List Expr}{t t':C8}(h:Es X tg t)(w:∀ v O H Q,t' v O H Q->t v O H Q):Es X tg t':=λpins s O H v u Q I r q=>h pins s O H v u Q I r (w v O H Q q)
section
variable{n:Nat}{tg:Expr}{Fb:List Expr}{g:o9}{gs:vv}
def sy(i:Nat):o9:=λd s Q=>Q (s.set i (.dat d))
theorem fA{i:Nat}(h:PG X tg (d7 i))(hi:i < n):DG X c n tg (sy i):=⟨h.imp λv O H Q z4q=>by obtain⟨M,s,as,d,R,L,r,q,k⟩:=z4q;exact k _ q _ (L.Dx i r) (λj hj=>TZ (by omega)) U⟩
def LA:vv:=λds s Q=>ds=[]/\Q s
def FE(g:o9)(gs:vv):vv:=λds s Q=>∃ d r,ds=d::r/\g d s λs1=>gs r s1 Q
theorem bH:Mn X c n [] LA:=⟨DR.imp λv O H Q z5q=>by
 obtain⟨M,s,as,ds,R,L,r,⟨e,q⟩,k⟩:=z5q
 subst e
 exact⟨r,k s q O L (λ_ _=>rfl) U⟩⟩
theorem aq(h1:DG X c n tg g)(h2:Mn X c n Fb gs)(hs:(assignEach (tg::Fb) X.env).map (·.2)=assign tg X.env::(assignEach Fb X.env).map (·.2):=by rfl):Mn X c n (tg::Fb) (FE g gs) :=
 ⟨(Bl h1.pg h2.pg hs).imp λv O H Q z6q=>by
   obtain⟨M,s,as,ds,R,L,r,⟨d,dr,e,q⟩,k⟩:=z6q
   subst e
   obtain⟨x,xr,rfl,r1,r2⟩:=r
   exact⟨x,xr,U,M,s,as,d,_,L,r1,q,λs1 q1 O1 L1 e1 o1=>⟨M,s1,as,dr,R,L1,r2,q1,λs2 q2 O2 Lb e2 o2=>k s2 q2 O2 Lb (λi hi=>(e2 i hi).trans (e1 i hi)) (o2.trans o1)⟩⟩⟩
def JX(m:Nat)(gs:vv):o9:=λd s Q=>∃ ds,d=.tup ds/\ds.length=m/\gs ds s Q
theorem bI{k m:Nat}(hc:X.calm=true)(h:Mn X c n Fb gs)(hn:(assignEach Fb X.env).length=m:=by rfl)(qM:(assignEach Fb X.env).findIdx? (·.1)=none:=by rfl):DG X c n (.Tuple Fb k pos) (JX m gs) :=
 ⟨(F7 hc h.pg hn qM).imp λv O H Q z7q=>by
   obtain⟨M,s,as,d,R,L,r,⟨ds,e,hl,q⟩,kk⟩:=z7q
   subst e
   obtain⟨a,xs,rfl,t,r⟩:=r
   exact⟨a,xs,U,t.sq,r.length.trans hl,M,s,as,ds,R,L,r,q,kk⟩⟩
def LG(te:br)(g:o9):kY:=λR s=>te s λd s1=>g d s1 R.nx
theorem mh(he:DE X c e te)(hg:DG X c n tg g)(hs:swapsWithSole [tg] e pos.line X.env=pure false:=by rfl)(hw:swappedStores [tg] e X.env=pure none:=by rfl)(h1:(assignEach [tg] X.env).map (·.2)=[assign tg X.env]:=by rfl):pb X c (.Assign [tg] e pos) (LG te g):=⟨(BS he.pe hg.pg hs hw h1).imp λE O H zz=>ei zz λM s as R L q k =>
 ⟨M,s,as,_,L,q,λd s1 r M' H' v L' E' rv=>⟨M',s1,as,d,_,L',rv,r,λs2 q2 O2 Lb _ _=>k.nx s2 as M' O2 H' q2 Lb (E'.grow L)⟩⟩⟩
end
def S0(K:Frag)(M:Addr->Prop)(H:Hp)(d:D)(x:V)(H':Hp):Prop :=
 (H'=H/\Rep K H M d x)\/∃ p o,H p=none/\H'=upd H p o/\Rep K H' (λb=>M b\/b=p) d x
def Kr(K:Frag)(M:Addr->Prop)(H:Hp)(ds:List D)(J:It):Prop:=∀ M1 H1,dW M H M1 H1 ->
 (∀ i,ds.length<=i->J.stop i H1)/\∀ i d,ds[i]?=some d->J.go i H1/\∀ x H2,J.Lj i H1 x H2->S0 K M1 H1 d x H2
def tI(K:Frag)(c:Ent)(t:fU):TI:=λO H R=>∃ M s as R0,aE K c M s as O H/\t s R0/\∀ ds s',R0 ds s'->∀ M' H' J,aE K c M' s' as O H'->Ext c as M s H M' s' H'->Kr K M' H' ds J->ds.length<=sizeLine->R J H'
structure DI(X:Cx)(c:Ent)(tg iter:Expr)(t:fU):Prop where
 pi:PI X tg iter (tI X.K c t)
def mU(g:o9)(tb:kY)(R:mN):List D->DS->Prop
 | [],s=>R.nx s
 | x::xs,s=>g x s λs1=>tb { R with nx:=λs'=>mU g tb R xs s',ct:=λs'=>mU g tb R xs s',bk:=R.nx } s1
def EL(ti:fU)(g:o9)(tb:kY):kY:=λR s=>ti s λxs s1=>mU g tb R xs s1
theorem drop_cons{α:Type}{l:List α}{i:Nat}{x:α}(h:l[i]?=some x):l.drop i=x::l.drop (i+1):=by
 obtain⟨hl,e⟩:=Tw.mp h
 rw[UN hl,e]
theorem Ld{n:Nat}{tg iter:Expr}{body:List Stmt}{ti:fU}{g:o9}{tb:kY}(hp:PassesOwn (model X.prog X.w) X.A X.env X.xe)(hc:X.calm=true)(hi:DI X c tg iter ti)(hg:DG X c n tg g)(hb:vJ X c body tb)(hs:VO iter X.env:=by intro _;rfl):pb X c (.For tg iter body [] pos) (EL ti g tb):=⟨(B2 hp hc hi.pi hg.pg hb.ps hs).imp λE O H zz=>ei zz λM s as R L q k=>by
 refine⟨M,s,as,_,L,q,λxs s1 q1 M1 H1 J L1 E1 io hlen=>?_⟩
 refine⟨λi m O' H'=>i<=xs.length/\m=xs.length - i/\∃ M' s' pC,aE X.K c M' s' pC O' H'/\dW M1 H1 M' H'/\mU g tb R (xs.drop i) s',⟨_,Uh _,U,M1,s1,as,L1,.refl,q1⟩,?_⟩
 rintro i m O' H' ⟨hi,rfl,M',s',pC,L',G',q'⟩
 obtain⟨h1,h2⟩:=io M' H' G'
 by_cases iQ:i < xs.length
 ·refine .inr ?_
  have hx:xs[i]?=some xs[i]:=Ud iQ
  obtain⟨hgo,hy⟩:=h2 i _ hx
  rw[drop_cons hx] at q'
  have next:∀ s2 as2 M2 O2 H2,mU g tb R (xs.drop (i+1)) s2->aE X.K c M2 s2 as2 O2 H2->dW M1 H1 M2 H2->∃ m',m' < xs.length - i/\(i+1<=xs.length/\m'=xs.length - (i+1)/\∃ M' s' pC,aE X.K c M' s' pC O2 H2/\dW M1 H1 M' H2/\mU g tb R (xs.drop (i+1)) s') :=
   λs2 as2 M2 O2 H2 f L2 G2=>⟨xs.length - (i+1),by omega,iQ,U,M2,s2,as2,L2,G2,f⟩
  refine⟨hgo,λO2 H2=>∃ s2 as2 M2,mU g tb R (xs.drop (i+1)) s2/\aE X.K c M2 s2 as2 O2 H2/\dW M1 H1 M2 H2,λO2 H2 z8q=>by obtain⟨s2,as2,M2,f,L2,G2⟩:=z8q;exact next s2 as2 M2 O2 H2 f L2 G2,λx H2 y=>?_⟩
  have go:∀ M2,aE X.K c M2 s' pC O' H2->Rep X.K H2 M2 xs[i] x->dW M1 H1 M2 H2->dW M H M2 H2->tG X.K c n g x O' H2 λO2 H2=>tS X.K c tb { nx:=λO2 H2=>∃ s2 as2 M2,mU g tb R (xs.drop (i+1)) s2/\aE X.K c M2 s2 as2 O2 H2/\dW M1 H1 M2 H2,rt:=E.rt,bk:=E.nx,ct:=λO2 H2=>∃ s2 as2 M2,mU g tb R (xs.drop (i+1)) s2/\aE X.K c M2 s2 as2 O2 H2/\dW M1 H1 M2 H2 } O2 H2:=λM2 L2 r2 G2 G0 =>
   ⟨M2,s',pC,_,_,L2,r2,q',λs3 q3 O3 L3 _ _=>⟨M2,s3,pC,_,L3,q3,⟨λs4 as4 M4 O4 H4 f L4 G4=>⟨s4,as4,M4,f,L4,G2.trans G4⟩,λs4 as4 M4 O4 H4 f L4 G4=>k.nx s4 as4 M4 O4 H4 f L4 (G0.trans G4),λs4 as4 M4 O4 H4 f L4 G4=>⟨s4,as4,M4,f,L4,G2.trans G4⟩,k.rt,k.rf,k.rs⟩⟩⟩
  rcases hy x H2 y with ⟨rfl,r⟩ | ⟨p,o,hp,rfl,r⟩
  ·exact go M' L' r G' ((E1.grow L).trans G')
  ·have G2:dW M' H' (λb=>M' b\/b=p) (upd H' p o):=λb mb=>⟨.inl mb,λu e=>by rw[aj (aC e hp)];exact e⟩
   exact go _ (L'.fresh hp) r (G'.trans G2) (((E1.grow L).trans G').trans G2)
 ·have e:i=xs.length:=by omega
  subst e
  rw[List.drop_length] at q'
  exact .inl ⟨h1 _ (TB _),k.nx s' pC M' O' H' q' L' ((E1.grow L).trans G')⟩⟩
def Dr(tc:mJ)(tb:kY):kY:=λR s=>∃ W:Nat->DS->Prop,(∃ m,W m s)/\∀ m s,W m s->tc s λb s1=>if b=true then tb { R with nx:=λs'=>∃ m',m' < m/\W m' s',ct:=λs'=>∃ m',m' < m/\W m' s',bk:=R.nx } s1 else R.nx s1
theorem Ec{x:Expr}{body:List Stmt}{tc:mJ}{tb:kY}(hp:PassesOwn (model X.prog X.w) X.A X.env X.xe)(hc:DT X c x tc)(hb:vJ X c body tb):pb X c (.While x body [] pos) (Dr tc tb):=⟨(tZ hp hc.pt hb.ps).imp λE O H z9q=>by
 obtain⟨M,s,as,R,L,⟨W,⟨m0,w0⟩,turn⟩,k⟩:=z9q
 refine⟨λm O' H'=>∃ M' s' pC,aE X.K c M' s' pC O' H'/\dW M H M' H'/\W m s',⟨m0,M,s,as,L,.refl,w0⟩,?_⟩
 rintro m O' H' ⟨M',s',pC,L',G',w'⟩
 refine⟨M',s',pC,_,L',turn m s' w',λb s1 q1 M1 H1 L1 E1=>?_⟩
 cases b with
 | true =>
  refine lJ ⟨λO2 H2=>∃ s2 as2 M2,(∃ m',m' < m/\W m' s2)/\aE X.K c M2 s2 as2 O2 H2/\dW M H M2 H2,λO2 H2 z0q=>by obtain⟨s2,as2,M2,⟨m',hm,w2⟩,L2,G2⟩:=z0q;exact⟨m',hm,M2,s2,as2,L2,G2,w2⟩,?_⟩
  have G1:=G'.trans (E1.grow L')
  exact⟨M1,s1,pC,{ R with nx:=λs'=>∃ m',m' < m/\W m' s',ct:=λs'=>∃ m',m' < m/\W m' s',bk:=R.nx },L1,by simpa using q1,⟨λs4 as4 M4 O4 H4 f L4 G4=>⟨s4,as4,M4,f,L4,G1.trans G4⟩,λs4 as4 M4 O4 H4 f L4 G4=>k.nx s4 as4 M4 O4 H4 f L4 (G1.trans G4),λs4 as4 M4 O4 H4 f L4 G4=>⟨s4,as4,M4,f,L4,G1.trans G4⟩,k.rt,k.rf,k.rs⟩⟩
 | false=>exact sv (k.nx s1 pC M1 O' H1 (by simpa using q1) L1 (G'.trans (E1.grow L')))⟩
end
abbrev VI:=List D->(D->Prop)->Prop
def cn(K:Frag)(g:BF)(t:VI):Sp:=λvs H Q _=>∃ M ds R,Base ⟨g,M,H⟩ M H/\ay K H M ds vs/\t ds R/\∀ d,R d->∀ M' H' v,Base ⟨g,M,H⟩ M' H'->Rep K H' M' d v->Q v H'
def wz(K:Frag)(g:BF)(t:VI):Sp:=λvs H Q _=>∃ M ds R,Base ⟨g,M,H⟩ M H/\ay K H M ds vs/\t ds R/\∀ d,R d->∀ M' H' a o,Base ⟨g,M,H⟩ M' H'->H' a=some o->cH K H' M' d o->¬ M' a->¬ g.own a->H a=none->Q (.ref a) H'
section
variable{K:Frag}{c:Ent}{M M' M1:Addr->Prop}{s s' s1:DS}{as:List Addr}{O:St}{H H' H1:Hp}
theorem Base.here(B:Base c M H):Base ⟨c.g,M,H⟩ M H:=⟨B.qv,λ_ _ e _=>e,B.md,B.mo,λ_ m=>m,λ_ m=>.inl m⟩
theorem Base.nI(B:Base c M H):Base ⟨.no,M,H⟩ M H:=⟨trivial,λ_ _ e _=>e,B.md,λ_ _ h=>h,λ_ m=>m,λ_ m=>.inl m⟩
theorem Base.gZ(B:Base c M H)(B':Base ⟨.no,M,H⟩ M' H'):Base ⟨c.g,M,H⟩ M' H' where
 qv:=c.g.loc H H' B.qv λb o _ e=>B'.fr b o e λz=>z
 fr:=λb o e _=>B'.fr b o e λz=>z
 md:=B'.md
 mo:=λb m g=>by
  rcases B'.mn b m with m | n | ⟨xs,n⟩
  ·exact B.mo b m g
  ·obtain⟨o,e⟩:=c.g.GZ H b B.qv g
   have n:H b=none:=n
   rw[n] at e
   cases e
  ·exact c.g.nt H b xs B.qv g n
 m0:=B'.m0
 mn:=B'.mn
theorem aE.after(L:aE K c M s as O H)(B:Base ⟨c.g,M,H⟩ M' H'):aE K c M' s as O H' where
 base:=⟨B.qv,λb o e g=>B.fr b o (L.base.fr b o e g) g,B.md,B.mo,λb m=>B.m0 b (L.base.m0 b m),λb m=>by
  rcases B.mn b m with m | n | ⟨xs,n⟩
  ·exact L.base.mn b m
  ·exact .inr (.inl (L.base.uD n))
  ·have n:H b=some (.tup xs):=n
   refine .inr ?_
   cases e:c.H0 b with
   | none=>exact .inl e
   | some o =>
    have:=L.base.fr b o e λg=>c.g.nt H b xs L.base.qv g n
    rw[n] at this
    cases this
    exact .inr ⟨xs,e⟩⟩
 len:=L.len
 fI:=L.fI
 dat:=λi d e=>by
  obtain⟨v,h1,h2⟩:=L.dat i d e
  exact⟨v,h1,Rep.mono B.m0 (λb o m e=>B.fr b o e (L.base.mo b m)) d v h2⟩
 own:=L.own
 obj:=λk d a h1 h2=>by
  obtain⟨⟨o,q1,q2⟩,nm,ng,h0⟩:=L.obj k d a h1 h2
  refine⟨⟨o,B.fr a o q1 ng,q2.mono B.m0 λb o m e=>B.fr b o e (L.base.mo b m)⟩,λm=>?_,ng,h0⟩
  rcases B.mn a m with m | n | ⟨xs,n⟩
  ·exact nm m
  ·have n:H a=none:=n
   rw[n] at q1
   cases q1
  ·have n:H a=some (.tup xs):=n
   rw[n] at q1
   cases q1
   exact q2.Bh
 inj:=L.inj
 lt:=L.lt
theorem Ext.after(B:Base ⟨c.g,M,H⟩ M' H'):Ext c as M s H M' s H':=⟨B.m0,λb m=>by
 rcases B.mn b m with m | n
 ·exact .inl m
 ·exact .inr (.inl n),λb o e g _=>B.fr b o e g,λ_ h=>h⟩
end
section
variable{X:Cx}{c:Ent}{k:Nat}{f:Addr}{fd:FuncData}{ps:List Str}{t:VI}{x:Str}{p pos:Pos}{e:Expr}{es:List Expr}{ta:fU}
def eS(t:VI)(ta:fU):br:=λs Q=>ta s λds s1=>t ds λd=>Q d s1
theorem yB{O:St}{H:Hp}{Q:VK}{n:Nat}{E:XK}:tE X.K c (eS t ta) O H Q->uE (cn X.K c.g t) [] E (tA X.K c n ta) O H Q:=λzz=>ei zz λM s as R L q kk =>
 ⟨M,s,as,_,L,q,λds s1 q1 M1 H1 vs L1 E1 r1 hl=>⟨M1,ds,_,L1.base.here,by rw[TM];exact r1,q1,λd rd M' H' v B rv=>kk d s1 rd M' H' v (L1.after B) (E1.trans L1.base (Ext.after B)) rv⟩⟩
theorem C5{O:St}{H:Hp}{Q:VK}{n:Nat}{E:XK}:tE X.K c (eS t ta) O H Q->uE (cn X.K .no t) [] E (tA X.K c n ta) O H Q:=λzz=>ei zz λM s as R L q kk =>
 ⟨M,s,as,_,L,q,λds s1 q1 M1 H1 vs L1 E1 r1 hl=>⟨M1,ds,_,L1.base.nI,by rw[TM];exact r1,q1,λd rd M' H' v B rv=>kk d s1 rd M' H' v (L1.after (L1.base.gZ B)) (E1.trans L1.base (Ext.after (L1.base.gZ B))) rv⟩⟩
theorem ug{K:Frag}{as:List Addr}{M M1 M':Addr->Prop}{s s1:DS}{O:St}{H H1 H':Hp}{a:Addr}(L:aE K c M s as O H)(L1:aE K c M1 s1 as O H1)(E1:Ext c as M s H M1 s1 H1)(B:Base ⟨c.g,M1,H1⟩ M' H')(ng:¬ c.g.own a)(hn:H1 a=none) :
  ¬ eR s1 as a/\c.H0 a=none/\(H a=none\/eR s as a):=by
 refine⟨λw=>?_,L1.base.uD hn,?_⟩
 ·obtain⟨_,_,_,u,e⟩:=L1.nM w
  rw[hn] at e
  cases e
 ·cases q:H a with
  | none=>exact .inl U
  | some u =>
   by_cases w:eR s as a
   ·exact .inr w
   ·have:=E1.keep a u q ng w
    rw[hn] at this
    cases this
theorem wo{O:St}{H:Hp}{Q:VK}{n:Nat}{E:XK}:tN X.K c (eS t ta) O H Q->uE (wz X.K c.g t) [] E (tA X.K c n ta) O H Q:=λzz=>ei zz λM s as R L q kk =>
 ⟨M,s,as,_,L,q,λds s1 q1 M1 H1 vs L1 E1 r1 hl=>⟨M1,ds,_,L1.base.here,by rw[TM];exact r1,q1,λd rd M' H' a o B ha ro nm ng hn=>by
  obtain⟨z1,z2,z3⟩:=ug L L1 E1 B ng hn
  exact kk d s1 rd M' H' a o (L1.after B) (E1.trans L1.base (Ext.after B)) ha ro nm ng z1 z2 z3⟩⟩
theorem Bi{O:St}{H:Hp}{Q:VK}{n:Nat}{E:XK}:tN X.K c (eS t ta) O H Q->uE (wz X.K .no t) [] E (tA X.K c n ta) O H Q:=λzz=>ei zz λM s as R L q kk =>
 ⟨M,s,as,_,L,q,λds s1 q1 M1 H1 vs L1 E1 r1 hl=>⟨M1,ds,_,L1.base.nI,by rw[TM];exact r1,q1,λd rd M' H' a o B ha ro nm ng hn=>by
  have ng':¬ c.g.own a:=λg=>by
   obtain⟨u,e⟩:=c.g.GZ H1 a L1.base.qv g
   rw[hn] at e
   cases e
  obtain⟨z1,z2,z3⟩:=ug L L1 E1 (L1.base.gZ B) ng' hn
  exact kk d s1 rd M' H' a o (L1.after (L1.base.gZ B)) (E1.trans L1.base (Ext.after (L1.base.gZ B))) ha ro nm ng' z1 z2 z3⟩⟩
section
variable(hr:cb k X.A)(hg:Gl X x)(hm:X.mg x=some (.ref f))(hk:keepIn X.K (.ref f)=true)(hb:Binds X.K fd ps [])(ha:DA X c (e::es) ta)
include hr hg hm hk hb ha
theorem HW(F:cw X.prog X.w X.K X.mg X.base bb k f fd ps (cn X.K c.g t))(fP:VM x:=by decide)(he:VJ X.env e es:=by rfl)(dA:VL X.env pos es:=by rfl) :
  DE X c (.Call (.Name x p) (e::es) [] pos) (eS t ta):=⟨(gD F hr hg hm hk hb .nil (E:=E0) mH ha.pa fP he dA).imp λ_ _ _=>yB⟩
theorem DY(F:cw X.prog X.w X.K X.mg X.base bb k f fd ps (cn X.K .no t))(fP:VM x:=by decide)(he:VJ X.env e es:=by rfl)(dA:VL X.env pos es:=by rfl) :
  DE X c (.Call (.Name x p) (e::es) [] pos) (eS t ta):=⟨(gD F hr hg hm hk hb .nil (E:=E0) mH ha.pa fP he dA).imp λ_ _ _=>C5⟩
theorem Hs(F:cw X.prog X.w X.K X.mg X.base bb k f fd ps (wz X.K c.g t))(fP:VM x:=by decide)(he:VJ X.env e es:=by rfl)(dA:VL X.env pos es:=by rfl) :
  DN X c (.Call (.Name x p) (e::es) [] pos) (eS t ta):=⟨(gD F hr hg hm hk hb .nil (E:=E0) mH ha.pa fP he dA).imp λ_ _ _=>wo⟩
theorem Cp(F:cw X.prog X.w X.K X.mg X.base bb k f fd ps (wz X.K .no t))(fP:VM x:=by decide)(he:VJ X.env e es:=by rfl)(dA:VL X.env pos es:=by rfl) :
  DN X c (.Call (.Name x p) (e::es) [] pos) (eS t ta):=⟨(gD F hr hg hm hk hb .nil (E:=E0) mH ha.pa fP he dA).imp λ_ _ _=>Bi⟩
end
end
def fC(n nos:Nat)(ds:List D):DS:=⟨ds.map .dat++List.replicate (n - ds.length) .no,List.replicate nos none⟩
theorem ka{K:Frag}{g:BF}{M:Addr->Prop}{H:Hp}{N:List Str}{nos:Nat}{ds:List D}{vs:List V}(B:Base ⟨g,M,H⟩ M H)(r:ay K H M ds vs)(hg:g.pB=[]):aE K ⟨g,M,H⟩ M (fC N.length nos ds) (List.replicate nos 0) (L2.start N vs) H where
 base:=B
 len:=by
  have:=r.length
  show (ds.map Sl.dat++List.replicate (N.length - ds.length) Sl.no).length=(vs.map some++List.replicate (N.length - vs.length) none).length
  simp[this]
 fI:=by simp[fC]
 dat:=λi d h=>by
  have hl:=r.length
  by_cases hi:i < ds.length
  ·have h':(ds.map Sl.dat)[i]?=some (.dat d):=by
    rw[fC,List.getElem?_append_left (by simpa using hi)] at h
    exact h
   rw[Us] at h'
   obtain⟨e,h1,h2⟩:=Up.mp h'
   cases h2
   obtain⟨v,q1,q2⟩:=r.get h1
   refine⟨v,?_,q2⟩
   rw[L2.start,List.getElem?_append_left (by simp;omega),List.getElem?_map,q1]
   rfl
  ·rw[fC,List.getElem?_append_right (by simpa using hi)] at h
   have:=Tw.mp h
   obtain⟨_,e⟩:=this
   simp at e
 own:=λi k h=>by
  by_cases hi:i < ds.length
  ·rw[fC,List.getElem?_append_left (by simpa using hi),List.getElem?_map] at h
   obtain⟨e,h1,h2⟩:=Up.mp h
   cases h2
  ·rw[fC,List.getElem?_append_right (by simpa using hi)] at h
   obtain⟨_,e⟩:=Tw.mp h
   simp at e
 obj:=λk d a h=>by
  obtain⟨_,e⟩:=Tw.mp h
  simp[fC] at e
 inj:=λk l d e a h=>by
  obtain⟨_,e⟩:=Tw.mp h
  simp[fC] at e
 lt:=λk a h=>by
  have h:g.pB[k]?=some a:=h
  rw[hg] at h
  cases h
section
variable{P:Program}{w:World}{K:Frag}{mg:Str->Option Value}{base:Heap}
theorem KQ{x qual:Str}{st:Stmt}{f:Addr}{fd:FuncData}{N ps:List Str}{k nos:Nat}{g:BF}{t:VI}(F:sR K x qual st f fd)(S:az N ps (ai st))(len:∀ ds R,t ds R->ds.length=ps.length)(hb:∀ (bN:Value) (A:Around) (outer:List Env) (s:Shared) (H:Hp) (E:XK) (M:Addr->Prop),cb k (A.deeper (envOfC qual (ai st) s.heap.objs.size f bN)) ->
   ∃ tb,vJ (jl bb P w K mg base N qual (ai st) f bN A outer s H E).sV ⟨g,M,H⟩ (bc st) tb/\∀ ds R,t ds R->tb { nx:=λ_=>R .bD,rt:=R } (fC N.length nos ds))(hg:g.pB=[]:=by rfl):cw P w K mg base bb (k+1) f fd ps (cn K g t):=by
 refine F.ok S (λvs H Q E h=>?_) λbN A outer s H vs Q E hr h=>?_
 ·obtain⟨M,ds,R,B,r,q,_⟩:=h
  rw[r.length]
  exact len ds R q
 ·obtain⟨M,ds,R,B,r,q,kk⟩:=h
  obtain⟨tb,h1,h2⟩:=hb bN A outer s H E M hr
  exact⟨_,h1.ps,M,_,_,_,ka B r hg,h2 ds R q,⟨λs as M' O H' r L _=>kk .bD r M' H' .bD L.base U,λ_ _ _ _ _ z=>z.elim,λ_ _ _ _ _ z=>z.elim,λd M' H' v r B' rv=>kk d r M' H' v B' rv,λ_ _ _ _ _ z=>z.elim,λ_ _ _ _ _ _ _ z=>z.elim⟩⟩
theorem Mw{x qual:Str}{st:Stmt}{f:Addr}{fd:FuncData}{N ps:List Str}{k nos:Nat}{g:BF}{t:VI}(F:sR K x qual st f fd)(S:az N ps (ai st))(len:∀ ds R,t ds R->ds.length=ps.length)(hb:∀ (bN:Value) (A:Around) (outer:List Env) (s:Shared) (H:Hp) (E:XK) (M:Addr->Prop),cb k (A.deeper (envOfC qual (ai st) s.heap.objs.size f bN)) ->
   ∃ tb,vJ (jl bb P w K mg base N qual (ai st) f bN A outer s H E).sV ⟨g,M,H⟩ (bc st) tb/\∀ ds R,t ds R->tb { nx:=λ_=>False,rt:=λ_=>False,rf:=R } (fC N.length nos ds))(hg:g.pB=[]:=by rfl):cw P w K mg base bb (k+1) f fd ps (wz K g t):=by
 refine F.ok S (λvs H Q E h=>?_) λbN A outer s H vs Q E hr h=>?_
 ·obtain⟨M,ds,R,B,r,q,_⟩:=h
  rw[r.length]
  exact len ds R q
 ·obtain⟨M,ds,R,B,r,q,kk⟩:=h
  obtain⟨tb,h1,h2⟩:=hb bN A outer s H E M hr
  exact⟨_,h1.ps,M,_,_,_,ka B r hg,h2 ds R q,⟨λ_ _ _ _ _ z=>z.elim,λ_ _ _ _ _ z=>z.elim,λ_ _ _ _ _ z=>z.elim,λ_ _ _ _ z=>z.elim,λd M' H' a o r B' ha ro nm ng h0=>kk d r M' H' a o B' ha ro nm ng h0,λ_ _ _ _ _ _ _ z=>z.elim⟩⟩
end
section
variable{K:Frag}{c:Ent}{M M' M1 M3 M6:Addr->Prop}{s s' s1 s6:DS}{as:List Addr}{O O4:St}{H H' H1 H3 H6:Hp}{a p q:Addr}{o:HO}{d:D}{v:V}
def gq(nt:Nat)(us:List Nat)(s:DS):DS:=⟨List.replicate nt .no++us.map λj=>s.sl.getD j .no,s.os⟩
theorem qI{nt:Nat}{us:List Nat}{i:Nat}{x:Sl}(hx:x≠.no)(h:(gq nt us s).sl[i]?=some x):∃ j,us[i - nt]?=some j/\nt<=i/\s.sl[j]?=some x:=by
 by_cases hi:i < nt
 ·rw[gq,List.getElem?_append_left (by simpa using hi)] at h
  obtain⟨_,e⟩:=Tw.mp h
  simp at e
  exact absurd e.symm hx
 ·rw[gq,List.getElem?_append_right (by simpa using hi)] at h
  simp only[List.length_replicate] at h
  rw[Us] at h
  obtain⟨j,h1,h2⟩:=Up.mp h
  refine⟨j,h1,by omega,?_⟩
  rw[List.getD_eq_getElem?_getD] at h2
  cases e:s.sl[j]? with
  | none=>rw[e] at h2;exact absurd h2.symm hx
  | some y=>rw[e] at h2;exact congrArg some h2
theorem uv{nt:Nat}{us:List Nat}{i j:Nat}{v:V}(hj:us[i - nt]?=some j)(hi:nt<=i)(h:O[j]?=some (some v)):(L2.lift nt us O)[i]?=some (some v):=by
 rw[L2.lift,List.getElem?_append_right (by simpa using hi),List.length_replicate,List.getElem?_map,hj,Option.map_some,h]
 rfl
theorem aE.inner(L:aE K c M s as O H)(nt:Nat)(us:List Nat):aE K c M (gq nt us s) as (L2.lift nt us O) H where
 base:=L.base
 len:=by simp[gq,L2.lift]
 fI:=L.fI
 dat:=λi d h=>by
  obtain⟨j,h1,h2,h3⟩:=qI (by intro z;cases z) h
  obtain⟨v,g1,g2⟩:=L.dat j d h3
  exact⟨v,uv h1 h2 g1,g2⟩
 own:=λi k h=>by
  obtain⟨j,h1,h2,h3⟩:=qI (by intro z;cases z) h
  obtain⟨v,g1,g2⟩:=L.own j k h3
  exact⟨v,g1,uv h1 h2 g2⟩
 obj:=L.obj
 inj:=L.inj
 lt:=L.lt
theorem aE.outer(L:aE K c M s as O H)(E:Ext c as M s1 H M6 s6 H6)(hs:s1.os=s.os)(L6:aE K c M6 s6 as O4 H6):aE K c M6 ⟨s.sl,s6.os⟩ as O H6 where
 base:=L6.base
 len:=L.len
 fI:=L6.fI
 dat:=λi d h=>by
  obtain⟨v,g1,g2⟩:=L.dat i d h
  have E':Ext c as M s H M6 s6 H6:=⟨E.sub,λb m=>by
   rcases E.new b m with h | h | ⟨k,e,h1,h2⟩
   ·exact .inl h
   ·exact .inr (.inl h)
   ·exact .inr (.inr ⟨k,e,by rw[<- hs];exact h1,h2⟩),λb o e g w=>E.keep b o e g λ⟨k,e,h1,h2⟩=>w ⟨k,e,by rw[<- hs];exact h1,h2⟩,λb w=>by
   obtain⟨k,e,h1,h2⟩:=E.jP b w
   exact⟨k,e,by rw[<- hs];exact h1,h2⟩⟩
  exact⟨v,g1,E'.rep L g2⟩
 own:=L.own
 obj:=L6.obj
 inj:=L6.inj
 lt:=L6.lt
theorem Ext.os{s2 Qg:DS}(E:Ext c as M s H M' s' H')(hs:s.os=s2.os)(Eu:s'.os=Qg.os):Ext c as M s2 H M' Qg H':=⟨E.sub,λb m=>by
   rcases E.new b m with h | h | ⟨k,e,h1,h2⟩
   ·exact .inl h
   ·exact .inr (.inl h)
   ·exact .inr (.inr ⟨k,e,by rw[<- hs];exact h1,h2⟩),λb o e g w=>E.keep b o e g λ⟨k,e,h1,h2⟩=>w ⟨k,e,by rw[<- hs];exact h1,h2⟩,λb z6r=>by
   obtain⟨k,e,h1,h2⟩:=z6r
   obtain⟨k,e,h1,h2⟩:=E.jP b ⟨k,e,by rw[Eu];exact h1,h2⟩
   exact⟨k,e,by rw[<- hs];exact h1,h2⟩⟩
theorem aE.wr{ys:List V}(L:aE K c M s as O H)(hq:H q=some (.lst ys))(nm:¬ M q)(ng:¬ c.g.own q)(nw:¬ eR s as q)(h0:c.H0 q=none):aE K c M s as O (upd H q o):=by
 have kp:∀ b u,b≠q->H b=some u->upd H q o b=some u:=λb u ne e=>by rw[aj ne];exact e
 have km:∀ b u,M b->H b=some u->upd H q o b=some u:=λb u m e=>kp b u (λz=>nm (z▸m)) e
 refine⟨⟨c.g.loc H _ L.base.qv λb u g e=>kp b u (λz=>g.elim (λg=>ng (z▸g)) λ⟨φ,f⟩=>by subst f;rw[z,hq] at e;cases e) e,λb u e g=>kp b u (λz=>by rw[z,h0] at e;cases e) (L.base.fr b u e g),λb m=>?_,L.base.mo,L.base.m0,L.base.mn⟩,L.len,L.fI,λi e h=>?_,L.own,λl e b h1 h2=>?_,L.inj,L.lt⟩
 ·obtain⟨u,e⟩:=L.base.md b m
  exact⟨u,km b u m e⟩
 ·obtain⟨w,h1,h2⟩:=L.dat i e h
  exact⟨w,h1,Rep.mono (λ_ m=>m) km e w h2⟩
 ·obtain⟨⟨u,q1,q2⟩,q3⟩:=L.obj l e b h1 h2
  refine⟨⟨u,kp b u (λz=>?_) q1,q2.mono (λ_ m=>m) km⟩,q3⟩
  subst z
  exact nw ⟨l,e,h1,h2⟩
theorem Ext.wr(hn:H q=none)(E:Ext c as M s H M' s' H'):Ext c as M s H M' s' (upd H' q o):=⟨E.sub,E.new,λb u e g w=>by
 rw[aj (aC e hn)]
 exact E.keep b u e g w,E.jP⟩
theorem Ba(L:aE K c M s as O H)(E1:Ext c as M s H M1 s1 H1)(ng:¬ c.g.own a)(hn:H1 a=none):H a=none\/eR s as a:=by
 cases q:H a with
 | none=>exact .inl U
 | some u =>
  by_cases w:eR s as a
  ·exact .inr w
  ·have:=E1.keep a u q ng w
   rw[hn] at this
   cases this
end
def b6(nt:Nat)(us:List Nat)(g:o9)(ti:mJ)(te:br):List D->List D->DS->(List D->DS->Prop)->Prop
 | [],acc,s,Q=>Q acc s
 | x::xs,acc,s,Q=>g x (gq nt us s) λs1=>ti s1 λb s2=>if b=true then te s2 λy s3=>b6 nt us g ti te xs (acc++[y]) ⟨s.sl,s3.os⟩ Q else b6 nt us g ti te xs acc ⟨s.sl,s2.os⟩ Q
def oA(nt:Nat)(us:List Nat)(tx:fU)(g:o9)(ti:mJ)(te:br):br:=λs Q=>tx s λxs s1=>b6 nt us g ti te xs [] s1 λys s2=>Q (.lst ys) s2
structure Lu(X:Cx)(c:Ent)(ifs:List Expr)(t:mJ):Prop where
 Qz:Ii X ifs (tT X.K c t)
section
variable{X:Cx}{c:Ent}{e:Expr}{pos:Pos}
def cq:mJ:=λs Q=>Q true s
theorem bh:Lu X c [] cq:=⟨λpins s O H Q I z4q=>by obtain⟨M,s',as,R,L,q,k⟩:=z4q;exact xp pins s O H Q I (k true s' q M H L .refl)⟩
theorem eX{t:mJ}(h:DT X c e t):Lu X c [e] t:=⟨xC h.pt⟩
end
section
variable{X:Cx}{c:Ent}{ts:List Str}{us:List Nat}{scope:Scope}{tg elt iter:Expr}{ifs:List Expr}{pos:Pos}{tx:fU}{g:o9}{ti:mJ}{te:br}
theorem xI{O:St}{H:Hp}{Q:VK}:tN X.K c (oA ts.length us tx g ti te) O H Q->uK ts.length us (tI X.K c tx) (tG X.K c ts.length g) (tT X.K c ti) (tE X.K c te) O H Q:=λzz=>ei zz λM s as R L q k=>by
 refine⟨M,s,as,_,L,q,λxs s1 q1 M1 H1 J L1 E1 io hlen=>?_⟩
 intro A hA
 obtain⟨n1,n2,n3,n4⟩:=notM L1 hA
 refine⟨λi m ys H2=>i<=xs.length/\m=xs.length - i/\ys.length<=i/\∃ M' s' zs,aE X.K c M' s' as O H2/\Ext c as M1 s1 H1 M' s' H2/\H2 A=some (.lst ys)/\ay X.K H2 M' zs ys/\¬ M' A/\b6 ts.length us g ti te (xs.drop i) zs s' λys s2=>R (.lst ys) s2,
  ⟨_,Uh _,U,TB _,M1,s1,[],L1.laid hA,Ext.laid hA,au,U,n1,q1⟩,?_⟩
 rintro i m ys H2 ⟨hi,rfl,hy,M',s',zs,L',E',hD,rz,nm,q'⟩
 have nw:∀ {CY:DS},(∀ b,eR CY as b->eR s' as b)->¬ eR CY as A:=λh w=>n3 (E'.jP A (h A w))
 refine⟨hD,?_⟩
 have G':dW M1 H1 M' H2:=E'.grow L1
 obtain⟨h1,h2⟩:=io M' H2 G'
 by_cases iQ:i < xs.length
 ·refine .inr ?_
  have hx:xs[i]?=some xs[i]:=Ud iQ
  obtain⟨hgo,hyl⟩:=h2 i _ hx
  rw[drop_cons hx] at q'
  refine⟨hgo,by omega,λx H3 y=>?_⟩
  have go:∀ M3,aE X.K c M3 s' as O H3->Rep X.K H3 M3 xs[i] x->Ext c as M' s' H2 M3 s' H3->H3 A=some (.lst ys)->¬ M3 A->tG X.K c ts.length g x (L2.lift ts.length us O) H3 λO4 H4=>BD (L2.lift ts.length us O) O4/\tT X.K c ti O4 H4 λb H5 =>
    if b=true then tE X.K c te O4 H5 λy H6=>H6 A=some (.lst ys)/\∃ m',m' < xs.length - i/\(i+1<=xs.length/\m'=xs.length - (i+1)/\(ys++[y]).length<=i+1/\∃ M' s' zs,aE X.K c M' s' as O (upd H6 A (.lst (ys++[y])))/\Ext c as M1 s1 H1 M' s' (upd H6 A (.lst (ys++[y])))/\upd H6 A (.lst (ys++[y])) A=some (.lst (ys++[y]))/\ay X.K (upd H6 A (.lst (ys++[y]))) M' zs (ys++[y])/\¬ M' A/\b6 ts.length us g ti te (xs.drop (i+1)) zs s' λys s2=>R (.lst ys) s2)
    else ∃ m',m' < xs.length - i/\(i+1<=xs.length/\m'=xs.length - (i+1)/\ys.length<=i+1/\∃ M' s' zs,aE X.K c M' s' as O H5/\Ext c as M1 s1 H1 M' s' H5/\H5 A=some (.lst ys)/\ay X.K H5 M' zs ys/\¬ M' A/\b6 ts.length us g ti te (xs.drop (i+1)) zs s' λys s2=>R (.lst ys) s2):=by
   intro M3 L3 r3 E3 hD3 Nq
   refine⟨M3,_,as,_,_,L3.inner ts.length us,r3,q',λs4 q4 O4 L4 e4 o4=>⟨λj v hj=>?_,M3,s4,as,_,L4,q4,λb s5 r5 M5 H5 L5 E5=>?_⟩⟩
   ·by_cases hjn:j < ts.length
    ·rw[L2.lift,List.getElem?_append_left (by simpa using hjn)] at hj
     obtain⟨_,e⟩:=Tw.mp hj
     simp at e
    ·rw[e4 j (by omega)]
     exact hj
   ·have E5':Ext c as M3 s' H3 M5 ⟨s'.sl,s5.os⟩ H5:=E5.os o4 U
    have L5':aE X.K c M5 ⟨s'.sl,s5.os⟩ as O H5:=L3.outer E5 o4 L5
    have F5:Ext c as M' s' H2 M5 ⟨s'.sl,s5.os⟩ H5:=E3.trans L3.base E5'
    have hD5:H5 A=some (.lst ys):=E5'.keep A _ hD3 n2 (nw λ_ h=>h)
    have Mg:¬ M5 A:=λm=>by
     rcases E5'.new A m with m | (m | ⟨_,m⟩) | m
     ·exact Nq m
     ·rw[hD3] at m
      cases m
     ·rw[hD3] at m
      cases m
     ·exact nw (λ_ h=>h) m
    cases b with
    | false =>
     rw[if_neg TF] at r5
     refine sv ?_
     exact⟨xs.length - (i+1),by omega,iQ,U,by omega,M5,_,zs,L5',E'.trans L'.base F5,hD5,F5.tL L' rz,Mg,r5⟩
    | true =>
     rw[if_pos U] at r5
     refine lJ ?_
     refine⟨M5,s5,as,_,L5,r5,λy s6 r6 M6 H6 v L6 E6 rv=>?_⟩
     have E6':Ext c as M5 ⟨s'.sl,s5.os⟩ H5 M6 ⟨s'.sl,s6.os⟩ H6:=E6.os U U
     have L6':aE X.K c M6 ⟨s'.sl,s6.os⟩ as O H6:=L5'.outer E6 U L6
     have F6:Ext c as M' s' H2 M6 ⟨s'.sl,s6.os⟩ H6:=F5.trans L5'.base E6'
     have hD6:H6 A=some (.lst ys):=E6'.keep A _ hD5 n2 (nw F5.jP)
     have Jv:¬ M6 A:=λm=>by
      rcases E6'.new A m with m | (m | ⟨_,m⟩) | m
      ·exact Mg m
      ·rw[hD5] at m
       cases m
      ·rw[hD5] at m
       cases m
      ·exact nw F5.jP m
     have kM:∀ b u,M6 b->H6 b=some u->upd H6 A (.lst (ys++[v])) b=some u:=λb u mb e=>by
      have ne:b≠A:=λz=>by
       subst z
       exact Jv mb
      rw[aj ne]
      exact e
     refine⟨hD6,xs.length - (i+1),by omega,iQ,U,by simp;omega,M6,_,zs++[y],L6'.wr hD6 Jv n2 (nw F6.jP) n4,(E'.trans L'.base F6).wr hA,au,?_,Jv,r6⟩
     exact ay.mono (λ_ h=>h) kM _ _ ((F6.tL L' rz).append (ay.one rv))
  rcases hyl x H3 y with ⟨rfl,r⟩ | ⟨p,o,hp,rfl,r⟩
  ·exact go M' L' r .refl hD nm
  ·have hpA:A≠p:=aC hD hp
   exact go _ (L'.fresh hp) r (Ext.fresh hp) (by rw[aj hpA];exact hD) λm=>by
    rcases m with m | m
    ·exact nm m
    ·exact hpA m
 ·have e:i=xs.length:=by omega
  subst e
  rw[List.drop_length] at q'
  refine .inl ⟨h1 _ (TB _),k _ s' q' M' H2 A _ L' (E1.trans L1.base E') hD rz nm n2 (nw λ_ h=>h) n4 (Ba L E1 n2 hA)⟩
theorem Ha(S:bG X ts us scope)(hc:X.calm=true)(hi:DI X c tg iter tx)(hg:∀ C s H fp,DG (X.comp ts us scope C s H fp) c ts.length tg g)(BY:∀ C s H fp,Lu (X.comp ts us scope C s H fp) c ifs ti)(he:∀ C s H fp,DE (X.comp ts us scope C s H fp) c elt te)(hs:VO iter X.env:=by intro _;rfl):DN X c (.ListComp elt [⟨tg,iter,ifs,0⟩] scope pos) (oA ts.length us tx g ti te) :=
 ⟨(xq S hc hi.pi (λC s H fp=>(hg C s H fp).pg) (λC s H fp=>(BY C s H fp).Qz) (λC s H fp=>(he C s H fp).pe) hs).imp λ_ _ _=>xI⟩
theorem ic{i:Nat}{x:Str}{px B7:Pos}(hN:X.N.Nodup)(zW:X.N[i]?=some x)(hx:X.env.scope.names.lookup x=some .local)(S:bG X ts us scope)(hc:X.calm=true)(hi:DI X c tg iter tx)(hg:∀ C s H fp,DG (X.comp ts us scope C s H fp) c ts.length tg g)(BY:∀ C s H fp,Lu (X.comp ts us scope C s H fp) c ifs ti)(he:∀ C s H fp,DE (X.comp ts us scope C s H fp) c elt te)(FO:swapsWith (.ListComp elt [⟨tg,iter,ifs,0⟩] scope pos) (some (.Name x px)) B7.line X.env=pure true:=by rfl)(hs:VO iter X.env:=by intro _;rfl):PS X (.Assign [.Name x px] (.ListComp elt [⟨tg,iter,ifs,0⟩] scope pos) B7) (jO (tN X.K c (oA ts.length us tx g ti te)) (d7 i)) :=
 (xj hN zW hx S hc hi.pi (λC s H fp=>(hg C s H fp).pg) (λC s H fp=>(BY C s H fp).Qz) (λC s H fp=>(he C s H fp).pe) FO hs).imp λE O H q=>xI q
theorem mi{i:Nat}{st:Stmt}{te:br}(h:PS X st (jO (tN X.K c te) (d7 i))):PS X st (jO (tE X.K c te) (d7 i)):=h.imp λE O H zz=>ei zz λM s as R L q k =>
 ⟨M,s,as,R,L,q,λd s' r M' H' a o L' E ha ro nm ng nw h0 hn =>
  k d s' r _ H' (.ref a) (L'.grown ha ng nw h0) (E.plus hn) ((ro.mono (λ_ h=>.inl h) λ_ _ _ e=>e).rep ha (.inr U))⟩
end
end DL
namespace HT
open PySem PyProof.Rows
variable{prog:Program}{w:World}{A:Around}{E:VG}{s:Shared}
theorem jL{t sl:Addr}{items:Array Value}{vl vu:Value}{lo hi:Option Int}{Q:VG}(ht:IsTup s.heap t items)(hs:s.heap.IsSliceOf sl vl vu .none)(pl:IsPart vl lo)(pu:IsPart vu hi)(hw:ck items.size 0 lo=0/\ck items.size items.size hi=items.size)(h:Q (.ref t) s):wpAny (model prog w) A (getItem (.ref t) (.ref sl)) Q E s:=by
 obtain⟨os,vR,hcs,hds⟩:=id hs
 have hTs:s.TypeIs (.ref sl) "slice":=⟨os,vR,hcs⟩
 unfold getItem
 try with_reducible refine wpAny_holding ?_
 first | refine wpAny_bind (wpAny_pure ?_) | skip
 refine wpAny_bind (wpAny_sequenceKey ht.typeIs (by decide) ?_)
 refine wpAny_bind (wpAny_callSpecial?_slot (name:=Str.ofString "__getitem__") ht.typeIs PyProof.Rows.slot_tuple_getitem
  (wpAny_call_entry PyProof.Rows.slot_tuple_getitem ht.typeIs entry_tuple_getitem ?_ (args_tuple_getitem _ _)))
 show wpAny _ _ (Builtin.Tuple.tupleItemsOf (.ref t) >>= _) _ _ s
 refine wpAny_bind (tupleItemsOf_ ht ?_)
 refine wpAny_bind (wpAny_typeOf hTs ?_)
 rw[if_pos (by decide)]
 refine wpAny_bind (hJ hs pl pu ?_)
 have hno:(((ck items.size 0 lo:Nat):Int) == 0&&(1:Int) == 1&&(ck items.size items.size hi - ck items.size 0 lo) == items.size)=true:=by
  rw[hw.1,hw.2]
  simp
 show wpAny _ _ (if (((ck items.size 0 lo:Nat):Int) == 0&&(1:Int) == 1&&(ck items.size items.size hi - ck items.size 0 lo) == items.size)=true then _ else _) _ _ s
 rw[if_pos hno]
 refine wpAny_bind (m:=Builtin.Tuple.tupleIsExact (.ref t)) (wpAny_bind (wpAny_typeOf ht.typeIs (wpAny_pure ?_)))
 rw[if_pos (by decide)]
 exact wpAny_bind (wpAny_rule (wpAny_pure ⟨_,U,wpAny_pure h⟩))
end HT
namespace L2
open PySem PySem.Spec PyProof.Rows
section
variable{X:Cx}
def JN(K:Frag):V->Option Int->Option Int->Hp->VK->Prop:=λx lo hi H Q=>∃ a xs,x=.ref a/\hV K H a xs /\
 ((HT.ck xs.length 0 lo=0/\HT.ck xs.length xs.length hi=xs.length)->Q (.ref a) H)/\(¬ (HT.ck xs.length 0 lo=0/\HT.ck xs.length xs.length hi=xs.length)->∀ p,H p=none->Q (.ref p) (upd H p (.tup (o7 xs lo hi))))
theorem DP:Kc X (JN X.K):=by
 intro pins s O H x v vl vu lo hi sl Q I rx hs pl pu h
 obtain⟨a,xs,rfl,hx,q1,q2⟩:=h
 by_cases hw:HT.ck xs.length 0 lo=0/\HT.ck xs.length xs.length hi=xs.length
 ·cases rx
  obtain⟨its,r,ht,hz⟩:=I.tuple hx
  have hlen:its.toArray.size=xs.length:=by rw[TV];exact r.length.symm
  exact⟨"tuple",_,PyProof.Rows.slot_tuple_getitem.lookup,ht.typeIs,HT.jL ht hs pl pu (by rw[hlen];exact hw) ⟨.ref a,H,I,U,q1 hw⟩⟩
 ·exact Gb pins s O H _ v vl vu lo hi sl Q I rx hs pl pu ⟨a,xs,U,hx,hw,q2 hw⟩
def MH(K:Frag)(tl:TE):TI:=λO H R=>tl O H λx H1=>∃ a,x=.ref a/\((∃ xs,d5 K H1 a xs/\(xs.length<=sizeLine->R (HA K a) H1))\/∃ xs,hV K H1 a xs/\(xs.length<=sizeLine->R (Pl K a) H1))
theorem G5{tg l:Expr}{tl:TE}(hl:PE X l tl):PI X tg l (MH X.K tl):=by
 intro pins s O H R I h
 refine b8 (hl pins s O H _ I h) λv s1 zz=>el2 zz λx H1 I1 r1 q1=>?_
 obtain⟨a,e,q1⟩:=q1
 subst e
 cases r1
 have fp:∀ b∈[s1.heap.objs.size],fz X pins H1 b:=λb hb=>by
  have e:b=s1.heap.objs.size:=by simpa using hb
  subst e
  exact I1.pq (TB _) (I1.aL.fresh (TB _))
 rcases q1 with ⟨xs,hq,q⟩ | ⟨xs,hq,q⟩
 ·obtain⟨its,rv,p,hz⟩:=I1.list hq
  refine wpAny_pyIter_list p.isList ?_
  exact⟨s1.heap.objs.size,[s1.heap.objs.size],_,_,H1,U,I1.kept (t':=s1.toks) λb o e=>Ts _ e,p9 a _,⟨_,TK _ U,U,U⟩,fp,q hz⟩
 ·obtain⟨its,rv,p,hz⟩:=I1.tuple hq
  refine wpAny_pyIter_tuple (show s1.heap.IsTuple a its.toArray from p) ?_
  exact⟨s1.heap.objs.size,[s1.heap.objs.size],_,_,H1,U,I1.kept (t':=s1.toks) λb o e=>Ts _ e,wu a _,⟨_,TK _ U,U,U⟩,fp,q hz⟩
end
end L2
namespace DL
open PySem PySem.Spec L2
open PyProof.Rows hiding St
section
variable{X:Cx}{c:Ent}
def cI(P:Int->Int->Prop)(f:Int->Int->Int):D->D->(D->Prop)->Prop:=λa b k=>∃ i j,a=.int i/\b=.int j/\P i j/\k (.int (f i j))
def OG(f:Int->Int->Int):D->D->(D->Prop)->Prop:=λa b k=>∃ i j,a=.int i/\b=.int j/\k (.int (f i j))
def S9(f:Int->Int->Bool):D->D->(D->Prop)->Prop:=λa b k=>∃ i j,a=.int i/\b=.int j/\k (.bl (f i j))
theorem yX{P:Int->Int->Prop}{f:Int->Int->Int}:pf X c (rI P λi j=>.int (f i j)) (cI P f):=λM s as O H x y dx dy k Q L rx ry z7r kk=>by
 obtain⟨i,j,e1,e2,hp,hk⟩:=z7r
 subst e1;subst e2
 exact⟨i,j,rx,ry,hp,kk _ hk M H _ L .refl U⟩
theorem eE{f:Int->Int->Int}:pf X c (sU λi j=>.int (f i j)) (OG f):=λM s as O H x y dx dy k Q L rx ry z8r kk=>by
 obtain⟨i,j,e1,e2,hk⟩:=z8r
 subst e1;subst e2
 exact⟨i,j,rx,ry,kk _ hk M H _ L .refl U⟩
theorem mP{f:Int->Int->Bool}:pf X c (sU λi j=>.bl (f i j)) (S9 f):=λM s as O H x y dx dy k Q L rx ry z9r kk=>by
 obtain⟨i,j,e1,e2,hk⟩:=z9r
 subst e1;subst e2
 exact⟨i,j,rx,ry,kk _ hk M H _ L .refl U⟩
def fv:D->V
 | .bD=>.bD
 | .bl b=>.bl b
 | .int i=>.int i
 | .str x=>.str x
 | .ty n=>.ty n
 | .eW a=>.ref a
 | _=>.ref 0
def iK:D->Bool
 | .bD=>true
 | .bl _=>true
 | .int _=>true
 | .str _=>true
 | _=>false
theorem Rep.flat{K:Frag}{H:Hp}{M:Addr->Prop}{d:D}{v:V}(f:iK d=true)(r:Rep K H M d v):v=fv d:=by
 cases d<;>first | exact r | (cases f)
theorem k8{d:D}(f:iK d=true):jr (fv d)=true:=by
 cases d<;>first | rfl | (cases f)
theorem ay.flat{K:Frag}{H:Hp}{M:Addr->Prop}:∀ {ds:List D} {vs:List V},ds.all iK=true->ay K H M ds vs->vs=ds.map fv/\vs.all jr=true
 | [],vs,f,r=>by
  have r:vs=[]:=r
  subst r
  exact⟨U,U⟩
 | d::ds,vs,f,r=>by
  obtain⟨x,xr,rfl,r1,r2⟩:=r
  rw[List.all_cons,T8] at f
  obtain⟨h1,h2⟩:=ay.flat f.2 r2
  have e:=r1.flat f.1
  subst e
  exact⟨by rw[TC,h1],by rw[List.all_cons,h2,k8 f.1];rfl⟩
def Rx:D->D->(D->Prop)->Prop:=λa b k=>(iK a=true/\iK b=true/\LO (fv a) (fv b)=true)/\k (.bl (decide (fv a=fv b)))
theorem cU:pf X c Nb Rx:=λM s as O H x y dx dy k Q L rx ry z0r kk=>by
 obtain⟨⟨f1,f2,hs⟩,hk⟩:=z0r
 have e1:=rx.flat f1
 have e2:=ry.flat f2
 subst e1;subst e2
 exact⟨hs,kk _ hk M H _ L .refl U⟩
def Tn(neg:Bool):D->D->(D->Prop)->Prop:=λa b k=>∃ ds,(b=.lst ds\/b=.tup ds)/\(iK a=true/\ds.all iK=true)/\k (.bl (if neg then !qU (fv a) (ds.map fv) else qU (fv a) (ds.map fv)))
theorem okIn{neg:Bool}:pf X c (GS X.K neg) (Tn neg):=λM s as O H x y dx dy k Q L rx ry z1r kk=>by
 obtain⟨ds,hb,⟨f1,f2⟩,hk⟩:=z1r
 have e1:=rx.flat f1
 subst e1
 have go:∀ {p xs},ay X.K H M ds xs->(d5 X.K H p xs\/hV X.K H p xs)->GS X.K neg (fv dx) (.ref p) H Q:=λ{p xs} r h=>by
  obtain⟨e,f⟩:=r.flat f2
  refine⟨p,xs,U,h,k8 f1,f,?_⟩
  rw[e]
  exact kk _ hk M H _ L .refl U
 rcases hb with rfl | rfl
 ·obtain⟨p,xs,rfl,⟨m,h⟩,r⟩:=ry
  exact go r (.inl (.of h))
 ·obtain⟨p,xs,rfl,h,r⟩:=ry
  exact go r (.inr h.sq)
theorem ay.at{K:Frag}{H:Hp}{M:Addr->Prop}{ds:List D}{vs:List V}{i:Int}{d:D}(r:ay K H M ds vs)(h:jQ ds i=some d):∃ v,jQ vs i=some v/\Rep K H M d v:=by
 unfold jQ at h ⊢
 rw[r.length]
 cases e:Bd ds.length i with
 | none=>rw[e] at h;cases h
 | some j =>
  rw[e] at h
  exact r.get h
def IG:D->D->(D->Prop)->Prop:=λa b k=>∃ ds i d,a=.tup ds/\b=.int i/\jQ ds i=some d/\k d
def Fy:D->D->(D->Prop)->Prop:=λa b k=>∃ ds i d,a=.lst ds/\b=.int i/\jQ ds i=some d/\k d
def MC:D->D->(D->Prop)->Prop:=λa b k=>∃ z i ch,a=.str z/\b=.int i/\z.length<=sizeLine/\jQ z.cps.toList i=some ch/\k (.str ⟨#[ch]⟩)
theorem LC:pf X c (LM X.K) IG:=λM s as O H x y dx dy k Q L rx ry z2r kk=>by
 obtain⟨ds,i,d,e1,e2,h,hk⟩:=z2r
 subst e1;subst e2
 obtain⟨p,xs,rfl,t,r⟩:=rx
 obtain⟨v,h1,h2⟩:=r.at h
 exact⟨p,xs,i,v,U,ry,t.sq,h1,kk _ hk M H _ L .refl h2⟩
theorem Lv:pf X c (FD X.K) Fy:=λM s as O H x y dx dy k Q L rx ry z3r kk=>by
 obtain⟨ds,i,d,e1,e2,h,hk⟩:=z3r
 subst e1;subst e2
 obtain⟨p,xs,rfl,⟨m,t⟩,r⟩:=rx
 obtain⟨v,h1,h2⟩:=r.at h
 exact⟨p,xs,i,v,U,ry,.of t,h1,kk _ hk M H _ L .refl h2⟩
theorem Aw:pf X c K3 MC:=λM s as O H x y dx dy k Q L rx ry z4r kk=>by
 obtain⟨z,i,ch,e1,e2,hz,h,hk⟩:=z4r
 subst e1;subst e2
 exact⟨z,i,ch,rx,ry,hz,h,kk _ hk M H _ L .refl U⟩
def Of:D->D->(D->Prop)->Prop:=λa b k=>∃ xs ys,a=.lst xs/\b=.lst ys/\xs.length+ys.length<=sizeLine/\k (.lst (xs++ys))
theorem dB:Hm X c K9 Of:=λM s as O H x y dx dy k Q L rx ry z5r kk=>by
 obtain⟨xs,ys,e1,e2,hl,hk⟩:=z5r
 subst e1;subst e2
 obtain⟨p,vs,rfl,⟨m,t⟩,r⟩:=rx
 obtain⟨p',Bg,rfl,⟨m',t'⟩,r'⟩:=ry
 exact⟨p,p',vs,Bg,U,U,t,t',by rw[r.length,r'.length];exact hl,λq hq=>kk _ hk q _ hq (r.append r')⟩
def KS:D->D->(D->Prop)->Prop:=λa b k=>∃ xs ys,a=.tup xs/\b=.tup ys/\xs≠[]/\xs.length+ys.length<=sizeLine/\k (.tup (xs++ys))
theorem AN:pf X c (EN X.K) KS:=λM s as O H x y dx dy k Q L rx ry z6r kk=>by
 obtain⟨xs,ys,e1,e2,hn,hl,hk⟩:=z6r
 subst e1;subst e2
 obtain⟨p,vs,rfl,t,r⟩:=rx
 obtain⟨p',Bg,rfl,t',r'⟩:=ry
 refine⟨p,p',vs,Bg,U,U,t.sq,t'.sq,λz=>?_,by rw[r.length,r'.length];exact hl,λz=>?_,λz q hq=>?_⟩
 ·have:=r.length
  rw[z] at this
  exact hn (Ut this.symm)
 ·have:=r'.length
  rw[z] at this
  have e:ys=[]:=Ut this.symm
  subst e
  rw[TM] at hk
  exact kk _ hk M H _ L .refl ⟨p,vs,U,t,r⟩
 ·exact kk _ hk _ _ _ (L.fresh hq) (Ext.fresh hq) ⟨q,vs++Bg,U,⟨.inr U,au⟩,iq hq (r.append r')⟩
abbrev CZ:=DS->(Option Int->DS->Prop)->Prop
def tO(K:Frag)(c:Ent)(t:CZ):TO:=λO H Q=>∃ M s as R,aE K c M s as O H/\t s R/\∀ o s',R o s'->∀ M' H',aE K c M' s' as O H'->Ext c as M s H M' s' H'->Q o H'
structure DO(X:Cx)(c:Ent)(e:Option Expr)(t:CZ):Prop where
 po:PO X e (tO X.K c t)
theorem _root_.L2.PO.imp{e:Option Expr}{t t':TO}(h:PO X e t)(w:∀ O H Q,t' O H Q->t O H Q):PO X e t':=λpins s O H Q I q=>h pins s O H Q I (w O H Q q)
def F3:CZ:=λs Q=>Q none s
def vN(te:br):CZ:=λs Q=>te s λd s1=>∃ i,d=.int i/\Q (some i) s1
theorem cQ:DO X c none F3:=⟨De.imp λO H Q zz=>ei zz λM s as R L q k=>k none s q M H L .refl⟩
theorem bQ{e:Expr}{te:br}(h:DE X c e te):DO X c (some e) (vN te):=⟨(rX h.pe).imp λO H Q zz=>ei zz λM s as R L q k =>
 ⟨M,s,as,_,L,q,λd s1 z7r M' H' v L' E' rv=>by
  obtain⟨i,e,r⟩:=z7r
  subst e
  exact⟨i,rv,k (some i) s1 r M' H' L' E'⟩⟩⟩
def cutD(xs:List D)(lo hi:Option Int):List D:=(xs.drop (HT.ck xs.length 0 lo)).take (HT.ck xs.length xs.length hi - HT.ck xs.length 0 lo)
theorem ay.cut{K:Frag}{H:Hp}{M:Addr->Prop}{ds:List D}{vs:List V}(lo hi:Option Int)(r:ay K H M ds vs):ay K H M (cutD ds lo hi) (o7 vs lo hi):=by
 unfold cutD o7
 rw[r.length]
 exact (r.drop _).take _
def Cr(te:br)(tl th:CZ)(k:List D->Option Int->Option Int->(D->Prop)->D->Prop):br:=λs Q=>te s λa s1=>tl s1 λl s2=>th s2 λu s3=>∃ ds,k ds l u (λd=>Q d s3) a
def S4:List D->Option Int->Option Int->(D->Prop)->D->Prop:=λds l u Q a=>a=.lst ds/\Q (.lst (cutD ds l u))
def KI:List D->Option Int->Option Int->(D->Prop)->D->Prop:=λds l u Q a=>a=.tup ds/\Q (.tup (cutD ds l u))
theorem dP{e:Expr}{lo hi:Option Expr}{te:br}{tl th:CZ}{p2 pos:Pos}(he:DE X c e te)(hl:DO X c lo tl)(hu:DO X c hi th):DN X c (.Subscript e (.Slice lo hi none p2) pos) (Cr te tl th S4):=⟨(kX wL he.pe hl.po hu.po).imp λO H Q zz=>ei zz λM s as R L q k =>
 ⟨M,s,as,_,L,q,λd s1 q1 M1 H1 v L1 E1 rv=>⟨M1,s1,as,_,L1,q1,λl s2 q2 M2 H2 Lb E2=>⟨M2,s2,as,_,Lb,q2,λu s3 q3 M3 H3 Lc E3=>by
  obtain⟨ds,e,q⟩:=q3
  subst e
  have E13:=E2.trans Lb.base E3
  obtain⟨p,xs,rfl,⟨m,t⟩,r⟩:=E13.rep L1 rv
  exact⟨p,xs,U,.of t,λb hb=>jk (d:=.lst _) L Lc (E1.trans L1.base E13) hb (r.cut l u) (k _ s3 q)⟩⟩⟩⟩⟩
theorem fo{e:Expr}{lo hi:Option Expr}{te:br}{tl th:CZ}{p2 pos:Pos}(he:DE X c e te)(hl:DO X c lo tl)(hu:DO X c hi th):DE X c (.Subscript e (.Slice lo hi none p2) pos) (Cr te tl th KI):=⟨(kX DP he.pe hl.po hu.po).imp λO H Q zz=>ei zz λM s as R L q k =>
 ⟨M,s,as,_,L,q,λd s1 q1 M1 H1 v L1 E1 rv=>⟨M1,s1,as,_,L1,q1,λl s2 q2 M2 H2 Lb E2=>⟨M2,s2,as,_,Lb,q2,λu s3 q3 M3 H3 Lc E3=>by
  obtain⟨ds,e,q⟩:=q3
  subst e
  have E13:=E2.trans Lb.base E3
  have E0:=E1.trans L1.base E13
  obtain⟨p,xs,rfl,t,r⟩:=E13.rep L1 rv
  refine⟨p,xs,U,t.sq,λhw=>?_,λhw b hb=>?_⟩
  ·have e:cutD ds l u=ds:=by
    unfold cutD
    rw[<- r.length,hw.1,hw.2,List.drop_zero,r.length,Nat.sub_zero,List.take_length]
   rw[e] at q
   exact k _ s3 q M3 H3 _ Lc E0 ⟨p,xs,U,t,r⟩
  ·exact k _ s3 q _ _ _ (Lc.fresh hb) (E0.trans Lc.base (Ext.fresh hb)) ⟨b,_,U,⟨.inr U,au⟩,iq hb (r.cut l u)⟩⟩⟩⟩⟩
def MD:D->(D->Prop)->Prop:=λa k=>∃ ds,a=.lst ds/\k (.lst ds.reverse)
theorem J0{e st:Expr}{te:br}{p2 pos:Pos}(he:DE X c e te)(qM:PE X st (tC (.int (-1)))):DN X c (.Subscript e (.Slice none none (some st) p2) pos) (Ss MD te):=⟨(zJ he.pe qM).imp λO H Q zz=>ei zz λM s as R L q k =>
 ⟨M,s,as,_,L,q,λd s1 z8r M1 H1 v L1 E1 rv=>by
  obtain⟨ds,e,q1⟩:=z8r
  subst e
  obtain⟨p,xs,rfl,⟨m,t⟩,r⟩:=rv
  exact⟨p,xs,U,.of t,λb hb=>jk (d:=.lst _) L L1 E1 hb r.reverse (k _ s1 q1)⟩⟩⟩
def jX(C:VI)(t:fU):br:=λs Q=>t s λds s1=>C ds λd=>Q d s1
def Ac(X:Cx)(c:Ent)(r:List V->Hp->VK->Prop)(C:VI):Prop:=∀ (M:Addr->Prop) (s:DS) (as:List Addr) (O:St) (H:Hp) (xs:List V) (ds:List D) (k:D->Prop) (Q:VK),aE X.K c M s as O H->ay X.K H M ds xs->C ds k ->
 (∀ d,k d->∀ M' H' v,aE X.K c M' s as O H'->Ext c as M s H M' s H'->Rep X.K H' M' d v->Q v H')->r xs H Q
def Dq(X:Cx)(c:Ent)(r:List V->Hp->VK->Prop)(C:VI):Prop:=∀ (M:Addr->Prop) (s:DS) (as:List Addr) (O:St) (H:Hp) (xs:List V) (ds:List D) (k:D->Prop) (Q:VK),aE X.K c M s as O H->ay X.K H M ds xs->C ds k ->
 (∀ d,k d->∀ p o,H p=none->cH X.K H M d o->Q (.ref p) (upd H p o))->r xs H Q
section
variable{x:Str}{p pos:Pos}{e:Expr}{es:List Expr}{t:fU}{id T:String}{r:List V->Hp->VK->Prop}{C:VI}
theorem EX{n:Nat}(k:Ac X c r C){O:St}{H:Hp}{Q:VK}:tE X.K c (jX C t) O H Q->Dv r (tA X.K c n t) O H Q:=λzz=>ei zz λM s as R L q kk =>
 ⟨M,s,as,_,L,q,λds s1 q1 M1 H1 vs L1 E1 r1 hl=>k M1 s1 as O H1 vs ds (λd=>R d s1) Q L1 r1 q1 λd rd M' H' v L' E' rv=>kk d s1 rd M' H' v L' (E1.trans L1.base E') rv⟩
theorem Hi{n:Nat}(k:Dq X c r C){O:St}{H:Hp}{Q:VK}:tN X.K c (jX C t) O H Q->Dv r (tA X.K c n t) O H Q:=λzz=>ei zz λM s as R L q kk =>
 ⟨M,s,as,_,L,q,λds s1 q1 M1 H1 vs L1 E1 r1 hl=>k M1 s1 as O H1 vs ds (λd=>R d s1) Q L1 r1 q1 λd rd p o hp ro=>jk L L1 E1 hp ro (kk d s1 rd)⟩
theorem iD(hc:fq X (.builtin id) r)(k:Ac X c r C)(hg:Gl X x)(hm:X.mg x=none)(hv:bootBuiltins x=some (.builtin id))(ha:DA X c (e::es) t)(hn:x≠"__name__":=by decide)(fP:VM x:=by decide)(he:VJ X.env e es:=by rfl)(dA:VL X.env pos es:=by rfl):DE X c (.Call (.Name x p) (e::es) [] pos) (jX C t):=⟨(bT hc hg hm hv ha.pa hn fP he dA).imp λ_ _ _=>EX k⟩
theorem fj(hc:fq X (.type T) r)(k:Ac X c r C)(hg:Gl X x)(hm:X.mg x=none)(hv:bootBuiltins x=some (.type T))(ha:DA X c (e::es) t)(hn:x≠"__name__":=by decide)(fP:VM x:=by decide)(he:VJ X.env e es:=by rfl)(dA:VL X.env pos es:=by rfl):DE X c (.Call (.Name x p) (e::es) [] pos) (jX C t):=⟨(pN hc hg hm hv ha.pa hn fP he dA).imp λ_ _ _=>EX k⟩
theorem fV(hc:fq X (.type T) r)(k:Dq X c r C)(hg:Gl X x)(hm:X.mg x=none)(hv:bootBuiltins x=some (.type T))(ha:DA X c (e::es) t)(hn:x≠"__name__":=by decide)(fP:VM x:=by decide)(he:VJ X.env e es:=by rfl)(dA:VL X.env pos es:=by rfl):DN X c (.Call (.Name x p) (e::es) [] pos) (jX C t):=⟨(pN hc hg hm hv ha.pa hn fP he dA).imp λ_ _ _=>Hi k⟩
end
theorem dJ{K:Frag}{H:Hp}{M:Addr->Prop}{d:D}{vs:List V}(r:ay K H M [d] vs):∃ v,vs=[v]/\Rep K H M d v:=by
 obtain⟨x,xr,rfl,r1,r2⟩:=r
 have r2:xr=[]:=r2
 subst r2
 exact⟨x,U,r1⟩
theorem sX{K:Frag}{H:Hp}{M:Addr->Prop}{d e:D}{vs:List V}(r:ay K H M [d,e] vs):∃ v w,vs=[v,w]/\Rep K H M d v/\Rep K H M e w:=by
 obtain⟨x,xr,rfl,r1,r2⟩:=r
 obtain⟨y,rfl,r3⟩:=dJ r2
 exact⟨x,y,U,r1,r3⟩
def C9:VI:=λas k=>∃ ds,(as=[.lst ds]\/as=[.tup ds])/\k (.int ds.length)
theorem LH:Ac X c (λxs H Q=>∃ p ys,xs=[.ref p]/\(d5 X.K H p ys\/hV X.K H p ys)/\Q (.int ys.length) H) C9:=λM s as O H xs ds k Q L r z9r kk=>by
 obtain⟨es,hb,hk⟩:=z9r
 rcases hb with rfl | rfl
 ·obtain⟨v,rfl,p,ys,rfl,⟨m,h⟩,r'⟩:=dJ r
  refine⟨p,ys,U,.inl (.of h),?_⟩
  rw[r'.length]
  exact kk _ hk M H _ L .refl U
 ·obtain⟨v,rfl,p,ys,rfl,h,r'⟩:=dJ r
  refine⟨p,ys,U,.inr h.sq,?_⟩
  rw[r'.length]
  exact kk _ hk M H _ L .refl U
def LQ:VI:=λas k=>∃ z,as=[.str z]/\z.length<=sizeLine/\k (.int z.length)
theorem G9:Ac X c (λxs H Q=>∃ z,xs=[.str z]/\z.length<=sizeLine/\Q (.int z.length) H) LQ:=λM s as O H xs ds k Q L r z0r kk=>by
 obtain⟨z,e,hz,hk⟩:=z0r
 subst e
 obtain⟨v,rfl,e⟩:=dJ r
 have e:v=.str z:=e
 subst e
 exact⟨z,U,hz,kk _ hk M H _ L .refl U⟩
def OF:VI:=λas k=>∃ i j,as=[.int i,.int j]/\k (.int (if j > i then j else i))
theorem EO:Ac X c (λxs H Q=>∃ i j,xs=[.int i,.int j]/\Q (.int (if j > i then j else i)) H) OF:=λM s as O H xs ds k Q L r z1r kk=>by
 obtain⟨i,j,e,hk⟩:=z1r
 subst e
 obtain⟨v,w,rfl,e1,e2⟩:=sX r
 have e1:v=.int i:=e1
 have e2:w=.int j:=e2
 subst e1;subst e2
 exact⟨i,j,U,kk _ hk M H _ L .refl U⟩
def K7:VI:=λas k=>(∃ i,as=[.int i]/\k (.int i))\/∃ b,as=[.bl b]/\k (.int (if b then 1 else 0))
theorem kc:Ac X c (λxs H Q=>(∃ i,xs=[.int i]/\Q (.int i) H)\/∃ k,xs=[.bl k]/\Q (.int (if k then 1 else 0)) H) K7:=λM s as O H xs ds k Q L r h kk=>by
 rcases h with ⟨i,rfl,hk⟩ | ⟨i,rfl,hk⟩
 ·obtain⟨v,rfl,e1⟩:=dJ r
  have e1:v=.int i:=e1
  subst e1
  exact .inl ⟨i,U,kk _ hk M H _ L .refl U⟩
 ·obtain⟨v,rfl,e1⟩:=dJ r
  have e1:v=.bl i:=e1
  subst e1
  exact .inr ⟨i,U,kk _ hk M H _ L .refl U⟩
def Lx:VI:=λas k=>∃ ds,(as=[.lst ds]\/as=[.tup ds])/\k (.lst ds)
theorem hU:Dq X c (λxs H Q=>∃ p ys,xs=[.ref p]/\(d5 X.K H p ys\/hV X.K H p ys)/\∀ l,H l=none->Q (.ref l) (upd H l (.lst ys))) Lx:=λM s as O H xs ds k Q L r z2r kk=>by
 obtain⟨es,hb,hk⟩:=z2r
 rcases hb with rfl | rfl
 ·obtain⟨v,rfl,p,ys,rfl,⟨m,h⟩,r'⟩:=dJ r
  exact⟨p,ys,U,.inl (.of h),λl hl=>kk _ hk l _ hl r'⟩
 ·obtain⟨v,rfl,p,ys,rfl,h,r'⟩:=dJ r
  exact⟨p,ys,U,.inr h.sq,λl hl=>kk _ hk l _ hl r'⟩
def G3:VI:=λas k=>∃ ds,(as=[.lst ds]\/as=[.tup ds])/\k (.tup ds)
theorem Kz:Ac X c (λxs H Q=>∃ p ys,xs=[.ref p]/\((d5 X.K H p ys/\∀ l,H l=none->Q (.ref l) (upd H l (.tup ys)))\/(hV X.K H p ys/\Q (.ref p) H))) G3:=λM s as O H xs ds k Q L r z3r kk=>by
 obtain⟨es,hb,hk⟩:=z3r
 rcases hb with rfl | rfl
 ·obtain⟨v,rfl,p,ys,rfl,⟨m,h⟩,r'⟩:=dJ r
  exact⟨p,ys,U,.inl ⟨.of h,λl hl=>kk _ hk _ _ _ (L.fresh hl) (Ext.fresh hl) ⟨l,ys,U,⟨.inr U,au⟩,iq hl r'⟩⟩⟩
 ·obtain⟨v,rfl,p,ys,rfl,h,r'⟩:=dJ r
  exact⟨p,ys,U,.inr ⟨h.sq,kk _ hk M H _ L .refl ⟨p,ys,U,h,r'⟩⟩⟩
theorem wR{K:Frag}{H:Hp}{M:Addr->Prop}:∀ {bs:List Bool} {vs:List V},ay K H M (bs.map .bl) vs->vs=bs.map V.bl
 | [],vs,r=>r
 | b::bs,vs,r=>by
  obtain⟨x,xr,rfl,r1,r2⟩:=r
  have r1:x=.bl b:=r1
  rw[r1,wR r2,TC]
def Lz(te:br):fU:=λs Q=>te s λd s1=>∃ ds,(d=.lst ds\/d=.tup ds)/\Q ds s1
theorem aI{tg e:Expr}{te:br}(he:DE X c e te):DI X c tg e (Lz te):=⟨λpins s O H R I zz=>ei zz λM s0 as R0 L q k=>G5 he.pe pins s O H R I
 ⟨M,s0,as,_,L,q,λd s1 z4r M1 H1 v L1 E1 rv=>by
  obtain⟨ds,hd,q1⟩:=z4r
  rcases hd with rfl | rfl
  ·obtain⟨p,xs,rfl,⟨m,h⟩,r⟩:=rv
   refine⟨p,U,.inl ⟨xs,.of h,λhl=>k ds s1 q1 M1 H1 _ L1 E1 (λM2 H2 G=>?_) (by rw[<- r.length];exact hl)⟩⟩
   have h2:H2 p=some (.lst xs):=(G p m).2 _ h
   have r2:=G.tL r
   refine⟨λi hi=>⟨xs,.of h2,by rw[r.length];exact hi⟩,λi d hd=>?_⟩
   obtain⟨v,g1,g2⟩:=r2.get hd
   refine⟨⟨xs,v,.of h2,g1⟩,λx H3 ⟨e,hx⟩=>.inl ⟨e,?_⟩⟩
   have:=hx xs (.of h2)
   rw[g1] at this
   cases this
   exact g2
  ·obtain⟨p,xs,rfl,h,r⟩:=rv
   refine⟨p,U,.inr ⟨xs,h.sq,λhl=>k ds s1 q1 M1 H1 _ L1 E1 (λM2 H2 G=>?_) (by rw[<- r.length];exact hl)⟩⟩
   have h2:hV X.K H2 p xs:=(h.mono (λb m=>(G b m).1) λb o m e=>(G b m).2 o e).sq
   have r2:=G.tL r
   refine⟨λi hi=>⟨xs,h2,by rw[r.length];exact hi⟩,λi d hd=>?_⟩
   obtain⟨v,g1,g2⟩:=r2.get hd
   refine⟨⟨xs,v,h2,g1⟩,λx H3 ⟨e,hx⟩=>.inl ⟨e,?_⟩⟩
   have:=hx xs h2
   rw[g1] at this
   cases this
   exact g2⟩⟩
def fu(lo:Int)(n:Nat):List D:=(List.range n).map λi=>.int (lo+(i:Nat))
def Fo(t:fU):fU:=λs Q=>t s λds s1=>∃ j:Int,ds=[.int j]/\(-(2 ^ 62)<=j/\j<=16777216)/\Q (fu 0 j.toNat) s1
theorem zR{K:Frag}{M:Addr->Prop}{H:Hp}{lo:Int}{n:Nat}:Kr K M H (fu lo n) (L9 lo n):=λM1 H1 G =>
 ⟨λi hi=>by
  show n<=i
  simpa [fu] using hi,λi d hd=>by
  unfold fu at hd
  rw[Us] at hd
  obtain⟨j,h1,h2⟩:=Up.mp hd
  obtain⟨hl,e⟩:=Tw.mp h1
  simp at hl e
  subst e
  subst h2
  exact⟨hl,λx H2 ⟨e,hx⟩=>.inl ⟨e,hx⟩⟩⟩
section
variable{tg a b:Expr}{t:fU}{p pos:Pos}
theorem dG(hg:Gl X "range")(hm:X.mg "range"=none)(ha:DA X c [a] t)(hs:starEach [a] X.env=[(false,eval a X.env)]:=by rfl):DI X c tg (.Call (.Name "range" p) [a] [] pos) (Fo t):=⟨λpins s O H R I zz=>ei zz λM s0 as R0 L q k=>yx hg hm ha.pa hs pins s O H R I
 ⟨M,s0,as,_,L,q,λds s1 z5r M1 H1 vs L1 E1 r _=>by
  obtain⟨j,e,⟨h1,h2⟩,q1⟩:=z5r
  subst e
  obtain⟨v,rfl,e⟩:=dJ r
  have e:v=.int j:=e
  subst e
  exact⟨j,U,h1,by omega,k _ s1 q1 M1 H1 _ L1 E1 zR (by simp[fu,sizeLine];omega)⟩⟩⟩
end
end
section
variable{X:Cx}{c:Ent}
def Pc:D->Bool
 | .lst _=>true
 | _=>false
def qW:D->Bool
 | .qX _ _=>true
 | .kq _ _=>true
 | _=>false
theorem BQ{K:Frag}{H:Hp}{M:Addr->Prop}{d:D}{o:HO}(h:Pc d=true)(r:cH K H M d o):∃ xs,o=.lst xs:=by
 cases d<;>first | (cases h;done) | (cases o<;>first | exact⟨_,U⟩ | exact r.elim)
def JH(i:Nat)(C:D->List D->(D->D->Prop)->Prop)(ta:fU):br:=λs Q=>∃ k d0,s.sl[i]?=some (.own k)/\s.os[k]?=some (some d0)/\Pc d0=true/\ta s λds s1=>∃ d1,s1.os[k]?=some (some d1)/\C d1 ds λdr d2=>Q dr (s1.put k d2)
def Di(X:Cx)(r:V->List V->Hp->VK->Prop)(C:D->List D->(D->D->Prop)->Prop):Prop:=∀ (M:Addr->Prop) (H:Hp) (a:Addr) (o:HO) (d1:D) (ds:List D) (vs:List V) (k:D->D->Prop) (Q:VK),H a=some o->cH X.K H M d1 o->ay X.K H M ds vs->¬ M a->C d1 ds k ->
 (∀ dr d2,k dr d2->∀ o' v,cH X.K H M d2 o'->Rep X.K H M dr v->Q v (upd H a o'))->r (.ref a) vs H Q
theorem Lp{i n:Nat}{r:V->List V->Hp->VK->Prop}{C:D->List D->(D->D->Prop)->Prop}{ta:fU}(ok:Di X r C){O:St}{H:Hp}{Q:VK}:tE X.K c (JH i C ta) O H Q->PN X.K "list" r (bB i) (tA X.K c n ta) O H Q:=λz9q=>by
 obtain⟨M,s,as,R,L,⟨k,d0,h1,h2,h3,q⟩,kk⟩:=z9q
 obtain⟨a,o,g1,g2,g3,g4⟩:=L.slot h1 h2
 obtain⟨xs,rfl⟩:=BQ h3 g4
 refine⟨.ref a,g2,.inl ⟨U,xs,.of g3⟩,M,s,as,_,L,q,λds s1 z0q M1 H1 vs L1 E1 r1 hl=>?_⟩
 obtain⟨d1,e1,q1⟩:=z0q
 obtain⟨⟨o1,f1,f2⟩,nm,ng,h0⟩:=L1.obj k d1 a e1 g1
 refine ok M1 H1 a o1 d1 ds vs _ Q f1 f2 r1 nm q1 λdr d2 hk o' v ro rv=>?_
 have E2:Ext c as M1 s1 H1 M1 (s1.put k d2) (upd H1 a o'):=Ext.qV e1 g1
 exact kk dr _ hk M1 _ v (L1.qV e1 g1 ro) (E1.trans L1.base E2) (E2.rep L1 rv)
def EF:fU:=λs Q=>Q [] s
theorem FK{i:Nat}{r:V->List V->Hp->VK->Prop}{C:D->List D->(D->D->Prop)->Prop}(ok:Di X r C){O:St}{H:Hp}{Q:VK}:tE X.K c (JH i C EF) O H Q->FR X.K "list" r (bB i) O H Q:=λz1q=>by
 obtain⟨M,s,as,R,L,⟨k,d0,h1,h2,h3,d1,e1,q1⟩,kk⟩:=z1q
 obtain⟨a,o,g1,g2,g3,g4⟩:=L.slot h1 h2
 obtain⟨xs,rfl⟩:=BQ h3 g4
 refine⟨.ref a,g2,.inl ⟨U,xs,.of g3⟩,?_⟩
 obtain⟨⟨o1,f1,f2⟩,nm,ng,h0⟩:=L.obj k d1 a e1 g1
 refine ok M H a o1 d1 [] [] _ Q f1 f2 U nm q1 λdr d2 hk o' v ro rv=>?_
 have E2:Ext c as M s H M (s.put k d2) (upd H a o'):=Ext.qV e1 g1
 exact kk dr _ hk M _ v (L.qV e1 g1 ro) E2 (E2.rep L rv)
section
variable{o e:Expr}{es:List Expr}{i:Nat}{t:fU}{name:Str}{apos cY:Pos}{id:String}{r:V->List V->Hp->VK->Prop}{C:D->List D->(D->D->Prop)->Prop}
theorem wt(slot:Slot "list" name id)(HB:typeOf (.builtin id)=pure (.type "method_descriptor"))(hm:Mc X id r)(ok:Di X r C)(ho:PE X o (bB i))(ha:DA X c (e::es) t)(jj:attributeBase o name X.env (eval o X.env)=eval o X.env:=by rfl)(wk:((backTo cY (starEach (e::es) X.env)).all (λx=>!x.1)&&(backToKw cY (keywordEach [] X.env)).all (λx=>x.1.isSome)
   && decide ((e::es).length+([]:List Keyword).length+(if ([]:List Keyword).isEmpty then 0 else 1) < 30))=true:=by rfl)(iJ:(apos.endLine == cY.line)=true:=by rfl)(hs:VJ X.env e es:=by rfl)(j8:(backTo cY (starEach es X.env)).any (·.1)=false:=by rfl) :
  DE X c (.Call (.Attribute o name apos) (e::es) [] cY) (JH i C t):=⟨(EV Vv slot HB hm ho ha.pa jj wk iJ hs j8).imp λ_ _ _=>Lp ok⟩
theorem K6(slot:Slot "list" name id)(HB:typeOf (.builtin id)=pure (.type "method_descriptor"))(hm:Mc X id r)(ok:Di X r C)(ho:PE X o (bB i))(jj:attributeBase o name X.env (eval o X.env)=eval o X.env:=by rfl)(iJ:(apos.endLine == cY.line)=true:=by rfl):DE X c (.Call (.Attribute o name apos) [] [] cY) (JH i C EF) :=
 ⟨(BM Vv slot HB hm ho jj iJ).imp λ_ _ _=>FK ok⟩
end
def KG:D->List D->(D->D->Prop)->Prop:=λd ds k=>∃ xs x,d=.lst xs/\ds=[x]/\xs.length < sizeLine/\k .bD (.lst (xs++[x]))
theorem J7:Di X wU KG:=λM H a o d ds vs k Q ha ro rv nm z6r kk=>by
 obtain⟨xs,x,e1,e2,hl,hk⟩:=z6r
 subst e1;subst e2
 cases o with
 | lst ys =>
  have ro:ay X.K H M xs ys:=ro
  obtain⟨v,rfl,rx⟩:=dJ rv
  exact⟨a,ys,v,U,U,ha,by rw[ro.length];exact hl,kk _ _ hk _ _ (show cH X.K H M (.lst _) (.lst _) from ro.append (.one rx)) U⟩
 | _=>exact ro.elim
def NR:D->List D->(D->D->Prop)->Prop:=λd ds k=>∃ xs ys,d=.lst xs/\ds=[.lst ys]/\xs.length+ys.length<=sizeLine/\k .bD (.lst (xs++ys))
theorem EM:Di X xi NR:=λM H a o d ds vs k Q ha ro rv nm z7r kk=>by
 obtain⟨xs,ys,e1,e2,hl,hk⟩:=z7r
 subst e1;subst e2
 cases o with
 | lst us =>
  have ro:ay X.K H M xs us:=ro
  obtain⟨v,rfl,b,zs,rfl,⟨m,hb⟩,rz⟩:=dJ rv
  exact⟨a,b,us,zs,U,U,ha,hb,by rw[ro.length,rz.length];exact hl,kk _ _ hk _ _ (show cH X.K H M (.lst _) (.lst _) from ro.append rz) U⟩
 | _=>exact ro.elim
theorem ay.snoc{K:Frag}{H:Hp}{M:Addr->Prop}:∀ {ds:List D} {x:D} {vs:List V},ay K H M (ds++[x]) vs->∃ us v,vs=us++[v]/\ay K H M ds us/\Rep K H M x v
 | [],x,vs,r=>by
  obtain⟨v,rfl,h⟩:=dJ r
  exact⟨[],v,U,U,h⟩
 | d::ds,x,vs,r=>by
  obtain⟨y,yr,rfl,r1,r2⟩:=r
  obtain⟨us,v,rfl,h1,h2⟩:=ay.snoc (ds:=ds) r2
  exact⟨y::us,v,U,⟨y,us,U,r1,h1⟩,h2⟩
def NP:D->List D->(D->D->Prop)->Prop:=λd ds k=>∃ xs x,d=.lst (xs++[x])/\ds=[]/\k x (.lst xs)
theorem J8:Di X HN NP:=λM H a o d ds vs k Q ha ro rv nm z8r kk=>by
 obtain⟨xs,x,e1,e2,hk⟩:=z8r
 subst e1;subst e2
 cases o with
 | lst us =>
  obtain⟨ws,v,rfl,r1,r2⟩:=ay.snoc (show ay X.K H M (xs++[x]) us from ro)
  have rv:vs=[]:=rv
  subst rv
  refine⟨a,ws++[v],v,U,U,ha,by simp,?_⟩
  rw[List.dropLast_concat]
  exact kk _ _ hk _ _ (show cH X.K H M (.lst _) (.lst _) from r1) r2
 | _=>exact ro.elim
def Fv:D->List D->(D->D->Prop)->Prop:=λd ds k=>∃ xs i j x,d=.lst xs/\ds=[.int i]/\(-(2 ^ 63)<=i/\i < 2 ^ 63)/\seqIndex? i xs.length=some j/\xs[j]?=some x/\k x (.lst (xs.eraseIdx j))
theorem rV:Di X AD Fv:=λM H a o d ds vs k Q ha ro rv nm z2q kk=>by
 obtain⟨xs,i,j,x,e1,e2,⟨h1,h2⟩,h3,h4,hk⟩:=z2q
 subst e1;subst e2
 cases o with
 | lst us =>
  have ro:ay X.K H M xs us:=ro
  obtain⟨v,rfl,e⟩:=dJ rv
  have e:v=.int i:=e
  subst e
  obtain⟨w,g1,g2⟩:=ro.get h4
  exact⟨a,us,i,j,w,U,U,ha,h1,h2,by rw[ro.length];exact h3,g1,kk _ _ hk _ _ (show cH X.K H M (.lst _) (.lst _) from ro.eraseIdx j) g2⟩
 | _=>exact ro.elim
def Gh(i:Nat)(te ti:br):kY:=λR s=>te s λd s1=>∃ k,s1.sl[i]?=some (.own k)/\ti s1 λdi s2=>∃ xs z j,s2.os[k]?=some (some (.lst xs))/\di=.int z/\Bd xs.length z=some j/\R.nx (s2.put k (.lst (xs.set j d)))
theorem Dw{i:Nat}{st:Stmt}{te ti:br}(h:PS X st (jO (tE X.K c te) (KW (bB i) (tE X.K c ti) Fg))):pb X c st (Gh i te ti):=⟨h.imp λE O H zz=>ei zz λM s as R L q kk =>
 ⟨M,s,as,_,L,q,λd s1 z3q M1 H1 v L1 E1 rv=>by
  obtain⟨k,h1,q1⟩:=z3q
  obtain⟨a,g1,g2⟩:=L1.own i k h1
  refine⟨.ref a,g2,M1,s1,as,_,L1,q1,λdi s2 z4q M2 H2 w Lb E2 rw=>?_⟩
  obtain⟨xs,z,j,h2,e,hj,q2⟩:=z4q
  subst e
  obtain⟨⟨o,f1,f2⟩,nm,ng,h0⟩:=Lb.obj k _ a h2 g1
  cases o with
  | lst us =>
   have f2:ay X.K H2 M2 xs us:=f2
   have rw:w=.int z:=rw
   subst rw
   have rv2:=E2.rep L1 rv
   have hG:dW M H M2 (upd H2 a (.lst (us.set j v))):=(E1.grow L).trans ((E2.grow L1).trans ((Ext.qV (c:=c) (M:=M2) (d:=.lst (xs.set j d)) h2 g1).grow Lb))
   exact⟨a,us,z,j,U,U,f1,by rw[f2.length];exact hj,kk.nx _ as M2 O _ q2 (Lb.qV h2 g1 (show cH X.K H2 M2 (.lst _) (.lst _) from f2.set rv2 j)) hG⟩
  | _=>exact f2.elim⟩⟩
def Jh(i:Nat):mJ:=λs Q=>∃ k xs,s.sl[i]?=some (.own k)/\s.os[k]?=some (some (.lst xs))/\Q (!xs.isEmpty) s
theorem iU{α β:Type}{l:List α}{m:List β}(h:l.length=m.length):l.isEmpty=m.isEmpty:=by
 cases l<;>cases m<;>first | rfl | simp at h
theorem Du{i:Nat}{e:Expr}(he:PE X e (bB i))(hw:∀ whole,isTrue e X.env whole=(do let v <- whole;standAt e.pos;holding [v] (truthy v)):=by intro _;rfl):DT X c e (Jh i):=⟨(uh he hw).imp λO H Q z5q=>by
 obtain⟨M,s,as,R,L,⟨k,xs,h1,h2,q⟩,kk⟩:=z5q
 obtain⟨a,o,g1,g2,g3,g4⟩:=L.slot h1 h2
 cases o with
 | lst us =>
  have g4:ay X.K H M xs us:=g4
  refine⟨_,g2,!us.isEmpty,.inl ⟨us,.of g3,U⟩,?_⟩
  rw[iU g4.length]
  exact kk _ s q M H L .refl
 | _=>exact g4.elim⟩
def LL(te:br):mJ:=λs Q=>te s λd s1=>∃ xs,(d=.lst xs\/d=.tup xs)/\Q (!xs.isEmpty) s1
theorem HY{e:Expr}{te:br}(he:DE X c e te)(hw:∀ whole,isTrue e X.env whole=(do let v <- whole;standAt e.pos;holding [v] (truthy v)):=by intro _;rfl):DT X c e (LL te):=⟨(uh he.pe hw).imp λO H Q zz=>ei zz λM s as R L q kk =>
 ⟨M,s,as,_,L,q,λd s1 z9r M1 H1 v L1 E1 rv=>by
  obtain⟨xs,hd,q1⟩:=z9r
  rcases hd with rfl | rfl
  ·obtain⟨p,us,rfl,⟨m,t⟩,r⟩:=rv
   refine⟨!us.isEmpty,.inl ⟨us,.of t,U⟩,?_⟩
   rw[iU r.length]
   exact kk _ s1 q1 M1 H1 L1 E1
  ·obtain⟨p,us,rfl,t,r⟩:=rv
   refine⟨!us.isEmpty,.inr (.inl ⟨us,t.sq,U⟩),?_⟩
   rw[iU r.length]
   exact kk _ s1 q1 M1 H1 L1 E1⟩⟩
def je(k:Nat)(d:D):Sl->Sl
 | .own j=>if j=k then .dat d else .own j
 | x=>x
def DS.freeze(s:DS)(k:Nat)(d:D):DS:=⟨s.sl.map (je k d),s.os.set k none⟩
def Li(i:Nat):br:=λs Q=>∃ k d,s.sl[i]?=some (.own k)/\s.os[k]?=some (some d)/\Q d (s.freeze k d)
theorem Oe{i:Nat}{e:Expr}(h:PE X e (bB i)):DE X c e (Li i):=⟨h.imp λO H Q z6q=>by
 obtain⟨M,s,as,R,L,⟨k,d,h1,h2,q⟩,kk⟩:=z6q
 obtain⟨a,o,g1,g2,g3,g4⟩:=L.slot h1 h2
 obtain⟨_,nm,ng,h0⟩:=L.obj k d a h2 g1
 refine⟨_,g2,?_⟩
 have mk:∀ b u,M b->H b=some u->H b=some u:=λ_ _ _ e=>e
 have ra:Rep X.K H (λb=>M b\/b=a) d (.ref a):=(g4.mono (λ_ m=>.inl m) mk).rep g3 (.inr U)
 have vR:∀ {l:Nat} {e:D},(s.freeze k d).os[l]?=some (some e)->l≠k/\s.os[l]?=some (some e):=λ{l e} h=>by
  rcases dR h with ⟨rfl,hl,q⟩ | ⟨ne,q⟩
  ·cases q
  ·exact⟨λz=>ne z.symm,q⟩
 refine kk d _ q (λb=>M b\/b=a) H (.ref a) ⟨⟨L.base.qv,L.base.fr,λb m=>?_,λb m=>?_,λb m=>.inl (L.base.m0 b m),λb m=>?_⟩,?_,?_,λj e he=>?_,λj l hj=>?_,λl e b e1 e2=>?_,λl m e f b e1 e2 f1 f2=>?_,L.lt⟩ ⟨λ_ m=>.inl m,λb m=>?_,λ_ _ e _ _=>e,λb z7q=>by obtain⟨l,e,e1,e2⟩:=z7q;exact⟨l,e,(vR e1).2,e2⟩⟩ ra
 ·rcases m with m | rfl
  ·exact L.base.md b m
  ·exact⟨o,g3⟩
 ·rcases m with m | rfl
  ·exact L.base.mo b m
  ·exact ng
 ·rcases m with m | rfl
  ·exact L.base.mn b m
  ·exact .inr (.inl h0)
 ·show (s.sl.map _).length=_
  rw[Tr]
  exact L.len
 ·show as.length=(s.os.set k none).length
  rw[Uu]
  exact L.fI
 ·have he:(s.sl.map (je k d))[j]?=some (.dat e):=he
  rw[Us] at he
  obtain⟨x,hx,hy⟩:=Up.mp he
  cases x with
  | no=>cases hy
  | dat y =>
   cases hy
   obtain⟨v,w1,w2⟩:=L.dat j e hx
   exact⟨v,w1,Rep.mono (λ_ m=>.inl m) mk e v w2⟩
  | own l =>
   replace hy:(if l=k then Sl.dat d else Sl.own l)=.dat e:=hy
   by_cases z:l=k
   ·rw[if_pos z] at hy
    cases hy
    subst z
    obtain⟨b,w1,w2⟩:=L.own j l hx
    rw[g1] at w1
    cases w1
    exact⟨_,w2,ra⟩
   ·rw[if_neg z] at hy
    cases hy
 ·have hj:(s.sl.map (je k d))[j]?=some (.own l):=hj
  rw[Us] at hj
  obtain⟨x,hx,hy⟩:=Up.mp hj
  cases x with
  | no=>cases hy
  | dat y=>cases hy
  | own l' =>
   replace hy:(if l'=k then Sl.dat d else Sl.own l')=.own l:=hy
   by_cases z:l'=k
   ·rw[if_pos z] at hy
    cases hy
   ·rw[if_neg z] at hy
    cases hy
    exact L.own j l hx
 ·obtain⟨ne,e1'⟩:=vR e1
  obtain⟨⟨u,w1,w2⟩,w3,w4⟩:=L.obj l e b e1' e2
  refine⟨⟨u,w1,w2.mono (λ_ m=>.inl m) mk⟩,λm=>?_,w4⟩
  rcases m with m | rfl
  ·exact w3 m
  ·exact ne (L.inj l k e d b e1' h2 e2 g1)
 ·exact L.inj l m e f b (vR e1).2 (vR e2).2 f1 f2
 ·rcases m with m | rfl
  ·exact .inl m
  ·exact .inr (.inr ⟨k,d,h2,g1⟩)⟩
def KZ(i:Nat):br:=λs Q=>∃ k xs,s.sl[i]?=some (.own k)/\s.os[k]?=some (some (.lst xs))/\Q (.int xs.length) s
theorem lW{i:Nat}{e:Expr}(h:PE X e (Dv (λxs H Q=>∃ p ys,xs=[.ref p]/\(d5 X.K H p ys\/hV X.K H p ys)/\Q (.int ys.length) H) (jU (bB i) uJ))):DE X c e (KZ i):=⟨h.imp λO H Q z8q=>by
 obtain⟨M,s,as,R,L,⟨k,xs,h1,h2,q⟩,kk⟩:=z8q
 obtain⟨a,o,g1,g2,g3,g4⟩:=L.slot h1 h2
 cases o with
 | lst us =>
  have g4:ay X.K H M xs us:=g4
  refine⟨_,g2,a,us,U,.inl (.of g3),?_⟩
  rw[g4.length]
  exact kk _ s q M H _ L .refl U
 | _=>exact g4.elim⟩
def MW(i:Nat)(ti:br):br:=λs Q=>∃ k,s.sl[i]?=some (.own k)/\ti s λdi s1=>∃ xs z d,s1.os[k]?=some (some (.lst xs))/\di=.int z/\jQ xs z=some d/\Q d s1
theorem KD{i:Nat}{e:Expr}{ti:br}(h:PE X e (jg (FD X.K) (bB i) (tE X.K c ti))):DE X c e (MW i ti):=⟨h.imp λO H Q z9q=>by
 obtain⟨M,s,as,R,L,⟨k,h1,q⟩,kk⟩:=z9q
 obtain⟨a,g1,g2⟩:=L.own i k h1
 refine⟨_,g2,M,s,as,_,L,q,λdi s1 z0q M1 H1 v L1 E1 rv=>?_⟩
 obtain⟨xs,z,d,e1,e2,e3,q1⟩:=z0q
 subst e2
 have rv:v=.int z:=rv
 subst rv
 obtain⟨⟨o,f1,f2⟩,nm,ng,h0⟩:=L1.obj k _ a e1 g1
 cases o with
 | lst us =>
  have f2:ay X.K H1 M1 xs us:=f2
  obtain⟨w,w1,w2⟩:=f2.at e3
  exact⟨a,us,z,w,U,U,.of f1,w1,kk _ s1 q1 M1 H1 w L1 E1 w2⟩
 | _=>exact f2.elim⟩
def Az:D->Option Key
 | .int i=>some (.inl i)
 | .str x=>some (.inr x)
 | _=>none
def l0:List D->Option (List Key)
 | []=>some []
 | d::r=>match Az d,l0 r with
  | some k,some ks=>some (k::ks)
  | _,_=>none
theorem nU{K:Frag}{H:Hp}{M:Addr->Prop}{d:D}{k:Key}{v:V}(h:Az d=some k)(r:Rep K H M d v):v=kV k:=by
 cases d<;>first | (cases h;exact r) | cases h
theorem jv{K:Frag}{H:Hp}{M:Addr->Prop}:∀ {ds:List D} {ks:List Key} {vs:List V},l0 ds=some ks->ay K H M ds vs->vs=ks.map kV
 | [],ks,vs,h,r=>by
  cases h
  exact r
 | d::ds,ks,vs,h,r=>by
  obtain⟨x,xr,rfl,r1,r2⟩:=r
  unfold l0 at h
  cases e1:Az d with
  | none=>rw[e1] at h;cases h
  | some k =>
   cases e2:l0 ds with
   | none=>rw[e1,e2] at h;cases h
   | some l =>
    rw[e1,e2] at h
    cases h
    rw[nU e1 r1,jv e2 r2,TC]
section
variable{κ:Type}[DecidableEq κ]
def cp:List κ->List D->κ->Option D
 | k::ks,d::ds,q=>if k=q then some d else cp ks ds q
 | _,_,_=>none
def o6(ks:List κ)(q:κ):Bool:=ks.any λk=>decide (k=q)
def mI:List κ->List D->κ->D->List D
 | k::ks,d::ds,q,x=>(if k=q then x else d)::mI ks ds q x
 | _,_,_,_=>[]
def dY(ks:List κ)(q:κ):List κ:=if o6 ks q=true then ks else ks++[q]
def dC(ks:List κ)(vs:List D)(q:κ)(x:D):List D:=if o6 ks q=true then mI ks vs q x else vs++[x]
variable{K:Frag}{H:Hp}{M:Addr->Prop}
theorem rN{q:κ}:∀ {kvs:List (κ×V)} {ks:List κ} {vs:List D},kvs.map (·.1)=ks->ay K H M vs (kvs.map (·.2))->(il kvs q=none/\cp ks vs q=none)\/∃ v d,il kvs q=some v/\cp ks vs q=some d/\Rep K H M d v
 | [],ks,vs,h,r=>by
  subst h
  exact .inl ⟨U,by cases vs<;>rfl⟩
 | p::kvs,ks,vs,h,r=>by
  subst h
  cases vs with
  | nil=>exact absurd (show (p::kvs).map (·.2)=[] from r) (by simp)
  | cons d ds =>
   obtain⟨x,xr,e,r1,r2⟩:=r
   rw[TC] at e
   cases e
   by_cases z:p.1=q
   ·refine .inr ⟨p.2,d,gc z,?_,r1⟩
    show (if p.1=q then some d else _)=_
    rw[if_pos z]
   ·rw[dI z]
    have e2:cp (((p::kvs).map (·.1))) (d::ds) q=cp (kvs.map (·.1)) ds q:=by
     show (if p.1=q then some d else _)=_
     rw[if_neg z]
    rw[e2]
    exact rN U r2
theorem has_any{q:κ}:∀ {kvs:List (κ×V)},(kvs.any λkv=>decide (kv.1=q))=o6 (kvs.map (·.1)) q
 | []=>rfl
 | p::kvs=>by
  unfold o6
  rw[Uz,TC,Uz,has_any (kvs:=kvs)]
  rfl
theorem v7{q:κ}{x:D}{y:V}(ry:Rep K H M x y){kvs:List (κ×V)}{vs:List D}(r:ay K H M vs (kvs.map (·.2))):(putK kvs q y).map (·.1)=dY (kvs.map (·.1)) q/\ay K H M (dC (kvs.map (·.1)) vs q x) ((putK kvs q y).map (·.2)):=by
 unfold putK dY dC
 rw[has_any]
 by_cases h:o6 (kvs.map (·.1)) q=true
 ·rw[if_pos h,if_pos h,if_pos h]
  clear h
  refine⟨?_,?_⟩
  ·rw[T9]
   refine U4 λp _=>?_
   show (if p.1=q then (p.1,y) else p).1=p.1
   split<;>rfl
  ·induction kvs generalizing vs with
   | nil =>
    cases vs with
    | nil=>rfl
    | cons d ds =>
     obtain⟨_,_,e,_⟩:=r
     cases e
   | cons p kvs ih =>
    cases vs with
    | nil=>exact absurd (show (p::kvs).map (·.2)=[] from r) (by simp)
    | cons d ds =>
     obtain⟨v,vr,e,r1,r2⟩:=r
     rw[TC] at e
     cases e
     refine⟨_,_,U,?_,ih r2⟩
     show Rep K H M (if p.1=q then x else d) (if p.1=q then (p.1,y) else p).2
     by_cases z:p.1=q
     ·rw[if_pos z,if_pos z]
      exact ry
     ·rw[if_neg z,if_neg z]
      exact r1
 ·rw[if_neg h,if_neg h,if_neg h]
  rw[Tx,Tx]
  exact⟨U,r.append (.one ry)⟩
end
def tU(d dy:D)(k:Option D->Prop):Prop:=(∃ ks vs q,d=.qX ks vs/\Az dy=some q/\k (cp ks vs q))\/∃ ks vs ts q,d=.kq ks vs/\dy=.tup ts/\l0 ts=some q/\k (cp ks vs q)
def JS(d dy x:D)(k:D->Prop):Prop:=(∃ ks vs q,d=.qX ks vs/\Az dy=some q/\ks.length < sizeLine/\k (.qX (dY ks q) (dC ks vs q x)))\/∃ ks vs ts q,d=.kq ks vs/\dy=.tup ts/\l0 ts=some q/\ks.length < sizeLine/\k (.kq (dY ks q) (dC ks vs q x))
theorem qY{H:Hp}{M:Addr->Prop}{d dy:D}{k:Option D->Prop}{a:Addr}{o:HO}{y:V}(h:tU d dy k)(ha:H a=some o)(ro:cH X.K H M d o)(ry:Rep X.K H M dy y):∃ ov od,gX H a y ov/\k od/\((ov=none/\od=none)\/∃ v e,ov=some v/\od=some e/\Rep X.K H M e v):=by
 rcases h with ⟨ks,vs,q,rfl,hq,hk⟩ | ⟨ks,vs,ts,q,rfl,rfl,hq,hk⟩
 ·cases o with
  | dK kvs =>
   obtain⟨e,r⟩:=(show kvs.map (·.1)=ks/\ay X.K H M vs (kvs.map (·.2)) from ro)
   have ey:=nU hq ry
   subst ey
   refine⟨_,_,gX.k ha,hk,?_⟩
   rcases rN (q:=q) e r with ⟨h1,h2⟩ | ⟨v,x,h1,h2,h3⟩
   ·exact .inl ⟨h1,h2⟩
   ·exact .inr ⟨v,x,h1,h2,h3⟩
  | _=>exact ro.elim
 ·cases o with
  | dT kvs =>
   obtain⟨e,r⟩:=(show kvs.map (·.1)=ks/\ay X.K H M vs (kvs.map (·.2)) from ro)
   obtain⟨b,xs,rfl,⟨m,hb⟩,rx⟩:=ry
   have ex:=jv hq rx
   subst ex
   refine⟨_,_,gX.t ha hb,hk,?_⟩
   rcases rN (q:=q) e r with ⟨h1,h2⟩ | ⟨v,x,h1,h2,h3⟩
   ·exact .inl ⟨h1,h2⟩
   ·exact .inr ⟨v,x,h1,h2,h3⟩
  | _=>exact ro.elim
theorem CI{H:Hp}{M:Addr->Prop}{d dy x:D}{k:D->Prop}{a:Addr}{o:HO}{y z:V}(h:JS d dy x k)(ha:H a=some o)(ro:cH X.K H M d o)(ry:Rep X.K H M dy y)(rz:Rep X.K H M x z):∃ d2 o2,lQ H a y z (upd H a o2)/\k d2/\cH X.K H M d2 o2:=by
 rcases h with ⟨ks,vs,q,rfl,hq,hl,hk⟩ | ⟨ks,vs,ts,q,rfl,rfl,hq,hl,hk⟩
 ·cases o with
  | dK kvs =>
   obtain⟨e,r⟩:=(show kvs.map (·.1)=ks/\ay X.K H M vs (kvs.map (·.2)) from ro)
   subst e
   have ey:=nU hq ry
   subst ey
   exact⟨_,_,lQ.k ha (by simpa using hl),hk,(show cH X.K H M (.qX _ _) (.dK _) from v7 rz r)⟩
  | _=>exact ro.elim
 ·cases o with
  | dT kvs =>
   obtain⟨e,r⟩:=(show kvs.map (·.1)=ks/\ay X.K H M vs (kvs.map (·.2)) from ro)
   subst e
   obtain⟨b,xs,rfl,⟨m,hb⟩,rx⟩:=ry
   have ex:=jv hq rx
   subst ex
   exact⟨_,_,lQ.t ha hb (by simpa using hl),hk,(show cH X.K H M (.kq _ _) (.dT _) from v7 rz r)⟩
  | _=>exact ro.elim
theorem GP{H:Hp}{M:Addr->Prop}{d:D}{o:HO}{a:Addr}(hd:qW d=true)(ha:H a=some o)(ro:cH X.K H M d o):NU H a:=by
 cases d<;>first | (cases hd;done) | (cases o<;>first | exact .inl ⟨_,.inl ha⟩ | exact .inr ⟨_,.inl ha⟩ | exact ro.elim)
def G7(i:Nat)(ty tv:br):kY:=λR s=>tv s λd s1=>∃ k,s1.sl[i]?=some (.own k)/\ty s1 λdy s2=>∃ d1,s2.os[k]?=some (some d1)/\JS d1 dy d λd2=>R.nx (s2.put k d2)
theorem qT{i:Nat}{st:Stmt}{ty tv:br}(h:PS X st (tK (bB i) (tE X.K c ty) (tE X.K c tv))):pb X c st (G7 i ty tv):=⟨h.imp λE O H zz=>ei zz λM s as R L q kk =>
 ⟨M,s,as,_,L,q,λd s1 z0r M1 H1 v L1 E1 rv=>by
  obtain⟨k,h1,q1⟩:=z0r
  obtain⟨a,g1,g2⟩:=L1.own i k h1
  refine⟨.ref a,g2,M1,s1,as,_,L1,q1,λdy s2 ⟨d1,h2,q2⟩ M2 H2 w Lb E2 rw=>?_⟩
  obtain⟨⟨o,f1,f2⟩,nm,ng,h0⟩:=Lb.obj k _ a h2 g1
  obtain⟨d2,o2,p1,p2,p3⟩:=CI q2 f1 f2 rw (E2.rep L1 rv)
  exact⟨a,_,U,p1,kk.nx _ as M2 O _ p2 (Lb.qV h2 g1 p3) ((E1.grow L).trans ((E2.grow L1).trans ((Ext.qV (c:=c) (M:=M2) (d:=d2) h2 g1).grow Lb)))⟩⟩⟩
theorem Rep.dc{K:Frag}{H:Hp}{M:Addr->Prop}{d:D}{v:V}(h:qW d=true)(r:Rep K H M d v):∃ a o,v=.ref a/\H a=some o/\cH K H M d o:=by
 cases d<;>first | (cases h;done) | (obtain⟨a,kvs,e,⟨m,ha⟩,h1,h2⟩:=r;exact⟨a,_,e,ha,h1,h2⟩)
def Fh(td ty:br):br:=λs Q=>td s λd s1=>ty s1 λdy s2=>qW d=true/\tU d dy λod=>∃ x,od=some x/\Q x s2
theorem dw{e:Expr}{td ty:br}(h:PE X e (lj (tE X.K c td) (tE X.K c ty))):DE X c e (Fh td ty):=⟨h.imp λO H Q zz=>ei zz λM s as R L q kk =>
 ⟨M,s,as,_,L,q,λd s1 q1 M1 H1 v L1 E1 rv=>⟨M1,s1,as,_,L1,q1,λdy s2 z1r M2 H2 y Lb E2 ry=>by
  obtain⟨hd,q2⟩:=z1r
  obtain⟨a,o,rfl,f1,f2⟩:=(E2.rep L1 rv).dc hd
  obtain⟨ov,od,w1,⟨x,e2,w2⟩,w3⟩:=qY q2 f1 f2 ry
  subst e2
  rcases w3 with ⟨rfl,z⟩ | ⟨v,x,rfl,z,rx⟩
  ·cases z
  ·cases z
   exact⟨a,v,U,w1,kk _ s2 w2 M2 H2 v Lb (E1.trans L1.base E2) rx⟩⟩⟩⟩
def EZ(neg:Bool)(ty td:br):br:=λs Q=>ty s λdy s1=>td s1 λd s2=>qW d=true/\tU d dy λod=>Q (.bl (if neg then !od.isSome else od.isSome)) s2
def Gu:br:=λs Q=>Q (.kq [] []) s
theorem wM{pos:Pos}:DN X c (.Dict [] [] pos) Gu:=⟨Ax.imp λO H Q zz=>ei zz λM s as R L q k=>λp hp=>jk (d:=.kq [] []) L L .refl hp (show cH X.K H M (.kq [] []) (.dT []) from ⟨U,U⟩) (k _ s q)⟩
end
end DL
namespace HZ
open PySem Sem
open PySem.AutoSeq1 (wpAny_loadPart')
section
variable{prog:Program}{w:World}{A:Around}{E:VG}{s:Shared}
theorem kR{it t:Addr}{i:Nat}{items:Array Value}{x:Value}{Q:VG}(hit:s.heap.IsTupleIter it t i)(ht:s.heap.IsTuple t items)(hx:items[i]?=some x)(hQ:∀ h',h'.IsTupleIter it t (i+1)->Heap.SameBut it s.heap h'->Q x { s with heap:=h' }) :
  wpAny (model prog w) A (Builtin.SmallTypes.nextOf (.ref it)) Q E s:=by
 obtain⟨o,ho,hc,hd⟩:=id hit
 obtain⟨ol,hol,_,nl,hdl⟩:=ht
 unfold Builtin.SmallTypes.nextOf
 refine wpAny_bind (wpAny_callSpecial?_slot (name:=Str.ofString "__next__") hit.typeIs F.slot_tuple_iterator_next
  (wpAny_call_entry F.slot_tuple_iterator_next hit.typeIs F.entry_tuple_iterator_next ?_ (F.args_tuple_iterator_next_1 _)))
 show wpAny _ _ (field (.ref it) 0 >>= _) _ _ s
 refine wpAny_bind (wpAny_field ho hd (x:=.ref t) U ?_)
 show wpAny _ _ (if (Value.ref t == Value.none)=true then _ else _) _ _ s
 rw[if_neg (show ¬ ((Value.ref t == Value.none)=true) from TF)]
 show wpAny _ _ (field (.ref it) 1 >>= _) _ _ s
 refine wpAny_bind (wpAny_field ho hd (x:=.int i 0) U ?_)
 show wpAny _ _ (seqItems? (.ref t) >>= _) _ _ s
 refine wpAny_bind (wpAny_seqItems hol hdl ?_)
 simp only[Int.toNat_natCast,hx]
 refine wpAny_bind (wpAny_setField ho hd (by simp) (wpAny_pure ⟨x,U,wpAny_pure (hQ _ ?_ (Heap.SameBut.update ..))⟩))
 exact⟨_,Ul _ ho (Obj.isFreed_of_fields (Obj.data_mapFields hd _)),(Obj.cls_mapFields ..).trans hc,by
  rw[Obj.data_mapFields hd];simp[rawInt]⟩
theorem eV{it t:Addr}{i:Nat}{items:Array Value}{Q:VG}(hh:A.handled=none)(hit:s.heap.IsTupleIter it t i)(ht:s.heap.IsTuple t items)(hx:items[i]?=none)(hE:∀ h' e,Heap.ExtBut it s.heap h'->(∃ o,h'.get? e=some o/\o.cls=.type "StopIteration")->E (.ref e) { s with heap:=h' }) :
  wpAny (model prog w) A (Builtin.SmallTypes.nextOf (.ref it)) Q E s:=by
 obtain⟨o,ho,hc,hd⟩:=id hit
 obtain⟨ol,hol,_,nl,hdl⟩:=ht
 unfold Builtin.SmallTypes.nextOf
 refine wpAny_bind (wpAny_callSpecial?_slot (name:=Str.ofString "__next__") hit.typeIs F.slot_tuple_iterator_next
  (wpAny_call_entry F.slot_tuple_iterator_next hit.typeIs F.entry_tuple_iterator_next ?_ (F.args_tuple_iterator_next_1 _)))
 show wpAny _ _ (field (.ref it) 0 >>= _) _ _ s
 refine wpAny_bind (wpAny_field ho hd (x:=.ref t) U ?_)
 show wpAny _ _ (if (Value.ref t == Value.none)=true then _ else _) _ _ s
 rw[if_neg (show ¬ ((Value.ref t == Value.none)=true) from TF)]
 show wpAny _ _ (field (.ref it) 1 >>= _) _ _ s
 refine wpAny_bind (wpAny_field ho hd (x:=.int i 0) U ?_)
 show wpAny _ _ (seqItems? (.ref t) >>= _) _ _ s
 refine wpAny_bind (wpAny_seqItems hol hdl ?_)
 simp only[Int.toNat_natCast,hx]
 refine wpAny_bind (wpAny_rule (wpAny_bind (wpAny_setField ho hd (by simp) ?_)))
 show wpAny _ _ (newExc (.type "StopIteration") [] >>= _) _ _ _
 refine wpAny_bind ?_
 simp only[newExc,newTuple]
 refine wpAny_bind (wpAny_newObj_type ?_ (by size_fits))
 refine wpAny_bind (m:=firstArgMember _ _) (wpAny_of_eq (a:=Value.none) (by first | rfl | (simp only[firstArgMember];rfl)) ?_)
 refine wpAny_newObj_type ?_ (by size_fits)
 simp only[raiseNew]
 refine wpAny_bind (wpAny_handled ?_)
 first | rw[show A.in1.handled=none from hh] | rw[hh]
 refine wpAny_bind (wpAny_pure (wpAny_throw ?_))
 exact hE _ _ (((Heap.SameBut.update ..).extBut.push _).push _) ⟨_,TK _ U,U⟩
theorem z7(hh:A.handled=none)(it l:Addr)(va:l≠it)(items:Array Value) :
  Draws prog w A it [it,l] items.size (λi v=>items[i]?=some v) (λi h=>h.IsTupleIter it l i/\h.IsTuple l items) where
 live:=λ_ _ st=>let ⟨o,ho,_⟩:=st.1;⟨o,ho⟩
 frame:=λ_ _ _ st hk=>⟨st.1.at λo e=>hk it (by simp) o e,let ⟨o,e,r⟩:=st.2;⟨o,hk l (by simp) o e,r⟩⟩
 item:=λi s Q E hi st hQ=>by
  refine kR st.1 st.2 (x:=items[i]) (by simp[hi]) λh' hit' Eu=>?_
  exact hQ _ h' s.toks (by simp[hi]) ⟨hit',let ⟨o,e,r⟩:=st.2;⟨o,Eu.extBut l o va e,r⟩⟩ Eu
 done:=λs Q E st hE=>eV hh st.1 st.2 (by simp) hE
end
end HZ
namespace L2
open PySem PySem.Spec
open PyProof.Rows hiding St
def xb(K:Frag)(tup:Bool)(H:Hp)(a:Addr)(xs:List V):Prop:=if tup=true then hV K H a xs else d5 K H a xs
section
variable{P:Program}{w:World}{K:Frag}
theorem xt{X:Cx}{pins:VH}{O:St}{H:Hp}{s:Shared}{a:Addr}{tup:Bool}{xs ys:List V}(I:Inv X pins O H s)(h:xb X.K tup H a xs)(h':xb X.K tup H a ys):ys=xs:=by
 cases tup with
 | true=>exact I.lM (show hV X.K H a ys from h') h
 | false=>exact I.tP (show d5 X.K H a ys from h') h
theorem Inv.sj{X:Cx}{pins:VH}{O:St}{H:Hp}{s:Shared}{h':Heap}{t':Nat}{fp:List Addr}{a:Addr}{o:HO}(I:Inv X pins O H s)(k:∀ b u,b∉fp->s.heap.get? b=some u->h'.get? b=some u)(hf:∀ b∈fp,fz X pins H b)(hp:s.heap.objs.size<=a)(new:cf X.prog X.w (upd H a o) h' a o):Inv X pins O (upd H a o) { s with heap:=h',toks:=t' }:=by
 have hn:H a=none:=I.aL.fresh hp
 have nit:∀ b u,H b=some u->b∉fp:=λb u e z=>by rw[(hf b z).1] at e;cases e
 have up:∀ b u,H b=some u->upd H a o b=some u:=λb u e=>by rw[aj (aC e hn)];exact e
 refine I.step (g':=s.gens) (d':=s.drawn) (ch:=fp) (λb hb=>?_) (λb ob _ _ hc e _=>k b ob hc e) (λb ob _ _ hc e _=>⟨ob.slots,k b ob hc e⟩) (λb ob _ e n=>?_)
  (λb ob hc e=>⟨ob,k b ob hc e⟩) (λb xs e=>up b _ e) (λb ob u e=>up b _ e) (λb ps e=>⟨#[],by rw[up b _ e];simp⟩) (λm hm=>?_) (λb u e=>?_) I.bare
 ·obtain⟨f0,f1,f2,f3,f4,f5⟩:=hf b hb
  exact⟨f3,f1,f4,f5⟩
 ·rw[aj (TQ (TN (Tz e) hp))]
  exact n
 ·obtain⟨ob,es,ep,ho,r⟩:=hm
  exact⟨ob,es,ep,k _ ob (λz=>(hf _ z).2.1 U) ho,r⟩
 ·by_cases hb:b=a
  ·subst hb
   rw[au] at e
   cases e
   exact new
  ·rw[aj hb] at e
   refine (I.aL b u e).pz (λq v hq w=>k q v ?_ w) (λq w=>up q _ w) λq _ w=>up q _ w
   rcases hq with z | z
   ·rw[z];exact nit b u e
   ·exact nit q _ z
theorem Inv.jz{X:Cx}{pins:VH}{O:St}{H:Hp}{s:Shared}{h':Heap}{t':Nat}{fp:List Addr}(I:Inv X pins O H s)(k:∀ b u,b∉fp->s.heap.get? b=some u->h'.get? b=some u)(hf:∀ b∈fp,fz X pins H b) :
  Inv X pins O H { s with heap:=h',toks:=t' }:=by
 have nit:∀ b u,H b=some u->b∉fp:=λb u e z=>by rw[(hf b z).1] at e;cases e
 refine I.step (g':=s.gens) (d':=s.drawn) (ch:=fp) (λb hb=>?_) (λb ob _ _ hc e _=>k b ob hc e) (λb ob _ _ hc e _=>⟨ob.slots,k b ob hc e⟩) (λb ob _ e n=>n)
  (λb ob hc e=>⟨ob,k b ob hc e⟩) (λb xs e=>e) (λb ob u e=>e) (λb ps e=>⟨#[],by rw[e];simp⟩) (λm hm=>?_) (λb u e=>?_) I.bare
 ·obtain⟨f0,f1,f2,f3,f4,f5⟩:=hf b hb
  exact⟨f3,f1,f4,f5⟩
 ·obtain⟨ob,es,ep,ho,r⟩:=hm
  exact⟨ob,es,ep,k _ ob (λz=>(hf _ z).2.1 U) ho,r⟩
 ·refine (I.aL b u e).pz (λq v hq w=>k q v ?_ w) (λq w=>w) λq _ w=>w
  rcases hq with z | z
  ·rw[z];exact nit b u e
  ·exact nit q _ z
def ie(tup:Bool)(h:Heap)(it a:Addr)(i:Nat):Prop:=if tup=true then h.IsTupleIter it a i else h.IsListIter it a i
theorem ie.at{tup:Bool}{h h':Heap}{it a:Addr}{i:Nat}(x:ie tup h it a i)(k:∀ o,h.get? it=some o->h'.get? it=some o):ie tup h' it a i:=by
 cases tup with
 | true=>exact Heap.IsTupleIter.at (show h.IsTupleIter it a i from x) k
 | false=>exact Heap.IsListIter.at (show h.IsListIter it a i from x) k
theorem ie.obj{tup:Bool}{h:Heap}{it a:Addr}{i:Nat}(x:ie tup h it a i):∃ o,h.get? it=some o/\∀ v,o.data≠.cell v:=by
 cases tup with
 | true =>
  obtain⟨o,e,c,d⟩:=(show h.IsTupleIter it a i from x)
  exact⟨o,e,λv z=>by rw[d] at z;cases z⟩
 | false =>
  obtain⟨o,e,c,d⟩:=(show h.IsListIter it a i from x)
  exact⟨o,e,λv z=>by rw[d] at z;cases z⟩
section
variable{X:Cx}
end
end
end L2
namespace DL
open PySem PySem.Spec L2
open PyProof.Rows hiding St
section
variable{X:Cx}{c:Ent}
end
mutual
def toP:D->PyData
 | .bD=>.none
 | .bl b=>.bool b
 | .int i=>.int i
 | .str x=>.str x
 | .tup ds=>.tuple (toPs ds)
 | .lst ds=>.list (toPs ds)
 | .eW _=>.none
 | .ty _=>.none
 | .qX _ _=>.none
 | .kq _ _=>.none
def toPs:List D->List PyData
 | []=>[]
 | d::ds=>toP d::toPs ds
end
mutual
def dz:D->Bool
 | .bD=>true
 | .bl _=>true
 | .int _=>true
 | .str x=>PyData.strOk x
 | .tup ds=>eJ ds
 | .lst ds=>eJ ds
 | .eW _=>false
 | .ty _=>false
 | .qX _ _=>false
 | .kq _ _=>false
def eJ:List D->Bool
 | []=>true
 | d::ds=>dz d&&eJ ds
end
mutual
theorem iH:∀ d:D,dz d=true->(toP d).canLay0=true
 | .bD,_=>rfl
 | .bl _,_=>rfl
 | .int _,_=>rfl
 | .str x,h=>by
  show PyData.canLay0 (.str x)=true
  simpa [PyData.canLay0,dz] using h
 | .tup ds,h=>by
  show PyData.canLay0 (.tuple (toPs ds))=true
  simpa [PyData.canLay0] using rT ds h
 | .lst ds,h=>by
  show PyData.canLay0 (.list (toPs ds))=true
  simpa [PyData.canLay0] using rT ds h
 | .eW _,h=>by cases h
 | .ty _,h=>by cases h
 | .qX _ _,h=>by cases h
 | .kq _ _,h=>by cases h
theorem rT:∀ ds:List D,eJ ds=true->PyData.canLayAll0 (toPs ds)=true
 | [],_=>rfl
 | d::ds,h=>by
  have h:(dz d&&eJ ds)=true:=h
  rw[T8] at h
  show PyData.canLayAll0 (toP d::toPs ds)=true
  simp[PyData.canLayAll0,iH d h.1,rT ds h.2]
end
section
variable{X:Cx}{pins:VH}{O:St}{H:Hp}{s:Shared}{M:Addr->Prop}
mutual
theorem el(I:Inv X pins O H s):∀ (d:D) (v:V) (u:Value),dz d=true->Rep X.K H M d v->RelV v u->∃ as,Reads s.heap u (toP d) as
 | .bD,v,u,_,r,q=>by
  have r:v=.bD:=r
  subst r
  cases (show u=Value.none from q)
  exact⟨_,.none⟩
 | .bl b,v,u,_,r,q=>by
  have r:v=.bl b:=r
  subst r
  cases (show u=Value.bool b from q)
  exact⟨_,.bool b⟩
 | .int i,v,u,_,r,q=>by
  have r:v=.int i:=r
  subst r
  obtain⟨t,rfl⟩:=(show ∃ t,u=Value.int i t from q)
  exact⟨_,.int i t⟩
 | .str x,v,u,_,r,q=>by
  have r:v=.str x:=r
  subst r
  obtain⟨t,rfl⟩:=(show ∃ t,u=Value.str x t from q)
  exact⟨_,.str x t⟩
 | .tup ds,v,u,h,r,q=>by
  obtain⟨a,xs,rfl,⟨m,ha⟩,r⟩:=r
  cases (show u=Value.ref a from q)
  obtain⟨_,its,rv,o,e,hc,n,hd⟩:=I.aL a _ ha
  obtain⟨as,hr⟩:=lK I ds xs its h r rv
  exact⟨_,.tuple e hc hd (by simpa using hr)⟩
 | .lst ds,v,u,h,r,q=>by
  obtain⟨a,xs,rfl,⟨m,ha⟩,r⟩:=r
  cases (show u=Value.ref a from q)
  obtain⟨_,its,n,rv,e⟩:=I.aL a _ ha
  obtain⟨as,hr⟩:=lK I ds xs its h r rv
  exact⟨_,.list e U U (by simpa using hr)⟩
 | .eW _,v,u,h,r,q=>by cases h
 | .ty _,v,u,h,r,q=>by cases h
 | .qX _ _,v,u,h,r,q=>by cases h
 | .kq _ _,v,u,h,r,q=>by cases h
theorem lK(I:Inv X pins O H s):∀ (ds:List D) (vs:List V) (us:List Value),eJ ds=true->ay X.K H M ds vs->Vals vs us->∃ as,ReadsAll s.heap us (toPs ds) as
 | [],vs,us,_,r,q=>by
  have r:vs=[]:=r
  subst r
  cases q
  exact⟨_,.nil⟩
 | d::ds,vs,us,h,r,q=>by
  have h:(dz d&&eJ ds)=true:=h
  rw[T8] at h
  obtain⟨x,xr,rfl,r1,r2⟩:=r
  cases q with
  | cons q1 q2 =>
   obtain⟨as,h1⟩:=el I d x _ h.1 r1 q1
   obtain⟨bs,h2⟩:=lK I ds xr _ h.2 r2 q2
   exact⟨_,.cons h1 h2⟩
end
end
def yb(a b:D):Bool:=PyData.eqv (toP a) (toP b)
def cj(d:D):Nat:=(toP d).depth
section
variable{X:Cx}{c:Ent}
def Bj(K:Frag)(neg:Bool):R2:=λx y H Q=>∃ M dx dy,Rep K H M dx x/\Rep K H M dy y/\dz dx=true/\dz dy=true/\(cj dx<=150\/cj dy<=150)/\Q (.bl (if neg then !yb dx dy else yb dx dy)) H
theorem pK{m n u:Nat}(h:m<=150\/n<=150)(hu:u+150 < cLine):u+min m n < cLine:=by
 have:min m n<=150:=by omega
 omega
theorem oK(hu:X.A.units+150 < cLine):iV X (compareOp .Eq) (Bj X.K false):=by
 intro pins s O H x y v u Q I rx ry h
 obtain⟨M,dx,dy,r1,r2,o1,o2,hd,q⟩:=h
 obtain⟨as,h1⟩:=el I dx x v o1 r1 rx
 obtain⟨bs,h2⟩:=el I dy y u o2 r2 ry
 exact SeqAt.compareEq_reads h1 h2 (iH dx o1) (iH dy o2) (pK hd hu) ⟨.bl _,H,I,U,q⟩
theorem FN(hu:X.A.units+150 < cLine):iV X (compareOp .NotEq) (Bj X.K true):=by
 intro pins s O H x y v u Q I rx ry h
 obtain⟨M,dx,dy,r1,r2,o1,o2,hd,q⟩:=h
 obtain⟨as,h1⟩:=el I dx x v o1 r1 rx
 obtain⟨bs,h2⟩:=el I dy y u o2 r2 ry
 exact SeqAt.compareNe_reads h1 h2 (iH dx o1) (iH dy o2) (pK hd hu) ⟨.bl _,H,I,U,q⟩
def OO(neg:Bool):D->D->(D->Prop)->Prop:=λa b k=>(dz a=true/\dz b=true/\(cj a<=150\/cj b<=150))/\k (.bl (if neg then !yb a b else yb a b))
theorem ud{neg:Bool}:pf X c (Bj X.K neg) (OO neg):=λM s as O H x y dx dy k Q L rx ry ⟨⟨o1,o2,hd⟩,hk⟩ kk=>⟨M,dx,dy,rx,ry,o1,o2,hd,kk _ hk M H _ L .refl U⟩
mutual
theorem eqv_refl:∀ d:D,PyData.eqv (toP d) (toP d)=true
 | .bD=>rfl
 | .bl b=>by show PyData.eqv (.bool b) (.bool b)=true;simp[PyData.eqv]
 | .int i=>by show PyData.eqv (.int i) (.int i)=true;simp[PyData.eqv]
 | .str x=>by show PyData.eqv (.str x) (.str x)=true;simp[PyData.eqv]
 | .tup ds=>by show PyData.eqv (.tuple (toPs ds)) (.tuple (toPs ds))=true;simpa [PyData.eqv] using lB ds
 | .lst ds=>by show PyData.eqv (.list (toPs ds)) (.list (toPs ds))=true;simpa [PyData.eqv] using lB ds
 | .eW _=>rfl
 | .ty _=>rfl
 | .qX _ _=>rfl
 | .kq _ _=>rfl
theorem lB:∀ ds:List D,PyData.eqvAll (toPs ds) (toPs ds)=true
 | []=>rfl
 | d::ds=>by show PyData.eqvAll (toP d::toPs ds) (toP d::toPs ds)=true;simp[PyData.eqvAll,eqv_refl d,lB ds]
end
theorem nQ(d:D):yb d d=true:=eqv_refl d
def GH:D->String->Option Bool
 | .int _,T=>if T="int" then some true else if T="bool"\/T="str"\/T="list"\/T="tuple" then some false else none
 | .bl _,T=>if T="int"\/T="bool" then some true else if T="str"\/T="list"\/T="tuple" then some false else none
 | .str _,T=>if T="str" then some true else if T="bool"\/T="int"\/T="list"\/T="tuple" then some false else none
 | .tup _,T=>if T="tuple" then some true else if T="bool"\/T="int"\/T="list"\/T="str" then some false else none
 | .lst _,T=>if T="list" then some true else if T="bool"\/T="int"\/T="tuple"\/T="str" then some false else none
 | _,_=>none
def Ka(K:Frag):List V->Hp->VK->Prop:=λxs H Q=>∃ M d v T b,xs=[v,.ty T]/\Rep K H M d v/\GH d T=some b/\Q (.bl b) H
theorem zK:fq X (.builtin "isinstance") (Ka X.K):=by
 intro pins s O H xs us Q I r h
 obtain⟨M,d,v,T,b,rfl,rd,hb,q⟩:=h
 obtain⟨u,t,rfl,ru,rt⟩:=r.two
 cases (show t=Value.type T from rt)
 have fin:∀ n,EP X pins O Q (.bool b) { s with toks:=n }:=λn=>⟨.bl b,H,I.tok n,U,q⟩
 have fin0:EP X pins O Q (.bool b) s:=⟨.bl b,H,I,U,q⟩
 cases d with
 | int i =>
  cases (show v=.int i from rd)
  obtain⟨t,rfl⟩:=ru
  replace hb:(if T="int" then some true else if T="bool"\/T="str"\/T="list"\/T="tuple" then some false else none)=some b:=hb
  split at hb
  ·rename_i e;subst e;cases hb;exact IsiPair.int_int fin0
  ·split at hb
   ·rename_i e
    cases hb
    rcases e with rfl | rfl | rfl | rfl
    ·exact IsiPair.int_bool (fin _)
    ·exact IsiPair.int_str (fin _)
    ·exact IsiPair.int_list (fin _)
    ·exact IsiPair.int_tuple (fin _)
   ·cases hb
 | bl i =>
  cases (show v=.bl i from rd)
  cases (show u=Value.bool i from ru)
  replace hb:(if T="int"\/T="bool" then some true else if T="str"\/T="list"\/T="tuple" then some false else none)=some b:=hb
  split at hb
  ·rename_i e
   cases hb
   rcases e with rfl | rfl
   ·exact IsiPair.bool_int fin0
   ·exact IsiPair.bool_bool fin0
  ·split at hb
   ·rename_i e
    cases hb
    rcases e with rfl | rfl | rfl
    ·exact IsiPair.bool_str (fin _)
    ·exact IsiPair.bool_list (fin _)
    ·exact IsiPair.bool_tuple (fin _)
   ·cases hb
 | str i =>
  cases (show v=.str i from rd)
  obtain⟨t,rfl⟩:=ru
  replace hb:(if T="str" then some true else if T="bool"\/T="int"\/T="list"\/T="tuple" then some false else none)=some b:=hb
  split at hb
  ·rename_i e;subst e;cases hb;exact IsiPair.str_str fin0
  ·split at hb
   ·rename_i e
    cases hb
    rcases e with rfl | rfl | rfl | rfl
    ·exact IsiPair.str_bool (fin _)
    ·exact IsiPair.str_int (fin _)
    ·exact IsiPair.str_list (fin _)
    ·exact IsiPair.str_tuple (fin _)
   ·cases hb
 | tup ds =>
  obtain⟨a,xs,rfl,⟨m,ha⟩,r⟩:=rd
  cases (show u=Value.ref a from ru)
  obtain⟨_,its,rv,o,e,hc,n,hd⟩:=I.aL a _ ha
  replace hb:(if T="tuple" then some true else if T="bool"\/T="int"\/T="list"\/T="str" then some false else none)=some b:=hb
  split at hb
  ·rename_i e';subst e';cases hb;exact IsiPair.tuple_tuple e hc fin0
  ·split at hb
   ·rename_i e'
    cases hb
    rcases e' with rfl | rfl | rfl | rfl
    ·exact IsiPair.tuple_bool e hc (fin _)
    ·exact IsiPair.tuple_int e hc (fin _)
    ·exact IsiPair.tuple_list e hc (fin _)
    ·exact IsiPair.tuple_str e hc (fin _)
   ·cases hb
 | lst ds =>
  obtain⟨a,xs,rfl,⟨m,ha⟩,r⟩:=rd
  cases (show u=Value.ref a from ru)
  obtain⟨_,its,n,rv,e⟩:=I.aL a _ ha
  replace hb:(if T="list" then some true else if T="bool"\/T="int"\/T="tuple"\/T="str" then some false else none)=some b:=hb
  split at hb
  ·rename_i e';subst e';cases hb;exact IsiPair.list_list e rfl fin0
  ·split at hb
   ·rename_i e'
    cases hb
    rcases e' with rfl | rfl | rfl | rfl
    ·exact IsiPair.list_bool e U (fin _)
    ·exact IsiPair.list_int e U (fin _)
    ·exact IsiPair.list_tuple e U (fin _)
    ·exact IsiPair.list_str e U (fin _)
   ·cases hb
 | _=>simp[GH] at hb
def MU:VI:=λas k=>∃ d T b,as=[d,.ty T]/\GH d T=some b/\k (.bl b)
theorem Kj:Ac X c (Ka X.K) MU:=λM s as O H xs ds k Q L r z2r kk=>by
 obtain⟨d,T,b,e,hb,hk⟩:=z2r
 subst e
 obtain⟨v,w,rfl,r1,r2⟩:=sX r
 have r2:w=.ty T:=r2
 subst r2
 exact⟨M,d,v,T,b,U,r1,hb,kk _ hk M H _ L .refl U⟩
theorem nG(hc:X.calm=true):fq X (.builtin "any") (λxs H Q=>∃ (p:Addr) (bs:List Bool),xs=[.ref p]/\d5 X.K H p (bs.map V.bl)/\Q (.bl (bs.any id)) H):=by
 intro pins s O H xs us Q I r h
 obtain⟨p,bs,rfl,hq,q⟩:=h
 obtain⟨u,rfl,rx⟩:=vals1 r
 cases rx
 obtain⟨its,rv,pl,hz⟩:=I.list hq
 have hp:p < s.heap.objs.size:=by obtain⟨o,_,e,_⟩:=pl;exact Tz e
 have hlen:its.toArray.size=bs.length:=by rw[TV,<- rv.length,Tr]
 refine call_any_walk (wpAny_pyIter_list pl.isList ?_)
 refine⟨s.heap.objs.size,_,_,_,_,_,λi=>bs.getD i false,U,Walks.list (A:=X.A.in1) (I.ok.hd hc) s.heap.objs.size p (TQ hp) its.toArray,⟨⟨_,TK _ U,U,U⟩,pl.isList.push _⟩,?_,?_⟩
 ·intro i v s' Q' E' hv hq'
  have hv':its[i]?=some v:=by simpa using hv
  have hi:i < bs.length:=by
   have:=(Tw.mp hv').1
   rw[TV] at hlen
   omega
  obtain⟨u,hu,ru⟩:=rv.get (i:=i) (x:=V.bl bs[i]) (by simp[hi])
  rw[hv'] at hu
  cases hu
  cases (show v=Value.bool bs[i] from ru)
  have e:bs.getD i false=bs[i]:=by simp[List.getD_eq_getElem?_getD,hi]
  have hq'':Q' (bs.getD i false) s':=hq'
  rw[e] at hq''
  exact wpAny_truthy_bool hq''
 ·intro h' tk kp
  have e:((List.range its.toArray.size).any λi=>bs.getD i false)=bs.any id:=by
   rw[hlen,Vp,VC,VC]
   constructor
   ·rintro⟨i,hi,hb⟩
    have hi:i < bs.length:=Vc.mp hi
    refine⟨bs[i],U3 hi,?_⟩
    simpa [List.getD_eq_getElem?_getD,hi] using hb
   ·rintro⟨b,hb,hi⟩
    obtain⟨i,hl,e⟩:=Ux hb
    refine⟨i,Vc.mpr hl,?_⟩
    simpa [List.getD_eq_getElem?_getD,hl,e] using hi
  have I':Inv X pins O H { s with heap:=h',toks:=tk }:=I.kept (t':=tk) λb o e=>kp b o (by simpa using Nat.ne_of_lt (Heap.lt_size e)) (Heap.get?_push_of_some _ e)
  refine⟨.bl (bs.any id),H,I',?_,q⟩
  show Value.bool _=Value.bool _
  rw[e]
def OH:VI:=λas k=>∃ bs:List Bool,as=[.lst (bs.map .bl)]/\k (.bl (bs.any id))
theorem Kl:Ac X c (λxs H Q=>∃ (p:Addr) (bs:List Bool),xs=[.ref p]/\d5 X.K H p (bs.map V.bl)/\Q (.bl (bs.any id)) H) OH:=λM s as O H xs ds k Q L r z3r kk=>by
 obtain⟨bs,e,hk⟩:=z3r
 subst e
 obtain⟨v,rfl,p,ys,rfl,⟨m,h⟩,r'⟩:=dJ r
 rw[wR r'] at h
 exact⟨p,bs,U,.of h,kk _ hk M H _ L .refl U⟩
end
end DL
namespace HZ
open PySem
section
variable{prog:Program}{w:World}{A:Around}{E:VG}{s:Shared}{T:String}{r d:Addr}{n:Nat}{P:Nat->Value->Prop}{OK:Heap->Prop}
end
end HZ
namespace L2
open PySem PySem.Spec
open PyProof.Rows hiding St
section
variable{X:Cx}
end
end L2
namespace DL
open PySem PySem.Spec L2
open PyProof.Rows hiding St
section
variable{X:Cx}{c:Ent}
end
end DL
namespace DL
open PySem PySem.Spec L2
inductive Fm where
 | nm (x:Str) | num (i:Int) | op (s:Str) | wC | lt (x:Str) | mk (c:Str) | ask (f:Str) | ux (r:Str) (hs:List (Str×List Str)) | new (k:Str) (hs:List (Str×List Str))
inductive Tm where
 | node (f:Fm) (ks:List Tm)
def Tm.kids:Tm->List Tm
 | .node _ ks=>ks
def Fm.ar:Fm->Nat->Bool
 | .nm _,n=>n == 0
 | .num _,n=>n == 0
 | .op _,n=>n == 2
 | .wC,n=>n == 3
 | .lt _,n=>n == 2
 | .mk _,_=>true
 | .ask _,n=>1<=n
 | .ux _ hs,n=>n == hs.length+1&&hs.all λh=>h.2.length<=8
 | .new _ hs,n=>n == hs.length&&hs.all λh=>h.2.length<=8
mutual
def Tm.wf:Tm->Bool
 | .node f ks=>f.ar ks.length&&oM ks
def oM:List Tm->Bool
 | []=>true
 | t::r=>t.wf&&oM r
end
mutual
def Tm.size:Tm->Nat
 | .node _ ks=>cz ks+1
def cz:List Tm->Nat
 | []=>0
 | t::r=>t.size+cz r
end
mutual
def Tm.dep:Tm->Nat
 | .node _ ks=>oo ks+1
def oo:List Tm->Nat
 | []=>0
 | t::r=>max t.dep (oo r)
end
def qg(ns:List Str):List D:=ns.map .str
def vm(h:Str×List Str)(k:D):D:=.tup [.str h.1,.tup (qg h.2),k]
def bA:List (Str×List Str)->List D->List D
 | h::hs,k::ks=>vm h k::bA hs ks
 | _,_=>[]
def Me:Fm->List D->D
 | .nm x,_=>.tup [.str "name",.str x]
 | .num i,_=>.tup [.str "num",.int i]
 | .op s,ks=>.tup (.str "op"::.str s::ks)
 | .wC,ks=>.tup (.str "zero"::ks)
 | .lt x,ks=>.tup (.str "let"::.str x::ks)
 | .mk c,ks=>.tup [.str "make",.str c,.tup ks]
 | .ask f,ks=>.tup [.str "ask",ks.headD .bD,.str f,.tup ks.tail]
 | .ux r hs,ks=>.tup [.str "case",ks.headD .bD,.str r,.tup (bA hs ks.tail)]
 | .new k hs,ks=>.tup [.str "new",.str k,.tup (bA hs ks)]
mutual
def toD:Tm->D
 | .node f ks=>Me f (toDs ks)
def toDs:List Tm->List D
 | []=>[]
 | t::r=>toD t::toDs r
end
theorem toDs_map:∀ ks:List Tm,toDs ks=ks.map toD
 | []=>rfl
 | t::r=>by rw[toDs,toDs_map r,TC]
theorem toDs_len(ks:List Tm):(toDs ks).length=ks.length:=by rw[toDs_map,Tr]
theorem kQ:∀ {ks:List Tm},oM ks=true->∀ t∈ks,t.wf=true
 | [],_,t,h=>by cases h
 | k::ks,w,t,h=>by
  have w:(k.wf&&oM ks)=true:=w
  rw[T8] at w
  rcases TX.mp h with rfl | h
  ·exact w.1
  ·exact kQ w.2 t h
theorem sP:∀ {ks:List Tm},(∀ t∈ks,t.wf=true)->oM ks=true
 | [],_=>rfl
 | k::ks,h=>by
  show (k.wf&&oM ks)=true
  rw[h k Tu,sP λt ht=>h t (Tv _ ht)]
  rfl
theorem gG{f:Fm}{ks:List Tm}(h:(Tm.node f ks).wf=true):f.ar ks.length=true/\oM ks=true:=by
 have h:(f.ar ks.length&&oM ks)=true:=h
 rw[T8] at h
 exact h
def Fm.word:Fm->Str
 | .nm _=>"name"
 | .num _=>"num"
 | .op _=>"op"
 | .wC=>"zero"
 | .lt _=>"let"
 | .mk _=>"make"
 | .ask _=>"ask"
 | .ux _ _=>"case"
 | .new _ _=>"new"
theorem nk{b:Bool}{A B:Prop}(h:b=false)(q:B):if b=true then A else B:=by
 subst h
 exact sv q
theorem jD{b:Bool}{A B:Prop}(h:b=true)(q:A):if b=true then A else B:=by
 subst h
 exact lJ q
theorem gd:∀ {hs:List (Str×List Str)} {ks:List D},ks.length=hs.length->∀ r∈bA hs ks,∃ a b k,r=.tup [a,b,k]
 | [],ks,_,r,h=>by cases ks<;>cases h
 | h::hs,[],e,r,hr=>by cases hr
 | h::hs,k::ks,e,r,hr=>by
  rcases TX.mp hr with rfl | hr
  ·exact⟨_,_,_,U⟩
  ·exact gd (by simpa using e) r hr
theorem gU{nt:Nat}{us:List Nat}{g:o9}{te:br}{f:D->D}{Q:List D->DS->Prop}{s:DS}:∀ {xs acc:List D},(∀ x∈xs,∀ k:D->DS->Prop,(∀ s':DS,s'.os=s.os->k (f x) s')->g x (gq nt us s) λs1=>te s1 k)->Q (acc++xs.map f) s->b6 nt us g cq te xs acc s Q
 | [],acc,h,q=>by
  rw[UH,TM] at q
  exact q
 | x::xs,acc,h,q=>by
  show g x (gq nt us s) λs1=>cq s1 λb s2=>if b=true then te s2 λy s3=>b6 nt us g cq te xs (acc++[y]) ⟨s.sl,s3.os⟩ Q else b6 nt us g cq te xs acc ⟨s.sl,s2.os⟩ Q
  have:=h x Tu (λy s3=>b6 nt us g cq te xs (acc++[y]) ⟨s.sl,s3.os⟩ Q) λs' e=>by
   rw[e]
   refine gU (λy hy=>h y (Tv _ hy)) ?_
   rw[Uj]
   exact q
  simpa [cq] using this
def i6:D->D
 | .tup (_::_::k::_)=>k
 | d=>d
theorem gW:∀ {hs:List (Str×List Str)} {ks:List D},ks.length=hs.length->(bA hs ks).map i6=ks
 | [],[],_=>rfl
 | [],_::_,e=>by simp at e
 | _::_,[],e=>by simp at e
 | h::hs,k::ks,e=>by
  show i6 (vm h k)::(bA hs ks).map i6=k::ks
  rw[gW (by simpa using e)]
  rfl
theorem len0{α:Type}{l:List α}(h:l.length=0):l=[]:=Ut h
theorem lF{α:Type}{l:List α}(h:1<=l.length):∃ a r,l=a::r:=by
 cases l with
 | nil=>simp at h
 | cons a r=>exact⟨a,r,U⟩
theorem yL{α:Type}{l:List α}(h:l.length=2):∃ a b,l=[a,b]:=by
 obtain⟨a,r,rfl⟩:=lF (l:=l) (by omega)
 obtain⟨b,r',rfl⟩:=lF (l:=r) (by simp at h;omega)
 have:r'=[]:=len0 (by simpa using h)
 subst this
 exact⟨a,b,U⟩
theorem LI{α:Type}{l:List α}(h:l.length=3):∃ a b c,l=[a,b,c]:=by
 obtain⟨a,r,rfl⟩:=lF (l:=l) (by omega)
 obtain⟨b,c,rfl⟩:=yL (l:=r) (by simpa using h)
 exact⟨a,b,c,U⟩
theorem jy:∀ (ks:List Tm),ks.length<=cz ks
 | []=>TB _
 | .node f k::r=>by
  have:=jy r
  show r.length+1<=(cz k+1)+cz r
  omega
theorem uX{f:Fm}{ks:List Tm}:ks.length < (Tm.node f ks).size:=Nat.lt_succ_of_le (jy ks)
theorem bq:16000000<=sizeLine:=by decide
mutual
def Tm.pre:Tm->List Tm
 | .node f ks=>.node f ks::hW ks
def hW:List Tm->List Tm
 | []=>[]
 | t::r=>t.pre++hW r
end
theorem Ao(t:Tm):t.pre=t::hW t.kids:=by
 cases t
 rfl
theorem u3:∀ (a b:List Tm),hW (a++b)=hW a++hW b
 | [],b=>rfl
 | t::a,b=>by
  show t.pre++hW (a++b)=(t.pre++hW a)++hW b
  rw[u3 a b,Uj]
theorem pP:∀ (a b:List Tm),cz (a++b)=cz a+cz b
 | [],b=>by simp[cz]
 | t::a,b=>by
  show t.size+cz (a++b)=(t.size+cz a)+cz b
  rw[pP a b]
  omega
theorem size_eq(t:Tm):t.size=cz t.kids+1:=by
 cases t
 rfl
mutual
theorem qQ:∀ t:Tm,t.pre.length=t.size
 | .node f ks=>by
  show (hW ks).length+1=cz ks+1
  rw[oW ks]
theorem oW:∀ ks:List Tm,(hW ks).length=cz ks
 | []=>rfl
 | t::r=>by
  show (t.pre++hW r).length=t.size+cz r
  rw[Tt,qQ t,oW r]
end
mutual
theorem Am:∀ t:Tm,t.wf=true->∀ u∈t.pre,u.wf=true/\u.size<=t.size/\u.dep<=t.dep
 | .node f ks,h,u,hu=>by
  rcases TX.mp hu with rfl | hu
  ·exact⟨h,TB _,TB _⟩
  ·obtain⟨h1,h2,h3⟩:=sA ks (gG h).2 u hu
   exact⟨h1,Nat.le_succ_of_le h2,Nat.le_succ_of_le h3⟩
theorem sA:∀ ks:List Tm,oM ks=true->∀ u∈hW ks,u.wf=true/\u.size<=cz ks/\u.dep<=oo ks
 | [],_,u,hu=>by cases hu
 | t::r,h,u,hu=>by
  have h:(t.wf&&oM r)=true:=h
  rw[T8] at h
  show _/\_<=t.size+cz r/\_<=max t.dep (oo r)
  rcases TY.mp hu with hu | hu
  ·obtain⟨h1,h2,h3⟩:=Am t h.1 u hu
   exact⟨h1,by omega,by omega⟩
  ·obtain⟨h1,h2,h3⟩:=sA r h.2 u hu
   exact⟨h1,by omega,by omega⟩
end
def Tm.eu:Tm->Bool
 | .node (.ux _ _) _=>true
 | .node (.new _ _) _=>true
 | _=>false
theorem Cz{t:Tm}(h:t.wf=true):oM t.kids=true:=by
 cases t
 exact (gG h).2
theorem Cu:∀ {a b:List Tm},oM a=true->oM b=true->oM (a++b)=true:=λ{a b} ha hb=>sP λt ht=>by
 rcases TY.mp ht with h | h
 ·exact kQ ha t h
 ·exact kQ hb t h
theorem toD_word(f:Fm)(ks:List Tm):∃ rest,toD (.node f ks)=.tup (.str f.word::rest):=by
 cases f<;>exact⟨_,U⟩
theorem bR{α:Type}{x:α}{r:List α}:jQ (x::r) 0=some x:=nj (j:=0) U
theorem aH{α:Type}{nt:Nat}{us:List Nat}{g:o9}{te:br}(h f:α->D){Q:List D->DS->Prop}{s:DS}:∀ (xs:List α) {acc:List D},(∀ x∈xs,∀ k:D->DS->Prop,(∀ s':DS,s'.os=s.os->k (f x) s')->g (h x) (gq nt us s) λs1=>te s1 k)->Q (acc++xs.map f) s->b6 nt us g cq te (xs.map h) acc s Q
 | [],acc,_,q=>by
  rw[UH,TM] at q
  exact q
 | x::xs,acc,hx,q=>by
  show g (h x) (gq nt us s) λs1=>cq s1 λb s2=>if b=true then te s2 λy s3=>b6 nt us g cq te (xs.map h) (acc++[y]) ⟨s.sl,s3.os⟩ Q else b6 nt us g cq te (xs.map h) acc ⟨s.sl,s2.os⟩ Q
  have:=hx x Tu (λy s3=>b6 nt us g cq te (xs.map h) (acc++[y]) ⟨s.sl,s3.os⟩ Q) λs' e=>by
   rw[e]
   refine aH h f xs (λy hy=>hx y (Tv _ hy)) ?_
   rw[Uj]
   exact q
  simpa [cq] using this
theorem aZ{α:Type}{nt:Nat}{us:List Nat}{g:o9}{ti:mJ}{te:br}(h f:α->D)(p:α->Bool){Q:List D->DS->Prop}{s:DS}:∀ (xs:List α) {acc:List D},
  (∀ x∈xs,∀ k:D->DS->Prop,∀ N:DS->Prop,(p x=true->∀ s':DS,s'.os=s.os->k (f x) s')->(p x=false->∀ s':DS,s'.os=s.os->N s')->g (h x) (gq nt us s) λs1=>ti s1 λb s2=>if b=true then te s2 k else N s2)->Q (acc++(xs.filter p).map f) s->b6 nt us g ti te (xs.map h) acc s Q
 | [],acc,_,q=>by
  rw[List.filter_nil,UH,TM] at q
  exact q
 | x::xs,acc,hx,q=>by
  refine hx x Tu (λy s3=>b6 nt us g ti te (xs.map h) (acc++[y]) ⟨s.sl,s3.os⟩ Q) (λs2=>b6 nt us g ti te (xs.map h) acc ⟨s.sl,s2.os⟩ Q) (λhp s' e=>?_) λhp s' e=>?_
  ·show b6 nt us g ti te (xs.map h) (acc++[f x]) ⟨s.sl,s'.os⟩ Q
   rw[e]
   refine aZ h f p xs (λy hy=>hx y (Tv _ hy)) ?_
   rw[Vw hp] at q
   rw[Uj]
   exact q
  ·show b6 nt us g ti te (xs.map h) acc ⟨s.sl,s'.os⟩ Q
   rw[e]
   refine aZ h f p xs (λy hy=>hx y (Tv _ hy)) ?_
   rw[List.filter_cons_of_neg (by rw[hp];exact TF)] at q
   exact q
theorem rB{r:Str}{hs:List (Str×List Str)}{n:Nat}(h:(Fm.ux r hs).ar n=true):n=hs.length+1/\∀ h∈hs,h.2.length<=8:=by
 have h:(n == hs.length+1&&hs.all λh=>h.2.length<=8)=true:=h
 rw[T8] at h
 exact⟨by simpa using h.1,λx hx=>by simpa using List.all_eq_true.mp h.2 x hx⟩
theorem zY{r:Str}{hs:List (Str×List Str)}{n:Nat}(h:(Fm.new r hs).ar n=true):n=hs.length/\∀ h∈hs,h.2.length<=8:=by
 have h:(n == hs.length&&hs.all λh=>h.2.length<=8)=true:=h
 rw[T8] at h
 exact⟨by simpa using h.1,λx hx=>by simpa using List.all_eq_true.mp h.2 x hx⟩
end DL
namespace DL
open PySem PySem.Spec L2
open PyProof.Rows hiding St
section
variable{X:Cx}{c:Ent}
def MP(p:Addr)(zs:List V)(neg:Bool):D->D->(D->Prop)->Prop:=λa b k=>b=.eW p/\iK a=true/\k (.bl (if neg then !qU (fv a) zs else qU (fv a) zs))
theorem Ji{p:Addr}{zs:List V}{neg:Bool}(h:∀ H,hV X.K H p zs)(hf:zs.all jr=true):pf X c (GS X.K neg) (MP p zs neg):=λM s as O H x y dx dy k Q L rx ry z4r kk=>by
 obtain⟨e,f1,hk⟩:=z4r
 subst e
 have e1:=rx.flat f1
 subst e1
 have e2:y=.ref p:=ry
 subst e2
 exact⟨p,zs,U,.inr (h H),k8 f1,hf,kk _ hk M H _ L .refl U⟩
theorem nB{A:Around}{k:Nat}(hr:cb k A):A.units+150 < cLine:=by have:=hr.un;omega
def JK:D->D->(D->Prop)->Prop:=λa b k=>∃ x y,a=.str x/\b=.str y/\(x.length+y.length<=sizeLine)/\k (.str (x++y))
end
theorem lh{P:Program}{w:World}{K:Frag}{mg:Str->Option Value}{base:Heap}{k:Nat}{f:Addr}{fd:FuncData}{ps:List Str}{g:BF}:cw P w K mg base bb k f fd ps (cn K g λ_ _=>False) :=
 ⟨λvs H Q E h=>by obtain⟨_,_,_,_,_,h,_⟩:=h;exact h.elim,λA outer s H args us vs Q E hr he hb hv h=>by obtain⟨_,_,_,_,_,h,_⟩:=h;exact h.elim⟩
def fG(d:Addr):VI:=λds R=>∃ m:Int,ds=[.eW d,.int m]/\(0 < m/\m < 9223372036854775808)/\∀ r:Int,0<=r->r < m->R (.int r)
theorem Ck{P:Program}{w:World}{K:Frag}{mg:Str->Option Value}{base:Heap}{k:Nat}{f d l:Addr}{fd:FuncData}{ps:List Str}(F:cw P w K mg base bb k f fd ps cK.vi):cw P w K mg base bb k f fd ps (cn K (aU d l) (fG d)) :=
 F.imp λvs H Q E h=>by
  obtain⟨M,ds,R,B,r,⟨m,rfl,⟨h1,h2⟩,k⟩,kk⟩:=h
  obtain⟨v,w,rfl,e1,e2⟩:=sX r
  cases (show v=.ref d from e1)
  cases (show w=.int m from e2)
  refine⟨d,l,m,U,B.qv,h1,h2,λq H' q1 q2 A' bt=>kk _ (k q q1 q2) M H' _ ⟨A',λb o e g=>bt b o e (λz=>g (.inl z)) λz=>g (.inr z),λb m=>?_,B.mo,λ_ m=>m,λ_ m=>.inl m⟩ rfl⟩
  obtain⟨o,e⟩:=B.md b m
  exact⟨o,bt b o e (λz=>B.mo b m (.inl z)) λz=>B.mo b m (.inr z)⟩
section
variable{X:Cx}{c:Ent}
def N8(i:Nat):br:=λs Q=>(∃ d,s.sl[i]?=some (.dat d)/\Q d s)\/∃ k d,s.sl[i]?=some (.own k)/\s.os[k]?=some (some d)/\Q d (s.freeze k d)
theorem mV{i:Nat}{e:Expr}(h:PE X e (bB i)):DE X c e (N8 i):=⟨λpins s0 O H Q I zz=>ei zz λM s as R L q kk=>by
 rcases q with q | q
 ·exact (dv (c:=c) h).pe pins s0 O H Q I ⟨M,s,as,R,L,q,kk⟩
 ·exact (Oe (c:=c) h).pe pins s0 O H Q I ⟨M,s,as,R,L,q,kk⟩⟩
def Je(neg:Bool)(i:Nat)(tb:br):br:=λs Q=>∃ k d0,s.sl[i]?=some (.own k)/\s.os[k]?=some (some d0)/\tb s λb s1=>∃ d,s1.os[k]?=some (some d)/\(dz d=true/\dz b=true/\(cj d<=150\/cj b<=150))/\Q (.bl (if neg then !yb d b else yb d b)) s1
theorem Gm{neg:Bool}{i:Nat}{tb:br}{O:St}{H:Hp}{Q:VK}:tE X.K c (Je neg i tb) O H Q->jg (Bj X.K neg) (bB i) (tE X.K c tb) O H Q:=λz1q=>by
 obtain⟨M,s,as,R,L,⟨k,d0,h1,h2,q⟩,kk⟩:=z1q
 obtain⟨a,o,g1,g2,g3,g4⟩:=L.slot h1 h2
 refine⟨_,g2,M,s,as,_,L,q,λb s1 z2q M1 H1 v L1 E1 rv=>?_⟩
 obtain⟨d,e1,⟨o1,o2,hd⟩,q1⟩:=z2q
 obtain⟨⟨o',f1,f2⟩,nm,ng,h0⟩:=L1.obj k _ a e1 g1
 exact⟨λb=>M1 b\/b=a,d,b,(f2.mono (λ_ m=>.inl m) λ_ _ _ e=>e).rep f1 (.inr U),Rep.mono (λ_ m=>.inl m) (λ_ _ _ e=>e) _ _ rv,o1,o2,hd,kk _ s1 q1 M1 H1 _ L1 E1 U⟩
theorem F9{neg:Bool}{i:Nat}{a b:Expr}{op:CmpOp}{tb:br}{pos:Pos}(ho:iV X (compareOp op) (Bj X.K neg))(ha:PE X a (bB i))(hb:DE X c b tb)(hm:behindInMarks op b=false):DT X c (.Compare a [op] [b] pos) (Iz (Je neg i tb)):=⟨(ix ho ha hb.pe hm).imp λ_ _ _=>kx Gm⟩
theorem lH:pf X c (λx y H Q=>∃ i j,x=.str i/\y=.str j/\i.length+j.length<=sizeLine/\Q (.str (i++j)) H) JK:=λM s as O H x y dx dy k Q L rx ry z5r kk=>by
 obtain⟨i,j,e1,e2,h,hk⟩:=z5r
 subst e1;subst e2
 exact⟨i,j,rx,ry,h,kk _ hk M H _ L .refl U⟩
def Ky:D->D->(D->Prop)->Prop:=λa b k=>∃ z n,a=.str z/\b=.int n/\MulOk z n/\k (.str (Txt.mul z n))
theorem zE:pf X c (λx y H Q=>∃ z n,x=.str z/\y=.int n/\MulOk z n/\Q (.str (Txt.mul z n)) H) Ky:=λM s as O H x y dx dy k Q L rx ry z6r kk=>by
 obtain⟨i,j,e1,e2,h,hk⟩:=z6r
 subst e1;subst e2
 exact⟨i,j,rx,ry,h,kk _ hk M H _ L .refl U⟩
def MY(te:br)(tl th:CZ):br:=λs Q=>te s λa s1=>tl s1 λl s2=>th s2 λu s3=>∃ z,a=.str z/\z.length<=sizeLine/\Q (.str (Txt.slice z l u)) s3
theorem t8{e:Expr}{lo hi:Option Expr}{te:br}{tl th:CZ}{p2 pos:Pos}(he:DE X c e te)(hl:DO X c lo tl)(hu:DO X c hi th):DE X c (.Subscript e (.Slice lo hi none p2) pos) (MY te tl th):=⟨(kX Gs he.pe hl.po hu.po).imp λO H Q zz=>ei zz λM s as R L q k =>
 ⟨M,s,as,_,L,q,λd s1 q1 M1 H1 v L1 E1 rv=>⟨M1,s1,as,_,L1,q1,λl s2 q2 M2 H2 Lb E2=>⟨M2,s2,as,_,Lb,q2,λu s3 q3 M3 H3 Lc E3=>by
  obtain⟨z,e,hz,q⟩:=q3
  subst e
  have E13:=E2.trans Lb.base E3
  exact⟨z,rv,hz,k _ s3 q M3 H3 _ Lc (E1.trans L1.base E13) U⟩⟩⟩⟩⟩
theorem uY{K:Frag}{H:Hp}{M:Addr->Prop}:∀ {bs:List Str} {vs:List V},ay K H M (bs.map .str) vs->vs=bs.map V.str
 | [],vs,r=>r
 | b::bs,vs,r=>by
  obtain⟨x,xr,rfl,r1,r2⟩:=r
  have r1:x=.str b:=r1
  rw[r1,uY r2,TC]
def Le(to:br)(t:fU):br:=λs Q=>to s λa s1=>∃ z,a=.str z/\t s1 λds s2=>∃ zs,ds=[.lst (zs.map .str)]/\(zs.map (·.length)).sum+zs.length * z.length<=16777216/\Q (.str (Txt.join z zs)) s2
theorem FI{o e:Expr}{es:List Expr}{to:br}{t:fU}{apos cY:Pos}(ho:DE X c o to)(ha:DA X c (e::es) t)(jj:attributeBase o "join" X.env (eval o X.env)=eval o X.env:=by rfl)(wk:((backTo cY (starEach (e::es) X.env)).all (λx=>!x.1)&&(backToKw cY (keywordEach [] X.env)).all (λx=>x.1.isSome)
   && decide ((e::es).length+([]:List Keyword).length+(if ([]:List Keyword).isEmpty then 0 else 1) < 30))=true:=by rfl)(iJ:(apos.endLine == cY.line)=true:=by rfl)(hs:VJ X.env e es:=by rfl)(j8:(backTo cY (starEach es X.env)).any (·.1)=false:=by rfl) :
  DE X c (.Call (.Attribute o "join" apos) (e::es) [] cY) (Le to t):=⟨(EV PySem.F.plainAttrs_str PySem.F.slot_str_join PySem.F.type_str_join Cy ho.pe ha.pa jj wk iJ hs j8).imp λO H Q zz=>ei zz λM s as R L q kk=>by
 refine⟨M,s,as,_,L,q,λd s1 ⟨z,e,q1⟩ M1 H1 v L1 E1 rv=>?_⟩
 subst e
 cases (show v=.str z from rv)
 refine⟨U,M1,s1,as,_,L1,q1,λds s2 ⟨zs,e2,hz,q2⟩ M2 H2 vs L2 E2 rvs hl=>?_⟩
 subst e2
 obtain⟨w,rfl,p,ys,rfl,⟨m,h⟩,r'⟩:=dJ rvs
 rw[uY r'] at h
 exact⟨z,p,zs,U,U,.of h,hz,kk _ s2 q2 M2 H2 _ L2 (E1.trans L1.base E2) U⟩⟩
def Hj(zs:List Str):fU:=λs Q=>Q (zs.map .str) s
theorem pQ{K:Frag}{H:Hp}{M:Addr->Prop}:∀ (zs:List Str),ay K H M (zs.map .str) (zs.map V.str)
 | []=>rfl
 | z::zs=>⟨_,_,U,U,pQ zs⟩
theorem Cs{es:List Expr}{zs:List Str}(h:qZ es=true)(h2:xE es=zs)(h3:es.length=zs.length):DA X c es (Hj zs):=⟨(by subst h2;exact (wO h).imp λO H Q zz=>ei zz λM s as R L q k=>k _ s q M H _ L .refl (pQ _) (by rw[Tr];exact h3.symm))⟩
def Jd(neg:Bool)(te:br)(i:Nat):br:=λs Q=>te s λa s1=>∃ k ds,s1.sl[i]?=some (.own k)/\s1.os[k]?=some (some (.lst ds))/\(iK a=true/\ds.all iK=true)/\Q (.bl (if neg then !qU (fv a) (ds.map fv) else qU (fv a) (ds.map fv))) s1
theorem Ge{neg:Bool}{i:Nat}{te:br}{O:St}{H:Hp}{Q:VK}:tE X.K c (Jd neg te i) O H Q->jg (GS X.K neg) (tE X.K c te) (bB i) O H Q:=λzz=>ei zz λM s as R L q kk =>
 ⟨M,s,as,_,L,q,λd s1 z5q M1 H1 v L1 E1 rv=>by
  obtain⟨k,ds,h1,h2,⟨f1,f2⟩,q1⟩:=z5q
  obtain⟨a,o,g1,g2,g3,g4⟩:=L1.slot h1 h2
  cases o with
  | lst us =>
   have g4:ay X.K H1 M1 ds us:=g4
   have e1:=rv.flat f1
   subst e1
   obtain⟨e,f⟩:=g4.flat f2
   refine⟨_,g2,a,us,U,.inl (.of g3),k8 f1,f,?_⟩
   rw[e]
   exact kk _ s1 q1 M1 H1 _ L1 E1 U
  | _=>exact g4.elim⟩
theorem Fu{neg:Bool}{i:Nat}{a b:Expr}{op:CmpOp}{ta:br}{pos:Pos}(ho:iV X (compareOp op) (GS X.K neg))(ha:DE X c a ta)(hb:PE X b (bB i))(hm:behindInMarks op b=false):DT X c (.Compare a [op] [b] pos) (Iz (Jd neg ta i)):=⟨(ix ho ha.pe hb hm).imp λ_ _ _=>kx Ge⟩
end
end DL
namespace DL
open PySem PySem.Spec L2
def sC:List (Str×List Str)->List (List Str)->List Str
 | h::hs,l::ls=>l.filter (λx=>!h.2.contains x)++sC hs ls
 | _,_=>[]
def NH:Fm->List (List Str)->List Str
 | .nm x,_=>[x]
 | .num _,_=>[]
 | .lt x,ls=>ls.headD []++(ls.tail.headD []).filter (λy=>!([x]:List Str).contains y)
 | .ux _ hs,ls=>ls.headD []++sC hs ls.tail
 | .new _ hs,ls=>sC hs ls
 | _,ls=>ls.flatten
mutual
def Tm.SK:Tm->List Str
 | .node f ks=>NH f (Jy ks)
def Jy:List Tm->List (List Str)
 | []=>[]
 | t::r=>t.SK::Jy r
end
section
variable{κ:Type}[DecidableEq κ]
theorem su{ks:List κ}{q:κ}:o6 ks q=true↔q∈ks:=by
 unfold o6
 rw[VC]
 constructor
 ·rintro⟨k,h1,h2⟩
  rw[<- of_decide_eq_true h2]
  exact h1
 ·intro h
  exact⟨q,h,decide_eq_true U⟩
theorem nL:∀ {ks:List κ} {vs:List D} {q:κ} {x:D} (r:κ),ks.length=vs.length->q∈ks->cp ks (mI ks vs q x) r=if r=q then some x else cp ks vs r
 | [],vs,q,x,r,_,h=>by cases h
 | k::ks,[],q,x,r,e,_=>by simp at e
 | k::ks,v::vs,q,x,r,e,h=>by
  show (if k=r then some (if k=q then x else v) else cp ks (mI ks vs q x) r)=if r=q then some x else if k=r then some v else cp ks vs r
  by_cases h1:k=r
  ·subst h1
   rw[if_pos U,if_pos U]
   by_cases h2:k=q
   ·rw[if_pos h2,if_pos h2]
   ·rw[if_neg h2,if_neg h2]
  ·rw[if_neg h1,if_neg h1]
   by_cases h3:q∈ks
   ·exact nL r (by simpa using e) h3
   ·have h4:q=k:=by
     rcases TX.mp h with h | h
     ·exact h
     ·exact absurd h h3
    have h5:¬ r=q:=λz=>h1 (h4.symm.trans z.symm)
    rw[if_neg h5]
    have:∀ {ks:List κ} {vs:List D},ks.length=vs.length->q∉ks->cp ks (mI ks vs q x) r=cp ks vs r:=by
     intro ks vs
     induction ks generalizing vs with
     | nil=>intro e _;cases vs<;>first | rfl | simp at e
     | cons k ks ih =>
      intro e hn
      cases vs with
      | nil=>simp at e
      | cons v vs =>
       show (if k=r then some (if k=q then x else v) else cp ks (mI ks vs q x) r)=if k=r then some v else cp ks vs r
       have hk:¬ k=q:=λz=>hn (by rw[z];exact Tu)
       rw[if_neg (c:=k=q) hk,ih (by simpa using e) λz=>hn (List.mem_cons_of_mem _ z)]
    exact this (by simpa using e) h3
theorem p8:∀ {ks:List κ} {vs:List D} {q:κ} {x:D} (r:κ),ks.length=vs.length->q∉ks->cp (ks++[q]) (vs++[x]) r=if r=q then some x else cp ks vs r
 | [],[],q,x,r,_,h=>by
  show (if q=r then some x else none)=_
  by_cases h1:r=q
  ·rw[if_pos h1,if_pos h1.symm]
  ·rw[if_neg h1,if_neg (Ne.symm h1)]
   rfl
 | [],_::_,q,x,r,e,_=>by simp at e
 | _::_,[],q,x,r,e,_=>by simp at e
 | k::ks,v::vs,q,x,r,e,h=>by
  show (if k=r then some v else cp (ks++[q]) (vs++[x]) r)=if r=q then some x else if k=r then some v else cp ks vs r
  have hk:k≠q:=λz=>h (by rw[z];exact Tu)
  by_cases h1:k=r
  ·subst h1
   rw[if_pos U,if_neg hk,if_pos U]
  ·rw[if_neg h1,if_neg h1]
   exact p8 r (by simpa using e) λz=>h (List.mem_cons_of_mem _ z)
theorem zP{ks:List κ}{vs:List D}{q:κ}{x:D}(r:κ)(e:ks.length=vs.length):cp (dY ks q) (dC ks vs q x) r=if r=q then some x else cp ks vs r:=by
 unfold dY dC
 by_cases h:o6 ks q=true
 ·rw[if_pos h,if_pos h]
  exact nL r e (su.mp h)
 ·rw[if_neg h,if_neg h]
  exact p8 r e λz=>h (su.mpr z)
theorem pR:∀ {ks:List κ} {vs:List D} {q:κ} {x:D},ks.length=vs.length->(mI ks vs q x).length=vs.length
 | [],[],q,x,_=>rfl
 | [],_::_,q,x,e=>by simp at e
 | _::_,[],q,x,e=>by simp at e
 | k::ks,v::vs,q,x,e=>by
  show (mI ks vs q x).length+1=vs.length+1
  rw[pR (by simpa using e)]
theorem xu{ks:List κ}{vs:List D}{q:κ}{x:D}(e:ks.length=vs.length):(dY ks q).length=(dC ks vs q x).length/\(dY ks q).length<=ks.length+1:=by
 unfold dY dC
 by_cases h:o6 ks q=true
 ·rw[if_pos h,if_pos h,pR e]
  exact⟨e,Vm _⟩
 ·rw[if_neg h,if_neg h]
  simp[e]
end
def Fm.strs:Fm->List Str
 | .nm x=>[x]
 | .num _=>[]
 | .op s=>[s]
 | .wC=>[]
 | .lt x=>[x]
 | .mk c=>[c]
 | .ask f=>[f]
 | .ux r hs=>r::(hs.map λh=>h.1::h.2).flatten
 | .new k hs=>k::(hs.map λh=>h.1::h.2).flatten
mutual
def Tm.yg:Tm->Bool
 | .node f ks=>f.strs.all PyData.strOk&&uA ks
def uA:List Tm->Bool
 | []=>true
 | t::r=>t.yg&&uA r
end
theorem tJ:∀ {ds:List D},(∀ d∈ds,dz d=true)->eJ ds=true
 | [],_=>rfl
 | d::ds,h=>by
  show (dz d&&eJ ds)=true
  rw[h d Tu,tJ λt ht=>h t (Tv _ ht)]
  rfl
theorem BR{ns:List Str}(h:∀ x∈ns,PyData.strOk x=true):eJ (qg ns)=true:=tJ λd hd=>by
 obtain⟨x,hx,rfl⟩:=TR.mp hd
 exact h x hx
theorem n9:∀ {hs:List (Str×List Str)} {ks:List D},(∀ x∈(hs.map λh=>h.1::h.2).flatten,PyData.strOk x=true)->eJ ks=true->eJ (bA hs ks)=true
 | [],ks,_,_=>by cases ks<;>rfl
 | _::_,[],_,_=>rfl
 | h::hs,k::ks,h1,h2=>by
  have h2:(dz k&&eJ ks)=true:=h2
  rw[T8] at h2
  have e:((h::hs).map λh=>h.1::h.2).flatten=(h.1::h.2)++(hs.map λh=>h.1::h.2).flatten:=rfl
  rw[e] at h1
  show (dz (vm h k)&&eJ (bA hs ks))=true
  rw[n9 (λx hx=>h1 x (Ub _ hx)) h2.2,Bool.and_true]
  show (PyData.strOk h.1&&(eJ (qg h.2)&&(dz k&&true)))=true
  rw[h1 h.1 (Ui _ Tu),BR λx hx=>h1 x (Ui _ (Tv _ hx)),h2.1]
  rfl
theorem D7:PyData.strOk "name"=true/\PyData.strOk "num"=true/\PyData.strOk "op"=true/\PyData.strOk "zero"=true/\PyData.strOk "let"=true/\PyData.strOk "make"=true/\PyData.strOk "ask"=true/\PyData.strOk "case"=true/\PyData.strOk "new"=true:=by decide+kernel
mutual
theorem zQ:∀ t:Tm,t.wf=true->t.yg=true->dz (toD t)=true
 | .node f ks,hw,h=>by
  obtain⟨ha,hk⟩:=gG hw
  have h:(f.strs.all PyData.strOk&&uA ks)=true:=h
  rw[T8] at h
  have ih:=xk ks hk h.2
  have hs:∀ x∈f.strs,PyData.strOk x=true:=Uv.mp h.1
  obtain⟨l1,l2,l3,l4,l5,l6,l7,l8,l9⟩:=D7
  cases f with
  | nm x =>
   show (PyData.strOk "name"&&(PyData.strOk x&&true))=true
   rw[l1,hs x Tu]
   rfl
  | num x =>
   show (PyData.strOk "num"&&(true&&true))=true
   rw[l2]
   rfl
  | op x =>
   show (PyData.strOk "op"&&(PyData.strOk x&&eJ (toDs ks)))=true
   rw[l3,hs x Tu,ih]
   rfl
  | wC =>
   show (PyData.strOk "zero"&&eJ (toDs ks))=true
   rw[l4,ih]
   rfl
  | lt x =>
   show (PyData.strOk "let"&&(PyData.strOk x&&eJ (toDs ks)))=true
   rw[l5,hs x Tu,ih]
   rfl
  | mk x =>
   show (PyData.strOk "make"&&(PyData.strOk x&&(eJ (toDs ks)&&true)))=true
   rw[l6,hs x Tu,ih]
   rfl
  | ask x =>
   obtain⟨a,r,rfl⟩:=lF (l:=ks) (by simpa [Fm.ar] using ha)
   have ih:(dz (toD a)&&eJ (toDs r))=true:=ih
   rw[T8] at ih
   show (PyData.strOk "ask"&&(dz (toD a)&&(PyData.strOk x&&(eJ (toDs r)&&true))))=true
   rw[l7,hs x Tu,ih.1,ih.2]
   rfl
  | ux x hd =>
   obtain⟨a,r,rfl⟩:=lF (l:=ks) (by rw[(rB ha).1];omega)
   have ih:(dz (toD a)&&eJ (toDs r))=true:=ih
   rw[T8] at ih
   show (PyData.strOk "case"&&(dz (toD a)&&(PyData.strOk x&&(eJ (bA hd (toDs r))&&true))))=true
   rw[l8,hs x Tu,ih.1,n9 (λy hy=>hs y (Tv _ hy)) ih.2]
   rfl
  | new x hd =>
   show (PyData.strOk "new"&&(PyData.strOk x&&(eJ (bA hd (toDs ks))&&true)))=true
   rw[l9,hs x Tu,n9 (λy hy=>hs y (Tv _ hy)) ih]
   rfl
theorem xk:∀ ks:List Tm,oM ks=true->uA ks=true->eJ (toDs ks)=true
 | [],_,_=>rfl
 | t::r,h,h'=>by
  have h:(t.wf&&oM r)=true:=h
  have h':(t.yg&&uA r)=true:=h'
  rw[T8] at h h'
  show (dz (toD t)&&eJ (toDs r))=true
  rw[zQ t h.1 h'.1,xk r h.2 h'.2]
  rfl
end
def gR(ds:List D):Nat:=PyData.depthAll (toPs ds)
theorem ak(d:D)(ds:List D):gR (d::ds)=max (cj d) (gR ds):=by
 show PyData.depthAll (toP d::toPs ds)=_
 simp[PyData.depthAll,gR,cj]
theorem aX:gR []=0:=by simp[gR,toPs,PyData.depthAll]
theorem aQ(ds:List D):cj (.tup ds)=gR ds+1:=by
 show PyData.depth (.tuple (toPs ds))=_
 simp[PyData.depth,gR]
theorem aO(x:Str):cj (.str x)=0:=by simp[cj,toP,PyData.depth]
theorem DJ(x:Int):cj (.int x)=0:=by simp[cj,toP,PyData.depth]
theorem uw:∀ ns:List Str,gR (qg ns)=0
 | []=>aX
 | x::r=>by
  show gR (.str x::qg r)=0
  rw[ak,aO,uw r]
  rfl
theorem oR:∀ (hs:List (Str×List Str)) (ks:List D),gR (bA hs ks)<=max 2 (gR ks+1)
 | [],ks=>by
  have:bA [] ks=[]:=by cases ks<;>rfl
  rw[this,aX]
  omega
 | _::_,[]=>by show gR []<=_;rw[aX];omega
 | h::hs,k::ks=>by
  have:=oR hs ks
  show gR (.tup [.str h.1,.tup (qg h.2),k]::bA hs ks)<=_
  rw[ak,aQ,ak,ak,ak,ak,aO,aQ,uw,aX]
  omega
mutual
theorem B6:∀ t:Tm,t.wf=true->cj (toD t)<=4 * t.dep
 | .node f ks,hw=>by
  obtain⟨ha,hk⟩:=gG hw
  have ih:=xH ks hk
  show cj (Me f (toDs ks))<=4 * (oo ks+1)
  cases f with
  | nm x=>show cj (.tup [_,_])<=_;rw[aQ,ak,ak,aO,aO,aX];omega
  | num x=>show cj (.tup [_,_])<=_;rw[aQ,ak,ak,aO,DJ,aX];omega
  | op x=>show cj (.tup (_::_::toDs ks))<=_;rw[aQ,ak,ak,aO,aO];omega
  | wC=>show cj (.tup (_::toDs ks))<=_;rw[aQ,ak,aO];omega
  | lt x=>show cj (.tup (_::_::toDs ks))<=_;rw[aQ,ak,ak,aO,aO];omega
  | mk x=>show cj (.tup [_,_,.tup (toDs ks)])<=_;rw[aQ,ak,ak,ak,aO,aO,aQ,aX];omega
  | ask x =>
   obtain⟨a,r,rfl⟩:=lF (l:=ks) (by simpa [Fm.ar] using ha)
   have e:gR (toDs (a::r))=max (cj (toD a)) (gR (toDs r)):=ak _ _
   show cj (.tup [_,toD a,_,.tup (toDs r)])<=_
   rw[aQ,ak,ak,ak,ak,aO,aO,aQ,aX]
   omega
  | ux x hd =>
   obtain⟨a,r,rfl⟩:=lF (l:=ks) (by rw[(rB ha).1];omega)
   have e:gR (toDs (a::r))=max (cj (toD a)) (gR (toDs r)):=ak _ _
   have h2:=oR hd (toDs r)
   show cj (.tup [_,toD a,_,.tup (bA hd (toDs r))])<=_
   rw[aQ,ak,ak,ak,ak,aO,aO,aQ,aX]
   omega
  | new x hd =>
   have h2:=oR hd (toDs ks)
   show cj (.tup [_,_,.tup (bA hd (toDs ks))])<=_
   rw[aQ,ak,ak,ak,aO,aO,aQ,aX]
   omega
theorem xH:∀ ks:List Tm,oM ks=true->gR (toDs ks)<=4 * oo ks
 | [],_=>by show gR []<=_;rw[aX];omega
 | t::r,h=>by
  have h:(t.wf&&oM r)=true:=h
  rw[T8] at h
  have h1:=B6 t h.1
  have h2:=xH r h.2
  show gR (toD t::toDs r)<=4 * max t.dep (oo r)
  rw[ak]
  omega
end
theorem xl:∀ {ks:List Tm} {n:Nat},(∀ k∈ks,k.dep<=n)->oo ks<=n
 | [],n,_=>Uh _
 | t::r,n,h=>by
  have h1:=h t Tu
  have h2:=xl (n:=n) λk hk=>h k (Tv _ hk)
  show max t.dep (oo r)<=n
  omega
end DL
namespace DL
open PySem PySem.Spec L2
open PyProof.Rows hiding St
def Lw(x:Str):Prop:=∀ ch∈x.cps.toList,97<=ch/\ch<=122
instance (x:Str):Decidable (Lw x):=by unfold Lw;infer_instance
theorem Lw.app{x y:Str}(h:Lw x)(k:Lw y):Lw (x++y):=λch hc=>by
 have e:(x++y).cps.toList=x.cps.toList++y.cps.toList:=by show (x.cps++y.cps).toList=_;simp
 rw[e,TY] at hc
 rcases hc with hc | hc
 ·exact h ch hc
 ·exact k ch hc
theorem Lw.slice{x:Str}(h:Lw x)(l u:Option Int):Lw (Txt.slice x l u):=by
 unfold Txt.slice
 split
 ·exact h
 ·intro ch hc
  simp only[List.mem_filterMap] at hc
  obtain⟨i,_,e⟩:=hc
  obtain⟨hi,e⟩:=UK.mp e
  exact h ch (by rw[<- e];simp)
theorem uT:∀ (cs:List Nat),(Txt.join ("":Str) (cs.map λc=>(⟨#[c]⟩:Str))).cps.toList=cs
 | []=>by unfold Txt.join;rw[PySem.StrLaws.glued_eq_join];rfl
 | [c]=>by unfold Txt.join;rw[PySem.StrLaws.glued_eq_join];rfl
 | c::d::r=>by
  have ih:=uT (d::r)
  have e:(Txt.join ("":Str) ((c::d::r).map λc=>(⟨#[c]⟩:Str)))=(⟨#[c]⟩:Str)++("":Str)++Txt.join ("":Str) ((d::r).map λc=>(⟨#[c]⟩:Str)):=by
   unfold Txt.join
   rw[UW,UW]
   rfl
  rw[e]
  show ((#[c]++#[])++(Txt.join ("":Str) ((d::r).map λc=>(⟨#[c]⟩:Str))).cps).toList=_
  rw[Array.toList_append,ih]
  rfl
theorem Lw.strOk{x:Str}(h:Lw x):PyData.strOk x=true:=by
 unfold PyData.strOk
 rw[Array.all_eq_true]
 intro i hi
 have:=h x.cps[i] (by simp)
 simp
 omega
theorem oZ{nt:Nat}{us:List Nat}{g:o9}{te:br}(Pd:D->Prop){Q:List D->DS->Prop}{s:DS}:∀ (xs:List D) {acc:List D},(∀ x∈xs,∀ k:D->DS->Prop,(∀ (y:D) (s':DS),Pd y->s'.os=s.os->k y s')->g x (gq nt us s) λs1=>te s1 k)->(∀ ys:List D,ys.length=xs.length->(∀ y∈ys,Pd y)->Q (acc++ys) s)->b6 nt us g cq te xs acc s Q
 | [],acc,_,q=>by
  have:=q [] rfl (λ_ h=>absurd h (by simp))
  rw[TM] at this
  exact this
 | x::xs,acc,hx,q=>by
  have:=hx x Tu (λy s3=>b6 nt us g cq te xs (acc++[y]) ⟨s.sl,s3.os⟩ Q) λy s' hy e=>by
   show b6 nt us g cq te xs (acc++[y]) ⟨s.sl,s'.os⟩ Q
   rw[e]
   refine oZ Pd xs (λz hz=>hx z (Tv _ hz)) λys hl hp=>?_
   rw[Uj]
   refine q ([y]++ys) (by simp[hl]) λz hz=>?_
   rcases TX.mp hz with rfl | hz
   ·exact hy
   ·exact hp z hz
  rw[b6]
  simpa [cq] using this
theorem Dd{X:Cx}{K1:List Stmt}{t:Addr->kY}(h:∀ d l M0 H0,vJ X ⟨aU d l,M0,H0⟩ K1 (t d)):nz X K1 (λE O H=>∃ d l M0 H0,tS X.K ⟨aU d l,M0,H0⟩ (t d) E O H):=λpins s O H E I ⟨d,l,M0,H0,q⟩=>(h d l M0 H0).ps pins s O H E I q
theorem Fw{K:Frag}{d l:Addr}{H:Hp}{t:Addr->kY}{E:Ends}{O:St}{n nos:Nat}(D1:cK.At H d l)(hl:O.length=n+2)(h1:O[1]?=some (some (.ref d)))(q:t d { nx:=λ_=>False,rt:=λx=>x=.bl true } ⟨.no::.dat (.eW d)::List.replicate n .no,List.replicate nos none⟩)(k:∀ H',E.rt (.bl true) H'):∃ d l M0 H0,tS K ⟨aU d l,M0,H0⟩ (t d) E O H:=by
 refine⟨d,l,λ_=>False,H,λ_=>False,_,List.replicate nos 0,_,?_,q,?_⟩
 ·refine⟨⟨D1,λb o e _=>e,λb m=>m.elim,λb m=>m.elim,λb m=>m.elim,λb m=>m.elim⟩,by simp[hl],by simp,λi x e=>?_,λi k e=>?_,λk x a e=>?_,λk _ x _ a e=>?_,λk a e=>(nomatch e)⟩
  ·match i,e with
   | 0,e=>simp at e
   | 1,e =>
    simp at e
    subst e
    exact⟨_,h1,U⟩
   | i+2,e =>
    obtain⟨_,e⟩:=Tw.mp e
    simp at e
  ·match i,e with
   | 0,e=>simp at e
   | 1,e=>simp at e
   | i+2,e =>
    obtain⟨_,e⟩:=Tw.mp e
    simp at e
  ·obtain⟨_,e⟩:=Tw.mp e
   simp at e
  ·obtain⟨_,e⟩:=Tw.mp e
   simp at e
 ·refine⟨λ_ _ _ _ _ z=>z.elim,λ_ _ _ _ _ z=>z.elim,λ_ _ _ _ _ z=>z.elim,λx M' H' v r B' rv=>?_,λ_ _ _ _ _ z=>z.elim,λ_ _ _ _ _ _ _ z=>z.elim⟩
  cases (show x=.bl true from r)
  cases (show v=.bl true from rv)
  exact k H'
def wY(K:Frag):Sp:=λvs H Q _=>∃ (a:Addr) (ns:List Int),vs=[.ref a]/\d5 K H a (ns.map V.int)/\ns.length<=63/\∀ H',Q (.bl true) H'
def uU:List Str:=["made","asked","def","tab","cross","to","number"]
def qN:List Str:=["zero","let","make","ask","case","new"]
def Nm(x:Str):Prop:=Lw x/\1<=x.length/\x.length<=8/\x∉uU/\x∉qN
instance (x:Str):Decidable (Nm x):=by unfold Nm;infer_instance
theorem Ct:∀ z∈cK.near,Nm z:=by decide+kernel
theorem CN:∀ z∈uU,(z++("q":Str))∉uU/\(z++("q":Str))∉qN/\z.length<=6:=by decide+kernel
theorem Dm:∀ z∈qN,(z++("q":Str))∉uU/\(z++("q":Str))∉qN/\z.length<=6:=by decide+kernel
theorem fk{w:Str}:∀ {zs:List Str},qU (.str w) (zs.map V.str)=decide (w∈zs)
 | []=>rfl
 | z::zs=>by
  have ih:=fk (w:=w) (zs:=zs)
  unfold qU at ih ⊢
  rw[TC,Uz,ih]
  rw[show Df (V.str z) (V.str w)=decide (z=w) from U]
  by_cases h:z=w
  ·simp[h]
  ·simp[h,Ne.symm h]
def wl(pre post:List Nat)(tn k e:Nat):List Nat:=pre++(97+(tn+7 * k) % 26)::(post++(List.replicate (k % 2) 120++(List.replicate (k / 26) 121++List.replicate e 113)))
theorem GN{pre post:List Nat}{tn k k' e e':Nat}(h:wl pre post tn k e=wl pre post tn k' e'):k=k':=by
 unfold wl at h
 have h:=Vx h
 injection h with h1 h2
 have h2:=Vx h2
 have h3:k % 26=k' % 26:=by omega
 have h4:k % 2=k' % 2:=by omega
 rw[h4] at h2
 have h2:=Vx h2
 have h5:=congrArg (List.count 121) h2
 simp[List.count_append,List.count_replicate] at h5
 omega
theorem k6(x y:Str):(x++y).cps.toList=x.cps.toList++y.cps.toList:=by show (x.cps++y.cps).toList=_;simp
theorem xM{r:Int}(h0:0<=r)(h1:r < 26):jQ cK.JE.cps.toList r=some (97+r.toNat):=by
 have hn:∀ n:Fin 26,cK.JE.cps.toList[n.val]?=some (97+n.val):=by decide+kernel
 have hj:r.toNat < 26:=by omega
 have e:(r.toNat:Int)=r:=Vn h0
 have q:=nj (xs:=cK.JE.cps.toList) (j:=r.toNat) (v:=97+r.toNat) (hn ⟨r.toNat,hj⟩)
 rw[e] at q
 exact q
theorem xA{c:Nat}{n:Int}(h0:0<=n)(h1:n<=2):(Txt.mul (⟨#[c]⟩:Str) n).cps.toList=List.replicate n.toNat c/\MulOk (⟨#[c]⟩:Str) n:=by
 have:n=0\/n=1\/n=2:=by omega
 rcases this with rfl | rfl | rfl
 ·exact⟨U,U,λh=>absurd (by decide) h,λh=>absurd (by decide) h⟩
 ·exact⟨U,U,λ_ h=>absurd h (by simp),λ_ h=>absurd h (by simp)⟩
 ·exact⟨U,U,λ_ _=>by show ¬ ((1:Nat):Int) > (2 ^ 63 - 1) / 2;decide,λ_ _=>by show PySem.Builtin.Str.tooLong (1 * 2)=false;decide⟩
theorem qK{α:Type}{z:α}:∀ {ws:List α} (i:Nat),ws.Nodup->z∉ws->(ws.set i z).Nodup
 | [],i,h,hz=>by simpa using h
 | w::ws,0,h,hz=>by
  rw[List.set_cons_zero]
  rw[U5] at h ⊢
  exact⟨λm=>hz (Tv _ m),h.2⟩
 | w::ws,i+1,h,hz=>by
  rw[List.set_cons_succ]
  rw[U5] at h ⊢
  refine⟨λm=>?_,qK i h.2 λm=>hz (Tv _ m)⟩
  rcases List.mem_or_eq_of_mem_set m with m | e
  ·exact h.1 m
  ·exact hz (by rw[<- e];exact Tu)
open PySem.Builtin PySem.Builtin.Str in
theorem uH(x:Str)(l u:Option Int):(Txt.slice x l u).length<=(strSliceIndices l u 1 x.length).length:=by
 unfold Txt.slice
 split
 ·rename_i h
  simp at h
  omega
 ·show (List.filterMap _ (strSliceIndices l u 1 x.length)).toArray.size<=_
  rw[TV]
  exact List.length_filterMap_le _ _
open PySem.Builtin PySem.Builtin.Str in
theorem ye{x:Str}{i:Int}(h0:0<=i)(h1:i<=x.length):(Txt.slice x none (some i)).length+(Txt.slice x (some i) none).length<=x.length:=by
 have a:=uH x none (some i)
 have b:=uH x (some i) none
 have ha:(strSliceIndices none (some i) 1 x.length).length<=i.toNat:=by
  unfold strSliceIndices sliceRange
  simp only[show (1:Int) > 0 by decide,if_true,List.length_map,List.length_range]<;>(split<;>(try split)<;>(try split)<;>(try simp only[Int.ediv_one])<;>omega)
 have hb:(strSliceIndices (some i) none 1 x.length).length<=x.length - i.toNat:=by
  unfold strSliceIndices sliceRange
  simp only[show (1:Int) > 0 by decide,if_true,List.length_map,List.length_range]<;>(split<;>(try split)<;>(try split)<;>(try simp only[Int.ediv_one])<;>omega)
 omega
def tV(pre post:List Nat)(tn:Nat)(ws:List Str):Prop:=∀ (j:Nat) (w:Str),ws[j]?=some w->Nm w/\∃ e,w.cps.toList=wl pre post tn j e
theorem tV.nodup{pre post:List Nat}{tn:Nat}{ws:List Str}(h:tV pre post tn ws):ws.Nodup:=by
 rw[Vl,List.pairwise_iff_getElem]
 intro i j hi hj OR e
 obtain⟨_,e1,h1⟩:=h i ws[i] (Ud hi)
 obtain⟨_,e2,h2⟩:=h j ws[j] (Ud hj)
 rw[e,h2] at h1
 have:=GN h1
 omega
theorem tV.snoc{pre post:List Nat}{tn:Nat}{ws:List Str}{u:Str}{e:Nat}(h:tV pre post tn ws)(hu:Nm u)(he:u.cps.toList=wl pre post tn ws.length e):tV pre post tn (ws++[u]):=λj w q=>by
 by_cases hj:j < ws.length
 ·rw[List.getElem?_append_left hj] at q
  exact h j w q
 ·rw[List.getElem?_append_right (by omega)] at q
  obtain⟨h1,h2⟩:=Tw.mp q
  simp at h1
  have:j=ws.length:=by omega
  subst this
  simp at h2
  subst h2
  exact⟨hu,e,he⟩
theorem tV.nm{pre post:List Nat}{tn:Nat}{ws:List Str}(h:tV pre post tn ws):∀ w∈ws,Nm w:=λw m=>by
 obtain⟨j,hj,e⟩:=Ux m
 exact (h j w (by rw[Ud hj,e])).1
def Ak(d:Addr):VI:=λds R=>∃ m:Int,ds=[.eW d,.int m]/\(0 < m/\m<=60)/\∀ ws:List Str,ws.length=m.toNat->ws.Nodup->(∀ x∈ws,Nm x)->R (.lst (ws.map .str))
section
variable{X:Cx}{c:Ent}
def kh:D->Bool
 | .bD=>true
 | _=>false
theorem Rep.EY{K:Frag}{H:Hp}{M:Addr->Prop}{d:D}{v:V}(r:Rep K H M d v):decide (v=.bD)=kh d:=by
 cases d with
 | bD=>rw[show v=.bD from r];rfl
 | bl b=>rw[show v=.bl b from r];rfl
 | int b=>rw[show v=.int b from r];rfl
 | str b=>rw[show v=.str b from r];rfl
 | eW b=>rw[show v=.ref b from r];rfl
 | ty b=>rw[show v=.ty b from r];rfl
 | tup _=>obtain⟨a,xs,rfl,_⟩:=r;rfl
 | lst _=>obtain⟨a,xs,rfl,_⟩:=r;rfl
 | qX _ _=>obtain⟨a,xs,rfl,_⟩:=r;rfl
 | kq _ _=>obtain⟨a,xs,rfl,_⟩:=r;rfl
def Nt:D->D->(D->Prop)->Prop:=λa b k=>b=.bD/\k (.bl (kh a))
def Jr:D->D->(D->Prop)->Prop:=λa b k=>b=.bD/\k (.bl (!kh a))
theorem Aj:pf X c (λx y H Q=>y=.bD/\Q (.bl (decide (x=.bD))) H) Nt:=λM s as O H x y dx dy k Q L rx ry z7r kk=>by
 obtain⟨e,hk⟩:=z7r
 subst e
 refine⟨ry,?_⟩
 rw[rx.EY]
 exact kk _ hk M H _ L .refl U
theorem zV:pf X c (λx y H Q=>y=.bD/\Q (.bl (!decide (x=.bD))) H) Jr:=λM s as O H x y dx dy k Q L rx ry z8r kk=>by
 obtain⟨e,hk⟩:=z8r
 subst e
 refine⟨ry,?_⟩
 rw[rx.EY]
 exact kk _ hk M H _ L .refl U
def OC:VI:=λas k=>∃ i j,as=[.int i,.int j]/\k (.int (if j < i then j else i))
theorem LD:Ac X c (λxs H Q=>∃ i j,xs=[.int i,.int j]/\Q (.int (if j < i then j else i)) H) OC:=λM s as O H xs ds k Q L r z9r kk=>by
 obtain⟨i,j,e,hk⟩:=z9r
 subst e
 obtain⟨v,w,rfl,e1,e2⟩:=sX r
 have e1:v=.int i:=e1
 have e2:w=.int j:=e2
 subst e1;subst e2
 exact⟨i,j,U,kk _ hk M H _ L .refl U⟩
def Dt(td ty:br):br:=λs Q=>td s λd s1=>qW d=true/\ty s1 λdy s2=>tU d dy λod=>Q (od.getD .bD) s2
theorem xJ{e:Expr}{td ty:br}(h:PE X e (AB (tE X.K c td) (tE X.K c ty))):DE X c e (Dt td ty):=⟨h.imp λO H Q zz=>ei zz λM s as R L q kk =>
 ⟨M,s,as,_,L,q,λd s1 z0r M1 H1 v L1 E1 rv=>by
  obtain⟨hd,q1⟩:=z0r
  obtain⟨a,o,rfl,f1,f2⟩:=rv.dc hd
  refine⟨a,U,GP hd f1 f2,M1,s1,as,_,L1,q1,λdy s2 q2 M2 H2 y Lb E2 ry=>?_⟩
  obtain⟨a',o',e',f1',f2'⟩:=(E2.rep L1 rv).dc hd
  cases e'
  obtain⟨ov,od,w1,w2,w3⟩:=qY q2 f1' f2' ry
  refine⟨ov,w1,?_⟩
  have Ea:=E1.trans L1.base E2
  rcases w3 with ⟨rfl,rfl⟩ | ⟨v,x,rfl,rfl,rx⟩
  ·exact kk _ s2 w2 M2 H2 .bD Lb Ea U
  ·exact kk _ s2 w2 M2 H2 v Lb Ea rx⟩⟩
end
end DL
namespace PyZ
open PySem Sem
section
variable{prog:Program}{w:World}{A:Around}{E:VG}{s:Shared}{z TI TO i1 i2:Addr}{f1 f2:List Addr}{n1 n2:Nat}{P1 P2:Nat->Value->Prop}{S1 S2:Nat->Heap->Prop}
structure Apart(z TI TO i1 i2:Addr)(f1 f2:List Addr):Prop where
 TIz:TI≠z
 TOz:TO≠z
 i1z:i1≠z
 i2z:i2≠z
 TITO:TI≠TO
 TIi1:TI≠i1
 TIi2:TI≠i2
 TOi1:TO≠i1
 TOi2:TO≠i2
 z1:z∉f1
 z2:z∉f2
 o1:TO∉f1
 o2:TO∉f2
 a1:i2∉f1
 a2:i1∉f2
structure Zip(S1 S2:Nat->Heap->Prop)(z TI TO i1 i2:Addr)(f0:Value)(k1 k2:Nat)(h:Heap):Prop where
 zip:IsZip h z TI TO f0
 ins:IsPair h TI (.ref i1) (.ref i2)
 out:∃ a b,IsPair h TO a b
 Ip:S1 k1 h
 E8:S2 k2 h
theorem but{c:Addr}{f:List Addr}{h h':Heap}{S:Nat->Heap->Prop}{it:Addr}{n k:Nat}{P:Nat->Value->Prop}(D:Draws prog w A it f n P S)(x:Heap.SameBut c h h')(hc:c∉f)(st:S k h):S k h' :=
 D.frame _ _ _ st λb hb o e=>x.extBut _ _ (λq=>hc (q▸hb)) e
theorem next_item{k:Nat}{Q:VG}(X:Apart z TI TO i1 i2 f1 f2)(D1:Draws prog w A i1 f1 n1 P1 S1)(D2:Draws prog w A i2 f2 n2 P2 S2)(Z:Zip S1 S2 z TI TO i1 i2 .none k k s.heap)(h1:k < n1)(h2:k < n2)(hQ:∀ x y h' tk,P1 k x->P2 k y->Zip S1 S2 z TI TO i1 i2 (rawInt s.heap.objs.size) (k+1) (k+1) h'->IsPair h' s.heap.objs.size x y->h'.objs.size=s.heap.objs.size+1 ->
   (∀ c o,c≠z->c≠TO->c≠i1->c≠i2->s.heap.get? c=some o->h'.get? c=some o)->Q (.ref s.heap.objs.size) { s with heap:=h',toks:=tk }) :
  wpAny (model prog w) A (Builtin.«zip.__next__» ⟨[.ref z],[]⟩) (λfin s'=>∃ v,fin=.done (.ret v)/\Q v s') E s:=by
 obtain⟨hz,hTI,⟨a,b,hTO⟩,t1,t2⟩:=Z
 show wpAny _ _ (field (.ref z) 2 >>= _) _ _ _
 refine wpAny_bind (wpAny_field hz U (x:=.bool false) U ?_)
 show wpAny _ _ (field (.ref z) 3 >>= _) _ _ _
 refine wpAny_bind (wpAny_field hz U (x:=.ref TI) U (wpAny_bind (wpAny_seqItems hTI U ?_)))
 show wpAny _ _ (Builtin.SmallTypes.ownedTupleIsFree (.ref z) >>= _) _ _ _
 refine wpAny_bind ?_
 unfold Builtin.SmallTypes.ownedTupleIsFree
 refine wpAny_bind (wpAny_field hz U (x:=.none) U (wpAny_pure ?_))
 simp only[if_true]
 refine wpAny_bind (wpAny_rule (wpAny_bind (wpAny_field hz U (x:=.ref TO) U (wpAny_bind (wpAny_setField_rec hz (by simp) λha hza sa=>?_)))))
 replace hza:IsZip ha z TI TO .ellipsis:=hza
 refine wpAny_bind ?_
 simp only[List.zipIdx_cons,List.zipIdx_nil,List.forIn_cons,List.forIn_nil]
 refine wpAny_bind (wpAny_bind (wpAny_onRaise ?_))
 show wpAny _ _ (Builtin.SmallTypes.nextOf (.ref i1) >>= _) _ _ _
 refine wpAny_bind (D1.item k _ _ _ h1 (but D1 sa X.z1 t1) λx hb tk1 px t1b sb=>wpAny_pure ?_)
 have ob:IsPair hb TO a b:=sb.extBut _ _ X.TOi1 (sa.extBut _ _ X.TOz hTO)
 refine wpAny_bind (wpAny_seqItems ob U (wpAny_bind (wpAny_updateSeq_pair ob λhc oc sc=>wpAny_bind (wpAny_letGo (wpAny_pure ?_)))))
 replace oc:IsPair hc TO x b:=oc
 refine wpAny_bind (wpAny_bind (wpAny_onRaise ?_))
 show wpAny _ _ (Builtin.SmallTypes.nextOf (.ref i2) >>= _) _ _ _
 refine wpAny_bind (D2.item k _ _ _ h2 (but D2 sc X.o2 (but D2 sb X.a2 (but D2 sa X.z2 t2))) λy hd tk2 py t2d sd=>wpAny_pure ?_)
 have od:IsPair hd TO x b:=sd.extBut _ _ X.TOi2 oc
 refine wpAny_bind (wpAny_seqItems od U (wpAny_bind (wpAny_updateSeq_pair od λhe oe se=>wpAny_bind (wpAny_letGo (wpAny_pure (wpAny_pure ?_))))))
 replace oe:IsPair he TO x y:=oe
 refine wpAny_bind (wpAny_seqItems oe U (wpAny_bind (wpAny_newTuple ?_)))
 have hsz:he.objs.size=s.heap.objs.size:=by rw[se.1,sd.1,sc.1,sb.1,sa.1]
 have ze:IsZip he z TI TO .ellipsis:=se.extBut _ _ X.TOz.symm (sd.extBut _ _ X.i2z.symm (sc.extBut _ _ X.TOz.symm (sb.extBut _ _ X.i1z.symm hza)))
 have ke:∀ c o,c≠z->c≠TO->c≠i1->c≠i2->s.heap.get? c=some o->he.get? c=some o:=λc o c1 c2 c3 c4 e =>
  se.extBut _ _ c2 (sd.extBut _ _ c4 (sc.extBut _ _ c2 (sb.extBut _ _ c3 (sa.extBut _ _ c1 e))))
 have t1e:S1 (k+1) he:=but D1 se X.o1 (but D1 sd X.a1 (but D1 sc X.o1 t1b))
 have t2e:S2 (k+1) he:=but D2 se X.o2 t2d
 have hzlt:z < he.objs.size:=Tz ze
 show wpAny _ _ (Builtin.SmallTypes.ownedTupleHandOut (.ref z) (.ref he.objs.size) >>= _) _ _ _
 refine wpAny_bind ?_
 unfold Builtin.SmallTypes.ownedTupleHandOut
 have zf:IsZip (he.push { cls:=.type "tuple",data:=.seq #[x,y] }) z TI TO .ellipsis:=Ts _ ze
 refine wpAny_bind (wpAny_setField_rec zf (by simp) λhg zg sg=>?_)
 replace zg:IsZip hg z TI TO (rawInt he.objs.size):=zg
 refine wpAny_setField_rec zg (by simp) λhh zh sh=>?_
 replace zh:IsZip hh z TI TO (rawInt he.objs.size):=zh
 have up:∀ c o,c≠z->he.get? c=some o->hh.get? c=some o:=λc o c1 e=>sh.extBut _ _ c1 (sg.extBut _ _ c1 (Ts _ e))
 have pT:IsPair hh he.objs.size x y:=sh.extBut _ _ (UO hzlt) (sg.extBut _ _ (UO hzlt) (TK _ U))
 have z8:hh.objs.size=he.objs.size+1:=by rw[sh.1,sg.1,UA]
 rw[hsz] at zh pT z8
 refine wpAny_pure ⟨_,U,?_⟩
 show Q (.ref he.objs.size) _
 rw[hsz]
 refine hQ x y hh _ px py ⟨zh,up _ _ X.TIz (ke _ _ X.TIz X.TITO X.TIi1 X.TIi2 hTI),⟨_,_,up _ _ X.TOz oe⟩,?_,?_⟩ pT z8 λc o c1 c2 c3 c4 e=>up c o c1 (ke c o c1 c2 c3 c4 e)
 ·exact D1.frame _ _ _ t1e λq hq o e=>up q o (λr=>X.z1 (r▸hq)) e
 ·exact D2.frame _ _ _ t2e λq hq o e=>up q o (λr=>X.z2 (r▸hq)) e
def Ends(prog:Program)(w:World)(A:Around)(it:Addr)(S:Heap->Prop):Prop:=∀ (s:Shared) (Q:VG) (E:VG),S s.heap ->
  (∀ h' e,Heap.ExtBut it s.heap h'->(∃ o,h'.get? e=some o/\o.cls=.type "StopIteration")->E (.ref e) { s with heap:=h' })->wpAny (model prog w) A (Builtin.SmallTypes.nextOf (.ref it)) Q E s
theorem next_end{k:Nat}{Q:PySem.Fin->Shared->Prop}(X:Apart z TI TO i1 i2 f1 f2)(D1:Draws prog w A i1 f1 n1 P1 S1)(D2:Draws prog w A i2 f2 n2 P2 S2)(Z:Zip S1 S2 z TI TO i1 i2 .none k k s.heap)(hk:Ends prog w A i1 (S1 k)\/(k < n1/\Ends prog w A i2 (S2 k)))(hE:∀ h' e tk,(∀ c o,c≠z->c≠TO->c≠i1->c≠i2->s.heap.get? c=some o->h'.get? c=some o)->(∃ o,h'.get? e=some o/\o.cls=.type "StopIteration")->E (.ref e) { s with heap:=h',toks:=tk }) :
  wpAny (model prog w) A (Builtin.«zip.__next__» ⟨[.ref z],[]⟩) Q E s:=by
 obtain⟨hz,hTI,⟨a,b,hTO⟩,t1,t2⟩:=Z
 show wpAny _ _ (field (.ref z) 2 >>= _) _ _ _
 refine wpAny_bind (wpAny_field hz U (x:=.bool false) U ?_)
 show wpAny _ _ (field (.ref z) 3 >>= _) _ _ _
 refine wpAny_bind (wpAny_field hz U (x:=.ref TI) U (wpAny_bind (wpAny_seqItems hTI U ?_)))
 show wpAny _ _ (Builtin.SmallTypes.ownedTupleIsFree (.ref z) >>= _) _ _ _
 refine wpAny_bind ?_
 unfold Builtin.SmallTypes.ownedTupleIsFree
 refine wpAny_bind (wpAny_field hz U (x:=.none) U (wpAny_pure ?_))
 simp only[if_true]
 refine wpAny_bind (wpAny_rule (wpAny_bind (wpAny_field hz U (x:=.ref TO) U (wpAny_bind (wpAny_setField_rec hz (by simp) λha hza sa=>?_)))))
 replace hza:IsZip ha z TI TO .ellipsis:=hza
 refine wpAny_bind ?_
 simp only[List.zipIdx_cons,List.zipIdx_nil,List.forIn_cons,List.forIn_nil]
 refine wpAny_bind (wpAny_bind (wpAny_onRaise ?_))
 show wpAny _ _ (Builtin.SmallTypes.nextOf (.ref i1) >>= _) _ _ _
 rcases hk with d1 | ⟨h1,d2⟩
 rotate_left
 ·refine wpAny_bind (D1.item k _ _ _ h1 (but D1 sa X.z1 t1) λx hb tk1 px t1b sb=>wpAny_pure ?_)
  have ob:IsPair hb TO a b:=sb.extBut _ _ X.TOi1 (sa.extBut _ _ X.TOz hTO)
  refine wpAny_bind (wpAny_seqItems ob U (wpAny_bind (wpAny_updateSeq_pair ob λhc oc sc=>wpAny_bind (wpAny_letGo (wpAny_pure ?_)))))
  refine wpAny_bind (wpAny_bind (wpAny_onRaise ?_))
  show wpAny _ _ (Builtin.SmallTypes.nextOf (.ref i2) >>= _) _ _ _
  refine wpAny_bind (d2 _ _ _ (but D2 sc X.o2 (but D2 sb X.a2 (but D2 sa X.z2 t2))) λhd e sd he=>?_)
  obtain⟨oe,hoe,hce⟩:=he
  have zd:IsZip hd z TI TO .ellipsis:=sd _ _ X.i2z.symm (sc.extBut _ _ X.TOz.symm (sb.extBut _ _ X.i1z.symm hza))
  have hez:e≠z:=λx=>by subst x;rw[zd] at hoe;cases hoe;simp at hce
  exact wpAny_setField_rec zd (by simp) λhf _ sf=>hE hf e _ (λc o c1 c2 c3 c4 x=>sf.extBut _ _ c1 (sd _ _ c4 (sc.extBut _ _ c2 (sb.extBut _ _ c3 (sa.extBut _ _ c1 x))))) ⟨oe,sf.extBut _ _ hez hoe,hce⟩
 ·refine wpAny_bind (d1 _ _ _ (but D1 sa X.z1 t1) λhb e sb he=>?_)
  obtain⟨oe,hoe,hce⟩:=he
  have zb:IsZip hb z TI TO .ellipsis:=sb _ _ X.i1z.symm hza
  have hez:e≠z:=λx=>by subst x;rw[zb] at hoe;cases hoe;simp at hce
  exact wpAny_setField_rec zb (by simp) λhf _ sf=>hE hf e _ (λc o c1 _ c3 _ x=>sf.extBut _ _ c1 (sb _ _ c3 (sa.extBut _ _ c1 x))) ⟨oe,sf.extBut _ _ hez hoe,hce⟩
theorem wX{k:Nat}{Q:Option Value->Shared->Prop}(X:Apart z TI TO i1 i2 f1 f2)(D1:Draws prog w A.in1 i1 f1 n1 P1 S1)(D2:Draws prog w A.in1 i2 f2 n2 P2 S2)(Z:Zip S1 S2 z TI TO i1 i2 .none k k s.heap)(h1:k < n1)(h2:k < n2)(hQ:∀ x y h' tk,P1 k x->P2 k y->Zip S1 S2 z TI TO i1 i2 (rawInt s.heap.objs.size) (k+1) (k+1) h'->IsPair h' s.heap.objs.size x y->h'.objs.size=s.heap.objs.size+1 ->
   (∀ c o,c≠z->c≠TO->c≠i1->c≠i2->s.heap.get? c=some o->h'.get? c=some o)->Q (some (.ref s.heap.objs.size)) { s with heap:=h',toks:=tk }):wpAny (model prog w) A (pyNext (.ref z)) Q E s:=by
 have hT:s.TypeIs (.ref z) "zip":=⟨_,Z.zip,U⟩
 unfold pyNext
 exact wpAny_bind (wpAny_attempt (wpAny_callSpecial?_slot (name:=Str.ofString "__next__") hT F.slot_zip_next
  (wpAny_call_entry F.slot_zip_next hT F.entry_zip_next (next_item X D1 D2 Z h1 h2 λx y h' tk a1 a2 a3 a4 a5 a6=>wpAny_pure (hQ x y h' tk a1 a2 a3 a4 a5 a6)) (F.args_zip_next_1 _))))
theorem z6{k:Nat}{Q:Option Value->Shared->Prop}(X:Apart z TI TO i1 i2 f1 f2)(D1:Draws prog w A.in1 i1 f1 n1 P1 S1)(D2:Draws prog w A.in1 i2 f2 n2 P2 S2)(Z:Zip S1 S2 z TI TO i1 i2 .none k k s.heap)(hk:Ends prog w A.in1 i1 (S1 k)\/(k < n1/\Ends prog w A.in1 i2 (S2 k)))(hQ:∀ h' tk,(∀ c o,c≠z->c≠TO->c≠i1->c≠i2->s.heap.get? c=some o->h'.get? c=some o)->Q none { s with heap:=h',toks:=tk }):wpAny (model prog w) A (pyNext (.ref z)) Q E s:=by
 have hT:s.TypeIs (.ref z) "zip":=⟨_,Z.zip,U⟩
 unfold pyNext
 refine wpAny_bind (wpAny_attempt (wpAny_callSpecial?_slot (name:=Str.ofString "__next__") hT F.slot_zip_next
  (wpAny_call_entry F.slot_zip_next hT F.entry_zip_next (next_end X D1 D2 Z hk λh' e tk kk he=>?_) (F.args_zip_next_1 _))))
 obtain⟨o,ho,hc⟩:=he
 refine wpAny_bind (wpAny_isInstance (T:="StopIteration") (b:=true) ⟨o,ho,hc⟩ isSubtype_stop ?_)
 exact wpAny_pure (hQ _ _ kk)
end
end PyZ
namespace PyZ
open PySem Sem L2
def ku(t:Bool)(h:Heap)(l:Addr)(xs:Array Value):Prop:=if t=true then h.IsTuple l xs else h.IsList l xs
def FW(t:Bool)(l:Addr):Obj:={ cls:=.type (if t=true then "tuple_iterator" else "list_iterator"),data:=.fields #[.ref l,.int 0 0] }
theorem ku.at{t:Bool}{h h':Heap}{l:Addr}{xs:Array Value}(x:ku t h l xs)(k:∀ o,h.get? l=some o->h'.get? l=some o):ku t h' l xs:=by
 cases t with
 | true =>
  obtain⟨o,e,r⟩:=(show h.IsTuple l xs from x)
  exact⟨o,k o e,r⟩
 | false=>exact Heap.IsList.at (show h.IsList l xs from x) k
section
variable{prog:Program}{w:World}{A:Around}{E:VG}{s:Shared}
theorem zH{t:Bool}{l:Addr}{xs:Array Value}{Q:VG}(hl:ku t s.heap l xs)(h:Q (.ref s.heap.objs.size) { s with heap:=s.heap.push (FW t l) }):wpAny (model prog w) A (pyIter (.ref l)) Q E s:=by
 cases t with
 | true=>exact wpAny_pyIter_tuple (show s.heap.IsTuple l xs from hl) h
 | false=>exact wpAny_pyIter_list (show s.heap.IsList l xs from hl) h
theorem jC(t:Bool)(hh:A.handled=none)(it l:Addr)(va:l≠it)(xs:Array Value):Draws prog w A it [it,l] xs.size (λi v=>xs[i]?=some v) (λi h=>ie t h it l i/\ku t h l xs):=by
 cases t with
 | true=>exact HZ.z7 hh it l va xs
 | false=>exact Draws.list hh it l va xs
end
theorem sD{prog:Program}{w:World}{A:Around}(t:Bool)(hh:A.handled=none){it l:Addr}{xs:Array Value}{k:Nat}(hk:xs.size<=k):Ends prog w A it (λh=>ie t h it l k/\ku t h l xs):=λs Q E z1r hE=>by
 obtain⟨a,b⟩:=z1r
 have hn:xs[k]?=none:=Array.getElem?_eq_none hk
 cases t with
 | true=>exact HZ.eV hh (show s.heap.IsTupleIter it l k from a) (show s.heap.IsTuple l xs from b) hn hE
 | false=>exact wpAny_nextOf_list_end hh (show s.heap.IsListIter it l k from a) (show s.heap.IsList l xs from b) hn hE
abbrev q1(t1:Bool)(h:Heap)(l1:Addr):Heap:=h.push (FW t1 l1)
abbrev q2(t1 t2:Bool)(h:Heap)(l1 l2:Addr):Heap:=(q1 t1 h l1).push (FW t2 l2)
abbrev q3(t1 t2:Bool)(h:Heap)(l1 l2:Addr):Heap:=(q2 t1 t2 h l1 l2).push { cls:=.type "tuple",data:=.seq #[.ref h.objs.size,.ref (q1 t1 h l1).objs.size] }
abbrev q4(t1 t2:Bool)(h:Heap)(l1 l2:Addr):Heap:=(q3 t1 t2 h l1 l2).push { cls:=.type "tuple",data:=.seq #[.none,.none] }
abbrev q5(t1 t2:Bool)(h:Heap)(l1 l2:Addr):Heap:=(q4 t1 t2 h l1 l2).push { cls:=.type "zip",data:=.fields #[.none,.bool false,.bool false,.ref (q2 t1 t2 h l1 l2).objs.size,.ref (q3 t1 t2 h l1 l2).objs.size] }
theorem yA(t1 t2:Bool)(l1 l2:Addr)(xs ys:Array Value) :
  Meets (Builtin.«zip.__new__» ⟨[.type "zip",.ref l1,.ref l2],[]⟩) (λ_ R s=>ku t1 s.heap l1 xs/\ku t2 s.heap l2 ys /\
   R (.ok (.ret (.ref (q4 t1 t2 s.heap l1 l2).objs.size))) { s with heap:=q5 t1 t2 s.heap l1 l2 }) :=
 .of_wp λprog w A R s h=>by
  obtain⟨hp,g,d,tk,os⟩:=s;obtain⟨B9,Cb,h⟩:=h
  have hsub:=sub_zip
  have hL1:ku t1 (Shared.heap ⟨hp,g,d,tk,os⟩) l1 xs:=B9
  have hL2:ku t2 (Shared.heap ⟨hp.push (FW t1 l1),g,d,tk,os⟩) l2 ys:=ku.at Cb λo e=>Ts _ e
  wp_walk using zH hL1,zH hL2
  exact⟨_,U,h⟩
section
variable{prog:Program}{w:World}{A:Around}{E:VG}{s:Shared}
theorem uV{t:Bool}{h:Heap}{it l:Addr}(e:h.get? it=some (FW t l)):ie t h it l 0:=by
 cases t with
 | true=>exact (show h.IsTupleIter it l 0 from ⟨_,e,U,U⟩)
 | false=>exact (show h.IsListIter it l 0 from ⟨_,e,U,U⟩)
theorem uM{t1 t2:Bool}{l1 l2:Addr}{xs ys:Array Value}{Q:VG}(B9:ku t1 s.heap l1 xs)(Cb:ku t2 s.heap l2 ys)(h:∀ h',IsZip h' (s.heap.objs.size+4) (s.heap.objs.size+2) (s.heap.objs.size+3) .none->IsPair h' (s.heap.objs.size+2) (.ref s.heap.objs.size) (.ref (s.heap.objs.size+1)) ->
   IsPair h' (s.heap.objs.size+3) .none .none->ie t1 h' s.heap.objs.size l1 0->ie t2 h' (s.heap.objs.size+1) l2 0->h'.objs.size=s.heap.objs.size+5 ->
   (∀ c o,s.heap.get? c=some o->h'.get? c=some o)->Q (.ref (s.heap.objs.size+4)) { s with heap:=h' }) :
  wpAny (model prog w) A (call (.type "zip") [.ref l1,.ref l2]) Q E s:=by
 refine callType_new F.called_zip (by decide) (F.typeCall_zip_2 _ _) (F.newCall_zip_2 _ _) (λobj=>F.args_object_init_3 obj _ _) F.entry_zip_new (yA t1 t2 l1 l2 xs ys) ⟨B9,Cb,?_⟩
 have z1:(q1 t1 s.heap l1).objs.size=s.heap.objs.size+1:=UA ..
 have z2:(q2 t1 t2 s.heap l1 l2).objs.size=s.heap.objs.size+2:=by rw[UA,z1]
 have z3:(q3 t1 t2 s.heap l1 l2).objs.size=s.heap.objs.size+3:=by rw[UA,z2]
 have z4:(q4 t1 t2 s.heap l1 l2).objs.size=s.heap.objs.size+4:=by rw[UA,z3]
 have z5:(q5 t1 t2 s.heap l1 l2).objs.size=s.heap.objs.size+5:=by rw[UA,z4]
 have g5:(q5 t1 t2 s.heap l1 l2).get? (q4 t1 t2 s.heap l1 l2).objs.size=some _:=TK _ U
 have g4:(q5 t1 t2 s.heap l1 l2).get? (q3 t1 t2 s.heap l1 l2).objs.size=some _:=Ts _ (TK _ U)
 have g3:(q5 t1 t2 s.heap l1 l2).get? (q2 t1 t2 s.heap l1 l2).objs.size=some _:=Ts _ (Ts _ (TK _ U))
 have g2:(q5 t1 t2 s.heap l1 l2).get? (q1 t1 s.heap l1).objs.size=some (FW t2 l2):=Ts _ (Ts _ (Ts _ (TK _ U)))
 have g1:(q5 t1 t2 s.heap l1 l2).get? s.heap.objs.size=some (FW t1 l1):=Ts _ (Ts _ (Ts _ (Ts _ (TK _ U))))
 show _/\_
 rw[z2,z3,z4] at g5
 rw[z1,z2] at g3
 rw[z3] at g4
 rw[z1] at g2
 rw[z4]
 exact⟨⟨_,g5,U⟩,h _ g5 g3 g4 (uV g1) (uV g2) z5 λc o x =>
  Ts _ (Ts _ (Ts _ (Ts _ (Ts _ x))))⟩
end
end PyZ
namespace L2
open PySem PySem.Spec PyZ
open PyProof.Rows hiding St
def PL(K:Frag)(t1 t2:Bool)(a b:Addr):It :=
 ⟨λi H=>∃ xs ys x y,(xb K t1 H a xs/\xb K t2 H b ys)/\xs[i]?=some x/\ys[i]?=some y,
  λi H x H'=>∃ p,H p=none/\x=.ref p/\∀ xs ys,xb K t1 H a xs->xb K t2 H b ys->∃ u v,xs[i]?=some u/\ys[i]?=some v/\H'=upd H p (.tup [u,v]),
  λi H=>∃ xs ys,(xb K t1 H a xs/\xb K t2 H b ys)/\min xs.length ys.length<=i⟩
section
variable{P:Program}{w:World}{K:Frag}
theorem iS{X:Cx}{pins:VH}{O:St}{H:Hp}{s:Shared}{a:Addr}{t:Bool}{xs:List V}(I:Inv X pins O H s)(h:xb X.K t H a xs):∃ its:List Value,Vals xs its/\ku t s.heap a its.toArray/\xs.length<=sizeLine:=by
 cases t with
 | true =>
  obtain⟨its,r,p,hz⟩:=I.tuple (show hV X.K H a xs from h)
  exact⟨its,r,p,hz⟩
 | false =>
  obtain⟨its,r,p,hz⟩:=I.list (show d5 X.K H a xs from h)
  exact⟨its,r,p.isList,hz⟩
structure E9(t1 t2:Bool)(z TI TO i1 i2 a b:Addr)(i:Nat)(h:Heap):Prop where
 zip:IsZip h z TI TO .none
 ins:IsPair h TI (.ref i1) (.ref i2)
 out:∃ u v,IsPair h TO u v
 e1:ie t1 h i1 a i
 e2:ie t2 h i2 b i
theorem Bu(t1 t2:Bool){elts:List Expr}{k:Nat}{lL:Pos}{z TI TO i1 i2 a b:Addr}(Y:Apart z TI TO i1 i2 [i1,a] [i2,b])(ha:a≠i1)(hb:b≠i2):Turn P w K (.Tuple elts k lL) (PL K t1 t2 a b) [z,TI,TO,i1,i2] z (E9 t1 t2 z TI TO i1 i2 a b) where
 mem:=by simp
 obj:=λi h st c hc=>by
  simp only[List.mem_cons,List.not_mem_nil,or_false] at hc
  rcases hc with rfl | rfl | rfl | rfl | rfl
  ·exact⟨_,st.zip,λv q=>by
    have q':Data.fields _=Data.cell v:=q
    cases q'⟩
  ·exact⟨_,st.ins,λv q=>by
    have q':Data.seq _ _=Data.cell v:=q
    cases q'⟩
  ·obtain⟨u,v,e⟩:=st.out
   exact⟨_,e,λv q=>by
    have q':Data.seq _ _=Data.cell v:=q
    cases q'⟩
  ·exact st.e1.obj
  ·exact st.e2.obj
 keep:=λi h h' st kk=>⟨kk z (by simp) _ st.zip,kk TI (by simp) _ st.ins,let ⟨u,v,e⟩:=st.out;⟨u,v,kk TO (by simp) _ e⟩,st.e1.at λo x=>kk i1 (by simp) o x,st.e2.at λo x=>kk i2 (by simp) o x⟩
 item:=by
  intro X hP hw hK hc i pins s O H E I hf st hg
  subst hP hw hK
  obtain⟨xs,ys,x,y,⟨hx,hy⟩,ex,ey⟩:=hg
  obtain⟨eU,r1,p1,_⟩:=iS I hx
  obtain⟨dU,r2,p2,_⟩:=iS I hy
  obtain⟨u,hu,ru⟩:=r1.get ex
  obtain⟨v,hv,rv⟩:=r2.get ey
  have hd:(X.A.in1).handled=none:=I.ok.hd hc
  refine wX Y (jC t1 hd i1 a ha eU.toArray) (jC t2 hd i2 b hb dU.toArray) ⟨st.zip,st.ins,st.out,⟨st.e1,p1⟩,⟨st.e2,p2⟩⟩ ?_ ?_ λu' v' h' tk pu pv Z pT hsz hk=>?_
  ·have:=(Tw.mp hu).1
   simpa using this
  ·have:=(Tw.mp hv).1
   simpa using this
  have e1:u'=u:=by
   have q:eU[i]?=some u':=by simpa using pu
   rw[hu] at q
   exact (Ue q).symm
  have e2:v'=v:=by
   have q:dU[i]?=some v':=by simpa using pv
   rw[hv] at q
   exact (Ue q).symm
  subst e1;subst e2
  refine⟨_,U,wpAny_letOwnedTupleGo_zip (s:={ s with heap:=h',toks:=tk }) Z.zip λh2 z2 s2=>?_⟩
  have hzlt:z < s.heap.objs.size:=Tz st.zip
  have keep:∀ c o,c∉[z,TI,TO,i1,i2]->s.heap.get? c=some o->h2.get? c=some o:=λc o hc q=>by
   simp only[List.mem_cons,List.not_mem_nil,or_false,not_or] at hc
   exact s2.extBut _ _ hc.1 (hk c o hc.1 hc.2.2.1 hc.2.2.2.1 hc.2.2.2.2 q)
  have qS:H s.heap.objs.size=none:=I.aL.fresh (TB _)
  have I1:Inv X pins O (upd H s.heap.objs.size (.tup [x,y])) { s with heap:=h2,toks:=tk } :=
   Inv.sj I keep hf (TB _) ⟨by show 2<=sizeLine;decide,[u',v'],.cons ru (.cons rv .nil),⟨_,s2.extBut _ _ (UO hzlt) pT,U,_,U⟩⟩
  refine⟨.ref s.heap.objs.size,_,I1,U,⟨s.heap.objs.size,qS,U,λzs ws q1 q2=>⟨x,y,?_,?_,U⟩⟩,⟨z2,s2.extBut _ _ Y.TIz Z.ins,let ⟨p,q,e⟩:=Z.out;⟨p,q,s2.extBut _ _ Y.TOz e⟩,Z.Ip.1.at λo e=>s2.extBut _ _ Y.i1z e,Z.E8.1.at λo e=>s2.extBut _ _ Y.i2z e⟩,λc hc=>?_⟩
  ·rw[xt I hx q1];exact ex
  ·rw[xt I hy q2];exact ey
  ·have iQ:c < s.heap.objs.size:=by
    simp only[List.mem_cons,List.not_mem_nil,or_false] at hc
    rcases hc with rfl | rfl | rfl | rfl | rfl
    ·exact hzlt
    ·exact Tz st.ins
    ·obtain⟨_,_,e⟩:=st.out
     exact Tz e
    ·obtain⟨o,e,_⟩:=st.e1.obj
     exact Tz e
    ·obtain⟨o,e,_⟩:=st.e2.obj
     exact Tz e
   rw[aj (TQ iQ)]
   exact (hf c hc).1
 done:=by
  intro X hP hw hK hc i pins s O H E I hf st hg
  subst hP hw hK
  obtain⟨xs,ys,⟨hx,hy⟩,hm⟩:=hg
  obtain⟨eU,r1,p1,_⟩:=iS I hx
  obtain⟨dU,r2,p2,_⟩:=iS I hy
  have l1:=r1.length
  have l2:=r2.length
  have hd:(X.A.in1).handled=none:=I.ok.hd hc
  refine z6 Y (jC t1 hd i1 a ha eU.toArray) (jC t2 hd i2 b hb dU.toArray) ⟨st.zip,st.ins,st.out,⟨st.e1,p1⟩,⟨st.e2,p2⟩⟩ ?_ λh' tk hk=>⟨U,Inv.jz (t':=tk) I (λc o hc q=>?_) hf⟩
  ·by_cases h1:i < eU.length
   ·exact .inr ⟨by simpa using h1,sD t2 hd (by simp;omega)⟩
   ·exact .inl (sD t1 hd (by simp;omega))
  ·simp only[List.mem_cons,List.not_mem_nil,or_false,not_or] at hc
   exact hk c o hc.1 hc.2.2.1 hc.2.2.2.1 hc.2.2.2.2 q
 self:=λ_ _ _ _ _ st h=>wpAny_pyIter_zip st.zip h
end
section
variable{X:Cx}
theorem ku.lt{t:Bool}{h:Heap}{l:Addr}{xs:Array Value}(x:ku t h l xs):l < h.objs.size:=by
 cases t with
 | true =>
  obtain⟨o,e,_⟩:=(show h.IsTuple l xs from x)
  exact Tz e
 | false =>
  obtain⟨o,e,_⟩:=(show h.IsList l xs from x)
  exact Tz e
theorem apart_new{n l1 l2:Nat}(h1:l1 < n)(h2:l2 < n):Apart (n+4) (n+2) (n+3) n (n+1) [n,l1] [n+1,l2]:=by
 have ne:∀ {a b:Nat},(a < b\/b < a)->¬ (a:Addr)=b:=λh e=>by
  have e:(_:Nat)=_:=e
  omega
 refine⟨ne (by omega),ne (by omega),ne (by omega),ne (by omega),ne (by omega),ne (by omega),ne (by omega),ne (by omega),ne (by omega),?_,?_,?_,?_,?_,?_⟩<;>(simp only[List.mem_cons,List.not_mem_nil,or_false,not_or];exact⟨ne (by omega),ne (by omega)⟩)
def MV(K:Frag)(t:TA):TI:=λO H R=>t O H λvs H1=>∃ a b t1 t2 xs ys,vs=[.ref a,.ref b]/\(xb K t1 H1 a xs/\xb K t2 H1 b ys)/\(xs.length<=sizeLine->R (PL K t1 t2 a b) H1)
theorem Gj{elts:List Expr}{k:Nat}{lL p pos:Pos}{a b:Expr}{t:TA}(hg:Gl X "zip")(hm:X.mg "zip"=none)(ha:PA X [a,b] t)(hs:starEach [a,b] X.env=[(false,eval a X.env),(false,eval b X.env)]:=by rfl)(qt:starEach [b] X.env=[(false,eval b X.env)]:=by rfl):PI X (.Tuple elts k lL) (.Call (.Name "zip" p) [a,b] [] pos) (MV X.K t):=by
 intro pins s O H R I h
 refine Call_ (gT I hg hm (u:=.type "zip") (by decide+kernel) (PyProof.Rows.callWith_type1 (b8 (ha pos pins s O H _ I h) λus s1 zz=>el2 zz λvs H1 I1 r1 q1=>?_) (by rw[hs,qt]) (by rw[qt];rfl)))
 obtain⟨l1,l2,t1,t2,xs,ys,e,⟨hx,hy⟩,q⟩:=q1
 subst e
 obtain⟨u,v,rfl,ru,rv⟩:=Vals.two r1
 cases ru
 cases rv
 obtain⟨eU,v1,p1,z1⟩:=iS I1 hx
 obtain⟨dU,v2,p2,z2⟩:=iS I1 hy
 have b1:=ku.lt p1
 have b2:=ku.lt p2
 refine uM p1 p2 λh' hz hI hO e1 e2 hsz hk=>wpAny_pyIter_zip hz ?_
 refine⟨s1.heap.objs.size+4,[s1.heap.objs.size+4,s1.heap.objs.size+2,s1.heap.objs.size+3,s1.heap.objs.size,s1.heap.objs.size+1],_,_,H1,U,I1.kept (t':=s1.toks) hk,
  Bu t1 t2 (apart_new b1 b2) (TQ b1) (TQ (Nat.lt_succ_of_lt b2)),⟨hz,hI,⟨_,_,hO⟩,e1,e2⟩,λc hc=>?_,q z1⟩
 ·have hle:s1.heap.objs.size<=c:=by
   simp only[List.mem_cons,List.not_mem_nil,or_false] at hc
   rcases hc with e | e | e | e | e<;>(rw[e];first | exact TB _ | exact Nat.le_add_right _ _)
  exact I1.pq hle (I1.aL.fresh hle)
end
end L2
namespace DL
open PySem PySem.Spec L2
open PyProof.Rows hiding St
section
variable{X:Cx}{c:Ent}
def oO(xs ys:List D):List D:=xs.zipWith (λx y=>.tup [x,y]) ys
def Bc:D->Option (List D)
 | .lst ds=>some ds
 | .tup ds=>some ds
 | _=>none
def JR(t:fU):fU:=λs Q=>t s λas s1=>∃ d e xs ys,as=[d,e]/\(Bc d=some xs/\Bc e=some ys)/\Q (oO xs ys) s1
theorem uy{xs ys:List D}:(oO xs ys).length=min xs.length ys.length:=by simp[oO]
theorem zt{xs ys:List D}{i:Nat}{d:D}(h:(oO xs ys)[i]?=some d):∃ x y,xs[i]?=some x/\ys[i]?=some y/\d=.tup [x,y]:=by
 unfold oO at h
 rw[VF] at h
 cases e:xs[i]? with
 | none=>rw[e] at h;cases h
 | some x =>
  cases e2:ys[i]? with
  | none=>rw[e,e2] at h;cases h
  | some y =>
   rw[e,e2] at h
   cases h
   exact⟨x,y,U,U,U⟩
theorem ni{K:Frag}{M1:Addr->Prop}{H1:Hp}{d:D}{xs:List D}{v:V}(h:Bc d=some xs)(r:Rep K H1 M1 d v):∃ a t vs,v=.ref a/\ay K H1 M1 xs vs/\∀ M2 H2,dW M1 H1 M2 H2->xb K t H2 a vs/\ay K H2 M2 xs vs:=by
 cases d with
 | lst ds =>
  cases h
  obtain⟨a,vs,rfl,⟨m,e⟩,r⟩:=r
  exact⟨a,false,vs,U,r,λM2 H2 G=>⟨d5.of ((G a m).2 _ e),G.tL r⟩⟩
 | tup ds =>
  cases h
  obtain⟨a,vs,rfl,e,r⟩:=r
  exact⟨a,true,vs,U,r,λM2 H2 G=>⟨(e.mono (λb m=>(G b m).1) λb o m e=>(G b m).2 o e).sq,G.tL r⟩⟩
 | _=>cases h
theorem JJ{elts:List Expr}{k:Nat}{lL p pos:Pos}{a b:Expr}{t:fU}(hg:Gl X "zip")(hm:X.mg "zip"=none)(ha:DA X c [a,b] t)(hs:starEach [a,b] X.env=[(false,eval a X.env),(false,eval b X.env)]:=by rfl)(qt:starEach [b] X.env=[(false,eval b X.env)]:=by rfl):DI X c (.Tuple elts k lL) (.Call (.Name "zip" p) [a,b] [] pos) (JR t) :=
 ⟨λpins s O H R I zz=>ei zz λM s0 as R0 L q k=>Gj hg hm ha.pa hs qt pins s O H R I
  ⟨M,s0,as,_,L,q,λads s1 z2r M1 H1 vs L1 E1 rv _=>by
   obtain⟨d,e,xs,ys,ead,⟨hd,he⟩,q1⟩:=z2r
   subst ead
   obtain⟨u,v,rfl,ru,rw⟩:=sX rv
   obtain⟨a,t1,us,rfl,r1,g1⟩:=ni hd ru
   obtain⟨b,t2,ws,rfl,r2,g2⟩:=ni he rw
   have G0:dW M1 H1 M1 H1:=λb m=>⟨m,λ_ h=>h⟩
   refine⟨a,b,t1,t2,us,ws,U,⟨(g1 M1 H1 G0).1,(g2 M1 H1 G0).1⟩,λhl=>k _ s1 q1 M1 H1 _ L1 E1 (λM2 H2 G=>?_) (by rw[uy,<- r1.length];omega)⟩
   obtain⟨h1,y1⟩:=g1 M2 H2 G
   obtain⟨h2,y2⟩:=g2 M2 H2 G
   refine⟨λi hi=>⟨us,ws,⟨h1,h2⟩,by rw[r1.length,r2.length];rw[uy] at hi;exact hi⟩,λi d hd=>?_⟩
   obtain⟨x,y,ex,ey,rfl⟩:=zt hd
   obtain⟨v1,c1,c2⟩:=y1.get ex
   obtain⟨v2,c3,c4⟩:=y2.get ey
   refine⟨⟨us,ws,v1,v2,⟨h1,h2⟩,c1,c3⟩,λx H3 ⟨b,hb,ex,hx⟩=>.inr ?_⟩
   obtain⟨w1,w2,m1,m2,m3⟩:=hx us ws h1 h2
   rw[c1] at m1
   rw[c3] at m2
   cases m1
   cases m2
   subst m3
   exact⟨b,_,hb,U,b,_,ex,⟨.inr U,au⟩,⟨_,_,U,j9 hb c2,_,_,U,j9 hb c4,U⟩⟩⟩⟩
theorem aE.over{K:Frag}{c:Ent}{M:Addr->Prop}{s:DS}{as:List Addr}{O:St}{H:Hp}{p:Addr}{o:HO}{ys:List (Key×V)}(L:aE K c M s as O H)(hq:H p=some (.dK ys))(n1:¬ M p)(n2:¬ c.g.own p)(n3:¬ eR s as p)(n4:c.H0 p=none):aE K c M s as O (upd H p o):=by
 have ne:∀ b,M b->b≠p:=λb m q=>n1 (q▸m)
 have ng:∀ b,c.g.own b->b≠p:=λb m q=>n2 (q▸m)
 have n0:∀ b u,c.H0 b=some u->b≠p:=λb u e q=>by rw[q,n4] at e;cases e
 refine⟨⟨c.g.loc H _ L.base.qv λb u g e=>?_,λb u e g=>?_,λb m=>?_,L.base.mo,L.base.m0,L.base.mn⟩,L.len,L.fI,λi d e=>?_,L.own,λk d a e1 e2=>?_,L.inj,L.lt⟩
 ·rw[aj (g.elim (ng b) λ⟨φ,f⟩ z=>by subst f;rw[z,hq] at e;cases e)];exact e
 ·rw[aj (n0 b u e)];exact L.base.fr b u e g
 ·obtain⟨u,e⟩:=L.base.md b m
  exact⟨u,by rw[aj (ne b m)];exact e⟩
 ·obtain⟨v,h1,h2⟩:=L.dat i d e
  exact⟨v,h1,Rep.mono (λ_ h=>h) (λb u m e=>by rw[aj (ne b m)];exact e) d v h2⟩
 ·obtain⟨⟨u,q,r⟩,q1⟩:=L.obj k d a e1 e2
  refine⟨⟨u,?_,cH.mono (λ_ h=>h) (λb u m e=>by rw[aj (ne b m)];exact e) r⟩,q1⟩
  have na:a≠p:=λz=>n3 ⟨k,d,e1,z▸e2⟩
  rw[aj na]
  exact q
def vq:List (Str×br)->fU
 | [],s,Q=>Q [] s
 | kt::r,s,Q=>kt.2 s λd s1=>vq r s1 λds s2=>Q (d::ds) s2
def zF(K:Frag)(c:Ent)(jN:List (Str×br)):List (TE×TE):=jN.map λkt=>(tC (.str kt.1),tE K c kt.2)
structure Ma(X:Cx)(c:Ent)(pos:Pos)(keys:List (Option Expr))(values:List Expr)(jN:List (Str×br)):Prop where
 pp:KL X pos keys values (zF X.K c jN)
 kl:keys.length=jN.length
theorem Cw{pos:Pos}:Ma X c pos [] [] []:=⟨wJ,U⟩
theorem kE{pos pk:Pos}{k:Str}{j}{v:Expr}{ks:List (Option Expr)}{vs:List Expr}{te:br}{jN:List (Str×br)}(hv:DE X c v te)(hr:Ma X c pos ks vs jN):Ma X c pos (some (.Constant (.str k) j pk)::ks) (v::vs) ((k,te)::jN):=⟨kH dD hv.pe hr.pp,by rw[TH,TH,hr.kl]⟩
def lb:List (Str×br)->List V->List (Key×V)
 | kt::r,v::vs=>(.inr kt.1,v)::lb r vs
 | _,_=>[]
theorem uS{O:St}{as:List Addr}:∀ (jN:List (Str×br)) {M:Addr->Prop} {s:DS} {H:Hp} {R:List D->DS->Prop} {Q:List (V×V)->Hp->Prop},aE X.K c M s as O H->vq jN s R ->
  (∀ ds s',R ds s'->∀ M' H' vs,aE X.K c M' s' as O H'->Ext c as M s H M' s' H'->ay X.K H' M' ds vs->ds.length=jN.length->Q ((lb jN vs).map λkv=>(kV kv.1,kv.2)) H')->oq (zF X.K c jN) O H Q
 | [],M,s,H,R,Q,L,q,k=>k [] s q M H [] L .refl U U
 | kt::r,M,s,H,R,Q,L,q,k=>by
  show tC (.str kt.1) O H λx H1=>tE X.K c kt.2 O H1 λy H2=>oq (zF X.K c r) O H2 λps H3=>Q ((x,y)::ps) H3
  refine⟨M,s,as,_,L,q,λd s1 q1 M1 H1 v L1 E1 rv=>?_⟩
  refine uS r L1 q1 λds s2 q2 M2 H2 vs Lb E2 rvs hl=>?_
  exact k (d::ds) s2 q2 M2 H2 (v::vs) Lb (E1.trans L1.base E2) ⟨v,vs,U,E2.rep L1 rv,rvs⟩ (by rw[TH,TH,hl])
theorem mm:∀ (more kvs:List (Key×V)),(∀ a∈kvs,∀ b∈more,a.1≠b.1)->(more.map (·.1)).Nodup->gP kvs more=kvs++more
 | [],kvs,_,_=>by simp[gP]
 | b::more,kvs,h,nd=>by
  rw[TC,U5] at nd
  have hp:putK kvs b.1 b.2=kvs++[b]:=by
   unfold putK
   rw[if_neg]
   intro q
   obtain⟨a,m,e⟩:=VC.mp q
   exact h a m b Tu (of_decide_eq_true e)
  show gP (putK kvs b.1 b.2) more=_
  rw[hp,mm more (kvs++[b]) (λa ha x hx=>?_) nd.2,Uj]
  ·rfl
  ·rcases TY.mp ha with ha | ha
   ·exact h a ha x (Tv _ hx)
   ·rw[TL] at ha
    subst ha
    exact λe=>nd.1 (e▸Ua hx)
theorem oa:∀ (jN:List (Str×br)) (vs:List V),vs.length=jN.length->(lb jN vs).map (·.1)=jN.map λkt=>Sum.inr kt.1
 | [],[],_=>rfl
 | [],_::_,h=>by simp at h
 | _::_,[],h=>by simp at h
 | kt::r,v::vs,h=>by rw[lb,List.map_cons,List.map_cons,oa r vs (by simpa using h)]
theorem oQ:∀ (jN:List (Str×br)) (vs:List V),vs.length=jN.length->(lb jN vs).map (·.2)=vs
 | [],[],_=>rfl
 | [],_::_,h=>by simp at h
 | _::_,[],h=>by simp at h
 | kt::r,v::vs,h=>by rw[lb,List.map_cons,oQ r vs (by simpa using h)]
def FJ(jN:List (Str×br)):br:=λs Q=>vq jN s λds s1=>Q (.qX (jN.map λkt=>Sum.inr kt.1) ds) s1
theorem F8{pos:Pos}{keys:List (Option Expr)}{values:List Expr}{jN:List (Str×br)}(h:Ma X c pos keys values jN)(nd:(jN.map λkt=>(Sum.inr kt.1:Key)).Nodup)(uC:keys.all (·.isSome)=true:=by rfl)(hl:keys.length=values.length:=by rfl)(h0:keys≠[]:=by simp)(Iw:keys.length<=15:=by decide):DN X c (.Dict keys values pos) (FJ jN) :=
 ⟨(xR h.pp uC hl h0 Iw).imp λO H Q z5q p hp=>by
   obtain⟨M,s,as,R,L,q,k⟩:=z5q
   obtain⟨n1,n2,n3,n4⟩:=notM L hp
   refine uS jN (L.laid (o:=.dK []) hp) q λds s1 q1 M1 H1 vs L1 E1 rvs hd=>?_
   have e1:H1 p=some (.dK []):=E1.keep p _ au n2 n3
   have m1:¬ M1 p:=λm=>by
    rcases E1.new p m with z | (z | ⟨_,z⟩) | z
    ·exact n1 z
    ·rw[au] at z;cases z
    ·rw[au] at z;cases z
    ·exact n3 z
   have w1:¬ eR s1 as p:=λz=>n3 (E1.jP p z)
   have hv:vs.length=jN.length:=by rw[rvs.length];exact hd
   have hk:=oa jN vs hv
   refine⟨e1,lb jN vs,U,?_,?_⟩
   ·have:=congrArg List.length hk
    rw[Tr,Tr] at this
    rw[this,<- h.kl]
    exact Iw
   ·rw[mm _ [] (λa ha=>absurd ha (by simp)) (by rw[hk];exact nd),List.nil_append]
    have up:∀ b u,M1 b->H1 b=some u->upd H1 p (.dK (lb jN vs)) b=some u:=λb u m e=>by
     have hb:b≠p:=λq=>m1 (q▸m)
     rw[aj hb];exact e
    refine k _ s1 q1 M1 _ p (.dK (lb jN vs)) (L1.over e1 m1 n2 w1 n4) ?_ au ⟨hk,?_⟩ m1 n2 w1 n4 (.inl hp)
    ·refine⟨E1.sub,λb m=>?_,λb u e g z=>?_,E1.jP⟩
     ·rcases E1.new b m with z | (z | ⟨xs,z⟩) | z
      ·exact .inl z
      ·by_cases hb:b=p
       ·exact .inr (.inl (.inl (hb▸hp)))
       ·rw[aj hb] at z
        exact .inr (.inl (.inl z))
      ·by_cases hb:b=p
       ·exact .inr (.inl (.inl (hb▸hp)))
       ·rw[aj hb] at z
        exact .inr (.inl (.inr ⟨xs,z⟩))
      ·exact .inr (.inr z)
     ·have hb:b≠p:=aC e hp
      rw[aj hb]
      exact E1.keep b u (by rw[aj hb];exact e) g z
    ·rw[oQ jN vs hv]
     exact ay.mono (λ_ h=>h) up _ _ rvs⟩
end
end DL
namespace L2
open PySem PySem.Spec PyProof.Rows
section
variable{X:Cx}
theorem zp(items:Array Value):slicePick items none none (some 1)=items:=by
 have hb:sliceBounds none none (some 1) items.size=(0,(items.size:Int),1):=by first | rfl | simp[sliceBounds]
 unfold slicePick
 rw[hb]
 show ((sliceRange 0 (items.size:Int) 1).filterMap (items[·]?)).toArray=_
 have hr:sliceRange 0 (items.size:Int) 1=List.range items.size:=by
  unfold sliceRange
  simp only[show (1:Int) > 0 by decide,if_true]
  by_cases h:(items.size:Int) > 0
  ·simp only[h,if_true]
   apply List.ext_getElem
   ·simp
   ·intro i h1 h2
    simp
  ·have e:items.size=0:=by omega
   rw[e]
   simp
 rw[hr,PySem.W.krv_all]
def lg(w:Int){α:Type}(xs:List α):List α:=if w=1 then xs else xs.reverse
def GI(K:Frag)(te tw:TE):TE:=λO H Q=>te O H λx H1=>tw O H1 λy H2=>∃ a xs w,x=.ref a/\y=.int w/\(w=1\/w=-1)/\d5 K H2 a xs/\∀ l,H2 l=none->Q (.ref l) (upd H2 l (.lst (lg w xs)))
theorem zT{e st:Expr}{te tw:TE}{p2 pos:Pos}(he:PE X e te)(qM:PE X st tw):PE X (.Subscript e (.Slice none none (some st) p2) pos) (GI X.K te tw):=by
 intro pins s O H Q I h
 refine Subscript_ (b8 (he pins s O H _ I h) λv s1 z3q=>?_)
 obtain⟨x,H1,I1,r1,q1⟩:=z3q
 refine wpAny_Slice ?_
 rw[evalPart_none]
 refine wpAny_pure ?_
 refine wpAny_pure ?_
 rw[evalPart_some]
 refine b8 (qM pins s1 O H1 _ I1 q1) λu s2 z4q=>?_
 obtain⟨y,H2,I2,r2,a,xs,w,ex,ey,hw,hq,q⟩:=z4q
 subst ex ey
 cases r1
 obtain⟨t,rfl⟩:=r2
 obtain⟨its,r,ht,hz⟩:=I2.list hq
 have hlen:=r.length
 have I3:Inv X pins O H2 { s2 with heap:=s2.heap.push { cls:=.type "slice",data:=.fields #[.none,.none,.int w t] } }:=I2.kept (t':=s2.toks) λb ob q=>Ts _ q
 show wpAny (model X.prog X.w) X.A (subscriptTail e (.Slice none none (some st) p2) (.ref a) (.ref s2.heap.objs.size)) (EP X pins O Q) X.xe { s2 with heap:=s2.heap.push { cls:=.type "slice",data:=.fields #[.none,.none,.int w t] } }
 refine tail_any (ops:=[.ref a,.ref s2.heap.objs.size]) (ht.isList.push _).typeIs slot_list_getitem.lookup ?_ (by with_unfolding_all rfl)
 have hw0:(some w:Option Int)≠some 0:=by rcases hw with rfl | rfl<;>decide
 refine wpAny_getItem_list_slice (ht.isList.push _) (Heap.IsSliceOf.new ..) .none .none (.int w t) hw0 ?_ (by rw[TV];omega)
 rcases hw with rfl | rfl
 ·rw[zp]
  refine⟨.ref _,_,I3.laid (t':=s2.toks) (o:=.lst xs) (λb ob q=>Ts _ q) (TB _) ?_,U,q _ (I3.aL.fresh (TB _))⟩
  exact⟨hz,its,0,r,TK _ U⟩
 ·rw[PySem.W.krv_pick]
  refine⟨.ref _,_,I3.laid (t':=s2.toks) (o:=.lst xs.reverse) (λb ob q=>Ts _ q) (TB _) ?_,U,q _ (I3.aL.fresh (TB _))⟩
  exact⟨by rw[List.length_reverse];exact hz,_,0,by simpa using r.reverse,Heap.get?_push_size _ U⟩
end
end L2
namespace DL
open PySem PySem.Spec L2
open PyProof.Rows hiding St
section
variable{X:Cx}{c:Ent}
def Oc:D->D->(D->Prop)->Prop:=λa b k=>∃ ds w,a=.lst ds/\b=.int w/\(w=1\/w=-1)/\k (.lst (lg w ds))
def OM(C:D->D->(D->Prop)->Prop)(ta tb:br):br:=λs Q=>ta s λa s1=>tb s1 λb s2=>C a b λd=>Q d s2
theorem EJ{e st:Expr}{te tw:br}{p2 pos:Pos}(he:DE X c e te)(qM:DE X c st tw):DN X c (.Subscript e (.Slice none none (some st) p2) pos) (OM Oc te tw):=⟨(zT he.pe qM.pe).imp λO H Q zz=>ei zz λM s as R L q k =>
 ⟨M,s,as,_,L,q,λd s1 q1 M1 H1 v L1 E1 rv=>⟨M1,s1,as,_,L1,q1,λd2 s2 z3r M2 H2 v2 Lb E2 rv2=>by
  obtain⟨ds,w,e,e2,hw,q2⟩:=z3r
  subst e e2
  obtain⟨p,xs,rfl,⟨m,t⟩,r⟩:=E2.rep L1 rv
  refine⟨p,xs,w,U,rv2,hw,.of t,λb hb=>jk (d:=.lst _) L Lb (E1.trans L1.base E2) hb ?_ (k _ s2 q2)⟩
  show ay _ _ _ (lg w ds) (lg w xs)
  unfold lg
  split
  ·exact r
  ·exact r.reverse⟩⟩⟩
end
end DL
namespace PySem.F
theorem By:typeLookup (.type "zip") "__len__"=pure none:=by rw[typeLookup_type,builtinLookup_eq_fast];kernel_rfl
theorem ym:typeLookup (.type "zip") "__length_hint__"=pure none:=by rw[typeLookup_type,builtinLookup_eq_fast];kernel_rfl
end PySem.F
namespace PyZ
open PySem Sem
section
variable{prog:Program}{w:World}{A:Around}{E:VG}{s:Shared}{z TI TO i1 i2:Addr}{f1 f2:List Addr}{n1 n2:Nat}{P1 P2:Nat->Value->Prop}{S1 S2:Nat->Heap->Prop}
theorem HX{M:Model}{a:Addr}{Q:Option Obj->Shared->Prop}(h:Q (s.heap.get? a) s):wpAny M A (loadIfAlive a) Q E s:=λΓ p _=>by
 show wp M Γ (.loadIfAlive a .pure) _ _ p s
 rw[wp_loadIfAlive]
 exact h
def pE(f0:Value)(b:Bool)(TI TO:Addr):Obj:={ cls:=.type "zip",dict:=none,data:=.fields #[f0,.bool b,.bool false,.ref TI,.ref TO],slots:=#[] }
theorem xP{T:Addr}{oT:Obj}{b:Bool}{Q:Bool->Shared->Prop}(hz:s.heap.get? z=some (pE (rawInt T) b TI TO))(hT:s.heap.get? T=some oT)(hQ:∀ h',h'.get? z=some (pE (rawInt T) true TI TO)->Heap.SameBut z s.heap h'->Q false { s with heap:=h' }):wpAny (model prog w) A (Builtin.SmallTypes.ownedTupleIsFree (.ref z)) Q E s:=by
 unfold Builtin.SmallTypes.ownedTupleIsFree
 refine wpAny_bind (wpAny_field hz U (x:=rawInt T) U ?_)
 show wpAny _ _ (loadIfAlive ((T:Nat):Int).toNat >>= _) _ _ _
 rw[U0]
 refine wpAny_bind (HX ?_)
 rw[hT]
 show wpAny _ _ (field (.ref z) 1 >>= _) _ _ _
 refine wpAny_bind (wpAny_field hz U (x:=.bool b) U ?_)
 cases b with
 | false =>
  show wpAny _ _ (setField (.ref z) 1 (.bool true) >>= λ_=>Pure.pure false) _ _ _
  exact wpAny_bind (wpAny_setField_rec hz (by simp) λh' hz' hs=>wpAny_pure (hQ h' hz' hs))
 | true=>exact wpAny_pure (hQ s.heap hz ⟨U,λ_ _=>rfl⟩)
theorem yt{k:Nat}{T:Addr}{oT:Obj}{b:Bool}{Q:VG}(X:Apart z TI TO i1 i2 f1 f2)(D1:Draws prog w A i1 f1 n1 P1 S1)(D2:Draws prog w A i2 f2 n2 P2 S2)(hz:s.heap.get? z=some (pE (rawInt T) b TI TO))(hT:s.heap.get? T=some oT)(hI:IsPair s.heap TI (.ref i1) (.ref i2))(t1:S1 k s.heap)(t2:S2 k s.heap)(h1:k < n1)(h2:k < n2)(hQ:∀ x y h' tk,P1 k x->P2 k y->h'.get? z=some (pE (rawInt T) true TI TO)->S1 (k+1) h'->S2 (k+1) h'->IsPair h' s.heap.objs.size x y->h'.objs.size=s.heap.objs.size+1 ->
   (∀ c o,c≠z->c≠i1->c≠i2->s.heap.get? c=some o->h'.get? c=some o)->Q (.ref s.heap.objs.size) { s with heap:=h',toks:=tk }) :
  wpAny (model prog w) A (Builtin.«zip.__next__» ⟨[.ref z],[]⟩) (λfin s'=>∃ v,fin=.done (.ret v)/\Q v s') E s:=by
 show wpAny _ _ (field (.ref z) 2 >>= _) _ _ _
 refine wpAny_bind (wpAny_field hz U (x:=.bool false) U ?_)
 show wpAny _ _ (field (.ref z) 3 >>= _) _ _ _
 refine wpAny_bind (wpAny_field hz U (x:=.ref TI) U (wpAny_bind (wpAny_seqItems hI U ?_)))
 show wpAny _ _ (Builtin.SmallTypes.ownedTupleIsFree (.ref z) >>= _) _ _ _
 refine wpAny_bind (xP hz hT λha za sa=>?_)
 simp only[Bool.false_eq_true,if_false]
 refine wpAny_bind ?_
 simp only[<- Array.forIn_toList,List.forIn_cons,List.forIn_nil]
 refine wpAny_bind (wpAny_bind (wpAny_holding ?_))
 show wpAny _ _ (Builtin.SmallTypes.nextOf (.ref i1) >>= _) _ _ _
 refine wpAny_bind (D1.item k _ _ _ h1 (but D1 sa X.z1 t1) λx hb tk1 px t1b sb=>wpAny_pure (wpAny_pure ?_))
 refine wpAny_bind (wpAny_bind (wpAny_holding ?_))
 show wpAny _ _ (Builtin.SmallTypes.nextOf (.ref i2) >>= _) _ _ _
 refine wpAny_bind (D2.item k _ _ _ h2 (but D2 sb X.a2 (but D2 sa X.z2 t2)) λy hc tk2 py t2c sc=>wpAny_pure (wpAny_pure (wpAny_pure ?_)))
 refine wpAny_bind (wpAny_newTuple (hsz:=(show 2<=sizeLine by decide)) (wpAny_pure ⟨_,U,?_⟩))
 have hsz:hc.objs.size=s.heap.objs.size:=by rw[sc.1,sb.1,sa.1]
 rw[hsz]
 have up:∀ c o,c≠z->c≠i1->c≠i2->s.heap.get? c=some o->(hc.push { cls:=.type "tuple",data:=.seq #[x,y] }).get? c=some o:=λc o c1 c2 c3 e=>Ts _ (sc.extBut _ _ c3 (sb.extBut _ _ c2 (sa.extBut _ _ c1 e)))
 refine hQ x y _ _ px py (Ts _ (sc.extBut _ _ X.i2z.symm (sb.extBut _ _ X.i1z.symm za))) ?_ ?_ (hsz▸TK _ U) (by rw[UA,hsz]) up
 ·exact D1.frame _ _ _ (but D1 sc X.a1 t1b) λq hq o e=>Ts _ e
 ·exact D2.frame _ _ _ t2c λq hq o e=>Ts _ e
theorem zS{k:Nat}{T:Addr}{oT:Obj}{b:Bool}{Q:PySem.Fin->Shared->Prop}(X:Apart z TI TO i1 i2 f1 f2)(D1:Draws prog w A i1 f1 n1 P1 S1)(D2:Draws prog w A i2 f2 n2 P2 S2)(hz:s.heap.get? z=some (pE (rawInt T) b TI TO))(hT:s.heap.get? T=some oT)(hI:IsPair s.heap TI (.ref i1) (.ref i2))(t1:S1 k s.heap)(t2:S2 k s.heap)(hk:Ends prog w A i1 (S1 k)\/(k < n1/\Ends prog w A i2 (S2 k)))(hE:∀ h' e tk,(∀ c o,c≠z->c≠i1->c≠i2->s.heap.get? c=some o->h'.get? c=some o)->(∃ o,h'.get? e=some o/\o.cls=.type "StopIteration")->E (.ref e) { s with heap:=h',toks:=tk }) :
  wpAny (model prog w) A (Builtin.«zip.__next__» ⟨[.ref z],[]⟩) Q E s:=by
 show wpAny _ _ (field (.ref z) 2 >>= _) _ _ _
 refine wpAny_bind (wpAny_field hz U (x:=.bool false) U ?_)
 show wpAny _ _ (field (.ref z) 3 >>= _) _ _ _
 refine wpAny_bind (wpAny_field hz U (x:=.ref TI) U (wpAny_bind (wpAny_seqItems hI U ?_)))
 show wpAny _ _ (Builtin.SmallTypes.ownedTupleIsFree (.ref z) >>= _) _ _ _
 refine wpAny_bind (xP hz hT λha za sa=>?_)
 simp only[Bool.false_eq_true,if_false]
 refine wpAny_bind ?_
 simp only[<- Array.forIn_toList,List.forIn_cons,List.forIn_nil]
 refine wpAny_bind (wpAny_bind (wpAny_holding ?_))
 show wpAny _ _ (Builtin.SmallTypes.nextOf (.ref i1) >>= _) _ _ _
 rcases hk with d1 | ⟨h1,d2⟩
 ·refine wpAny_bind (d1 _ _ _ (but D1 sa X.z1 t1) λhb e sb he=>?_)
  exact hE hb e _ (λc o c1 c2 c3 x=>sb _ _ c2 (sa.extBut _ _ c1 x)) he
 ·refine wpAny_bind (D1.item k _ _ _ h1 (but D1 sa X.z1 t1) λx hb tk1 px t1b sb=>wpAny_pure (wpAny_pure ?_))
  refine wpAny_bind (wpAny_bind (wpAny_holding ?_))
  show wpAny _ _ (Builtin.SmallTypes.nextOf (.ref i2) >>= _) _ _ _
  refine wpAny_bind (d2 _ _ _ (but D2 sb X.a2 (but D2 sa X.z2 t2)) λhc e sc he=>?_)
  exact hE hc e _ (λc o c1 c2 c3 x=>sc _ _ c3 (sb.extBut _ _ c2 (sa.extBut _ _ c1 x))) he
theorem Cm{k:Nat}{T:Addr}{oT:Obj}{b:Bool}{Q:Option Value->Shared->Prop}(X:Apart z TI TO i1 i2 f1 f2)(D1:Draws prog w A.in1 i1 f1 n1 P1 S1)(D2:Draws prog w A.in1 i2 f2 n2 P2 S2)(hz:s.heap.get? z=some (pE (rawInt T) b TI TO))(hT:s.heap.get? T=some oT)(hI:IsPair s.heap TI (.ref i1) (.ref i2))(t1:S1 k s.heap)(t2:S2 k s.heap)(h1:k < n1)(h2:k < n2)(hQ:∀ x y h' tk,P1 k x->P2 k y->h'.get? z=some (pE (rawInt T) true TI TO)->S1 (k+1) h'->S2 (k+1) h'->IsPair h' s.heap.objs.size x y->h'.objs.size=s.heap.objs.size+1 ->
   (∀ c o,c≠z->c≠i1->c≠i2->s.heap.get? c=some o->h'.get? c=some o)->Q (some (.ref s.heap.objs.size)) { s with heap:=h',toks:=tk }):wpAny (model prog w) A (pyNext (.ref z)) Q E s:=by
 have hT2:s.TypeIs (.ref z) "zip":=⟨_,hz,U⟩
 unfold pyNext
 exact wpAny_bind (wpAny_attempt (wpAny_callSpecial?_slot (name:=Str.ofString "__next__") hT2 F.slot_zip_next
  (wpAny_call_entry F.slot_zip_next hT2 F.entry_zip_next (yt X D1 D2 hz hT hI t1 t2 h1 h2 λx y h' tk a1 a2 a3 a4 a5 a6 a7 a8=>wpAny_pure (hQ x y h' tk a1 a2 a3 a4 a5 a6 a7 a8)) (F.args_zip_next_1 _))))
theorem uq{k:Nat}{T:Addr}{oT:Obj}{b:Bool}{Q:Option Value->Shared->Prop}(X:Apart z TI TO i1 i2 f1 f2)(D1:Draws prog w A.in1 i1 f1 n1 P1 S1)(D2:Draws prog w A.in1 i2 f2 n2 P2 S2)(hz:s.heap.get? z=some (pE (rawInt T) b TI TO))(hT:s.heap.get? T=some oT)(hI:IsPair s.heap TI (.ref i1) (.ref i2))(t1:S1 k s.heap)(t2:S2 k s.heap)(hk:Ends prog w A.in1 i1 (S1 k)\/(k < n1/\Ends prog w A.in1 i2 (S2 k)))(hQ:∀ h' tk,(∀ c o,c≠z->c≠i1->c≠i2->s.heap.get? c=some o->h'.get? c=some o)->Q none { s with heap:=h',toks:=tk }):wpAny (model prog w) A (pyNext (.ref z)) Q E s:=by
 have hT2:s.TypeIs (.ref z) "zip":=⟨_,hz,U⟩
 unfold pyNext
 refine wpAny_bind (wpAny_attempt (wpAny_callSpecial?_slot (name:=Str.ofString "__next__") hT2 F.slot_zip_next
  (wpAny_call_entry F.slot_zip_next hT2 F.entry_zip_next (zS X D1 D2 hz hT hI t1 t2 hk λh' e tk kk he=>?_) (F.args_zip_next_1 _))))
 obtain⟨o,ho,hc⟩:=he
 refine wpAny_bind (wpAny_isInstance (T:="StopIteration") (b:=true) ⟨o,ho,hc⟩ isSubtype_stop ?_)
 exact wpAny_pure (hQ _ _ kk)
end
end PyZ
namespace L2
open PySem PySem.Spec PyZ
open PyProof.Rows hiding St
def oU:Hp->List (V×V)->Hp->List Addr->Prop
 | H,[],H',ps=>H'=H/\ps=[]
 | H,(u,v)::r,H',ps=>∃ p qs,H p=none/\ps=p::qs/\oU (upd H p (.tup [u,v])) r H' qs
section
variable{X:Cx}{pins:VH}{O:St}
structure ZS(t1 t2:Bool)(z TI TO i1 i2 a b S:Addr)(eU dU:Array Value)(k:Nat)(H:Hp)(h:Heap)(acc:Array Value)(c:Nat):Prop where
 zip:IsZip h z TI TO .none\/∃ (T:Addr) (tv:List V) (b':Bool),h.get? z=some (pE (rawInt T) b' TI TO)/\H T=some (.tup tv)
 ins:IsPair h TI (.ref i1) (.ref i2)
 out:∃ u v,IsPair h TO u v
 e1:ie t1 h i1 a k/\ku t1 h a eU
 e2:ie t2 h i2 b k/\ku t2 h b dU
 lst:h.get? S=some { cls:=.type "list",dict:=none,data:=.seq acc c,slots:=#[] }
theorem qf{xs:List V}{its:List Value}{k:Nat}{u:V}(h:Vals (u::xs) (its.drop k)):∃ v,its[k]?=some v/\RelV u v/\Vals xs (its.drop (k+1)):=by
 cases e:its.drop k with
 | nil=>rw[e] at h;cases h
 | cons v r =>
  rw[e] at h
  cases h with
  | cons h1 h2 =>
  refine⟨v,?_,h1,?_⟩
  ·have:=congrArg (λl=>l[0]?) e
   simpa using this
  ·rw[<- List.drop_drop (i:=1) (j:=k),e]
   exact h2
theorem j1{its:List Value}{k:Nat}(h:Vals [] (its.drop k)):its.length<=k:=by
 cases e:its.drop k with
 | nil=>simpa using e
 | cons v r=>rw[e] at h;cases h
theorem Aq(hc:X.calm=true){A:Around}(hh:A.in1.in1.handled=none){t1 t2:Bool}{z TI TO i1 i2 a b S:Addr}(Y:Apart z TI TO i1 i2 [i1,a] [i2,b])(ha:a≠i1)(hb:b≠i2)(hS:S∉[z,TI,TO,i1,i2])(QS:a≠S)(Ta:b≠S)(ho:a∉[z,TI,TO,i1,i2]/\b∉[z,TI,TO,i1,i2]){eU dU:List Value}{res:Value}{R:Result->Shared->Prop}(FZ:eU.length<=sizeLine):∀ (xs ys:List V) (k:Nat) (s:Shared) (H:Hp) (acc:Array Value) (c:Nat),
  Vals xs (eU.drop k)->Vals ys (dU.drop k)->acc.size=k->k<=eU.length->Inv X pins O H s->(∀ q∈[z,TI,TO,i1,i2,S],fz X pins H q)->ZS t1 t2 z TI TO i1 i2 a b S eU.toArray dU.toArray k H s.heap acc c ->
  (∀ s' H' qs acc' c',Inv X pins O H' s'->(∀ q∈[z,TI,TO,i1,i2,S],fz X pins H' q)->s'.heap.get? S=some { cls:=.type "list",dict:=none,data:=.seq acc' c',slots:=#[] }->acc'.toList=acc.toList++qs.map Value.ref->acc'.size<=sizeLine->oU H (xs.zip ys) H' qs->R (.ok (.ret res)) s') ->
  codeAny (model X.prog X.w) A (.builtin "list.extend.loop" ⟨[.ref S,.ref z,res],[]⟩) R s:=by
 have nS:∀ {q:Addr},q∈[z,TI,TO,i1,i2]->q≠S:=λhq e=>hS (e▸hq)
 have D1:=jC (prog:=X.prog) (w:=X.w) t1 hh i1 a ha eU.toArray
 have D2:=jC (prog:=X.prog) (w:=X.w) t2 hh i2 b hb dU.toArray
 have fin:∀ (xs ys:List V) (k:Nat) (s:Shared) (H:Hp) (acc:Array Value) (c:Nat),xs.zip ys=[]->(PyZ.Ends X.prog X.w A.in1.in1 i1 (λh=>ie t1 h i1 a k/\ku t1 h a eU.toArray)\/(k < eU.toArray.size/\PyZ.Ends X.prog X.w A.in1.in1 i2 (λh=>ie t2 h i2 b k/\ku t2 h b dU.toArray)))->acc.size=k->k<=eU.length->Inv X pins O H s->(∀ q∈[z,TI,TO,i1,i2,S],fz X pins H q)->ZS t1 t2 z TI TO i1 i2 a b S eU.toArray dU.toArray k H s.heap acc c ->
  (∀ s' H' qs acc' c',Inv X pins O H' s'->(∀ q∈[z,TI,TO,i1,i2,S],fz X pins H' q)->s'.heap.get? S=some { cls:=.type "list",dict:=none,data:=.seq acc' c',slots:=#[] }->acc'.toList=acc.toList++qs.map Value.ref->acc'.size<=sizeLine->oU H (xs.zip ys) H' qs->R (.ok (.ret res)) s') ->
  codeAny (model X.prog X.w) A (.builtin "list.extend.loop" ⟨[.ref S,.ref z,res],[]⟩) R s:=by
  intro xs ys k s H acc c he hk hacc hkl I hf Z hR
  refine codeAny_builtin F.entry_extend_loop ?_
  rw[Around.under_plainId F.plain_extend_loop _]
  show wpAny _ A.in1 (pyNext (.ref z) >>= _) _ _ s
  have done:∀ h' tk,(∀ c o,c≠z->c≠TO->c≠i1->c≠i2->s.heap.get? c=some o->h'.get? c=some o)->R (.ok (.ret res)) { s with heap:=h',toks:=tk }:=λh' tk kk=>by
   refine hR _ H [] acc c (Inv.jz I (λb o hb e=>?_) hf) hf ?_ (by simp) (by omega) (by rw[he];exact⟨U,U⟩)
   ·simp only[List.mem_cons,List.not_mem_nil,or_false,not_or] at hb
    exact kk b o hb.1 hb.2.2.1 hb.2.2.2.1 hb.2.2.2.2.1 e
   ·exact kk S _ (λe=>hS (by simp[e])) (λe=>hS (by simp[e])) (λe=>hS (by simp[e])) (λe=>hS (by simp[e])) Z.lst
  rcases Z.zip with hz | ⟨T,tv,b',hz,hT⟩
  ·exact wpAny_bind (z6 Y D1 D2 ⟨hz,Z.ins,Z.out,Z.e1,Z.e2⟩ hk λh' tk kk=>wpAny_pure (done h' tk kk))
  ·obtain⟨_,its,_,oT,eT,_⟩:=(show cf X.prog X.w H s.heap T (.tup tv) from I.aL T _ hT)
   exact wpAny_bind (uq Y D1 D2 hz eT Z.ins Z.e1 Z.e2 hk λh' tk kk=>wpAny_pure (done h' tk λc o c1 _ c3 c4 e=>kk c o c1 c3 c4 e))
 intro xs
 induction xs with
 | nil =>
  intro ys k s H acc c v1 v2 hacc hkl I hf Z hR
  exact fin [] ys k s H acc c U (.inl (sD t1 hh (by rw[TV];exact j1 v1))) hacc hkl I hf Z hR
 | cons x xs ih =>
  intro ys k s H acc c v1 v2 hacc hkl I hf Z hR
  obtain⟨u,hu,ru,v1'⟩:=qf v1
  have hk1:k < eU.length:=(Tw.mp hu).1
  cases ys with
  | nil=>exact fin (x::xs) [] k s H acc c U (.inr ⟨by simpa using hk1,sD t2 hh (by rw[List.size_toArray];exact j1 v2)⟩) hacc hkl I hf Z hR
  | cons y ys =>
  obtain⟨v,hv,rv,v2'⟩:=qf v2
  have hk2:k < dU.length:=(Tw.mp hv).1
  refine codeAny_builtin F.entry_extend_loop ?_
  rw[Around.under_plainId F.plain_extend_loop _]
  show wpAny _ A.in1 (pyNext (.ref z) >>= _) _ _ s
  have qS:H s.heap.objs.size=none:=I.aL.fresh (TB _)
  have iQ:∀ q∈[z,TI,TO,i1,i2,S],q < s.heap.objs.size:=λq hq=>by
   simp only[List.mem_cons,List.not_mem_nil,or_false] at hq
   rcases hq with rfl | rfl | rfl | rfl | rfl | rfl
   ·rcases Z.zip with e | ⟨_,_,_,e,_⟩
    ·exact Tz e
    ·exact Tz e
   ·exact Tz Z.ins
   ·obtain⟨_,_,e⟩:=Z.out
    exact Tz e
   ·obtain⟨o,e,_⟩:=Z.e1.1.obj
    exact Tz e
   ·obtain⟨o,e,_⟩:=Z.e2.1.obj
    exact Tz e
   ·exact Tz Z.lst
  have cont:∀ (h':Heap) (tk:Nat) (T:Addr) (tv:List V) (b':Bool),upd H s.heap.objs.size (.tup [x,y]) T=some (.tup tv)->h'.get? z=some (pE (rawInt T) b' TI TO)->IsPair h' TI (.ref i1) (.ref i2)->(∃ u v,IsPair h' TO u v)->(ie t1 h' i1 a (k+1)/\ku t1 h' a eU.toArray)->(ie t2 h' i2 b (k+1)/\ku t2 h' b dU.toArray)->IsPair h' s.heap.objs.size u v->(∀ c o,c∉[z,TI,TO,i1,i2]->s.heap.get? c=some o->h'.get? c=some o) ->
    wpAny (model X.prog X.w) A.in1 (updateSeq S (·.push (Value.ref s.heap.objs.size)) >>= λ_=>again (.builtin "list.extend.loop" ⟨[.ref S,.ref z,res],[]⟩)) (λfin s'=>match fin with | .done f=>R (.ok f) s' | .again c'=>c'.quiet=true/\codeAny (model X.prog X.w) A c' R s') (λe s'=>R (.error e) s') { s with heap:=h',toks:=tk }:=by
   intro h' tk T tv b' hT hz hI hO q1 q2 hp kk
   have I1:Inv X pins O (upd H s.heap.objs.size (.tup [x,y])) { s with heap:=h',toks:=tk } :=
    Inv.sj I (λb o hb e=>kk b o (λm=>hb (by simp only[List.mem_cons,List.not_mem_nil,or_false] at m ⊢;rcases m with m | m | m | m | m<;>simp[m])) e) hf (Nat.le_refl _) ⟨by show 2<=sizeLine;decide,[u,v],.cons ru (.cons rv .nil),⟨_,hp,rfl,_,rfl⟩⟩
   have hf1:∀ q∈[z,TI,TO,i1,i2,S],fz X pins (upd H s.heap.objs.size (.tup [x,y])) q:=λq hq=>by
    obtain⟨f0,fr⟩:=hf q hq
    exact⟨by rw[aj (TQ (iQ q hq))];exact f0,fr⟩
   have hS':h'.get? S=some { cls:=.type "list",dict:=none,data:=.seq acc c,slots:=#[] }:=kk S _ hS Z.lst
   refine wpAny_bind (wpAny_updateSeq hS' U (wpAny_pure ⟨plainId_quiet F.plain_extend_loop _,?_⟩) (by omega) (by show (acc.push _).size<=sizeLine+1;rw[Array.size_push];omega))
   have oth:∀ q o,q≠S->h'.get? q=some o->(h'.update S (Obj.mapSeq (·.push (Value.ref s.heap.objs.size)))).get? q=some o:=λq o hq e=>(Uc _ _ (Ne.symm hq)).trans e
   have I2:Inv X pins O (upd H s.heap.objs.size (.tup [x,y])) { s with heap:=h'.update S (Obj.mapSeq (·.push (Value.ref s.heap.objs.size))),toks:=tk } :=
    Inv.jz (s:={ s with heap:=h',toks:=tk }) I1 (λq o hq e=>oth q o (λe=>hq (by simp[e])) e) hf1
   obtain⟨c2,hc2⟩:∃ c2,(h'.update S (Obj.mapSeq (·.push (Value.ref s.heap.objs.size)))).get? S=some { cls:=.type "list",dict:=none,data:=.seq (acc.push (Value.ref s.heap.objs.size)) c2,slots:=#[] }:=⟨_,Ul _ hS' U⟩
   refine ih ys (k+1) _ (upd H s.heap.objs.size (.tup [x,y])) (acc.push (Value.ref s.heap.objs.size)) c2 v1' v2' (by rw[Array.size_push,hacc]) hk1 I2 hf1 ?_ λs' H' qs acc' c' J1 J2 J3 J4 J5 J6=>?_
   ·refine⟨.inr ⟨T,tv,b',oth z _ (nS (by simp)) hz,hT⟩,oth TI _ (nS (by simp)) hI,let ⟨p,q,e⟩:=hO;⟨p,q,oth TO _ (nS (by simp)) e⟩,⟨q1.1.at λo e=>oth i1 o (nS (by simp)) e,q1.2.at λo e=>oth a o QS e⟩,⟨q2.1.at λo e=>oth i2 o (nS (by simp)) e,q2.2.at λo e=>oth b o Ta e⟩,?_⟩
    exact hc2
   ·refine hR s' H' (s.heap.objs.size::qs) acc' c' J1 J2 J3 ?_ J5 ⟨_,qs,qS,U,J6⟩
    rw[J4]
    simp
  rcases Z.zip with hz | ⟨T,tv,b',hz,hT⟩
  ·refine wpAny_bind (wX Y D1 D2 ⟨hz,Z.ins,Z.out,Z.e1,Z.e2⟩ (by simpa using hk1) (by simpa using hk2) λu' v' h' tk pu pv Z' pT hsz kk=>?_)
   have e1:u'=u:=by
    have q:eU[k]?=some u':=by simpa using pu
    rw[hu] at q
    exact (Ue q).symm
   have e2:v'=v:=by
    have q:dU[k]?=some v':=by simpa using pv
    rw[hv] at q
    exact (Ue q).symm
   subst e1;subst e2
   exact cont h' tk s.heap.objs.size _ false au Z'.zip Z'.ins Z'.out Z'.Ip Z'.E8 pT λc o hc e=>by
    simp only[List.mem_cons,List.not_mem_nil,or_false,not_or] at hc
    exact kk c o hc.1 hc.2.2.1 hc.2.2.2.1 hc.2.2.2.2 e
  ·obtain⟨_,its,_,oT,eT,_⟩:=(show cf X.prog X.w H s.heap T (.tup tv) from I.aL T _ hT)
   refine wpAny_bind (Cm Y D1 D2 hz eT Z.ins Z.e1 Z.e2 (by simpa using hk1) (by simpa using hk2) λu' v' h' tk pu pv z' s1 s2 pT hsz kk=>?_)
   have e1:u'=u:=by
    have q:eU[k]?=some u':=by simpa using pu
    rw[hu] at q
    exact (Ue q).symm
   have e2:v'=v:=by
    have q:dU[k]?=some v':=by simpa using pv
    rw[hv] at q
    exact (Ue q).symm
   subst e1;subst e2
   obtain⟨p,q,eO⟩:=Z.out
   refine cont h' tk T tv true (by rw[aj (aC hT qS)];exact hT) z' (kk TI _ Y.TIz Y.TIi1 Y.TIi2 Z.ins) ⟨p,q,kk TO _ Y.TOz Y.TOi1 Y.TOi2 eO⟩ s1 s2 pT λc o hc e=>?_
   simp only[List.mem_cons,List.not_mem_nil,or_false,not_or] at hc
   exact kk c o hc.1 hc.2.2.2.1 hc.2.2.2.2 e
def AS(K:Frag)(t:TA):TE:=λO H Q=>t O H λvs H1=>∃ a b t1 t2 xs ys,vs=[.ref a,.ref b]/\(xb K t1 H1 a xs/\xb K t2 H1 b ys)/\∀ H2 qs l,oU H1 (xs.zip ys) H2 qs->H2 l=none->Q (.ref l) (upd H2 l (.lst (qs.map V.ref)))
theorem qh:∀ qs:List Addr,Vals (qs.map V.ref) (qs.map Value.ref)
 | []=>.nil
 | _::qs=>.cons U (qh qs)
theorem Inv.Kt{s:Shared}{H:Hp}{S:Addr}{o:HO}(I:Inv X pins O H s)(f:fz X pins H S)(new:cf X.prog X.w (upd H S o) s.heap S o):Inv X pins O (upd H S o) s:=by
 obtain⟨f0,f1,f2,f3,f4,f5⟩:=f
 have up:∀ b u,H b=some u->upd H S o b=some u:=λb u e=>by rw[aj (aC e f0)];exact e
 refine I.step (g':=s.gens) (d':=s.drawn) (t':=s.toks) (h':=s.heap) (ch:=[S]) (λb hb=>?_) (λb ob _ _ _ e _=>e) (λb ob _ _ _ e _=>⟨ob.slots,e⟩) (λb ob hc _ n=>?_)
  (λb ob _ e=>⟨ob,e⟩) (λb xs e=>up b _ e) (λb ob u e=>up b _ e) (λb ps e=>⟨#[],by rw[up b _ e];simp⟩) (λm hm=>hm) (λb u e=>?_) I.bare
 ·rw[TL.mp hb]
  exact⟨f3,f1,f4,f5⟩
 ·rw[aj (λe=>hc (by rw[e];exact TL.mpr U))]
  exact n
 ·by_cases hb:b=S
  ·subst hb
   rw[au] at e
   cases e
   exact new
  ·rw[aj hb] at e
   exact (I.aL b u e).pz (λ_ _ _ q=>q) (λ_ q=>up _ _ q) λ_ _ q=>up _ _ q
theorem Bv(hc:X.calm=true){s:Shared}{H:Hp}{z TI TO i1 i2 a b:Addr}{t1 t2:Bool}(Y:Apart z TI TO i1 i2 [i1,a] [i2,b])(ha:a≠i1)(hb:b≠i2){eU dU:List Value}{xs ys:List V}(v1:Vals xs eU)(v2:Vals ys dU)(FZ:eU.length<=sizeLine)(I:Inv X pins O H s)(hf:∀ q∈[z,TI,TO,i1,i2],fz X pins H q)(Z:E9 t1 t2 z TI TO i1 i2 a b 0 s.heap)(p1:ku t1 s.heap a eU.toArray)(p2:ku t2 s.heap b dU.toArray)(ho:a∉[z,TI,TO,i1,i2]/\b∉[z,TI,TO,i1,i2]){Q:VG}{E:VG}(hQ:∀ s' H' qs l,oU H (xs.zip ys) H' qs->H' l=none->Inv X pins O (upd H' l (.lst (qs.map V.ref))) s'->Q (.ref l) s') :
  wpAny (model X.prog X.w) X.A (call (.type "list") [.ref z]) Q E s:=by
 have hzlt:z < s.heap.objs.size:=Tz Z.zip
 have iQ:∀ q∈[z,TI,TO,i1,i2],q < s.heap.objs.size:=λq hq=>by
  simp only[List.mem_cons,List.not_mem_nil,or_false] at hq
  rcases hq with rfl | rfl | rfl | rfl | rfl
  ·exact hzlt
  ·exact Tz Z.ins
  ·obtain⟨_,_,e⟩:=Z.out
   exact Tz e
  ·obtain⟨o,e,_⟩:=Z.e1.obj
   exact Tz e
  ·obtain⟨o,e,_⟩:=Z.e2.obj
   exact Tz e
 have hS5:s.heap.objs.size∉[z,TI,TO,i1,i2]:=λm=>absurd (iQ _ m) (UR _)
 refine callType_codes (Q₁:=λobj s₁=>obj=.ref s.heap.objs.size/\s₁={ s with heap:=s.heap.push { cls:=.type "list",data:=.seq #[] } }) F.called_list (F.typeCall_list_1 _) F.entry_list_init
  (code_list_new _ ⟨U,U⟩) λobj s₁ h₁=>?_
 obtain⟨rfl,rfl⟩:=h₁
 have hL:(s.heap.push { cls:=.type "list",data:=.seq #[] }).get? s.heap.objs.size=some { cls:=.type "list",data:=.seq #[] }:=TK _ U
 refine⟨⟨_,hL,U⟩,F.args_list_init_2 _ _,?_⟩
 show wpAny _ _ (do let old <- Builtin.List.listItems (.ref s.heap.objs.size);Builtin.List.listUpdate (.ref s.heap.objs.size) (λ_=>#[]);letGo old.toList.reverse;Builtin.List.listExtendWith (.ref s.heap.objs.size) (.ref z) .none) _ _ _
 refine wpAny_bind ?_
 unfold Builtin.List.listItems
 refine wpAny_bind (wpAny_seqItems hL U (wpAny_pure ?_))
 show wpAny _ _ (updateSeq s.heap.objs.size (λ_=>#[]) >>= λ_=>letGo (#[]:Array Value).toList.reverse >>= λ_=>Builtin.List.listExtendWith (.ref s.heap.objs.size) (.ref z) .none) _ _ _
 refine wpAny_bind (wpAny_updateSeq hL U ?_)
 obtain⟨c2,h2⟩:∃ c2,((s.heap.push { cls:=.type "list",data:=.seq #[] }).update s.heap.objs.size (Obj.mapSeq (λ_=>(#[]:Array Value)))).get? s.heap.objs.size=some { cls:=.type "list",dict:=none,data:=.seq #[] c2,slots:=#[] }:=⟨_,Ul _ hL U⟩
 have oth:∀ b o,b≠s.heap.objs.size->s.heap.get? b=some o->((s.heap.push { cls:=.type "list",data:=.seq #[] }).update s.heap.objs.size (Obj.mapSeq (λ_=>(#[]:Array Value)))).get? b=some o :=
  λb o hb e=>(Uc _ _ (Ne.symm hb)).trans (Ts _ e)
 refine wpAny_bind (wpAny_letGo ?_)
 generalize (s.heap.push { cls:=.type "list",data:=.seq #[] }).update s.heap.objs.size (Obj.mapSeq (λ_=>(#[]:Array Value)))=h3 at h2 oth
 have hzz:IsZip h3 z TI TO .none:=oth z _ (TQ hzlt) Z.zip
 have hTz:Shared.TypeIs { s with heap:=h3 } (.ref z) "zip":=⟨_,hzz,U⟩
 unfold Builtin.List.listExtendWith
 refine wpAny_bind (wpAny_typeOf hTz ?_)
 have g1:Builtin.List.listSameRef (.ref s.heap.objs.size) (.ref z)=false:=by simp[Builtin.List.listSameRef,Nat.ne_of_gt hzlt]
 have g2:(Value.type "zip" == Value.type "list")=false:=by decide
 have g3:(Value.type "zip" == Value.type "tuple")=false:=by decide
 simp only[g1,g2,g3,Bool.or_false,Bool.false_eq_true,if_false]
 refine wpAny_bind (wpAny_pyIter_zip hzz ?_)
 refine wpAny_bind (wpAny_holding ?_)
 unfold Builtin.List.listLengthHint
 refine wpAny_bind (wpAny_specialOf hTz F.By ?_)
 wp_delta
 refine wpAny_bind (wpAny_specialOf hTz F.ym ?_)
 refine wpAny_pure ?_
 rw[if_pos (by decide)]
 refine wpAny_bind (wpAny_rule ?_)
 unfold Builtin.List.listTouch
 refine wpAny_bind (wpAny_bind ?_)
 show wpAny _ _ (updateSeq s.heap.objs.size (·.push .none)) _ _ _
 refine wpAny_updateSeq h2 U ?_
 obtain⟨c4,h4⟩:∃ c4,(h3.update s.heap.objs.size (Obj.mapSeq (·.push Value.none))).get? s.heap.objs.size=some { cls:=.type "list",dict:=none,data:=.seq #[.none] c4,slots:=#[] }:=⟨_,Ul _ h2 U⟩
 have oth4:∀ b o,b≠s.heap.objs.size->s.heap.get? b=some o->(h3.update s.heap.objs.size (Obj.mapSeq (·.push Value.none))).get? b=some o:=λb o hb e=>(Uc _ _ (Ne.symm hb)).trans (oth b o hb e)
 generalize h3.update s.heap.objs.size (Obj.mapSeq (·.push Value.none))=h5 at h4 oth4
 show wpAny _ _ (updateSeq s.heap.objs.size (·.pop)) _ _ _
 refine wpAny_updateSeq h4 U ?_
 obtain⟨c6,h6⟩:∃ c6,(h5.update s.heap.objs.size (Obj.mapSeq (·.pop))).get? s.heap.objs.size=some { cls:=.type "list",dict:=none,data:=.seq #[] c6,slots:=#[] }:=⟨_,Ul _ h4 U⟩
 have oth6:∀ b o,b≠s.heap.objs.size->s.heap.get? b=some o->(h5.update s.heap.objs.size (Obj.mapSeq (·.pop))).get? b=some o:=λb o hb e=>(Uc _ _ (Ne.symm hb)).trans (oth4 b o hb e)
 generalize h5.update s.heap.objs.size (Obj.mapSeq (·.pop))=h7 at h6 oth6
 have kept:∀ b o,s.heap.get? b=some o->h7.get? b=some o:=λb o e=>oth6 b o (TQ (Tz e)) e
 have aS:a≠s.heap.objs.size:=TQ (ku.lt p1)
 have bS:b≠s.heap.objs.size:=TQ (ku.lt p2)
 have I7:Inv X pins O H { s with heap:=h7 }:=I.kept (t':=s.toks) kept
 have hf7:∀ q∈[z,TI,TO,i1,i2,s.heap.objs.size],fz X pins H q:=λq hq=>by
  simp only[List.mem_cons,List.not_mem_nil,or_false] at hq
  rcases hq with e | e | e | e | e | e
  ·exact hf q (by simp[e])
  ·exact hf q (by simp[e])
  ·exact hf q (by simp[e])
  ·exact hf q (by simp[e])
  ·exact hf q (by simp[e])
  ·rw[e]
   exact I.pq (TB _) (I.aL.fresh (TB _))
 refine wpAny_pure ⟨plainId_quiet F.plain_extend_loop _,?_⟩
 refine Aq (A:=X.A.in1) hc (I.ok.hd hc) Y ha hb hS5 aS bS ho FZ xs ys 0 _ H #[] c6 (by simpa using v1) (by simpa using v2) U (Nat.zero_le _) I7 hf7
  ⟨.inl (kept _ _ Z.zip),kept _ _ Z.ins,let ⟨p,q,e⟩:=Z.out;⟨p,q,kept _ _ e⟩,⟨Z.e1.at λo e=>kept _ _ e,p1.at λo e=>kept _ _ e⟩,⟨Z.e2.at λo e=>kept _ _ e,p2.at λo e=>kept _ _ e⟩,h6⟩ λs' H' qs acc' c' J1 J2 J3 J4 J5 J6=>?_
 have hn:H' s.heap.objs.size=none:=(J2 s.heap.objs.size (by simp)).1
 refine⟨U,hQ s' H' qs s.heap.objs.size J6 hn (Inv.Kt J1 (J2 s.heap.objs.size (by simp)) ?_)⟩
 have e4:acc'.toList=qs.map Value.ref:=by simpa using J4
 have e5:(qs.map V.ref).length=acc'.size:=by
  have:=congrArg List.length e4
  simp at this
  rw[Tr]
  exact this.symm
 exact⟨by rw[e5];exact J5,qs.map Value.ref,c',qh qs,by rw[<- e4];exact J3⟩
theorem wG{a b:Expr}{t:TA}{p p2 pos j4:Pos}(hc:X.calm=true)(IP:Gl X "list")(DX:X.mg "list"=none)(hg:Gl X "zip")(hm:X.mg "zip"=none)(ha:PA X [a,b] t)(hs:starEach [.Call (.Name "zip" p2) [a,b] [] j4] X.env=[(false,eval (.Call (.Name "zip" p2) [a,b] [] j4) X.env)]:=by rfl)(LY:starEach [a,b] X.env=[(false,eval a X.env),(false,eval b X.env)]:=by rfl)(qt:starEach [b] X.env=[(false,eval b X.env)]:=by rfl) :
  PE X (.Call (.Name "list" p) [.Call (.Name "zip" p2) [a,b] [] j4] [] pos) (AS X.K t):=by
 intro pins s O H Q I h
 refine wpAny_Call_Name_kw (gT I IP DX PyProof.Rows.boot_list ?_ (by decide) (by decide))
 refine PyProof.Rows.callWith_type1 ?_ hs U
 rw[hs]
 show wpAny _ _ (spliced ((false,eval (.Call (.Name "zip" p2) [a,b] [] j4) X.env)::backTo pos [])) _ _ s
 refine Calls.spliced_cons ?_
 refine Call_ (gT I hg hm (u:=.type "zip") (by decide+kernel) (PyProof.Rows.callWith_type1 (b8 (ha j4 pins s O H _ I h) λus s1 zz=>el2 zz λvs H1 I1 r1 q1=>?_) (by rw[LY,qt]) (by rw[qt];rfl)))
 obtain⟨l1,l2,t1,t2,xs,ys,e,⟨hx,hy⟩,q⟩:=q1
 subst e
 obtain⟨u,v,rfl,ru,rv⟩:=Vals.two r1
 cases ru
 cases rv
 obtain⟨eU,v1,p1,z1⟩:=iS I1 hx
 obtain⟨dU,v2,p2,z2⟩:=iS I1 hy
 have b1:=ku.lt p1
 have b2:=ku.lt p2
 have l1':=v1.length
 refine uM p1 p2 λh' hz hI hO e1 e2 hsz hk=>?_
 refine Calls.spliced_nil ?_
 have I2:Inv X pins O H1 { s1 with heap:=h' }:=I1.kept (t':=s1.toks) hk
 have ge:∀ {c:Addr},c∈[s1.heap.objs.size+4,s1.heap.objs.size+2,s1.heap.objs.size+3,s1.heap.objs.size,s1.heap.objs.size+1]->s1.heap.objs.size<=c:=λ{c} hc=>by
  simp only[List.mem_cons,List.not_mem_nil,or_false] at hc
  rcases hc with e | e | e | e | e<;>(rw[e];first | exact TB _ | exact Nat.le_add_right _ _)
 refine Bv hc (apart_new b1 b2) (TQ b1) (TQ (Nat.lt_succ_of_lt b2)) v1 v2 (by omega) I2 (λc hc=>I1.pq (ge hc) (I1.aL.fresh (ge hc))) ⟨hz,hI,⟨_,_,hO⟩,e1,e2⟩ (p1.at λo e=>hk _ o e) (p2.at λo e=>hk _ o e) ⟨λm=>absurd (TN b1 (ge m)) (UR _),λm=>absurd (TN b2 (ge m)) (UR _)⟩ λs' H' qs l J1 J2 J3=>?_
 exact⟨.ref l,_,J3,U,q H' qs l J1 J2⟩
end
end L2
namespace DL
open PySem PySem.Spec L2
open PyProof.Rows hiding St
section
variable{X:Cx}{c:Ent}
theorem qp{K:Frag}{s:DS}{as:List Addr}{O:St}:∀ (xs ys:List D) (us vs:List V) (M:Addr->Prop) (H H':Hp) (qs:List Addr),aE K c M s as O H->ay K H M xs us->ay K H M ys vs->oU H (us.zip vs) H' qs ->
  ∃ M',aE K c M' s as O H'/\Ext c as M s H M' s H'/\ay K H' M' (oO xs ys) (qs.map V.ref)
 | [],ys,us,vs,M,H,H',qs,L,r1,r2,l=>by
  have r1:us=[]:=r1
  subst r1
  obtain⟨e1,e2⟩:=(show H'=H/\qs=[] from l)
  subst e1 e2
  exact⟨M,L,.refl,U⟩
 | x::xs,[],us,vs,M,H,H',qs,L,r1,r2,l=>by
  have r2:vs=[]:=r2
  subst r2
  rw[List.zip_nil_right] at l
  obtain⟨e1,e2⟩:=(show H'=H/\qs=[] from l)
  subst e1 e2
  exact⟨M,L,.refl,U⟩
 | x::xs,y::ys,us,vs,M,H,H',qs,L,r1,r2,l=>by
  obtain⟨u,us,rfl,ru,r1⟩:=r1
  obtain⟨v,vs,rfl,rv,r2⟩:=r2
  obtain⟨p,ps,hp,rfl,l2⟩:=(show ∃ p ps,H p=none/\qs=p::ps/\oU (upd H p (.tup [u,v])) (us.zip vs) H' ps from l)
  obtain⟨M',L',E',r'⟩:=qp xs ys us vs _ _ H' ps (L.fresh (o:=.tup [u,v]) hp) (iq hp r1) (iq hp r2) l2
  refine⟨M',L',(Ext.fresh hp).trans (L.fresh hp).base E',.ref p,_,U,?_,r'⟩
  refine E'.rep (L.fresh hp) ⟨p,[u,v],U,⟨.inr U,au⟩,?_⟩
  exact⟨u,[v],U,j9 hp ru,v,[],U,j9 hp rv,U⟩
def yf(t:fU):br:=λs Q=>t s λas s1=>∃ d e xs ys,as=[d,e]/\(Bc d=some xs/\Bc e=some ys)/\Q (.lst (oO xs ys)) s1
theorem qk{a b:Expr}{t:fU}{p p2 pos j4:Pos}(hc:X.calm=true)(IP:Gl X "list")(DX:X.mg "list"=none)(hg:Gl X "zip")(hm:X.mg "zip"=none)(ha:DA X c [a,b] t)(hs:starEach [.Call (.Name "zip" p2) [a,b] [] j4] X.env=[(false,eval (.Call (.Name "zip" p2) [a,b] [] j4) X.env)]:=by rfl)(LY:starEach [a,b] X.env=[(false,eval a X.env),(false,eval b X.env)]:=by rfl)(qt:starEach [b] X.env=[(false,eval b X.env)]:=by rfl) :
  DN X c (.Call (.Name "list" p) [.Call (.Name "zip" p2) [a,b] [] j4] [] pos) (yf t):=⟨(wG hc IP DX hg hm ha.pa hs LY qt).imp λO H Q zz=>ei zz λM s as R L q k =>
 ⟨M,s,as,_,L,q,λds s1 q1 M1 H1 vs L1 E1 r1 hl=>by
  obtain⟨d,e,xs,ys,rfl,⟨hd,he⟩,q2⟩:=q1
  obtain⟨u,r,rfl,ru,r⟩:=r1
  obtain⟨v,r',rfl,rv,r⟩:=r
  have r:r'=[]:=r
  subst r
  obtain⟨a1,t1,us,rfl,rus,g1⟩:=ni hd ru
  obtain⟨a2,t2,vs,rfl,rvs,g2⟩:=ni he rv
  have G0:dW M1 H1 M1 H1:=λb m=>⟨m,λo e=>e⟩
  refine⟨a1,a2,t1,t2,us,vs,U,⟨(g1 M1 H1 G0).1,(g2 M1 H1 G0).1⟩,λH2 qs l J hl=>?_⟩
  obtain⟨M2,Lb,E2,r2⟩:=qp xs ys us vs M1 H1 H2 qs L1 rus rvs J
  exact jk (d:=.lst _) L Lb (E1.trans L1.base E2) hl r2 (k _ s1 q2)⟩⟩
theorem HJ{ty td:br}{O:St}{H:Hp}{Q:VK}:tE X.K c (EZ false ty td) O H Q->KC (tE X.K c ty) (tE X.K c td) O H Q:=λzz=>ei zz λM s as R L q kk =>
 ⟨M,s,as,_,L,q,λdy s1 q1 M1 H1 y L1 E1 ry=>⟨M1,s1,as,_,L1,q1,λd s2 z4r M2 H2 v Lb E2 rv=>by
  obtain⟨hd,q2⟩:=z4r
  obtain⟨a,o,rfl,f1,f2⟩:=rv.dc hd
  obtain⟨ov,od,w1,w2,w3⟩:=qY q2 f1 f2 (E2.rep L1 ry)
  refine⟨a,ov,U,w1,?_⟩
  have e:ov.isSome=od.isSome:=by
   rcases w3 with ⟨rfl,rfl⟩ | ⟨v,x,rfl,rfl,rx⟩<;>rfl
  rw[e]
  exact kk _ s2 w2 M2 H2 _ Lb (E1.trans L1.base E2) U⟩⟩
theorem rA{i o:Expr}{pos:Pos}{ty td:br}(hu:X.A.units+1 < cLine)(hi:DE X c i ty)(ho:DE X c o td)(h1:behindInMarks .In o=false:=by rfl):DT X c (.Compare i [.In] [o] pos) (Iz (EZ false ty td)) :=
 ⟨(HH (Hv hu hi.pe ho.pe) h1).imp λO H Q q=>kx HJ q⟩
end
end DL
namespace DL
open PySem PySem.Spec L2
structure fZ where
 name:Str
 fs:List (Str×Str)
structure fB where
 name:Str
 ps:List (Str×Str)
 res:Str
structure Kd where
 asked:Bool
 name:Str
 bj:List fZ
 bO:List fB
structure er where
 kinds:List Kd
 vars:List Str
 heads:List Str
 inner:Bool
 words:List Str
def bu(b:Bool):Str:=if b=true then "asked" else "made"
def pairD(p:Str×Str):D:=.tup [.str p.1,.str p.2]
def eF(ps:List (Str×Str)):D:=.tup (ps.map pairD)
def bW(m:fZ):D:=.tup [.str m.name,eF m.fs]
def bP(a:fB):D:=.tup [.str a.name,eF a.ps,.str a.res]
def lI(k:Kd):D:=.tup [.str (bu k.asked),.str k.name,.tup (k.bj.map bW),.tup (k.bO.map bP)]
def wI(W:er)(k:Str):Prop:=k="number"\/∃ kd∈W.kinds,kd.bj≠[]/\kd.name=k
def Cv(W:er)(ns:List Str)(ps:List (Str×Str)):Prop:=ps.length<=3/\ps.map (·.1)=ns.take ps.length/\∀ p∈ps,wI W p.2
structure jG(W:er):Prop where
 kl:W.kinds.length<=5
 kn:(W.kinds.map Kd.name).Nodup
 kw:∀ k∈W.kinds,Nm k.name/\k.bj.length<=5/\k.bO.length<=5
 mn:(W.kinds.flatMap λk=>k.bj.map fZ.name).Nodup
 an:(W.kinds.flatMap λk=>k.bO.map fB.name).Nodup
 mo:∀ k∈W.kinds,∀ m∈k.bj,Nm m.name/\Cv W (W.heads.take 3) m.fs
 ao:∀ k∈W.kinds,∀ a∈k.bO,Nm a.name/\Cv W (W.heads.drop 3) a.ps/\wI W a.res
 ft:∀ k∈W.kinds,∀ m r,k.bj=m::r->∀ p∈m.fs,p.2="number"
 hl:W.heads.length=6
 vl:W.vars.length=15
 nd:(W.heads++W.vars).Nodup
 nm:∀ x∈W.heads++W.vars,Nm x
structure mR(W:er)(sc:List (Str×Str)):Prop where
 len:sc.length<=15
 nd:(sc.map (·.1)).Nodup
 ok:∀ p∈sc,wI W p.2/\(p.1∈W.heads\/∃ j,j < sc.length/\W.vars[j]?=some p.1)
def vU(W:er)(sc:List (Str×Str))(ns:List Str):Prop:=ns.Nodup/\(∀ x∈ns,x∉sc.map (·.1))/\∀ x∈ns,x∈W.heads\/∃ j,j < sc.length+ns.length/\W.vars[j]?=some x
inductive u5(W:er)(sc:List (Str×Str)):Str->Fm->List (List (Str×Str)×Str)->Prop
 | nm {x k:Str}:(x,k)∈sc->u5 W sc k (.nm x) []
 | num {i:Int}:0<=i->i < 1000000->u5 W sc "number" (.num i) []
 | op {o:Str}:o∈(["+","-","*"]:List Str)->u5 W sc "number" (.op o) [([],"number"),([],"number")]
 | wC {k:Str}:u5 W sc k .wC [([],"number"),([],k),([],k)]
 | lt {x k k':Str}:vU W sc [x]->wI W k'->u5 W sc k (.lt x) [([],k'),([(x,k')],k)]
 | mk {kd:Kd} {m:fZ}:kd∈W.kinds->m∈kd.bj->u5 W sc kd.name (.mk m.name) (m.fs.map λp=>([],p.2))
 | ask {kd:Kd} {a:fB}:kd∈W.kinds->kd.bj≠[]->a∈kd.bO->u5 W sc a.res (.ask a.name) (([],kd.name)::a.ps.map λp=>([],p.2))
 | ux {k:Str} {kd:Kd} {sub:List (fZ×List Str)}:kd∈W.kinds->kd.bj≠[]->kd.asked=false->(sub.map (·.1)).Sublist kd.bj->(∀ p∈sub,p.2.length=p.1.fs.length/\vU W sc p.2) ->
   u5 W sc k (.ux k (sub.map λp=>(p.1.name,p.2))) (([],kd.name)::sub.map λp=>(p.2.zip (p.1.fs.map (·.2)),k))
 | new {kd:Kd} {sub:List (fB×List Str)}:kd∈W.kinds->kd.bj≠[]->kd.asked=true->(sub.map (·.1)).Sublist kd.bO->(∀ p∈sub,p.2.length=p.1.ps.length/\vU W sc p.2) ->
   u5 W sc kd.name (.new kd.name (sub.map λp=>(p.1.name,p.2))) (sub.map λp=>(p.2.zip (p.1.ps.map (·.2)),p.1.res))
mutual
def Ty(W:er):List (Str×Str)->Str->Tm->Prop
 | sc,k,.node f ts=>∃ sp,u5 W sc k f sp/\gj W sc sp ts
def gj(W:er):List (Str×Str)->List (List (Str×Str)×Str)->List Tm->Prop
 | sc,sp,[]=>sp=[]
 | sc,sp,t::ts=>∃ e r,sp=e::r/\Ty W (sc++e.1) e.2 t/\gj W sc r ts
end
theorem gj.len{W:er}{sc:List (Str×Str)}:∀ {sp:List (List (Str×Str)×Str)} {ts:List Tm},gj W sc sp ts->ts.length=sp.length
 | sp,[],h=>by
  have h:sp=[]:=h
  rw[h];rfl
 | sp,t::ts,h=>by
  obtain⟨e,r,rfl,_,h⟩:=(show ∃ e r,sp=e::r/\Ty W (sc++e.1) e.2 t/\gj W sc r ts from h)
  rw[TH,TH,gj.len h]
theorem Ty.mk{W:er}{sc:List (Str×Str)}{k:Str}{f:Fm}{ts:List Tm}{sp:List (List (Str×Str)×Str)}(h:u5 W sc k f sp)(r:gj W sc sp ts):Ty W sc k (.node f ts):=⟨sp,h,r⟩
theorem gj.nil{W:er}{sc:List (Str×Str)}:gj W sc [] []:=rfl
theorem gj.cons{W:er}{sc ex:List (Str×Str)}{k:Str}{t:Tm}{ts:List Tm}{sp:List (List (Str×Str)×Str)}(h:Ty W (sc++ex) k t)(r:gj W sc sp ts):gj W sc ((ex,k)::sp) (t::ts):=⟨(ex,k),sp,U,h,r⟩
theorem gj.pY{W:er}{sc:List (Str×Str)}{k:Str}{t:Tm}{ts:List Tm}{sp:List (List (Str×Str)×Str)}(h:Ty W sc k t)(r:gj W sc sp ts):gj W sc (([],k)::sp) (t::ts):=gj.cons (by rw[TM];exact h) r
theorem gj.app{W:er}{sc:List (Str×Str)}:∀ {sp sq:List (List (Str×Str)×Str)} {ts us:List Tm},gj W sc sp ts->gj W sc sq us->gj W sc (sp++sq) (ts++us)
 | sp,sq,[],us,h,h'=>by
  have h:sp=[]:=h
  subst h
  exact h'
 | sp,sq,t::ts,us,h,h'=>by
  obtain⟨e,r,rfl,h1,h⟩:=(show ∃ e r,sp=e::r/\Ty W (sc++e.1) e.2 t/\gj W sc r ts from h)
  exact⟨e,r++sq,U,h1,gj.app h h'⟩
theorem Nm.ok{x:Str}(h:Nm x):PyData.strOk x=true:=h.1.strOk
theorem xg{W:er}(w:jG W){j:Nat}{x:Str}(h:W.vars[j]?=some x):x∈W.vars:=Uw h
theorem vU.nm{W:er}(w:jG W){sc:List (Str×Str)}{ns:List Str}(b:vU W sc ns):∀ x∈ns,Nm x:=λx hx=>by
 rcases b.2.2 x hx with h | ⟨j,_,h⟩
 ·exact w.nm x (Ui _ h)
 ·exact w.nm x (Ub _ (xg w h))
theorem mR.nm{W:er}(w:jG W){sc:List (Str×Str)}(h:mR W sc):∀ p∈sc,Nm p.1:=λp hp=>by
 rcases (h.ok p hp).2 with h | ⟨j,_,h⟩
 ·exact w.nm _ (Ui _ h)
 ·exact w.nm _ (Ub _ (xg w h))
theorem wI.ok{W:er}(w:jG W){k:Str}(h:wI W k):PyData.strOk k=true:=by
 rcases h with rfl | ⟨kd,hk,_,rfl⟩
 ·decide+kernel
 ·exact (w.kw kd hk).1.ok
theorem mR.more{W:er}{sc:List (Str×Str)}(h:mR W sc){ns ks:List Str}(b:vU W sc ns)(hl:ns.length=ks.length)(hk:∀ k∈ks,wI W k)(Iw:sc.length+ns.length<=15):mR W (sc++ns.zip ks):=by
 have e1:(ns.zip ks).map (·.1)=ns:=Vg (by omega)
 have e2:(ns.zip ks).length=ns.length:=by rw[U6];omega
 refine⟨by rw[Tt,e2];exact Iw,?_,λp hp=>?_⟩
 ·rw[Tx,e1,Uk]
  exact⟨h.nd,b.1,λx hx y hy e=>b.2.1 y hy (e▸hx)⟩
 ·rcases TY.mp hp with hp | hp
  ·obtain⟨h1,h2⟩:=h.ok p hp
   refine⟨h1,h2.imp id λ⟨j,hj,e⟩=>⟨j,by rw[Tt];omega,e⟩⟩
  ·have m1:p.1∈ns:=e1▸Ua (f:=(·.1)) hp
   have m2:p.2∈ks:=by
    have:(ns.zip ks).map (·.2)=ks:=List.map_snd_zip (by omega)
    exact this▸Ua (f:=(·.2)) hp
   refine⟨hk _ m2,(b.2.2 p.1 m1).imp id λ⟨j,hj,e⟩=>⟨j,by rw[Tt,e2];exact hj,e⟩⟩
theorem fS{α β:Type}{nt:Nat}{us:List Nat}{g:o9}{te:br}(h:α->D)(f:β->D)(Rl:α->β->Prop){Q:List D->DS->Prop}{s:DS}:∀ (xs:List α) {acc:List D},(∀ x∈xs,∀ k:D->DS->Prop,(∀ (y:β) (s':DS),Rl x y->s'.os=s.os->k (f y) s')->g (h x) (gq nt us s) λs1=>te s1 k)->(∀ ys:List β,Paired Rl xs ys->Q (acc++ys.map f) s)->b6 nt us g cq te (xs.map h) acc s Q
 | [],acc,_,q=>by
  have:=q [] .nil
  rw[UH,TM] at this
  exact this
 | x::xs,acc,hx,q=>by
  have:=hx x Tu (λy s3=>b6 nt us g cq te (xs.map h) (acc++[y]) ⟨s.sl,s3.os⟩ Q) λy s' hy e=>by
   show b6 nt us g cq te (xs.map h) (acc++[f y]) ⟨s.sl,s'.os⟩ Q
   rw[e]
   refine fS h f Rl xs (λz hz=>hx z (Tv _ hz)) λys hp=>?_
   rw[Uj]
   exact q (y::ys) (.cons hy hp)
  rw[TC,b6]
  simpa [cq] using this
theorem f9{α β:Type}{F:α->β->Prop}:∀ {l₁:List α} {l₂:List β},Paired F l₁ l₂->l₂.length=l₁.length
 | _,_,.nil=>rfl
 | _,_,.cons _ t=>by rw[TH,TH,f9 t]
theorem fh{α β:Type}{F:α->β->Prop}:∀ {l₁:List α} {l₂:List β},Paired F l₁ l₂->∀ y∈l₂,∃ x∈l₁,F x y
 | _,_,.nil,y,h=>nomatch h
 | _,_,.cons r t,y,h=>by
  rcases TX.mp h with rfl | h
  ·exact⟨_,Tu,r⟩
  ·obtain⟨x,hx,q⟩:=fh t y h
   exact⟨x,Tv _ hx,q⟩
theorem Bx{α β:Type}{F:α->β->Prop}:∀ {l₁:List α} {l₂:List β},Paired F l₁ l₂->∀ {i:Nat} {x:α},l₁[i]?=some x->∃ y,l₂[i]?=some y/\F x y
 | _,_,.nil,i,x,h=>by simp at h
 | _,_,.cons r t,0,x,h=>by
  simp at h
  subst h
  exact⟨_,U,r⟩
 | _,_,.cons r t,i+1,x,h=>by
  obtain⟨y,h1,h2⟩:=Bx t (i:=i) (x:=x) (by simpa using h)
  exact⟨y,by simpa using h1,h2⟩
theorem rD{β γ:Type}{F:Nat->β->Prop}{v:β->γ}{ns:List γ}(h:∀ i y,F i y->ns[i]?=some (v y)){n:Nat}{ys:List β}(p:Paired F (List.range n) ys):ys.map v=ns.take ys.length:=by
 have hl:=f9 p
 rw[U1] at hl
 apply List.ext_getElem?
 intro i
 rw[Us,List.getElem?_take]
 by_cases hi:i < n
 ·obtain⟨y,e,f⟩:=Bx p (i:=i) (x:=i) (by simp[hi])
  rw[e,if_pos (by omega),h i y f]
  rfl
 ·rw[if_neg (by omega),Vb (by omega)]
  rfl
theorem BG{α β γ:Type}{F:α->β->Prop}{u:α->γ}{v:β->γ}(h:∀ x y,F x y->v y=u x):∀ {l₁:List α} {l₂:List β},Paired F l₁ l₂->l₂.map v=l₁.map u
 | _,_,.nil=>rfl
 | _,_,.cons r t=>by rw[TC,TC,h _ _ r,BG h t]
theorem lE{α:Type}{f:α->D}{xs:List α}{r:Int}(h0:0<=r)(h1:r < xs.length):∃ x,xs[r.toNat]?=some x/\jQ (xs.map f) r=some (f x):=by
 have hj:r.toNat < xs.length:=by omega
 refine⟨xs[r.toNat],Ud hj,?_⟩
 have e:(r.toNat:Int)=r:=Vn h0
 have q:=nj (xs:=xs.map f) (j:=r.toNat) (v:=f xs[r.toNat]) (by simp[hj])
 rw[e] at q
 exact q
theorem iZ{α:Type}{f:α->D}{xs:List α}{r:Int}(h0:0<=r)(h1:r < xs.length):∃ x,x∈xs/\jQ (xs.map f) r=some (f x):=by
 obtain⟨x,h,e⟩:=lE (f:=f) h0 h1
 exact⟨x,Uw h,e⟩
theorem ia(n:Nat):fu 0 n=(List.range n).map λ(i:Nat)=>D.int (i:Int):=by
 unfold fu
 refine U4 λi _=>?_
 rw[Int.zero_add]
theorem eB{α:Type}{f:α->D}{xs:List α}{lo hi:Option Int}:cutD (xs.map f) lo hi=((xs.drop (HT.ck xs.length 0 lo)).take (HT.ck xs.length xs.length hi - HT.ck xs.length 0 lo)).map f:=by
 unfold cutD
 rw[Tr,<- List.map_drop,<- List.map_take]
theorem vn{f:Str->D}{ws:List Str}{n:Int}(h0:0<=n)(h1:n<=ws.length):∃ al:List Str,cutD (ws.map f) (some n) none++cutD (ws.map f) none (some n)=al.map f/\al.Perm ws:=by
 have e1:HT.ck ws.length 0 (some n)=n.toNat:=by
  unfold HT.ck
  simp only[]
  repeat' split
  all_goals omega
 have e2:HT.ck ws.length ws.length (some n)=n.toNat:=by
  unfold HT.ck
  simp only[]
  repeat' split
  all_goals omega
 have e3:HT.ck ws.length ws.length none=ws.length:=rfl
 have e4:HT.ck ws.length 0 none=0:=rfl
 refine⟨ws.drop n.toNat++ws.take n.toNat,?_,?_⟩
 ·rw[eB,eB,e1,e2,e3,e4,List.drop_zero,Nat.sub_zero,List.map_append,List.take_of_length_le (by simp)]
 ·refine List.perm_append_comm.trans ?_
  rw[Vd]
def _root_.DL.Sl.pl:Sl->Bool
 | .own _=>false
 | _=>true
theorem cX{k i:Nat}{x:Sl}{r:List Sl}(h:x.pl=true):noRef k (i+1) (x::r)=noRef k i r:=by
 cases x with
 | own j=>cases h
 | _=>rfl
def wA(xs:List D)(j n:Nat):Prop:=j<=n/\xs=(List.range' j (n - j)).map λ(i:Nat)=>D.int (i:Int)
theorem wA.init(n:Nat):wA (fu 0 n) 0 n:=⟨Uh _,by rw[ia,Nat.sub_zero,List.range_eq_range']⟩
theorem wA.nil{j n:Nat}(h:wA [] j n):j=n:=by
 have:=congrArg List.length h.2
 simp at this
 have:=h.1
 omega
theorem wA.cons{x:D}{xs:List D}{j n:Nat}(h:wA (x::xs) j n):x=.int (j:Int)/\j < n/\wA xs (j+1) n:=by
 obtain⟨h1,h2⟩:=h
 have h3:=congrArg List.length h2
 simp at h3
 have e:n - j=(n - (j+1))+1:=by omega
 rw[e,List.range'_succ,TC] at h2
 injection h2 with h4 h5
 exact⟨h4,by omega,by omega,h5⟩
def Cd(ns ss:List Str)(ps:List (Str×Str)):Prop:=ps.length<=3/\ps.map (·.1)=ns.take ps.length/\∀ p∈ps,p.2∈ss
abbrev gh:List Str:=["number"]
def fD(ks:List Kd):List Str:=ks.flatMap λk=>k.bj.map fZ.name
def fw(ks:List Kd):List Str:=ks.flatMap λk=>k.bO.map fB.name
structure Ly(ws ns:List Str)(k:Kd):Prop where
 m0:k.bj≠[]
 ml:k.bj.length<=5
 al:k.bO.length<=5
 mp:∀ m∈k.bj,Cd ((ws.drop 24).take 3) (ns++gh) m.fs
 mf:∀ m r,k.bj=m::r->∀ p∈m.fs,p.2="number"
 ap:∀ a∈k.bO,Cd ((ws.drop 27).take 3) (ns++gh) a.ps/\a.res∈ns++gh
structure C2(ws ns ML AL:List Str)(ks:List Kd):Prop where
 kl:ks.length<=ns.length
 kn:ks.map Kd.name=ns.take ks.length
 rg:∀ k∈ks,Ly ws ns k
 mn:fD ks=ML.take (fD ks).length
 an:fw ks=AL.take (fw ks).length
 mb:(fD ks).length<=5 * ks.length
 ab:(fw ks).length<=5 * ks.length
theorem C2.nil{ws ns ML AL:List Str}:C2 ws ns ML AL []:=⟨Uh _,U,λ_ h=>(nomatch h),U,U,Uh _,Uh _⟩
theorem i8(ks:List Kd)(k:Kd):fD (ks++[k])=fD ks++k.bj.map fZ.name:=by simp[fD]
theorem iR(ks:List Kd)(k:Kd):fw (ks++[k])=fw ks++k.bO.map fB.name:=by simp[fw]
theorem take_snoc{α:Type}{L A B:List α}(ha:A=L.take A.length)(hb:B=(L.drop A.length).take B.length):A++B=L.take (A++B).length:=by
 rw[Tt,List.take_add,<- ha,<- hb]
theorem C2.snoc{ws ns ML AL:List Str}{ks:List Kd}(h:C2 ws ns ML AL ks){k:Kd}(r:Ly ws ns k)(hk:ns[ks.length]?=some k.name)(hm:k.bj.map fZ.name=(ML.drop (fD ks).length).take k.bj.length)(ha:k.bO.map fB.name=(AL.drop (fw ks).length).take k.bO.length):C2 ws ns ML AL (ks++[k]):=by
 obtain⟨iQ,e⟩:=Tw.mp hk
 refine⟨by simp;omega,?_,λx hx=>?_,?_,?_,?_,?_⟩
 ·rw[Tx,h.kn,Tt,List.take_add]
  congr 1
  show [k.name]=(ns.drop ks.length).take 1
  rw[UN iQ,e]
  rfl
 ·rcases TY.mp hx with hx | hx
  ·exact h.rg x hx
  ·rw[TL.mp hx]
   exact r
 ·rw[i8]
  exact take_snoc h.mn (by rw[Tr];exact hm)
 ·rw[iR]
  exact take_snoc h.an (by rw[Tr];exact ha)
 ·have:=h.mb
  have:=r.ml
  rw[i8,Tt,Tt,Tr]
  simp
  omega
 ·have:=h.ab
  have:=r.al
  rw[iR,Tt,Tt,Tr]
  simp
  omega
theorem b9{k:Nat}{d:D}{x:Sl}(h:x.pl=true):(je k d x).pl=true:=by
 cases x with
 | own j=>cases h
 | _=>rfl
structure HL(ws ns L:List Str)(ms:List fZ):Prop where
 nm:ms.map fZ.name=L.take ms.length
 mp:∀ m∈ms,Cd ((ws.drop 24).take 3) (ns++gh) m.fs
 mf:∀ m r,ms=m::r->∀ p∈m.fs,p.2="number"
theorem HL.nil{ws ns L:List Str}:HL ws ns L []:=⟨U,λ_ h=>(nomatch h),λ_ _ h=>by simp at h⟩
theorem lT{α β:Type}{v:β->α}{L:List α}{ms:List β}{m:β}(h:ms.map v=L.take ms.length)(e:L[ms.length]?=some (v m)):(ms++[m]).map v=L.take (ms++[m]).length:=by
 obtain⟨iQ,e⟩:=Tw.mp e
 rw[Tx,h,Tt,List.take_add]
 congr 1
 show [v m]=(L.drop ms.length).take 1
 rw[UN iQ,e]
 rfl
theorem HL.snoc{ws ns L:List Str}{ms:List fZ}(h:HL ws ns L ms){m:fZ}(e:L[ms.length]?=some m.name)(hp:Cd ((ws.drop 24).take 3) (ns++gh) m.fs)(hf:ms=[]->∀ p∈m.fs,p.2="number"):HL ws ns L (ms++[m]):=by
 refine⟨lT h.nm e,λx hx=>?_,λx r hx=>?_⟩
 ·rcases TY.mp hx with hx | hx
  ·exact h.mp x hx
  ·rw[TL.mp hx]
   exact hp
 ·cases ms with
  | nil =>
   injection hx with e1 e2
   subst e1
   exact hf U
  | cons y ys =>
   injection hx with e1 e2
   subst e1
   exact h.mf _ _ U
structure GJ(ws ns L:List Str)(as:List fB):Prop where
 nm:as.map fB.name=L.take as.length
 ap:∀ a∈as,Cd ((ws.drop 27).take 3) (ns++gh) a.ps/\a.res∈ns++gh
theorem GJ.nil{ws ns L:List Str}:GJ ws ns L []:=⟨U,λ_ h=>nomatch h⟩
theorem GJ.snoc{ws ns L:List Str}{as:List fB}(h:GJ ws ns L as){a:fB}(e:L[as.length]?=some a.name)(hp:Cd ((ws.drop 27).take 3) (ns++gh) a.ps)(hr:a.res∈ns++gh):GJ ws ns L (as++[a]):=by
 refine⟨lT h.nm e,λx hx=>?_⟩
 rcases TY.mp hx with hx | hx
 ·exact h.ap x hx
 ·rw[TL.mp hx]
  exact⟨hp,hr⟩
theorem Cd.sub{ns ss tt:List Str}{ps:List (Str×Str)}(h:Cd ns ss ps)(hs:∀ x∈ss,x∈tt):Cd ns tt ps:=⟨h.1,h.2.1,λp hp=>hs _ (h.2.2 p hp)⟩
theorem J9{L:List Str}{n j:Nat}(h:n+j < L.length):∃ x,L[n+j]?=some x/\(L.drop n)[j]?=some x/\seqIndex? 0 (((L.drop (n+j)).map D.str)).length=some 0/\((L.drop (n+j)).map D.str)[0]?=some (.str x)/\((L.drop (n+j)).map D.str).eraseIdx 0=(L.drop (n+(j+1))).map D.str:=by
 refine⟨L[n+j],Ud h,?_,?_,?_,?_⟩
 ·rw[U7,Ud h]
 ·rw[Tr,UB]
  exact PySem.seqIndex_of (by decide) (by omega)
 ·rw[Us,U7,Nat.add_zero,Ud h]
  rfl
 ·rw[List.eraseIdx_zero,<- List.map_tail,List.tail_drop]
  congr 1
theorem D6{r:Int}(h0:0<=r)(h1:r < 2):∃ b:Bool,jQ [D.str "made",D.str "asked"] r=some (.str (bu b)):=by
 have:r=0\/r=1:=by omega
 rcases this with rfl | rfl
 ·exact⟨false,U⟩
 ·exact⟨true,U⟩
def ff(ws:List Str)(ks:List Kd)(inner:Bool):er:=⟨ks,ws.drop 30,(ws.drop 24).take 6,inner,ws⟩
theorem oE{ws:List Str}(h:ws.Nodup){n j:Nat}(hn:n<=j){x:Str}(e:ws[j]?=some x):(ws.take n++[x]).Nodup:=by
 obtain⟨hj,e⟩:=Tw.mp e
 have hs:(ws.take n++[x]).Sublist ws:=by
  have h1:(ws.take n++[x]).Sublist (ws.take n++ws.drop n):=by
   refine Vo (UQ _) (List.singleton_sublist.mpr ?_)
   have:(ws.drop n)[j - n]?=some x:=by
    rw[U7,show n+(j - n)=j by omega,Ud hj,e]
   exact Uw this
  rwa [Vd] at h1
 exact h.sublist hs
theorem cg{α:Type}{f:α->D}:∀ {l:List α},(∀ x∈l,dz (f x)=true)->eJ (l.map f)=true
 | [],_=>rfl
 | x::l,h=>by
  show (dz (f x)&&eJ (l.map f))=true
  rw[h x Tu,cg λy hy=>h y (Tv _ hy)]
  rfl
theorem rJ{W:er}(w:jG W){ns:List Str}(hn:∀ x∈ns,Nm x){ps:List (Str×Str)}(h:Cv W ns ps):dz (eF ps)=true:=by
 refine cg λp hp=>?_
 have h1:p.1∈ns:=by
  have:p.1∈ps.map (·.1):=Ua hp
  rw[h.2.1] at this
  exact Uq this
 show (PyData.strOk p.1&&(PyData.strOk p.2&&true))=true
 rw[(hn _ h1).ok,(h.2.2 p hp).ok w]
 rfl
theorem Dz{W:er}(w:jG W){k:Kd}(hk:k∈W.kinds):dz (.tup (k.bj.map bW))=true:=by
 refine cg λm hm=>?_
 obtain⟨h1,h2⟩:=w.mo k hk m hm
 show (PyData.strOk m.name&&(dz (eF m.fs)&&true))=true
 rw[h1.ok,rJ w (λx hx=>w.nm x (Ui _ (Uq hx))) h2]
 rfl
theorem C0{W:er}(w:jG W){k:Kd}(hk:k∈W.kinds):dz (.tup (k.bO.map bP))=true:=by
 refine cg λa ha=>?_
 obtain⟨h1,h2,h3⟩:=w.ao k hk a ha
 show (PyData.strOk a.name&&(dz (eF a.ps)&&(PyData.strOk a.res&&true)))=true
 rw[h1.ok,rJ w (λx hx=>w.nm x (Ui _ (UI hx))) h2,h3.ok w]
 rfl
theorem vU.heads{W:er}(w:jG W){sc:List (Str×Str)}{al:List Str}(p:al.Perm (W.heads.filter λx=>!decide (x∈sc.map (·.1))))(m:Nat):vU W sc (al.take m):=by
 have mem:∀ x∈al.take m,x∈W.heads/\x∉sc.map (·.1):=λx hx=>by
  have:=p.mem_iff.mp (Uq hx)
  obtain⟨h1,h2⟩:=UJ.mp this
  exact⟨h1,by simpa using h2⟩
 refine⟨?_,λx hx=>(mem x hx).2,λx hx=>.inl (mem x hx).1⟩
 have h1:W.heads.Nodup:=(Uk.mp w.nd).1
 exact (p.nodup_iff.mpr (h1.sublist List.filter_sublist)).sublist (UD _ _)
theorem vU.vars{W:er}(w:jG W){sc:List (Str×Str)}(s:mR W sc){m:Nat}{ns:List Str}(p:Paired (λk x=>W.vars[sc.length+k]?=some x) (List.range m) ns):vU W sc ns:=by
 have hl:=f9 p
 rw[U1] at hl
 have h2:W.vars.Nodup:=(Uk.mp w.nd).2.1
 have e:ns=(W.vars.drop sc.length).take ns.length:=by
  have:=rD (v:=id) (ns:=W.vars.drop sc.length) (λi y h=>by rw[U7];exact h) p
  simpa using this
 refine⟨?_,λx hx hs=>?_,λx hx=>?_⟩
 ·rw[e]
  exact h2.sublist ((UD _ _).trans (List.drop_sublist _ _))
 ·obtain⟨k,_,hk⟩:=fh p x hx
  obtain⟨q,hq,eq⟩:=TR.mp hs
  rcases (s.ok q hq).2 with h | ⟨j,hj,ej⟩
  ·rw[eq] at h
   exact (Uk.mp w.nd).2.2 x h x (Uw hk) U
  ·rw[eq] at ej
   obtain⟨l1,g1⟩:=Tw.mp hk
   obtain⟨l2,g2⟩:=Tw.mp ej
   have:=(Ve h2).mp (g1.trans g2.symm)
   omega
 ·obtain⟨k,hk,hv⟩:=fh p x hx
  have:=Vc.mp hk
  exact .inr ⟨sc.length+k,by omega,hv⟩
theorem jI{ws:List Str}:(ws.map D.str).all iK=true:=by
 rw[List.all_map]
 exact Uv.mpr λ_ _=>rfl
theorem nv{x:Str}{ws:List Str}:qU (fv (.str x)) ((ws.map D.str).map fv)=decide (x∈ws):=by
 rw[T9]
 exact fk
theorem dM{a b:Str}:decide (fv (.str a)=fv (.str b))=decide (a=b):=by
 show decide (V.str a=V.str b)=_
 by_cases h:a=b
 ·simp[h]
 ·have:¬ V.str a=V.str b:=λe=>h (by injection e)
  rw[decide_eq_false this,decide_eq_false h]
theorem sL{W:er}(w:jG W){a b:Kd}(ha:a∈W.kinds)(hb:b∈W.kinds)(e:a.name=b.name):a=b:=by
 obtain⟨i,hi,rfl⟩:=Ux ha
 obtain⟨j,hj,rfl⟩:=Ux hb
 have:=Vl.mp w.kn
 have h2:(W.kinds.map Kd.name)[i]'(by simpa using hi)=(W.kinds.map Kd.name)[j]'(by simpa using hj):=by simpa using e
 have:=(Ve w.kn).mp h2
 subst this
 rfl
theorem j6{α:Type}{p:α->Bool}{a:α}:∀ {l:List α},a∈l->p a=true->(∀ x∈l,p x=true->x=a)->∃ n,l.filter p=List.replicate (n+1) a
 | [],h,_,_=>nomatch h
 | x::l,h,ha,hu=>by
  by_cases hx:p x=true
  ·have e:=hu x Tu hx
   subst e
   rw[Vw hx]
   by_cases hm:x∈l
   ·obtain⟨n,e⟩:=j6 hm ha λy hy=>hu y (Tv _ hy)
    exact⟨n+1,by rw[e];rfl⟩
   ·refine⟨0,?_⟩
    have:l.filter p=[]:=List.filter_eq_nil_iff.mpr λy hy hp=>hm (hu y (Tv _ hy) hp▸hy)
    rw[this]
    rfl
  ·rw[List.filter_cons_of_neg hx]
   refine j6 ?_ ha λy hy=>hu y (Tv _ hy)
   rcases TX.mp h with rfl | h
   ·exact absurd ha hx
   ·exact h
theorem kinds_of{W:er}(w:jG W){k:Str}(h:wI W k)(hn:k≠"number"):∃ kd∈W.kinds,kd.bj≠[]/\kd.name=k/\∃ n,(W.kinds.filter λx=>decide (x.name=k))=List.replicate (n+1) kd:=by
 rcases h with h | ⟨kd,h1,h2,h3⟩
 ·exact absurd h hn
 ·exact⟨kd,h1,h2,h3,j6 h1 (by simpa using h3) λx hx hp=>sL w hx h1 (by rw[h3];simpa using hp)⟩
end DL
namespace DL
theorem jn{C G:Prop}(hrest:C)(h:C->G):G:=h hrest
end DL
namespace DL
open PySem L2
theorem vf{α:Type}{W:er}{sc:List (Str×Str)}{F:α->Tm->Prop}{v:α->Str}:∀ {ps:List α} {ts:List Tm},Paired F ps ts->(∀ p∈ps,∀ t,F p t->Ty W sc (v p) t)->gj W sc (ps.map λp=>([],v p)) ts
 | _,_,.nil,_=>gj.nil
 | _,_,.cons (a:=p) r t,h=>gj.pY (h _ Tu _ r) (vf t λq hq=>h q (Tv _ hq))
theorem yR{x:D}{xs:List D}:cutD (x::xs) (some 1) none=xs:=by
 unfold cutD
 have e1:HT.ck (x::xs).length 0 (some 1)=1:=by
  unfold HT.ck
  simp only[List.length_cons]
  repeat' split
  all_goals omega
 have e2:HT.ck (x::xs).length (x::xs).length none=(x::xs).length:=rfl
 rw[e1,e2,List.drop_succ_cons,List.drop_zero,List.take_of_length_le (by simp)]
theorem jd{f:Fm}{ts:List Tm}{n:Nat}(h:∀ t∈ts,t.dep<=n):(Tm.node f ts).dep<=n+1:=by
 have:=xl h
 show oo ts+1<=n+1
 omega
theorem AE{W:er}(w:jG W){k:Kd}(hk:k∈W.kinds):dz (lI k)=true:=by
 show (PyData.strOk (bu k.asked)&&(PyData.strOk k.name&&(dz (.tup (k.bj.map bW))&&(dz (.tup (k.bO.map bP))&&true))))=true
 rw[(w.kw k hk).1.ok,Dz w hk,C0 w hk]
 cases k.asked<;>decide+kernel
theorem JC{W:er}(w:jG W){k:Kd}(hk:k∈W.kinds):k.name≠"number":=λe=>by
 have:=(w.kw k hk).1.2.2.2.1
 rw[e] at this
 exact this (by decide+kernel)
theorem AG{W:er}(w:jG W){k:Str}(h:wI W k){kd:Kd}(hk:kd∈W.kinds)(e:kd.name=k):kd.bj≠[]:=by
 rcases h with h | ⟨kd',h1,h2,h3⟩
 ·exact absurd (e.trans h) (JC w hk)
 ·have:=sL w hk h1 (e.trans h3.symm)
  rw[this]
  exact h2
theorem xG(t:Tm):(!kh (toD t))=true:=by
 cases t with
 | node f ks=>cases f<;>rfl
end DL
namespace DL
open PySem PySem.Spec L2
theorem u5.ar{W:er}(w:jG W){sc:List (Str×Str)}{k:Str}{f:Fm}{sp:List (List (Str×Str)×Str)}(h:u5 W sc k f sp):f.ar sp.length=true:=by
 cases h with
 | nm _=>rfl
 | num _ _=>rfl
 | op _=>rfl
 | wC=>rfl
 | lt _ _=>rfl
 | mk _ _=>rfl
 | ask _ _ _=>simp[Fm.ar]
 | @ux _ kd sub h1 h2 h3 h4 h5 =>
  simp only[Fm.ar,List.length_cons,List.length_map,beq_self_eq_true,Bool.true_and,List.all_eq_true,List.mem_map]
  rintro _ ⟨p,hp,rfl⟩
  have hm:p.1∈kd.bj:=h4.subset (Ua hp)
  have:=(w.mo kd h1 p.1 hm).2.1
  have:=(h5 p hp).1
  simp
  omega
 | @new kd sub h1 h2 h3 h4 h5 =>
  simp only[Fm.ar,List.length_map,beq_self_eq_true,Bool.true_and,List.all_eq_true,List.mem_map]
  rintro _ ⟨p,hp,rfl⟩
  have hm:p.1∈kd.bO:=h4.subset (Ua hp)
  have:=(w.ao kd h1 p.1 hm).2.1.1
  have:=(h5 p hp).1
  simp
  omega
theorem u5.strs{W:er}(w:jG W){sc:List (Str×Str)}{k:Str}{f:Fm}{sp:List (List (Str×Str)×Str)}(EB:∀ p∈sc,PyData.strOk p.1=true)(hk:PyData.strOk k=true)(h:u5 W sc k f sp):f.strs.all PyData.strOk=true/\∀ e∈sp,PyData.strOk e.2=true/\∀ p∈e.1,PyData.strOk p.1=true:=by
 have num:PyData.strOk ("number":Str)=true:=by decide+kernel
 cases h with
 | @nm x _ hx=>exact⟨by simp[Fm.strs,EB _ hx],λ_ h=>by cases h⟩
 | num _ _=>exact⟨U,λ_ h=>by cases h⟩
 | @op o ho =>
  refine⟨?_,λe he=>?_⟩
  ·simp only[Fm.strs,List.all_cons,List.all_nil,Bool.and_true]
   revert o
   decide+kernel
  ·simp at he
   subst he
   exact⟨num,λ_ h=>by cases h⟩
 | wC =>
  refine⟨U,λe he=>?_⟩
  simp at he
  rcases he with rfl | rfl
  ·exact⟨num,λ_ h=>by cases h⟩
  ·exact⟨hk,λ_ h=>by cases h⟩
 | @lt x _ k' hb hk' =>
  have hx:=(hb.nm w x (TL.mpr U)).ok
  refine⟨by simp[Fm.strs,hx],λe he=>?_⟩
  simp at he
  rcases he with rfl | rfl
  ·exact⟨hk'.ok w,λ_ h=>by cases h⟩
  ·exact⟨hk,λp hp=>by rw[TL.mp hp];exact hx⟩
 | @mk kd m h1 h2 =>
  obtain⟨m1,m2,m3,m4⟩:=w.mo kd h1 m h2
  refine⟨by simp[Fm.strs,m1.ok],λe he=>?_⟩
  obtain⟨p,hp,rfl⟩:=TR.mp he
  exact⟨(m4 p hp).ok w,λ_ h=>by cases h⟩
 | @ask kd a h1 h2 h3 =>
  obtain⟨m1,⟨m2,m3,m4⟩,m5⟩:=w.ao kd h1 a h3
  refine⟨by simp[Fm.strs,m1.ok],λe he=>?_⟩
  rcases TX.mp he with rfl | he
  ·exact⟨(w.kw kd h1).1.ok,λ_ h=>by cases h⟩
  obtain⟨p,hp,rfl⟩:=TR.mp he
  exact⟨(m4 p hp).ok w,λ_ h=>by cases h⟩
 | @ux _ kd sub h1 h2 h3 h4 h5 =>
  refine⟨?_,λe he=>?_⟩
  ·simp only[Fm.strs,List.all_cons,hk,Bool.true_and,List.map_map,List.all_flatten,List.all_map,List.all_eq_true]
   intro p hp
   have hm:p.1∈kd.bj:=h4.subset (Ua hp)
   simp only[Function.comp,List.all_cons,(w.mo kd h1 p.1 hm).1.ok,Bool.true_and,List.all_eq_true]
   exact λx hx=>((h5 p hp).2.nm w x hx).ok
  ·rcases TX.mp he with rfl | he
   ·exact⟨(w.kw kd h1).1.ok,λ_ h=>by cases h⟩
   obtain⟨p,hp,rfl⟩:=TR.mp he
   refine⟨hk,λq hq=>?_⟩
   exact ((h5 p hp).2.nm w _ (Um hq).1).ok
 | @new kd sub h1 h2 h3 h4 h5 =>
  refine⟨?_,λe he=>?_⟩
  ·simp only[Fm.strs,List.all_cons,hk,Bool.true_and,List.map_map,List.all_flatten,List.all_map,List.all_eq_true]
   intro p hp
   have hm:p.1∈kd.bO:=h4.subset (Ua hp)
   simp only[Function.comp,List.all_cons,(w.ao kd h1 p.1 hm).1.ok,Bool.true_and,List.all_eq_true]
   exact λx hx=>((h5 p hp).2.nm w x hx).ok
  ·obtain⟨p,hp,rfl⟩:=TR.mp he
   have hm:p.1∈kd.bO:=h4.subset (Ua hp)
   refine⟨(w.ao kd h1 p.1 hm).2.2.ok w,λq hq=>?_⟩
   exact ((h5 p hp).2.nm w _ (Um hq).1).ok
mutual
theorem Ty.good{W:er}(w:jG W):∀ (t:Tm) (sc:List (Str×Str)) (k:Str),(∀ p∈sc,PyData.strOk p.1=true)->PyData.strOk k=true->Ty W sc k t->t.wf=true/\t.yg=true
 | .node f ts,sc,k,EB,hk,h=>by
  obtain⟨sp,hf,hr⟩:=(show ∃ sp,u5 W sc k f sp/\gj W sc sp ts from h)
  obtain⟨s1,s2⟩:=hf.strs w EB hk
  obtain⟨g1,g2⟩:=gj.good w ts sc sp EB s2 hr
  refine⟨?_,?_⟩
  ·show (f.ar ts.length&&oM ts)=true
   rw[hr.len,hf.ar w,g1]
   rfl
  ·show (f.strs.all PyData.strOk&&uA ts)=true
   rw[s1,g2]
   rfl
theorem gj.good{W:er}(w:jG W):∀ (ts:List Tm) (sc:List (Str×Str)) (sp:List (List (Str×Str)×Str)),(∀ p∈sc,PyData.strOk p.1=true)->(∀ e∈sp,PyData.strOk e.2=true/\∀ p∈e.1,PyData.strOk p.1=true)->gj W sc sp ts->oM ts=true/\uA ts=true
 | [],sc,sp,EB,hs,h=>⟨U,U⟩
 | t::ts,sc,sp,EB,hs,h=>by
  obtain⟨e,r,rfl,h1,h2⟩:=(show ∃ e r,sp=e::r/\Ty W (sc++e.1) e.2 t/\gj W sc r ts from h)
  obtain⟨e1,e2⟩:=hs e Tu
  obtain⟨a1,a2⟩:=Ty.good w t (sc++e.1) e.2 (λp hp=>(TY.mp hp).elim (EB p) (e2 p)) e1 h1
  obtain⟨b1,b2⟩:=gj.good w ts sc r EB (λx hx=>hs x (Tv _ hx)) h2
  exact⟨by show (t.wf&&oM ts)=true;rw[a1,b1];rfl,by show (t.yg&&uA ts)=true;rw[a2,b2];rfl⟩
end
structure PK where
 asked:Bool
 kd:Kd
 tabs:List (List (Str×Tm))
def dH(r:Str×Tm):D:=.tup [.str r.1,toD r.2]
def kg(rs:List (Str×Tm)):D:=.tup (rs.map dH)
def cx(x:fZ×List (Str×Tm)):D:=.tup [.str x.1.name,eF x.1.fs,kg x.2]
def b5(x:fB×List (Str×Tm)):D:=.tup [.str x.1.name,eF x.1.ps,.str x.1.res,kg x.2]
def c9(p:PK):List D:=if p.asked=true then (p.kd.bj.zip p.tabs).map cx else (p.kd.bO.zip p.tabs).map b5
def rE(p:PK):D:=if p.asked=true then .tup (p.kd.bO.map bP) else .tup (p.kd.bj.map bW)
def cm(p:PK):D:=.tup [.str (bu p.asked),.str p.kd.name,rE p,.tup (c9 p)]
def yO(p:PK):List (Str×List (Str×Tm)):=(if p.asked=true then p.kd.bj.map fZ.name else p.kd.bO.map fB.name).zip p.tabs
def C7(b:Str×List (Str×Tm)):D:=.tup [.str b.1,kg b.2]
def du(asked:Bool)(b:Str×List (Str×Tm)):List ((Str×Str)×Tm):=b.2.map λr=>(if asked=true then (b.1,r.1) else (r.1,b.1),r.2)
def ents(p:PK):List ((Str×Str)×Tm):=(yO p).flatMap (du p.asked)
theorem ur{ms:List fZ}{ts:List (List (Str×Tm))}(h:ts.length=ms.length){α:Type}(f:fZ->α):(ms.zip ts).map (λx=>f x.1)=ms.map f:=by
 have:(ms.zip ts).map Prod.fst=ms:=Vg (by omega)
 rw[show (λx:fZ×List (Str×Tm)=>f x.1)=f∘Prod.fst from U,<- T9,this]
theorem tR{ms:List fB}{ts:List (List (Str×Tm))}(h:ts.length=ms.length){α:Type}(f:fB->α):(ms.zip ts).map (λx=>f x.1)=ms.map f:=by
 have:(ms.zip ts).map Prod.fst=ms:=Vg (by omega)
 rw[show (λx:fB×List (Str×Tm)=>f x.1)=f∘Prod.fst from U,<- T9,this]
theorem AQ{kd:Kd}{ts:List (List (Str×Tm))}:yO ⟨true,kd,ts⟩=(kd.bj.zip ts).map λx=>(x.1.name,x.2):=by
 show (kd.bj.map fZ.name).zip ts=_
 rw[List.zip_map_left]
 exact U4 λx _=>rfl
theorem AR{kd:Kd}{ts:List (List (Str×Tm))}:yO ⟨false,kd,ts⟩=(kd.bO.zip ts).map λx=>(x.1.name,x.2):=by
 show (kd.bO.map fB.name).zip ts=_
 rw[List.zip_map_left]
 exact U4 λx _=>rfl
end DL
namespace DL
open PySem L2
theorem c7(b:Bool):decide (fv (.str (bu b))=fv (.str "made"))=!b:=by cases b<;>decide+kernel
theorem dX(b:Bool):decide (fv (.str (bu b))=fv (.str "asked"))=b:=by cases b<;>decide+kernel
def keyOf(e:(Str×Str)×Tm):List Key:=[.inr e.1.1,.inr e.1.2]
def iF(e:(Str×Str)×Tm):D:=toD e.2
def kJ(es:List ((Str×Str)×Tm)):D:=.kq (es.map keyOf) (es.map iF)
theorem qy{a b:(Str×Str)×Tm}(h:keyOf a=keyOf b):a.1=b.1:=by
 obtain⟨⟨a1,a2⟩,_⟩:=a
 obtain⟨⟨b1,b2⟩,_⟩:=b
 injection h with h1 h2
 injection h1 with h1
 injection h2 with h2 _
 injection h2 with h2
 have h1:a1=b1:=h1
 have h2:a2=b2:=h2
 rw[h1,h2]
theorem sx{es:List ((Str×Str)×Tm)}{e:(Str×Str)×Tm}(h:e.1∉es.map (·.1)):dY (es.map keyOf) (keyOf e)=(es++[e]).map keyOf/\dC (es.map keyOf) (es.map iF) (keyOf e) (iF e)=(es++[e]).map iF:=by
 have hn:o6 (es.map keyOf) (keyOf e)=false:=by
  cases hh:o6 (es.map keyOf) (keyOf e) with
  | false=>rfl
  | true =>
   obtain⟨x,hx,ex⟩:=TR.mp (su.mp hh)
   exact absurd (TR.mpr ⟨x,hx,qy ex⟩) h
 unfold dY dC
 rw[hn]
 simp
theorem fT{c f:Str}:∀ {es:List ((Str×Str)×Tm)},cp (es.map keyOf) (es.map iF) [.inr c,.inr f]=(es.find? λe=>decide (e.1=(c,f))).map iF
 | []=>rfl
 | e::es=>by
  have ih:=fT (c:=c) (f:=f) (es:=es)
  rw[TC,TC,cp]
  by_cases h:e.1=(c,f)
  ·have h2:keyOf e=[.inr c,.inr f]:=by unfold keyOf;rw[h]
   rw[if_pos h2,List.find?_cons_of_pos (by simpa using h)]
   rfl
  ·have h2:¬ keyOf e=[.inr c,.inr f]:=λz=>h (qy (b:=((c,f),.node .wC [])) z)
   rw[if_neg h2,List.find?_cons_of_neg (by simpa using h)]
   exact ih
theorem fg{α:Type}{f:α->D}{n:Nat}:∀ {l:List α},(∀ x∈l,cj (f x)<=n)->gR (l.map f)<=n
 | [],_=>by rw[UH,aX];exact Uh _
 | x::l,h=>by
  rw[TC,ak]
  have h1:=h x Tu
  have h2:=fg λy hy=>h y (Tv _ hy)
  omega
theorem m8{ps:List (Str×Str)}:cj (eF ps)<=3:=by
 unfold eF
 rw[aQ]
 have:=fg (f:=pairD) (n:=1) (l:=ps) λp _=>by
  unfold pairD
  rw[aQ,ak,ak,aX,aO,aO]
  decide
 omega
theorem Cn{ms:List fZ}:cj (.tup (ms.map bW))<=10:=by
 rw[aQ]
 have:=fg (f:=bW) (n:=5) (l:=ms) λm _=>by
  unfold bW
  have:=m8 (ps:=m.fs)
  rw[aQ,ak,ak,aX,aO]
  omega
 omega
theorem DB{ms:List fB}:cj (.tup (ms.map bP))<=10:=by
 rw[aQ]
 have:=fg (f:=bP) (n:=5) (l:=ms) λm _=>by
  unfold bP
  have:=m8 (ps:=m.ps)
  rw[aQ,ak,ak,ak,aX,aO,aO]
  omega
 omega
theorem xy{W:er}(w:jG W){kd:Kd}(hk:kd∈W.kinds){m:fZ}(hm:m∈kd.bj){a:fB}(ha:a∈kd.bO):mR W (m.fs++a.ps):=by
 obtain⟨_,m2,m3,m4⟩:=w.mo kd hk m hm
 obtain⟨_,⟨a2,a3,a4⟩,_⟩:=w.ao kd hk a ha
 have hh:W.heads.take 3++W.heads.drop 3=W.heads:=Vd _ _
 have hn:W.heads.Nodup:=(Uk.mp w.nd).1
 have hs:((m.fs++a.ps).map (·.1)).Sublist W.heads:=by
  rw[Tx,m3,a3]
  have:=Vo (UD m.fs.length (W.heads.take 3)) (UD a.ps.length (W.heads.drop 3))
  rwa [hh] at this
 refine⟨by rw[Tt];omega,hn.sublist hs,λp hp=>⟨?_,.inl (hs.subset (Ua hp))⟩⟩
 rcases TY.mp hp with h | h
 ·exact m4 p h
 ·exact a4 p h
theorem xZ{α β:Type}{F:α->β->Prop}:∀ {l₁:List α} {l₂:List β} {a:α} {b:β},Paired F l₁ l₂->F a b->Paired F (l₁++[a]) (l₂++[b])
 | _,_,a,b,.nil,h=>.cons h .nil
 | _,_,a,b,.cons r t,h=>.cons r (xZ t h)
end DL
namespace DL
open PySem PySem.Spec L2
theorem ir{α β:Type}{nt:Nat}{us:List Nat}{g:o9}{ti:mJ}{te:br}(h:α->D)(f:β->D)(Rl:α->β->Prop){Q:List D->DS->Prop}{s:DS}:∀ (xs:List α) {acc:List D},
  (∀ x∈xs,∀ (k:D->DS->Prop) (N:DS->Prop),(∀ (y:β) (s':DS),Rl x y->s'.os=s.os->k (f y) s')->(∀ s':DS,s'.os=s.os->N s')->g (h x) (gq nt us s) λs1=>ti s1 λb s2=>if b=true then te s2 k else N s2)->(∀ (sub:List α) (ys:List β),sub.Sublist xs->Paired Rl sub ys->Q (acc++ys.map f) s)->b6 nt us g ti te (xs.map h) acc s Q
 | [],acc,_,q=>by
  have:=q [] [] (UQ _) .nil
  rw[UH,TM] at this
  exact this
 | x::xs,acc,hx,q=>by
  refine hx x Tu (λy s3=>b6 nt us g ti te (xs.map h) (acc++[y]) ⟨s.sl,s3.os⟩ Q) (λs2=>b6 nt us g ti te (xs.map h) acc ⟨s.sl,s2.os⟩ Q) (λy s' hy e=>?_) λs' e=>?_
  ·show b6 nt us g ti te (xs.map h) (acc++[f y]) ⟨s.sl,s'.os⟩ Q
   rw[e]
   refine ir h f Rl xs (λz hz=>hx z (Tv _ hz)) λsub ys hs hp=>?_
   rw[Uj]
   exact q (x::sub) (y::ys) (hs.cons_cons _) (.cons hy hp)
  ·show b6 nt us g ti te (xs.map h) acc ⟨s.sl,s'.os⟩ Q
   rw[e]
   exact ir h f Rl xs (λz hz=>hx z (Tv _ hz)) λsub ys hs hp=>q sub ys (hs.cons _) hp
structure Ad(other:List Str)(n:Nat)(rs:List (Str×Tm)):Prop where
 ln:rs.length<=5
 nd:(rs.map (·.1)).Nodup
 ok:∀ r∈rs,r.1∈other/\r.2.wf=true/\r.2.yg=true/\r.2.dep<=n
theorem Ad.perm{other:List Str}{n:Nat}{rs qs:List (Str×Tm)}(h:Ad other n rs)(p:qs.Perm rs):Ad other n qs :=
 ⟨by rw[p.length_eq];exact h.ln,(p.map _).nodup_iff.mpr h.nd,λr hr=>h.ok r (p.mem_iff.mp hr)⟩
theorem qE{α:Type}(w:Int)(xs:List α):(lg w xs).Perm xs:=by
 unfold lg
 split
 ·exact List.Perm.refl _
 ·exact List.reverse_perm _
theorem tY{α β:Type}(f:α->β)(w:Int)(xs:List α):lg w (xs.map f)=(lg w xs).map f:=by
 unfold lg
 split
 ·rfl
 ·rw[List.map_reverse]
theorem yU(b:Bool)(x:Str×List (Str×Tm)):(du b x).length=x.2.length:=by unfold du;rw[List.length_map]
theorem wN{b:Bool}{bs:List (Str×List (Str×Tm))}{e:(Str×Str)×Tm}(h:e∈bs.flatMap (du b)):∃ x∈bs,∃ r∈x.2,e=(if b=true then (x.1,r.1) else (r.1,x.1),r.2):=by
 obtain⟨x,hx,he⟩:=Vh.mp h
 obtain⟨r,hr,e⟩:=TR.mp he
 exact⟨x,hx,r,hr,e.symm⟩
theorem qC{b:Bool}:∀ {bs:List (Str×List (Str×Tm))},(bs.map (·.1)).Nodup->(∀ x∈bs,(x.2.map (·.1)).Nodup)->((bs.flatMap (du b)).map (·.1)).Nodup
 | [],_,_=>List.nodup_nil
 | x::bs,h1,h2=>by
  rw[TC,U5] at h1
  rw[Uy,Tx,Uk]
  refine⟨?_,qC h1.2 λy hy=>h2 y (Tv _ hy),?_⟩
  ·have:=h2 x Tu
   unfold du
   rw[T9]
   rw[Vl,List.pairwise_map] at this ⊢
   refine this.imp λ{a c} Pm e=>Pm ?_
   cases b with
   | true=>exact (Prod.mk.inj e).2
   | false=>exact (Prod.mk.inj e).1
  ·intro k hk k' hk' e
   subst e
   obtain⟨a,ha,rfl⟩:=TR.mp hk
   obtain⟨c,hc,ec⟩:=TR.mp hk'
   obtain⟨r,hr,rfl⟩:=TR.mp ha
   obtain⟨y,hy,r2,hr2,rfl⟩:=wN hc
   refine h1.1 ?_
   have:y.1=x.1:=by
    cases b with
    | true=>exact (Prod.mk.inj ec).1
    | false=>exact (Prod.mk.inj ec).2
   rw[<- this]
   exact Ua hy
theorem xF{b:Bool}:∀ {bs:List (Str×List (Str×Tm))},(∀ x∈bs,x.2.length<=5)->(bs.flatMap (du b)).length<=5 * bs.length
 | [],_=>Uh _
 | x::bs,h=>by
  have h1:=h x Tu
  have h2:=xF (b:=b) λy hy=>h y (Tv _ hy)
  rw[Uy,Tt,yU,TH]
  omega
theorem rR{W:er}(w:jG W){kd:Kd}(hk:kd∈W.kinds):(kd.bj.map fZ.name).Nodup:=by
 obtain⟨a,c,e⟩:=List.append_of_mem hk
 have:=w.mn
 rw[e,List.flatMap_append,Uy] at this
 exact (Uk.mp (Uk.mp this).2.1).1
theorem sJ{W:er}(w:jG W){kd:Kd}(hk:kd∈W.kinds):(kd.bO.map fB.name).Nodup:=by
 obtain⟨a,c,e⟩:=List.append_of_mem hk
 have:=w.an
 rw[e,List.flatMap_append,Uy] at this
 exact (Uk.mp (Uk.mp this).2.1).1
theorem jB{W:er}(w:jG W){kd:Kd}(hk:kd∈W.kinds){m:fZ}(hm:m∈kd.bj){a:fB}(ha:a∈kd.bO){t:Tm}(h:Ty W (m.fs++a.ps) a.res t):t.wf=true/\t.yg=true :=
 Ty.good w t _ _ (λp hp=>((DL.xy w hk hm ha).nm w p hp).ok) ((w.ao kd hk a ha).2.2.ok w) h
end DL
namespace DL
open PySem L2
theorem map_one{α:Type}{f:α->Str}{l:List α}(h:(l.map f).Nodup){a b:α}(ha:a∈l)(hb:b∈l)(e:f a=f b):a=b:=by
 obtain⟨i,hi,rfl⟩:=Ux ha
 obtain⟨j,hj,rfl⟩:=Ux hb
 have h2:(l.map f)[i]'(by simpa using hi)=(l.map f)[j]'(by simpa using hj):=by simpa using e
 have:=(Ve h).mp h2
 subst this
 rfl
theorem DU{α:Type}{nm:α->Str}{l sub:List α}{rs:List (Str×Tm)}{F:α->Tm->Prop}{n:Nat}(hn:(l.map nm).Nodup)(h5:l.length<=5)(hs:sub.Sublist l)(hp:Paired (λm (r:Str×Tm)=>r.1=nm m/\F m r.2) sub rs)(hg:∀ m∈l,∀ t,F m t->t.wf=true/\t.yg=true/\t.dep<=n):Ad (l.map nm) n rs:=by
 have e:rs.map (·.1)=sub.map nm:=BG (λx y h=>h.1) hp
 refine⟨?_,?_,λr hr=>?_⟩
 ·rw[f9 hp]
  exact TU hs.length_le h5
 ·rw[e]
  exact hn.sublist (hs.map nm)
 ·obtain⟨m,hm,h1,h2⟩:=fh hp r hr
  exact⟨h1▸Ua (hs.subset hm),hg m (hs.subset hm) r.2 h2⟩
theorem uz{α β:Type}{l:List α}{m:List β}{a:α}{b:β}(h:m.length=l.length):(l++[a]).zip (m++[b])=l.zip m++[(a,b)]:=by
 rw[List.zip_append (by omega)]
 rfl
end DL
namespace DL
open PySem PySem.Spec L2
def Hc:List Key:=[.inr "kinds",.inr "vars",.inr "inner",.inr "heads"]
def dZ(W:er):D:=.qX Hc [.lst (W.kinds.map lI),.lst (W.vars.map .str),.bl W.inner,.lst (W.heads.map .str)]
theorem cR{W:er}{k:Option D->Prop}(h:k (some (.lst (W.kinds.map lI)))):qW (dZ W)=true/\tU (dZ W) (.str "kinds") k:=⟨U,.inl ⟨_,_,_,U,U,h⟩⟩
theorem g6{W:er}{k:Option D->Prop}(h:k (some (.lst (W.vars.map .str)))):qW (dZ W)=true/\tU (dZ W) (.str "vars") k:=⟨U,.inl ⟨_,_,_,U,U,h⟩⟩
theorem kf{W:er}{k:Option D->Prop}(h:k (some (.lst (W.heads.map .str)))):qW (dZ W)=true/\tU (dZ W) (.str "heads") k:=⟨U,.inl ⟨_,_,_,U,U,h⟩⟩
theorem v9{W:er}{k:Option D->Prop}(h:k (some (.bl W.inner))):qW (dZ W)=true/\tU (dZ W) (.str "inner") k:=⟨U,.inl ⟨_,_,_,U,U,h⟩⟩
structure w6(ws:List Str)(ks:List Kd):Prop where
 ex:∃ (ns ML AL:List Str),ns=ws.take ns.length/\1<=ns.length/\ns.length<=5/\ML.Perm ws/\AL.Perm ws/\ks.length=ns.length/\C2 ws ns ML AL ks
theorem w6.cC{ws:List Str}{ks:List Kd}{inn:Bool}(h:w6 ws ks)(hl:ws.length=45)(hn:ws.Nodup)(hm:∀ x∈ws,Nm x):jG (ff ws ks inn)/\(∀ k∈ks,k.bj≠[])/\∀ x,ws[44]?=some x->x∉ks.map Kd.name:=by
 obtain⟨ns,ML,AL,e1,n1,n3,pM,pA,rl,I⟩:=h.ex
 have hML:ML.Nodup:=pM.nodup_iff.mpr hn
 have hAL:AL.Nodup:=pA.nodup_iff.mpr hn
 have rk:ks.map Kd.name=ns:=by rw[I.kn,rl,List.take_length]
 have hh:(ws.drop 24).take 6++ws.drop 30=ws.drop 24:=by
  have:=Vd 6 (ws.drop 24)
  rwa [List.drop_drop] at this
 have h3:((ws.drop 24).take 6).take 3=(ws.drop 24).take 3:=by rw[List.take_take];rfl
 have h4:((ws.drop 24).take 6).drop 3=(ws.drop 27).take 3:=by rw[List.drop_take,List.drop_drop]
 have inML:∀ x∈ML,Nm x:=λx hx=>hm x (pM.mem_iff.mp hx)
 have inAL:∀ x∈AL,Nm x:=λx hx=>hm x (pA.mem_iff.mp hx)
 have mnm:∀ k∈ks,∀ m∈k.bj,Nm m.name:=λk hkk m hmm=>by
  have:m.name∈fD ks:=Vh.mpr ⟨k,hkk,Ua hmm⟩
  rw[I.mn] at this
  exact inML _ (Uq this)
 have anm:∀ k∈ks,∀ a∈k.bO,Nm a.name:=λk hkk a haa=>by
  have:a.name∈fw ks:=Vh.mpr ⟨k,hkk,Ua haa⟩
  rw[I.an] at this
  exact inAL _ (Uq this)
 have kok:∀ x∈ns++gh,wI (ff ws ks inn) x:=λx hx=>by
  rcases TY.mp hx with hx | hx
  ·rw[<- rk] at hx
   obtain⟨k,hkk,e⟩:=TR.mp hx
   exact .inr ⟨k,hkk,(I.rg k hkk).m0,e⟩
  ·exact .inl (TL.mp hx)
 refine⟨⟨?_,?_,λk hkk=>?_,?_,?_,λk hkk m hmm=>?_,λk hkk a haa=>?_,λk hkk m r e=>(I.rg k hkk).mf m r e,?_,?_,?_,λx hx=>?_⟩,λk hkk=>(I.rg k hkk).m0,λx hx hc=>?_⟩
 ·show ks.length<=5
  omega
 ·show (ks.map Kd.name).Nodup
  rw[rk,e1]
  exact hn.sublist (UD _ _)
 ·refine⟨?_,(I.rg k hkk).ml,(I.rg k hkk).al⟩
  have:k.name∈ns:=rk▸Ua hkk
  rw[e1] at this
  exact hm _ (Uq this)
 ·show (fD ks).Nodup
  rw[I.mn]
  exact hML.sublist (UD _ _)
 ·show (fw ks).Nodup
  rw[I.an]
  exact hAL.sublist (UD _ _)
 ·refine⟨mnm k hkk m hmm,?_⟩
  obtain⟨q1,q2,q3⟩:=(I.rg k hkk).mp m hmm
  exact⟨q1,by rw[show (ff ws ks inn).heads.take 3=(ws.drop 24).take 3 from h3];exact q2,λp hp=>kok _ (q3 p hp)⟩
 ·refine⟨anm k hkk a haa,?_⟩
  obtain⟨⟨q1,q2,q3⟩,q4⟩:=(I.rg k hkk).ap a haa
  exact⟨⟨q1,by rw[show (ff ws ks inn).heads.drop 3=(ws.drop 27).take 3 from h4];exact q2,λp hp=>kok _ (q3 p hp)⟩,kok _ q4⟩
 ·show ((ws.drop 24).take 6).length=6
  simp[hl]
 ·show (ws.drop 30).length=15
  simp[hl]
 ·show ((ws.drop 24).take 6++ws.drop 30).Nodup
  rw[hh]
  exact hn.sublist (List.drop_sublist _ _)
 ·have hx:x∈(ws.drop 24).take 6++ws.drop 30:=hx
  rw[hh] at hx
  exact hm x (UI hx)
 ·rw[rk,e1] at hc
  have:=oE hn (n:=ns.length) (j:=44) (by omega) hx
  rw[Uk] at this
  exact this.2.2 x hc x (TL.mpr U) U
def Tm.sm(n:Nat)(t:Tm):Prop:=t.dep<=n/\t.size<=12100
theorem kK{m:Nat}:∀ {ts:List Tm},(∀ t∈ts,t.size<=m)->cz ts<=ts.length * m
 | [],_=>Uh _
 | t::ts,h=>by
  have h1:=h t Tu
  have h2:=kK λu hu=>h u (Tv _ hu)
  show t.size+cz ts<=(ts.length+1) * m
  rw[Nat.add_mul]
  omega
def Tm.rm(n r:Nat)(t:Tm):Prop:=t.dep<=n/\t.size<=21 * (r * r)+4
theorem Tm.rm.sm{n r:Nat}{t:Tm}(h:t.rm n r)(hr:r<=24):t.sm n:=⟨h.1,by
 have:=Nat.mul_le_mul hr hr
 have:=h.2
 omega⟩
theorem jE{f:Fm}{ts:List Tm}{n r q:Nat}(hl:ts.length<=6)(h:∀ t∈ts,t.rm n q)(hq:ts.length * q<=r)(h1:q < r):(Tm.node f ts).rm (n+1) r:=by
 refine⟨jd λt ht=>(h t ht).1,?_⟩
 show cz ts+1<=21 * (r * r)+4
 have h2:=kK λt ht=>(h t ht).2
 have h3:ts.length * (21 * (q * q)+4)=21 * (ts.length * q * q)+4 * ts.length:=by
  rw[Nat.mul_add,Nat.mul_left_comm,Nat.mul_assoc,Nat.mul_comm 4]
 have h4:ts.length * q * q<=r * q:=Vi _ hq
 have h5:r * q+r<=r * r:=by
  rw[<- Nat.mul_succ]
  exact Nat.mul_le_mul_left _ h1
 omega
def Tm.lf(n:Nat)(k:Str)(t:Tm):Prop:=t.dep<=n/\t.size<=4/\(k="number"->t.size<=1)
theorem xc{f:Fm}{n:Nat}{k:Str}:(Tm.node f []).lf (n+1) k:=⟨jd λ_ h=>(nomatch h),by show 0+1<=4;omega,λ_=>by show 0+1<=1;omega⟩
theorem Co{f:Fm}{ts:List Tm}{n:Nat}{k:Str}(hk:k≠"number")(hl:ts.length<=3)(h:∀ t∈ts,t.lf n "number"):(Tm.node f ts).lf (n+1) k:=by
 refine⟨jd λt ht=>(h t ht).1,?_,λe=>absurd e hk⟩
 show cz ts+1<=4
 have h2:=kK λt ht=>(h t ht).2.2 U
 omega
theorem Tm.lf.rm{n m r:Nat}{k:Str}{t:Tm}(h:t.lf n k)(hm:n<=m):t.rm m r:=⟨TU h.1 hm,by
 have:=h.2.1
 omega⟩
theorem DK{f:Fm}{t0:Tm}{ts:List Tm}{n r a q:Nat}(hl:ts.length<=5)(h0:t0.rm n a)(h:∀ t∈ts,t.rm n q)(ha:3 * a<=r)(hq:ts.length * q < r)(h1:2 * q < r):(Tm.node f (t0::ts)).rm (n+1) r:=by
 refine⟨jd λt ht=>?_,?_⟩
 ·rcases TX.mp ht with rfl | ht
  ·exact h0.1
  ·exact (h t ht).1
 show (t0.size+cz ts)+1<=21 * (r * r)+4
 have h2:=kK λt ht=>(h t ht).2
 have h3:ts.length * (21 * (q * q)+4)=21 * (ts.length * q * q)+4 * ts.length:=by
  rw[Nat.mul_add,Nat.mul_left_comm,Nat.mul_assoc,Nat.mul_comm 4]
 have h4:2 * (ts.length * q * q)<=(r - 1) * (r - 1):=by
  have:=Nat.mul_le_mul (show ts.length * q<=r - 1 by omega) (show 2 * q<=r - 1 by omega)
  rw[<- Nat.mul_assoc,Nat.mul_comm (ts.length * q) 2,Nat.mul_assoc] at this
  exact this
 have h5:9 * (a * a)<=r * r:=by
  have:=Nat.mul_le_mul ha ha
  have e:3 * a * (3 * a)=9 * (a * a):=by rw[Nat.mul_mul_mul_comm]
  omega
 have h6:=h0.2
 obtain⟨r',rfl⟩:∃ r',r=r'+1:=⟨r - 1,by omega⟩
 have h7:(r'+1) * (r'+1)=r' * r'+2 * r'+1:=by rw[Nat.mul_add,Nat.add_mul];omega
 have h8:r'+1 - 1=r':=rfl
 rw[h8] at h4
 have h9:r'<=r' * r':=by
  cases r' with
  | zero=>exact Uh _
  | succ k=>exact Nat.le_mul_of_pos_left _ (Nat.succ_pos k)
 omega
end DL
namespace DL
open PySem L2 PyProof.Rows
abbrev D3:=Str×Stmt×List Str
def Own(K:Frag)(mg:Str->Option Value)(d:D3):Prop:=∃ f fd,sR K d.1 d.1 d.2.1 f fd/\mg d.1=some (.ref f)/\Binds K fd d.2.2 []
def C4(P:Program)(w:World)(K:Frag)(mg:Str->Option Value)(base:Heap)(CX:vT)(d:D3)(k:Nat)(sp:Sp):Prop:=∃ f fd,cw P w K mg base CX k f fd d.2.2 sp/\sR K d.1 d.1 d.2.1 f fd/\mg d.1=some (.ref f)/\Binds K fd d.2.2 []
section
variable{P:Program}{w:World}{K:Frag}{mg:Str->Option Value}{base:Heap}{CX:vT}{d:D3}{k:Nat}{sp KR:Sp}
theorem Own.c(o:Own K mg d)(h:∀ f fd,sR K d.1 d.1 d.2.1 f fd->cw P w K mg base CX k f fd d.2.2 sp):C4 P w K mg base CX d k sp :=
 let ⟨f,fd,F,m,b⟩:=o
 ⟨f,fd,h f fd F,F,m,b⟩
theorem C4.imp(c:C4 P w K mg base CX d k sp)(h:∀ f fd,cw P w K mg base CX k f fd d.2.2 sp->cw P w K mg base CX k f fd d.2.2 KR):C4 P w K mg base CX d k KR :=
 let ⟨f,fd,G,r⟩:=c
 ⟨f,fd,h f fd G,r⟩
theorem FX{h:Heap}{f:Addr}{oc:Value}{od an:Option Addr}{zl:Array (Option Value)}{kV doc pm bN ct:Value}(X:K.In h)(G:h.Ns mainGlobals mg)(a:nsIn K mainGlobals d.1=some (some (.ref f)))(l:K.lookup f=some ⟨oc,od,.func (fnOf d.1 d.1 (eZ d.2.1) (bc d.2.1) (ai d.2.1) .none kV doc pm an bN ct),zl⟩)(c:codeIn K bN d.1=true)(k:keepIn K (.ref f)=true)(b:∀ (kV doc pm:Value) (an:Option Addr) (bN ct:Value) (us:List Value),us.length=d.2.2.length->bindArgs (fnOf d.1 d.1 (eZ d.2.1) (bc d.2.1) (ai d.2.1) .none kV doc pm an bN ct) ⟨us,[]⟩=pure (d.2.2.zip us)):Own K mg d :=
 ⟨f,_,oG l c k,UC X G a,(oG (st:=d.2.1) l c k).binds b⟩
end
section
variable{X:Cx}{c:Ent}{d:D3}{k m:Nat}{t:VI}{x:Str}{p pos:Pos}{e:Expr}{es:List Expr}{ta:fU}
theorem av(hr:cb m X.A)(G:C4 X.prog X.w X.K X.mg X.base bb d k (cn X.K c.g t))(ha:DA X c (e::es) ta)(hx:d.1=x:=by rfl)(hk:k<=m:=by first | decide | omega)(hg:Gl X x:=by rfl)(fP:VM x:=by decide)(he:VJ X.env e es:=by rfl)(dA:VL X.env pos es:=by rfl) :
  DE X c (.Call (.Name x p) (e::es) [] pos) (eS t ta):=by
 subst hx
 obtain⟨f,fd,G,F,M,b⟩:=G
 exact HW (hr.mono hk) hg M F.kp b ha G fP he dA
theorem bo(hr:cb m X.A)(G:C4 X.prog X.w X.K X.mg X.base bb d k (cn X.K .no t))(ha:DA X c (e::es) ta)(hx:d.1=x:=by rfl)(hk:k<=m:=by first | decide | omega)(hg:Gl X x:=by rfl)(fP:VM x:=by decide)(he:VJ X.env e es:=by rfl)(dA:VL X.env pos es:=by rfl) :
  DE X c (.Call (.Name x p) (e::es) [] pos) (eS t ta):=by
 subst hx
 obtain⟨f,fd,G,F,M,b⟩:=G
 exact DY (hr.mono hk) hg M F.kp b ha G fP he dA
theorem xS(hr:cb m X.A)(G:C4 X.prog X.w X.K X.mg X.base bb d k (wz X.K c.g t))(ha:DA X c (e::es) ta)(hx:d.1=x:=by rfl)(hk:k<=m:=by first | decide | omega)(hg:Gl X x:=by rfl)(fP:VM x:=by decide)(he:VJ X.env e es:=by rfl)(dA:VL X.env pos es:=by rfl) :
  DN X c (.Call (.Name x p) (e::es) [] pos) (eS t ta):=by
 subst hx
 obtain⟨f,fd,G,F,M,b⟩:=G
 exact Hs (hr.mono hk) hg M F.kp b ha G fP he dA
theorem tu(hr:cb m X.A)(G:C4 X.prog X.w X.K X.mg X.base bb d k (wz X.K .no t))(ha:DA X c (e::es) ta)(hx:d.1=x:=by rfl)(hk:k<=m:=by first | decide | omega)(hg:Gl X x:=by rfl)(fP:VM x:=by decide)(he:VJ X.env e es:=by rfl)(dA:VL X.env pos es:=by rfl) :
  DN X c (.Call (.Name x p) (e::es) [] pos) (eS t ta):=by
 subst hx
 obtain⟨f,fd,G,F,M,b⟩:=G
 exact Cp (hr.mono hk) hg M F.kp b ha G fP he dA
end
theorem gJ{N P:List Str}{sc:Scope}(h1:sc.kind=.function:=by rfl)(h2:sc.isCoroutine=false:=by rfl)(h3:sc.isGenerator=false:=by rfl)(h4:N.Nodup:=by decide+kernel)(h5:N.take P.length=P:=by rfl)(h6:∀ x∈P,sc.names.lookup x=some .local\/sc.names.lookup x=some .cell:=by decide+kernel)(h7:∀ y∈sc.names,y.2≠.free:=by decide+kernel):az N P sc:=⟨h1,h2,h3,h4,h5,h6,h7⟩
theorem aV{g:o9}{tb:kY}{R:mN}(I:List D->DS->Prop)(h0:∀ s,I [] s->R.nx s)(h1:∀ x xs s (E:mN),I (x::xs) s->(∀ s',I xs s'->E.nx s')->(∀ d,R.rt d->E.rt d)->g x s λs1=>tb E s1):∀ xs s,I xs s->mU g tb R xs s
 | [],s,h=>h0 s h
 | x::xs,s,h=>h1 x xs s { R with nx:=λs'=>mU g tb R xs s',ct:=λs'=>mU g tb R xs s',bk:=R.nx } h (λs' h'=>aV I h0 h1 xs s' h') λ_ h=>h
section
variable{X:Cx}{c:Ent}{x:Str}{pos p:Pos}
theorem vd(i:Nat)(hN:X.N[i]?=some x:=by rfl)(hv:Im X.env.scope x:=by first | exact Or.inl U | exact Or.inr (Or.inl U) | exact Or.inr (Or.inr U))(hd:VM x:=by decide)(pj:(x == ("__classdict__":Str))=false:=by decide):DE X c (.Name x pos) (yQ i):=dv (vk hN hv hd pj)
theorem gN{n:Nat}(i:Nat)(hN:X.N.Nodup)(hi:X.N[i]?=some x:=by rfl)(hx:Loc X.env.scope x:=by exact Or.inl U)(hf:VN X x:=by first | exact .inl U | exact .inr U | assumption)(hl:i < n:=by decide):DG X c n (.Name x pos) (sy i):=fA (cT hN hi hx hf) hl
theorem gM{n:Nat}(i:Nat)(L:List Str)(hN:L.Nodup:=by decide+kernel)(hL:X.N=L:=by rfl)(hi:L[i]?=some x:=by rfl)(hx:Loc X.env.scope x:=by exact Or.inl U)(hf:VN X x:=by first | exact .inl U | exact .inr U | assumption)(hl:i < n:=by decide):DG X c n (.Name x pos) (sy i):=fA (cT (hL▸hN) (hL▸hi) hx hf) hl
theorem sS{e:Expr}{te:br}(i:Nat)(hN:X.N.Nodup)(he:DE X c e te)(hi:X.N[i]?=some x:=by rfl)(hx:Loc X.env.scope x:=by exact Or.inl U)(hs:swapsWith e (some (.Name x p)) pos.line X.env=pure false:=by rfl)(hf:VN X x:=by first | exact .inl U | exact .inr U | assumption):pb X c (.Assign [.Name x p] e pos) (ya i te):=iO (f7 hN hi hx he.pe hs hf)
theorem sN{e:Expr}{te:br}(k i:Nat)(hN:X.N.Nodup)(he:DN X c e te)(hi:X.N[i]?=some x:=by rfl)(hx:Loc X.env.scope x:=by exact Or.inl U)(hs:swapsWith e (some (.Name x p)) pos.line X.env=pure false:=by rfl)(hf:VN X x:=by first | exact .inl U | exact .inr U | assumption)(iQ:c.g.pB.length<=k:=by first | exact Uh _ | exact TB _ | exact VB (Uh _)):pb X c (.Assign [.Name x p] e pos) (E7 i k te):=AF (f7 hN hi hx he.pe hs hf) iQ
variable{a b:Expr}{ta tb:br}
theorem cO(ha:DE X c a ta)(hb:DE X c b tb)(hs:m9 b:=by exact λ_ _=>rfl):DE X c (.Subscript a b pos) (xW IG ta tb):=zO Ga LC ha hb hs
theorem jJ(ha:DE X c a ta)(hb:DE X c b tb)(hs:m9 b:=by exact λ_ _=>rfl):DE X c (.Subscript a b pos) (xW Fy ta tb):=zO xV Lv ha hb hs
theorem sF{tg iter:Expr}{body:List Stmt}{ti:fU}{g:o9}{tb:kY}(hi:DI X c tg iter ti)(hg:DG X c 1000 tg g)(hb:vJ X c body tb)(hc:X.calm=true:=by rfl)(hp:PassesOwn (model X.prog X.w) X.A X.env X.xe:=by exact PassesOwn.never)(hs:VO iter X.env:=by intro _;rfl):pb X c (.For tg iter body [] pos) (EL ti g tb):=Ld hp hc hi hg hb hs
theorem ph{e:Expr}{es:List Expr}{t:fU}{apos cY:Pos}(i:Nat)(ha:DA X c (e::es) t)(hN:X.N[i]?=some x:=by rfl)(hv:Im X.env.scope x:=by first | exact Or.inl U | exact Or.inr (Or.inl U) | exact Or.inr (Or.inr U))(hd:VM x:=by decide)(pj:(x == ("__classdict__":Str))=false:=by decide)(jj:attributeBase (.Name x p) "append" X.env (eval (.Name x p) X.env)=eval (.Name x p) X.env:=by rfl)(wk:((backTo cY (starEach (e::es) X.env)).all (λx=>!x.1)&&(backToKw cY (keywordEach [] X.env)).all (λx=>x.1.isSome)
   && decide ((e::es).length+([]:List Keyword).length+(if ([]:List Keyword).isEmpty then 0 else 1) < 30))=true:=by rfl)(iJ:(apos.endLine == cY.line)=true:=by rfl)(hs:VJ X.env e es:=by rfl)(j8:(backTo cY (starEach es X.env)).any (·.1)=false:=by rfl)(FO:swapsWith (.Call (.Attribute (.Name x p) "append" apos) (e::es) [] cY) none pos.line X.env=pure false:=by rfl) :
  pb X c (.Expr (.Call (.Attribute (.Name x p) "append" apos) (e::es) [] cY) pos) (A9 (JH i KG t)):=rH (wt PySem.F.slot_list_append PySem.F.type_list_append qD J7 (vk hN hv hd pj) ha jj wk iJ hs j8) FO
end
section
variable{X:Cx}{c:Ent}{pos p:Pos}{e:Expr}{es:List Expr}{t:fU}
theorem fY(hm:X.mg "len"=none)(ha:DA X c (e::es) t)(hg:Gl X "len":=by rfl)(he:VJ X.env e es:=by rfl)(dA:VL X.env pos es:=by rfl):DE X c (.Call (.Name "len" p) (e::es) [] pos) (jX C9 t):=iD cE LH hg hm UM ha (by decide) (by decide) he dA
theorem eK(hm:X.mg "tuple"=none)(ha:DA X c (e::es) t)(hg:Gl X "tuple":=by rfl)(he:VJ X.env e es:=by rfl)(dA:VL X.env pos es:=by rfl):DE X c (.Call (.Name "tuple" p) (e::es) [] pos) (jX G3 t):=fj pG Kz hg hm (by decide+kernel) ha (by decide) (by decide) he dA
variable{tg elt iter:Expr}{ifs:List Expr}{scope:Scope}{tx:fU}{g:o9}{ti:mJ}{te:br}
theorem nC(ts:List Str)(us:List Nat)(hi:DI X c tg iter tx)(hg:∀ C s H fp,DG (X.comp ts us scope C s H fp) c ts.length tg g)(BY:∀ C s H fp,Lu (X.comp ts us scope C s H fp) c ifs ti)(he:∀ C s H fp,DE (X.comp ts us scope C s H fp) c elt te)(S:bG X ts us scope:=by exact⟨U,U,U,U,U,U⟩)(hc:X.calm=true:=by rfl)(hs:VO iter X.env:=by intro _;rfl):DN X c (.ListComp elt [⟨tg,iter,ifs,0⟩] scope pos) (oA ts.length us tx g ti te):=Ha S hc hi hg BY he hs
end
section
variable{P:Program}{w:World}{K:Frag}{mg:Str->Option Value}{base:Heap}{q:D3}{k nos:Nat}{g:BF}{t:VI}{N:List Str}
theorem Own.d(o:Own K mg q)(S:az N q.2.2 (ai q.2.1))(len:∀ ds R,t ds R->ds.length=q.2.2.length)(hb:∀ (f:Addr) (bN:Value) (A:Around) (outer:List Env) (s:Shared) (H:Hp) (E:XK) (M:Addr->Prop),cb k (A.deeper (envOfC q.1 (ai q.2.1) s.heap.objs.size f bN)) ->
   ∃ tb,vJ (jl bb P w K mg base N q.1 (ai q.2.1) f bN A outer s H E).sV ⟨g,M,H⟩ (bc q.2.1) tb/\∀ ds R,t ds R->tb { nx:=λ_=>R .bD,rt:=R } (fC N.length nos ds))(hg:g.pB=[]:=by rfl):C4 P w K mg base bb q (k+1) (cn K g t):=o.c λf fd F=>KQ F S len (hb f) hg
end
end DL
namespace F0
open PySem Sem
open PySem.AutoSeq1 (wpAny_loadPart')
section
variable{prog:Program}{w:World}{A:Around}{E:VG}{s:Shared}
theorem PX(id:String)(c:Int)(tk:Tok):Builtin.SmallTypes.indexObject id (Value.int c tk)=Pure.pure (Value.int c tk):=by
 unfold Builtin.SmallTypes.indexObject
 have h:asInt? (Value.int c tk)=Pure.pure (some c):=rfl
 rw[h,pure_bind]
 rfl
theorem yS(l:Addr)(xs:Array Value)(k c:Nat)(tk:Tok)(od:Option Addr)(sl:Array (Option Value))(hc:Builtin.SmallTypes.fitsIndex (c:Int)=true) :
  Meets (Builtin.«enumerate.__new__» ⟨[.type "enumerate",.ref l],[("start",.int c tk)]⟩) λ_ R s=>s.heap.get? l=some ⟨.type "tuple",od,.seq xs k,sl⟩ /\
   R (.ok (.ret (.ref (s.heap.push { cls:=.type "tuple_iterator",data:=.fields #[.ref l,.int 0 0] }).objs.size)))
    { s with heap:=(s.heap.push { cls:=.type "tuple_iterator",data:=.fields #[.ref l,.int 0 0] }).push { cls:=.type "enumerate",data:=.fields #[.none,.bool false,.ref s.heap.objs.size,rawInt c,.none,.none] } } :=
 .of_wp λprog w A R s h=>by
  obtain⟨hp,g,d,t,os⟩:=s
  obtain⟨hl,h⟩:=h
  have hs:=sub_enumerate
  have hT:Heap.IsTuple (Shared.heap ⟨hp,g,d,t,os⟩) l xs:=⟨_,hl,U,k,U⟩
  wp_walk using wpAny_loadPart' hl
  refine wpAny_stack_any λst=>wpAny_pure ?_
  have hc':(!Builtin.SmallTypes.fitsIndex (c:Int))=false:=by rw[hc];rfl
  split
  ·rename_i v _ _ _ _ _
   extract_lets z gv dj
   have hd:∀ x:Value×Option Value,x=(Value.ref l,some (Value.int c tk))->wpAny (model prog w) A.in1 (dj x) (λfin s'=>∃ v,fin=Fin.done (Flow.ret v)/\R (.ok (.ret v)) s') (λe s'=>R (.error e) s') ⟨hp,g,d,t,os⟩:=by
    rintro _ rfl
    dsimp only[dj]
    rw[PX,pure_bind,show asInt? (Value.int c tk)=Pure.pure (some (c:Int)) from U,pure_bind]
    dsimp only
    rw[hc',if_neg TF]
    wp_walk using wpAny_loadPart' hl,wpAny_pyIter_tuple hT
    exact⟨_,U,h⟩
   clear_value dj
   cases (v == Value.type "enumerate")
   ·simp only[Bool.false_eq_true,if_false]
    refine wpAny_bind ?_
    refine wpAny_of_eq (a:=(Value.ref l,some (Value.int c tk))) ?_ (hd _ U)
    kernel_rfl
   ·simp only[if_true]
    refine wpAny_bind ?_
    refine wpAny_of_eq (a:=(Value.ref l,some (Value.int c tk))) ?_ (hd _ U)
    kernel_rfl
  ·extract_lets z gv dj
   have hd:∀ x:Value×Option Value,x=(Value.ref l,some (Value.int c tk))->wpAny (model prog w) A.in1 (dj x) (λfin s'=>∃ v,fin=Fin.done (Flow.ret v)/\R (.ok (.ret v)) s') (λe s'=>R (.error e) s') ⟨hp,g,d,t,os⟩:=by
    rintro _ rfl
    dsimp only[dj]
    rw[PX,pure_bind,show asInt? (Value.int c tk)=Pure.pure (some (c:Int)) from U,pure_bind]
    dsimp only
    rw[hc',if_neg TF]
    wp_walk using wpAny_loadPart' hl,wpAny_pyIter_tuple hT
    exact⟨_,U,h⟩
   clear_value dj
   simp only[Bool.false_eq_true,if_false]
   refine wpAny_bind ?_
   refine wpAny_of_eq (a:=(Value.ref l,some (Value.int c tk))) ?_ (hd _ U)
   kernel_rfl
theorem Dh{T mk:String}{self:Value}{more:List Value}{kw:List (Str×Value)}(h1:typeLookup (.type T) "__init__"=Pure.pure (some (.builtin "object.__init__")))(h2:Bind.madeBy (.type T)=Pure.pure (some mk))(h3:(some mk != some "object.__new__")=true)(h4:more≠[]) :
  Meets (Builtin.«object.__init__» ⟨self::more,kw⟩) (λ_ R s=>s.TypeIs self T/\R (.ok (.ret .none)) s):=by
 refine Meets.of_wp λprog w A R s hs=>?_
 obtain⟨hT,q⟩:=hs
 cases more with
 | nil=>exact absurd U h4
 | cons a r =>
  repeat (any_goals (first | assumption | wp_step))
  exact⟨_,U,q⟩
theorem DF{T mk LS:String}{N I:Builtin}{ps:List Value}{kw:List (Str×Value)}{S:Spec}{Q Q1:VG}(ft:TypeCalled T mk LS)(h1:checkTypeCall T ⟨ps,kw⟩=Pure.pure ())(h2:checkBuiltinCall mk ⟨.type T::ps,kw⟩=Pure.pure ())(eN:entryFor table mk=some N)(eI:entryFor table LS=some I)(g:Meets (N ⟨.type T::ps,kw⟩) S)(h:S A.in1 (wants Q1 E) s)(hn:∀ o s1,Q1 o s1->s1.TypeIs o T/\argsOk LS ⟨o::ps,kw⟩/\∃ Si,Meets (I ⟨o::ps,kw⟩) Si/\Si A.in1 (wants (λr s2=>r=.none/\Q o s2) E) s1) :
  wpAny (model prog w) A (call (.type T) ps kw) Q E s:=by
 obtain⟨c0,tl,m1⟩:=ft.mro
 have m2:=ft.made
 have m3:=ft.sub
 refine wpAny_call (codeAny_of_tree ?_)
 refine wpAny_pure ⟨Code.quiet_builtin _ (by decide+kernel),codeAny_builtin F.entry_type_call ?_⟩
 rw[Around.under_plain (weight_type_call_type T ps kw) (units_type_call_type T ps kw)]
 have m4:=ft.notType
 have m5:=ft.canCreate
 repeat (any_goals (first | assumption | wp_step))
 refine codeAny_mono (codeAny_call_builtin ft.plain eN (wpAny_of_eq h2 (g prog w A.in1 _ s h))) λr s1 hr=>?_
 cases r with
 | error e=>exact hr
 | ok fl =>
  cases fl with
  | ret o =>
   obtain⟨hT,ho,Si,gi,hi⟩:=hn _ _ hr
   have m6:=ft.init.lookup
   have m7:=ft.init.bind o
   repeat (any_goals (first | assumption | wp_step))
   refine codeAny_mono (codeAny_call_builtin ft.init.plain eI (ft.init.check _ _ _ _ _ _ _ _ hT ho (gi prog w A.in1 _ s1 hi))) λr2 s2 hr2=>?_
   cases r2 with
   | error e=>exact hr2
   | ok fl2 =>
    cases fl2 with
    | ret r =>
     obtain⟨rfl,hq⟩:=hr2
     repeat (any_goals (first | assumption | wp_step))
    | _=>exact hr2.elim
  | _=>exact hr.elim
theorem GQ(x:Value)(c:Int)(tk:Tok):checkTypeCall "enumerate" ⟨[x],[("start",.int c tk)]⟩=Pure.pure ():=by kernel_rfl
theorem GU(x:Value)(c:Int)(tk:Tok):checkBuiltinCall "enumerate.__new__" ⟨[.type "enumerate",x],[("start",.int c tk)]⟩=Pure.pure ():=by kernel_rfl
theorem Gq(o x:Value)(c:Int)(tk:Tok):argsOk "object.__init__" ⟨[o,x],[("start",.int c tk)]⟩:=by
 unfold argsOk
 rw[signature?_of (id:="object.__init__") (n:=['_','_','t','i','n','i','_','_']) (o:=['t','c','e','j','b','o']) (by kernel_rfl) F.owner_object]
 kernel_rfl
theorem vW{l:Addr}{xs:Array Value}{c:Nat}{tk:Tok}{Q:VG}(hL:s.heap.IsTuple l xs)(hc:(c:Int) < 2 ^ 63)(h:∀ h',IsEnum h' (s.heap.objs.size+1) s.heap.objs.size c .none->h'.IsTupleIter s.heap.objs.size l 0->(∀ b o,s.heap.get? b=some o->h'.get? b=some o)->Q (.ref (s.heap.objs.size+1)) { s with heap:=h' }) :
  wpAny (model prog w) A (call (.type "enumerate") [.ref l] [("start",.int c tk)]) Q E s:=by
 obtain⟨⟨cl,od,dt,sl⟩,hl,e1,k,e2⟩:=hL
 replace e1:cl=.type "tuple":=e1
 replace e2:dt=.seq xs k:=e2
 subst e1 e2
 have hf:Builtin.SmallTypes.fitsIndex (c:Int)=true:=by
  unfold Builtin.SmallTypes.fitsIndex
  simp only[Bool.and_eq_true,decide_eq_true_eq]
  omega
 have z:(s.heap.push { cls:=.type "tuple_iterator",data:=.fields #[.ref l,.int 0 0] }).objs.size=s.heap.objs.size+1:=UA ..
 have q:IsEnum ((s.heap.push { cls:=.type "tuple_iterator",data:=.fields #[.ref l,.int 0 0] }).push { cls:=.type "enumerate",data:=.fields #[.none,.bool false,.ref s.heap.objs.size,rawInt c,.none,.none] }) (s.heap.objs.size+1) s.heap.objs.size c .none:=by
  have:=TK (s.heap.push { cls:=.type "tuple_iterator",data:=.fields #[.ref l,.int 0 0] }) (o:={ cls:=.type "enumerate",data:=.fields #[.none,.bool false,.ref s.heap.objs.size,rawInt c,.none,.none] }) U
  rwa [z] at this
 refine DF (Q1:=λo s1=>s1.TypeIs o "enumerate"/\Q o s1) F.called_enumerate (GQ _ _ _) (GU _ _ _) F.entry_enumerate_new F.entry_object_init (yS l xs k c tk od sl hf) ⟨hl,?_⟩ λo s1 hq=>⟨hq.1,Gq _ _ _ _,_,Dh F.called_enumerate.init.lookup F.called_enumerate.made (by decide) (by simp),hq.1,U,hq.2⟩
 show _/\_
 rw[z]
 exact⟨⟨_,q,U⟩,h _ q ⟨_,Ts _ (TK _ U),U,U⟩ λb o x=>Ts _ (Ts _ x)⟩
theorem shift{it:Addr}{fp:List Addr}{n:Nat}{P:Nat->Value->Prop}{St:Nat->Heap->Prop}(D:Draws prog w A it fp n P St)(c:Nat):Draws prog w A it fp (c+n) (λi v=>∃ j,i=c+j/\P j v) (λi h=>∃ j,i=c+j/\St j h) where
 live:=λ_ h ⟨j,_,st⟩=>D.live j h st
 frame:=λ_ h h' ⟨j,e,st⟩ k=>⟨j,e,D.frame j h h' st k⟩
 item:=λi s Q E hi ⟨j,e,st⟩ hQ=>D.item j s Q E (by omega) st λx h' tk p st' sb=>hQ x h' tk ⟨j,e,p⟩ ⟨j+1,by omega,st'⟩ sb
 done:=λs Q E ⟨j,e,st⟩ hE=>D.done s Q E (by rw[show n=j by omega];exact st) hE
theorem zU{e it l:Addr}{i:Nat}{c:Int}{xs:Array Value}{old:Value}{Q:Option Value->Shared->Prop}(hh:A.handled=none)(he:IsEnum s.heap e it c old)(hit:s.heap.IsTupleIter it l i)(hl:s.heap.IsTuple l xs)(hx:xs[i]?=none)(hQ:∀ h',Heap.ExtBut it s.heap h'->Q none { s with heap:=h' }):wpAny (model prog w) A (pyNext (.ref e)) Q E s:=by
 have hT:s.TypeIs (.ref e) "enumerate":=⟨_,he,U⟩
 unfold pyNext
 refine wpAny_bind (wpAny_attempt (wpAny_callSpecial?_slot (name:=Str.ofString "__next__") hT F.slot_enumerate_next (wpAny_call_entry F.slot_enumerate_next hT F.entry_enumerate_next ?_ (F.args_enumerate_next_1 _))))
 show wpAny _ _ (field (.ref e) 2 >>= _) _ _ _
 refine wpAny_bind (wpAny_field he U (x:=.ref it) U ?_)
 refine wpAny_bind (HZ.eV hh hit hl hx λh' x he' hx'=>?_)
 obtain⟨o,ho,hc⟩:=hx'
 refine wpAny_bind (wpAny_isInstance (T:="StopIteration") (b:=true) ⟨o,ho,hc⟩ isSubtype_stop ?_)
 exact wpAny_pure (hQ _ he')
end
end F0
namespace L2
open PySem PySem.Spec
open PyProof.Rows hiding St
def OY(K:Frag)(c:Nat)(a:Addr):It :=
 ⟨λi H=>∃ xs x,hV K H a xs/\xs[i]?=some x,λi H x H'=>∃ p,H p=none/\x=.ref p/\∀ xs,hV K H a xs->∃ y,xs[i]?=some y/\H'=upd H p (.tup [.int (c+i:Nat),y]),λi H=>∃ xs,hV K H a xs/\xs.length<=i⟩
section
variable{P:Program}{w:World}{K:Frag}
theorem vQ{elts:List Expr}{k:Nat}{lL:Pos}(c:Nat)(a it e:Addr)(NS:e≠it):Turn P w K (.Tuple elts k lL) (OY K c a) [e,it] e (λi h=>(∃ old,IsEnum h e it (c+i:Nat) old)/\h.IsTupleIter it a i) where
 mem:=by simp
 obj:=λi h st b hb=>by
  rcases TX.mp hb with rfl | hb
  ·obtain⟨⟨old,he⟩,_⟩:=st
   exact⟨_,he,λv z=>by
    have z':Data.fields _=Data.cell v:=z
    cases z'⟩
  ·rw[TL.mp hb]
   exact ie.obj (tup:=true) st.2
 keep:=λi h h' st kk=>⟨let ⟨old,he⟩:=st.1;⟨old,kk e (by simp) _ he⟩,st.2.at λo x=>kk it (by simp) o x⟩
 item:=by
  intro X hP hw hK hc i pins s O H E I hf st hg
  subst hP hw hK
  obtain⟨⟨old,he⟩,hit⟩:=st
  obtain⟨xs,x,hq,hx⟩:=hg
  have hd:(X.A.in1).handled=none:=I.ok.hd hc
  have helt:e < s.heap.objs.size:=Tz he
  obtain⟨its,rv,p,hz⟩:=I.tuple hq
  have hef:e∉[it,a]:=λhm=>by
   rcases TX.mp hm with z | hm
   ·exact NS z
   ·have z:e=a:=TL.mp hm
    subst z
    obtain⟨o,e1,c1,_⟩:=p
    rw[he] at e1
    cases e1
    exact absurd c1 (by show ¬ Value.type "enumerate"=Value.type "tuple";decide)
  have hai:a≠it:=λz=>by
   subst z
   obtain⟨o,e1,c1,_⟩:=p
   obtain⟨o',e2,c2,_⟩:=hit
   rw[e1] at e2
   cases e2
   rw[c1] at c2
   exact absurd c2 (by decide)
  obtain⟨u,hu,ru⟩:=rv.get hx
  have hi:i < its.toArray.size:=by
   have:=(Tw.mp hu).1
   simpa using this
  refine wpAny_pyNext_enum_itemD (F0.shift (HZ.z7 hd it a hai its.toArray) c) he ⟨i,U,hit,p⟩ (by omega) NS hef λy h' tk hy ho Eu hT hsz hk=>?_
  obtain⟨j,ej,hy⟩:=hy
  obtain⟨j',ej',Eu,_⟩:=Eu
  have:j=i:=by omega
  subst this
  have:j'=j+1:=by omega
  subst this
  have e:y=u:=by
   have hy':its[j]?=some y:=by simpa using hy
   rw[hu] at hy'
   exact (Ue hy').symm
  subst e
  refine⟨_,U,?_⟩
  refine wpAny_letOwnedTupleGo_enum (s:={ s with heap:=h',toks:=tk+1 }) ho λh2 he2 qt=>?_
  have hkeep:∀ b o,b≠e->b≠it->s.heap.get? b=some o->h2.get? b=some o:=λb o h1 h2' h3=>(qt.2 b h1).trans (hk b o h1 h2' h3)
  have CH:s.heap.objs.size≠e:=UO helt
  have qS:H s.heap.objs.size=none:=I.aL.fresh (TB _)
  have I1:Inv X pins O (upd H s.heap.objs.size (.tup [.int (c+j:Nat),x])) { s with heap:=h2,toks:=tk+1 } :=
   Inv.sj I (λb o hb q=>hkeep b o (λz=>hb (by simp[z])) (λz=>hb (by simp[z])) q) hf (Nat.le_refl _)
    ⟨by show 2<=sizeLine;decide,[.int (c+j:Nat) tk,y],.cons ⟨tk,U⟩ (.cons ru .nil),⟨_,(qt.2 _ CH).trans hT,U,_,U⟩⟩
  refine⟨.ref s.heap.objs.size,_,I1,U,⟨s.heap.objs.size,qS,U,λzs hz=>⟨x,by rw[I.lM hz hq];exact hx,U⟩⟩,⟨⟨y,he2⟩,Eu.at λo y=>(qt.2 it NS.symm).trans y⟩,λb hb=>?_⟩
  have hb':b < s.heap.objs.size:=by
   rcases TX.mp hb with rfl | hb
   ·exact helt
   ·rw[TL.mp hb]
    obtain⟨o,y,_⟩:=hit
    exact Tz y
  rw[aj (TQ hb')]
  exact (hf b hb).1
 done:=by
  intro X hP hw hK hc i pins s O H E I hf st hg
  subst hP hw hK
  obtain⟨⟨old,he⟩,hit⟩:=st
  obtain⟨xs,hq,hx⟩:=hg
  obtain⟨its,rv,p,hz⟩:=I.tuple hq
  have hn:its.toArray[i]?=none:=by
   have:=rv.length
   simp
   omega
  exact F0.zU (I.ok.hd hc) he hit p hn λh' eb=>⟨U,Inv.jz (t':=s.toks) I (λb o hb q=>eb b o (λz=>hb (by simp[z])) q) hf⟩
 self:=λ_ _ _ _ _ st h=>by
  obtain⟨⟨old,he⟩,_⟩:=st
  exact wpAny_pyIter_enum he h
section
variable{M:Model}{A:Around}{E:VG}{s:Shared}{env:Env}
theorem Jf{f:Expr}{as:List Expr}{ks:List Keyword}{pos:Pos}{Q:VG}(h:wpAny M A (eval f env) (λv s1=>wpAny M A (callWith pos v [] (backTo pos (starEach as env)) (backToKw pos (keywordEach ks env))) Q E s1) E s)(he:eval (.Call f as ks pos) env=(do callWith pos (<- eval f env) [] (backTo pos (starEach as env)) (backToKw pos (keywordEach ks env))):=by rfl):wpAny M A (eval (.Call f as ks pos) env) Q E s:=by
 rw[he]
 exact wpAny_bind h
theorem so{T:String}{pos:Pos}{as:List (Bool×Sem Value)}{ks:List (Option Str×Sem Value)}{Q:VG}(h1:as.any (·.1)=false)(h2:ks.any (·.1.isNone)=false)(h:wpAny M A (evalArgs (.type T) true as ks) (λa s1=>wpAny M A (call (.type T) a.pos a.kw) Q E s1) E s):wpAny M A (callWith pos (.type T) [] as ks) Q E s:=by
 unfold callWith
 refine wpAny_bind (wpAny_holding (b8 h λa s1 q=>wpAny_bind (wpAny_standAt ?_)))
 simp only[h1,h2,Bool.or_false]
 refine wpAny_bind (wpAny_pure ?_)
 exact wpAny_bind (b8 q λr s2 hr=>wpAny_bind (wpAny_holding (wpAny_point (wpAny_pure hr))))
end
section
variable{X:Cx}
def MI(K:Frag)(t:TA)(u:TE):TI:=λO H R=>t O H λvs H1=>u O H1 λcv H2=>∃ (a:Addr) (xs:List V) (c:Nat),vs=[.ref a]/\cv=.int c/\(c:Int) < 2 ^ 63/\hV K H2 a xs/\(xs.length<=sizeLine->R (OY K c a) H2)
theorem HS{elts:List Expr}{k:Nat}{lL p pos kp:Pos}{a e:Expr}{t:TA}{u:TE}(hg:Gl X "enumerate")(hm:X.mg "enumerate"=none)(ha:PA X [a] t)(he:PE X e u)(hs:starEach [a] X.env=[(false,eval a X.env)]:=by rfl):PI X (.Tuple elts k lL) (.Call (.Name "enumerate" p) [a] [⟨some "start",e,kp⟩] pos) (MI X.K t u):=by
 intro pins s O H R I h
 refine Jf (gT I hg hm (u:=.type "enumerate") (by decide+kernel) ?_)
 have hb:backTo pos (starEach [a] X.env)=(false,eval a X.env)::backTo pos (starEach [] X.env):=by rw[hs];rfl
 refine so (by rw[hb];rfl) U ?_
 rw[hb]
 refine evalArgs_kwB U ?_
 rw[<- hb]
 refine b8 (ha pos pins s O H _ I h) λus s1 zz=>el2 zz λvs H1 I1 r1 q1=>?_
 refine kws_cons (b8 (he pins s1 O H1 _ I1 q1) λcu s2 zz=>el2 zz λcv H2 I2 rc q2=>kws_nil ?_)
 obtain⟨a,xs,c,rfl,rfl,hc,hq,q⟩:=q2
 obtain⟨u0,rfl,ru⟩:=Vals.one r1
 cases ru
 obtain⟨tk,rfl⟩:=rc
 have fp:∀ b∈[s2.heap.objs.size+1,s2.heap.objs.size],fz X pins H2 b:=λb hb=>by
  have hle:s2.heap.objs.size<=b:=by
   rcases TX.mp hb with rfl | hb
   ·omega
   ·rw[TL.mp hb]
    exact TB _
  exact I2.pq hle (I2.aL.fresh hle)
 obtain⟨its,rv,pp,hz⟩:=I2.tuple hq
 refine F0.vW (xs:=its.toArray) pp hc λh' en hit hk=>?_
 refine wpAny_pyIter_enum en ?_
 exact⟨s2.heap.objs.size+1,_,_,_,H2,U,I2.kept (t':=s2.toks) hk,vQ c a s2.heap.objs.size (s2.heap.objs.size+1) (Nat.succ_ne_self _),⟨⟨_,en⟩,hit⟩,fp,q hz⟩
end
end
end L2
namespace DL
open PySem PySem.Spec L2
open PyProof.Rows hiding St
section
variable{X:Cx}{c:Ent}
def oV(n:Nat)(ds:List D):List D:=(List.range ds.length).zipWith (λi d=>.tup [.int (n+i:Nat),d]) ds
theorem yH{n:Nat}{ds:List D}{i:Nat}{d:D}(h:(oV n ds)[i]?=some d):∃ x,ds[i]?=some x/\d=.tup [.int (n+i:Nat),x]:=by
 unfold oV at h
 rw[VF] at h
 cases e:ds[i]? with
 | none =>
  rw[e] at h
  cases e2:(List.range ds.length)[i]? with
  | none=>rw[e2] at h;cases h
  | some j=>rw[e2] at h;cases h
 | some x =>
  have hl:=(Tw.mp e).1
  rw[e,List.getElem?_range hl] at h
  cases h
  exact⟨x,U,U⟩
theorem pX{n:Nat}{ds:List D}:(oV n ds).length=ds.length:=by simp[oV]
def JW(t:fU)(u:br):fU:=λs Q=>t s λas s1=>u s1 λv s2=>∃ ds n,as=[.tup ds]/\v=.int (n:Nat)/\(n:Int) < 2 ^ 63/\Q (oV n ds) s2
theorem JP{elts:List Expr}{k:Nat}{lL p pos kp:Pos}{a e:Expr}{t:fU}{u:br}(hg:Gl X "enumerate")(hm:X.mg "enumerate"=none)(ha:DA X c [a] t)(he:DE X c e u)(hs:starEach [a] X.env=[(false,eval a X.env)]:=by rfl):DI X c (.Tuple elts k lL) (.Call (.Name "enumerate" p) [a] [⟨some "start",e,kp⟩] pos) (JW t u) :=
 ⟨λpins s O H R I zz=>ei zz λM s0 as R0 L q k=>HS hg hm ha.pa he.pe hs pins s O H R I
  ⟨M,s0,as,_,L,q,λads s1 q1 M1 H1 vs L1 E1 rv _=>⟨M1,s1,as,_,L1,q1,λcd s2 z5r M2 H2 cv L2 E2 rc=>by
   obtain⟨ds,n,ed,ec,hn,q2⟩:=z5r
   subst ed ec
   obtain⟨v,ev,rw1⟩:=dJ rv
   subst ev
   obtain⟨a,xs,rfl,h,r⟩:=E2.rep L1 rw1
   have rc:cv=.int (n:Nat):=rc
   refine⟨a,xs,n,U,rc,hn,h.sq,λhl=>k _ s2 q2 M2 H2 _ L2 (E1.trans L1.base E2) (λM3 H3 G=>?_) (by rw[pX,<- r.length];exact hl)⟩
   have h2:=(h.mono (λb m=>(G b m).1) λb o m e=>(G b m).2 o e).sq
   have r2:=G.tL r
   refine⟨λi hi=>⟨xs,h2,by rw[r.length];rw[pX] at hi;exact hi⟩,λi d hd=>?_⟩
   obtain⟨y,hy,rfl⟩:=yH hd
   obtain⟨v,g1,g2⟩:=r2.get hy
   refine⟨⟨xs,v,h2,g1⟩,λx H3 ⟨b,hb,ex,hx⟩=>.inr ?_⟩
   obtain⟨w,w1,w2⟩:=hx xs h2
   rw[g1] at w1
   cases w1
   subst w2
   exact⟨b,_,hb,U,b,_,ex,⟨.inr U,au⟩,⟨_,_,U,U,_,_,U,j9 hb g2,U⟩⟩⟩⟩⟩
end
end DL
namespace F0
open PySem Sem
theorem rF:typeLookup (.type "list") "keys"=Pure.pure none:=by rw[typeLookup_type,builtinLookup_eq_fast];kernel_rfl
theorem wb:typeLookup (.type "list") "__getattr__"=Pure.pure none:=by rw[typeLookup_type,builtinLookup_eq_fast];kernel_rfl
section
variable{prog:Program}{w:World}{A:Around}{E:VG}{h:Heap}{g:Array GenState}{d:Drawn}{t:Nat}{os:OsState}{a:Addr}{o:Obj}
theorem nR:isSubtype (.type "AttributeError") (.type "AttributeError")=Pure.pure true:=by rw[isSubtype_type];kernel_rfl
theorem vV(vs:List Value):firstArgMember (.type "AttributeError") vs=Pure.pure .none:=by
 unfold firstArgMember
 have e:((Manifest.find? "AttributeError").elim false λt=>t.mro.contains "StopIteration"||t.mro.contains "SystemExit")=false:=by decide+kernel
 simp only[pure_bind,e]
 rfl
theorem v8{α:Type}{h2:Heap}{e:Addr}{p v:Value}{nm:Str}{sl:Array (Option Value)}{Q:α->Shared->Prop}(hh:A.handled=none)(he:h2.get? e=some ⟨.type "AttributeError",none,.fields #[p,.none,.none,.none,.bool false,.none,unsetMember,unsetMember],sl⟩)(hq:∀ h3 t',(∀ b u,b≠e->h2.get? b=some u->h3.get? b=some u)->(∃ u,h3.get? e=some u/\u.cls=.type "AttributeError")->E (.ref e) ⟨h3,g,d,t',os⟩) :
  wpAny (model prog w) A (mkText nm >>= λn=>noteAttr (.ref e) v n >>= λ_=>raiseNew (.ref e)) Q E ⟨h2,g,d,t,os⟩:=by
 have hT:∀ t',(⟨h2,g,d,t',os⟩:Shared).TypeIs (.ref e) "AttributeError":=λ_=>⟨_,he,U⟩
 have hT1:=hT (t+1)
 have f6:=nR
 unfold noteAttr raiseNew
 repeat (any_goals (first | assumption | wp_step))
 exact hq _ _ (λb u hb x=>(Heap.get?_update_ne _ _ _ _ hb).trans x) ⟨_,Ul _ he (Obj.isFreed_of_fields (Obj.data_mapFields U _)),(Obj.cls_mapFields ..).trans U⟩
theorem vp{α:Type}{v:Value}{nm msg:Str}{Q:α->Shared->Prop}(hh:A.handled=none)(hz:msg.length<=sizeLine)(hq:∀ h' e t',(∀ b u,h.get? b=some u->h'.get? b=some u)->(∃ u,h'.get? e=some u/\u.cls=.type "AttributeError")->E (.ref e) ⟨h',g,d,t',os⟩) :
  wpAny (model prog w) A (raiseAttrError v nm msg) Q E ⟨h,g,d,t,os⟩:=by
 unfold raiseAttrError
 simp only[newExc,newTuple]
 refine wpAny_bind (wpAny_mkStr ?_ hz)
 refine wpAny_bind (wpAny_bind (wpAny_newObj_type ?_ (by size_fits)))
 refine wpAny_bind (m:=firstArgMember _ _) (wpAny_of_eq (vV _) ?_)
 refine wpAny_newObj_type ?_ (by size_fits)
 dsimp only
 refine v8 (sl:=#[]) hh (TK _ U) λh3 t' k c=>hq h3 _ t' (λb u x=>k b u (TQ (TN (Tz x) ?_)) (Ts _ (Ts _ x))) c
 rw[UA]
 exact Vm _
theorem wB{tk:Tok}{items:Array Value}{n:Nat}{sl:Array (Option Value)}{Q:PySem.Fin->Shared->Prop}(hh:A.handled=none)(hx:h.get? a=some ⟨.type "list",none,.seq items n,sl⟩)(hq:∀ h' e t',(∀ b u,h.get? b=some u->h'.get? b=some u)->(∃ u,h'.get? e=some u/\u.cls=.type "AttributeError")->E (.ref e) ⟨h',g,d,t',os⟩) :
  wpAny (model prog w) A (Builtin.«object.__getattribute__» ⟨[.ref a,.str "keys" tk],[]⟩) Q E ⟨h,g,d,t,os⟩:=by
 have hT:(⟨h,g,d,t,os⟩:Shared).TypeIs (.ref a) "list":=⟨_,hx,U⟩
 have f4:=rF
 repeat (any_goals (first | assumption | with_reducible refine vp hh (by decide+kernel) hq | wp_step))
theorem CU{tk:Tok}{items:Array Value}{n:Nat}{sl:Array (Option Value)}{Q:VG}(hh:A.handled=none)(hx:h.get? a=some ⟨.type "list",none,.seq items n,sl⟩)(hq:∀ h' e t',(∀ b u,h.get? b=some u->h'.get? b=some u)->(∃ u,h'.get? e=some u/\u.cls=.type "AttributeError")->E (.ref e) ⟨h',g,d,t',os⟩) :
  wpAny (model prog w) A (getAttrBy (.ref a) (.str "keys" tk) false) Q E ⟨h,g,d,t,os⟩:=by
 have hT:(⟨h,g,d,t,os⟩:Shared).TypeIs (.ref a) "list":=⟨_,hx,U⟩
 have f2:=F.slot_list_getattribute.lookup
 have f3:=F.slot_list_getattribute.bind (.ref a)
 have f5:=wb
 repeat (any_goals (first | assumption | wp_step))
 refine codeAny_call_builtin F.slot_list_getattribute.plain F.entry_list_ga (F.slot_list_getattribute.check _ _ _ _ _ _ _ _ hT (F.args_list_getattribute_2 _ _) (wB hh hx λh' e t' k c=>?_))
 obtain⟨u,hu,hc⟩:=c
 have hT2:(⟨h',g,d,t',os⟩:Shared).TypeIs (.ref e) "AttributeError":=⟨u,hu,hc⟩
 have f6:=nR
 show wpAny _ _ (getattributeRaised (.ref a) (.str "keys" tk) (.type "list") (.ref e) none false false) _ _ _
 have hE:=hq h' e t' k ⟨u,hu,hc⟩
 repeat (any_goals (first | assumption | wp_step))
theorem CF{items:Array Value}{n:Nat}{sl:Array (Option Value)}{Q:Option Value->Shared->Prop}(hh:A.handled=none)(hx:h.get? a=some ⟨.type "list",none,.seq items n,sl⟩)(hq:∀ h' t',(∀ b u,h.get? b=some u->h'.get? b=some u)->Q none ⟨h',g,d,t',os⟩) :
  wpAny (model prog w) A (getAttr? (.ref a) "keys") Q E ⟨h,g,d,t,os⟩:=by
 unfold getAttr? getAttrBy?
 refine wpAny_bind ?_
 have f6:=nR
 unfold mkText
 repeat (any_goals (first | assumption | with_reducible apply CU hh hx | wp_step))
 intro h' e t' k c
 obtain⟨u,hu,hc⟩:=c
 have hT2:(⟨h',g,d,t',os⟩:Shared).TypeIs (.ref e) "AttributeError":=⟨u,hu,hc⟩
 have hE:=hq h' t' k
 repeat (any_goals (first | assumption | wp_step))
end
end F0
namespace L2
open PySem PySem.Spec
open PyProof.Rows hiding St
section
variable{X:Cx}{pins:VH}{O:St}
def nX(H:Hp)(x:V)(kv:List Key×V):Prop:=∃ p k,x=.ref p/\H p=some (.tup [.ref k,kv.2])/\H k=some (.tup (kv.1.map kV))
theorem nX.up{H:Hp}{x:V}{kv:List Key×V}{a:Addr}{m m':List (List Key×V)}(e:H a=some (.dT m))(h:nX H x kv):nX (upd H a (.dT m')) x kv:=by
 obtain⟨p,k,e1,e2,e3⟩:=h
 have n1:p≠a:=λz=>by subst z;rw[e] at e2;cases e2
 have n2:k≠a:=λz=>by subst z;rw[e] at e3;cases e3
 exact⟨p,k,e1,by rw[aj n1];exact e2,by rw[aj n2];exact e3⟩
def putAll(m:List (List Key×V))(kvs:List (List Key×V)):List (List Key×V):=kvs.foldl (λm kv=>putK m kv.1 kv.2) m
theorem pZ:entryFor table "dict.update.loop"=some Builtin.«dict.update.loop»:=entryFor_of_tree (by kernel_rfl)
theorem GV{K:Frag}{H:Hp}{l a:Addr}{xs:List V}{m:List (List Key×V)}{o:HO}(e:H a=some (.dT m))(h:d5 K H l xs):d5 K (upd H a o) l xs:=by
 rcases h with (h | ⟨u,h⟩) | h
 ·have n:l≠a:=λz=>by subst z;rw[e] at h;cases h
  exact .inl (.inl (by rw[aj n];exact h))
 ·have n:l≠a:=λz=>by subst z;rw[e] at h;cases h
  exact .inl (.inr ⟨u,by rw[aj n];exact h⟩)
 ·exact .inr h
theorem yp{H:Hp}{s:Shared}{A:Around}{E:VG}{a b:Addr}{k:List Key}{v:V}{r:Value}{m:List (List Key×V)}{Q:Unit->Shared->Prop}(hu:(tupleKind (bV X.prog X.w)).room A)(I:Inv X pins O H s)(e:H a=some (.dT m))(eb:H b=some (.tup (k.map kV)))(l:m.length < sizeLine)(rv:RelV v r)(h:∀ s',Inv X pins O (upd H a (.dT (putK m k v))) s'->Heap.SameBut a s.heap s'.heap->Q () s'):wpAny (model X.prog X.w) A (dictSet a (.ref b) r) Q E s:=by
 obtain⟨z,hd,xs,rel,dd⟩:=Ek I.aL e
 have hz:xs.length<=sizeLine:=by rw[<- Paired.length rel];exact z
 have hl:(putK m k v).length<=sizeLine:=by have:=fc m k v;omega
 refine wpAny_dictSet_heap (hsz:=hz) hu (lZ I.aL eb) dd λh' dd' hs=>h _ ?_ hs
 obtain⟨q,es,ep,hq,h2,h3,h4,_,h5⟩:=dd'
 refine mZ I (by rw[e];exact True.intro) hs ⟨q,hq⟩ ⟨hl,hd,_,(rel.put k eb rv).keeps λc ys ec=>?_,q,es,ep,hq,h2,h3,h4,h5⟩
 rw[aj (wQ ec e (λz=>nomatch z))]
 exact ec
theorem qq{A:Around}{E:VG}{a it l:Addr}{xs:List V}{Q:Shared->Prop}(hh:A.in1.handled=none)(hu:A.units+1 < cLine):∀ (rest:List (List Key×V)) (i:Nat) (acc:List (List Key×V)) (H:Hp) (s:Shared),
  Inv X pins O H s->H a=some (.dT acc)->d5 X.K H l xs->Paired (nX H) (xs.drop i) rest->fz X pins H it->s.heap.IsListIter it l i->acc.length+rest.length < sizeLine ->
  (∀ s',Inv X pins O (upd H a (.dT (putAll acc rest))) s'->Q s') ->
  codeAny (model X.prog X.w) A (.builtin "dict.update.loop" ⟨[.ref a,.ref it,rawInt i,.none],[]⟩) (wants (λr s2=>r=.none/\Q s2) E) s
 | [],i,acc,H,s,I,ha,hl,hp,hf,hit,hz,q=>by
  have hx:xs.drop i=[]:=by
   have:=Paired.length hp
   exact Ut this
  obtain⟨its,rv,pl,_⟩:=I.list hl
  have hn:its.toArray[i]?=none:=by
   have:=rv.length
   have:=congrArg List.length hx
   simp at this ⊢
   omega
  refine codeAny_builtin pZ ?_
  rw[Around.under_plain U U]
  show wpAny _ _ (pyNext (.ref it) >>= _) _ _ _
  refine wpAny_bind (wpAny_pyNext_list_end hh hit pl.isList hn λh' eb=>?_)
  have I1:Inv X pins O H { s with heap:=h' }:=Inv.jz (t':=s.toks) (fp:=[it]) I (λb o hb z=>eb b o (λy=>hb (by simp[y])) z) λb hb=>by rw[List.mem_singleton.mp hb];exact hf
  show wpAny _ _ (Builtin.Dict.addKeywords a [] >>= _) _ _ _
  refine wpAny_bind (wpAny_pure (wpAny_pure ⟨U,q _ ?_⟩))
  have e:upd H a (.dT (putAll acc []))=H:=by
   funext b
   by_cases hb:b=a
   ·subst hb
    rw[au,ha]
    rfl
   ·rw[aj hb]
  rw[e]
  exact I1
 | kv::rest,i,acc,H,s,I,ha,hl,hp,hf,hit,hz,q=>by
  have iQ:i < xs.length:=by
   have:=Paired.length hp
   rw[UB,TH] at this
   omega
  rw[UN iQ] at hp
  cases hp with
  | cons hx hr =>
  obtain⟨p,k,e1,e2,e3⟩:=hx
  obtain⟨its,rv,pl,_⟩:=I.list hl
  obtain⟨u,hu1,ru⟩:=rv.get (show xs[i]?=some xs[i] from Ud iQ)
  rw[e1] at ru
  have ru:u=.ref p:=ru
  subst ru
  refine codeAny_builtin pZ ?_
  rw[Around.under_plain U U]
  show wpAny _ _ (pyNext (.ref it) >>= _) _ _ _
  refine wpAny_bind (wpAny_pyNext_list_item hit pl.isList (by simpa using hu1) λh' hit' hs=>?_)
  have I1:Inv X pins O H { s with heap:=h' }:=Inv.jz (t':=s.toks) (fp:=[it]) I (λb o hb z=>(hs.2 b (λy=>hb (by simp[y]))).trans z) λb hb=>by rw[List.mem_singleton.mp hb];exact hf
  obtain⟨_,ps,rp,op,g1,g2,nn,g3⟩:=(show cf X.prog X.w H h' p (.tup [.ref k,kv.2]) from I1.aL p _ e2)
  obtain⟨kr,vr,rfl,rk,rvv⟩:=Vals.two rp
  have rk:kr=.ref k:=rk
  subst rk
  show wpAny _ _ (holding [Value.ref p] _ >>= _) _ _ _
  refine wpAny_bind (wpAny_holding (wpAny_bind (wpAny_tryCatch ?_)))
  have hT:Shared.TypeIs { s with heap:=h' } (.ref p) "tuple":=⟨op,g1,g2⟩
  unfold Builtin.Dict.pairItems
  refine wpAny_bind (wpAny_typeOf hT ?_)
  rw[if_pos (by decide)]
  refine wpAny_bind (wpAny_seqItems g1 g3 (wpAny_pure ?_))
  show wpAny _ _ (holding [Value.ref k,vr] (dictSet a (.ref k) vr)) _ _ _
  have hzl:acc.length+(rest.length+1) < sizeLine:=hz
  refine wpAny_holding (yp (tupleKind_room_in1 hu) I1 ha e3 (by omega) rvv λs2 I2 qt=>?_)
  have hia:it≠a:=λz=>by
   subst z
   rw[hf.1] at ha
   cases ha
  refine wpAny_pure ⟨Code.quiet_builtin _ (by decide+kernel),?_⟩
  have dA:=fc acc kv.1 kv.2
  refine qq hh hu rest (i+1) (putK acc kv.1 kv.2) (upd H a (.dT (putK acc kv.1 kv.2))) s2 I2 au (GV ha hl) (Paired.zA hr λ_ _ z=>nX.up ha z) ⟨by rw[aj hia];exact hf.1,hf.2⟩ (hit'.at λo z=>(qt.2 it hia).trans z) (by omega) λs3 I3=>q s3 ?_
  have e:upd (upd H a (.dT (putK acc kv.1 kv.2))) a (.dT (putAll (putK acc kv.1 kv.2) rest))=upd H a (.dT (putAll acc (kv::rest))):=by
   funext b
   by_cases hb:b=a
   ·subst hb
    rw[au,au]
    rfl
   ·rw[aj hb,aj hb,aj hb]
  rw[e] at I3
  exact I3
theorem DZ{K:Frag}{H:Hp}{l a:Addr}{xs:List V}{o:HO}(e:H a=none)(h:d5 K H l xs):d5 K (upd H a o) l xs:=by
 rcases h with (h | ⟨u,h⟩) | h
 ·exact .inl (.inl (by rw[aj (aC h e)];exact h))
 ·exact .inl (.inr ⟨u,by rw[aj (aC h e)];exact h⟩)
 ·exact .inr h
theorem nX.new{H:Hp}{x:V}{kv:List Key×V}{a:Addr}{o:HO}(e:H a=none)(h:nX H x kv):nX (upd H a o) x kv:=by
 obtain⟨p,k,e1,e2,e3⟩:=h
 exact⟨p,k,e1,by rw[aj (aC e2 e)];exact e2,by rw[aj (aC e3 e)];exact e3⟩
theorem vc{H:Hp}{s:Shared}{E:VG}{l:Addr}{xs:List V}{kvs:List (List Key×V)}{Q:VG}(hh:X.A.handled=none)(hu:X.A.units+150 < cLine)(I:Inv X pins O H s)(hl:d5 X.K H l xs)(hp:Paired (nX H) xs kvs)(hz:kvs.length < sizeLine)(h:∀ a s',H a=none->Inv X pins O (upd H a (.dT (putAll [] kvs))) s'->Q (.ref a) s'):wpAny (model X.prog X.w) X.A (call (.type "dict") [.ref l]) Q E s:=by
 refine callType_codes (Q₁:=λobj s₁=>obj=.ref s.heap.objs.size/\s₁={ s with heap:=s.heap.push { cls:=.type "dict",data:=.dict #[] } }) PySem.F.kt_called_dict (PySem.F.kt_typeCall_dict_1 _) PySem.F.entry_dict_init (kt_code_dict_new _ ⟨U,U⟩) λobj s₁ h₁=>?_
 obtain⟨rfl,rfl⟩:=h₁
 have qS:H s.heap.objs.size=none:=I.aL.fresh (TB _)
 have I1:Inv X pins O (upd H s.heap.objs.size (.dT [])) { s with heap:=s.heap.push { cls:=.type "dict",data:=.dict #[] } }:=I.laid (a:=s.heap.objs.size) (o:=.dT []) (t':=s.toks) (λ_ _ q=>Ts _ q) (TB _) (uu s.heap I.big)
 have hT:Shared.TypeIs { s with heap:=s.heap.push { cls:=.type "dict",data:=.dict #[] } } (.ref s.heap.objs.size) "dict":=⟨_,TK _ U,U⟩
 refine⟨hT,PySem.F.args_dict_init_2 _ _,?_⟩
 unfold Builtin.«dict.__init__»
 refine wpAny_bind ?_
 unfold Builtin.Dict.selfAndRest
 refine wpAny_bind (wpAny_notOrdered_dict hT ?_)
 refine wpAny_pure ?_
 show wpAny _ _ (Builtin.Dict.updateFrom "dict.__init__" s.heap.objs.size (.ref l) [] .none) _ _ _
 have B9:d5 X.K (upd H s.heap.objs.size (.dT [])) l xs:=DZ qS hl
 obtain⟨its,rv,pl,_⟩:=I1.list B9
 obtain⟨⟨cl,od,dt,sl⟩,nn,x1,x2,x3,x4⟩:=pl
 replace x2:cl=.type "list":=x2
 replace x3:od=none:=x3
 replace x4:dt=.seq its.toArray nn:=x4
 subst x2 x3 x4
 have hTl:Shared.TypeIs { s with heap:=s.heap.push { cls:=.type "dict",data:=.dict #[] } } (.ref l) "list":=⟨_,x1,U⟩
 unfold Builtin.Dict.updateFrom
 refine wpAny_bind (wpAny_typeOf hTl ?_)
 rw[if_pos (by decide)]
 have hhn:(X.A.in1.in1).handled=none:=hh
 refine wpAny_bind (F0.CF hhn x1 λh' t' k=>?_)
 have I2:Inv X pins O (upd H s.heap.objs.size (.dT [])) { s with heap:=h',toks:=t' }:=I1.kept (t':=t') k
 have hL2:Heap.IsList h' l its.toArray:=⟨_,k l _ x1,U,nn,U⟩
 show wpAny _ _ (rule _ >>= _) _ _ _
 refine wpAny_bind (wpAny_rule ?_)
 refine wpAny_bind (wpAny_pyIter_list (s:={ s with heap:=h',toks:=t' }) hL2 ?_)
 have I3:=I2.kept (h':=h'.push { cls:=.type "list_iterator",data:=.fields #[.ref l,.int 0 0] }) (t':=t') λb u z=>Ts _ z
 have iQ:s.heap.objs.size < h'.objs.size:=Tz (k _ _ (TK _ U))
 have FT:upd H s.heap.objs.size (.dT []) h'.objs.size=none:=by
  rw[aj (UO iQ)]
  exact I.aL.fresh (U9 iQ)
 refine wpAny_pure ⟨Code.quiet_builtin _ (by decide+kernel),?_⟩
 refine qq (A:=X.A.in1) hh (by show X.A.units+1+1 < cLine;omega) kvs 0 [] (upd H s.heap.objs.size (.dT [])) _ I3 au B9 (by rw[List.drop_zero];exact Paired.zA hp λ_ _ z=>z.new qS) (I2.pq (Nat.le_refl _) FT) ⟨_,Heap.get?_push_size _ U,U,U⟩ (by simpa using hz) λs' I4=>h _ s' qS ?_
 have e:upd (upd H s.heap.objs.size (.dT [])) s.heap.objs.size (.dT (putAll [] kvs))=upd H s.heap.objs.size (.dT (putAll [] kvs)):=by
  funext b
  by_cases hb:b=s.heap.objs.size
  ·subst hb
   rw[au,au]
  ·rw[aj hb,aj hb,aj hb]
 rw[e] at I4
 exact I4
end
def wW(K:Frag):List V->Hp->VK->Prop:=λvs H Q=>∃ l xs kvs,vs=[.ref l]/\d5 K H l xs/\Paired (nX H) xs kvs/\kvs.length < sizeLine/\∀ a,H a=none->Q (.ref a) (upd H a (.dT (putAll [] kvs)))
theorem tW{X:Cx}(hc:X.calm=true)(hu:X.A.units+150 < cLine):fq X (.type "dict") (wW X.K):=by
 intro pins s O H xs us Q I r h
 obtain⟨l,ys,kvs,rfl,hl,hp,hz,q⟩:=h
 obtain⟨u,rfl,ru⟩:=Vals.one r
 cases ru
 exact vc (I.ok.hd hc) hu I hl hp hz λa s' hn I2=>⟨.ref a,_,I2,U,q a hn⟩
end L2
namespace DL
open PySem PySem.Spec L2
section
variable{X:Cx}{c:Ent}
def putD(m:List (List Key)×List D)(kv:List Key×D):List (List Key)×List D:=(dY m.1 kv.1,dC m.1 m.2 kv.1 kv.2)
def CJ(ds:List D)(k:D->Prop):Prop:=∃ qs:List (List D×(List Key×D)),ds=[.lst (qs.map λq=>.tup [.tup q.1,q.2.2])]/\(∀ q∈qs,l0 q.1=some q.2.1)/\qs.length < sizeLine/\k (.kq ((qs.map (·.2)).foldl putD ([],[])).1 ((qs.map (·.2)).foldl putD ([],[])).2)
theorem zZ{K:Frag}{H:Hp}{M:Addr->Prop}:∀ {qs:List (List D×(List Key×D))} {xs:List V},(∀ q∈qs,l0 q.1=some q.2.1)->ay K H M (qs.map λq=>.tup [.tup q.1,q.2.2]) xs->∃ kvs:List (List Key×V),Paired (nX H) xs kvs/\Paired (λ(kv:List Key×V) (q:List D×(List Key×D))=>kv.1=q.2.1/\Rep K H M q.2.2 kv.2) kvs qs
 | [],xs,_,r=>by
  have r:xs=[]:=r
  subst r
  exact⟨[],.nil,.nil⟩
 | q::qs,xs,hq,r=>by
  obtain⟨x,xr,rfl,r1,r2⟩:=r
  obtain⟨kvs,p1,p2⟩:=zZ (λz hz=>hq z (Tv _ hz)) r2
  obtain⟨p,ys,rfl,⟨_,hp⟩,ry⟩:=r1
  obtain⟨y1,yr,rfl,⟨kb,zs,rfl,⟨_,hk⟩,rz⟩,ry2⟩:=ry
  obtain⟨y2,yr2,rfl,rv,ry3⟩:=ry2
  have ry3:yr2=[]:=ry3
  subst ry3
  have ez:=jv (hq q Tu) rz
  subst ez
  exact⟨(q.2.1,y2)::kvs,.cons ⟨p,kb,U,hp,hk⟩ p1,.cons ⟨U,rv⟩ p2⟩
theorem qH{K:Frag}{H:Hp}{M:Addr->Prop}:∀ {kvs:List (List Key×V)} {qs:List (List D×(List Key×D))} {acc:List (List Key×V)} {m:List (List Key)×List D},Paired (λ(kv:List Key×V) (q:List D×(List Key×D))=>kv.1=q.2.1/\Rep K H M q.2.2 kv.2) kvs qs->acc.map (·.1)=m.1->ay K H M m.2 (acc.map (·.2)) ->
  (putAll acc kvs).map (·.1)=((qs.map (·.2)).foldl putD m).1/\ay K H M ((qs.map (·.2)).foldl putD m).2 ((putAll acc kvs).map (·.2))
 | _,_,acc,m,.nil,h1,h2=>⟨h1,h2⟩
 | _,_,acc,m,.cons (a:=kv) (b:=q) r t,h1,h2=>by
  obtain⟨e,rv⟩:=r
  obtain⟨g1,g2⟩:=v7 (q:=kv.1) rv h2
  rw[h1,e] at g1 g2
  have:=qH (acc:=putK acc kv.1 kv.2) (m:=putD m q.2) t (by rw[e];exact g1) (by rw[e];exact g2)
  exact this
theorem yu:Dq X c (wW X.K) CJ:=λM s as O H xs ds k Q L r z6r q=>by
 obtain⟨qs,e,hq,hz,hk⟩:=z6r
 subst e
 obtain⟨v,rfl,a,ys,rfl,⟨m,h⟩,ry⟩:=dJ r
 obtain⟨kvs,p1,p2⟩:=zZ hq ry
 have hl:=Paired.length p2
 refine⟨a,ys,kvs,U,.of h,p1,by omega,λb hb=>q _ hk b _ hb ?_⟩
 exact qH (acc:=[]) (m:=([],[])) p2 U U
end
end DL
namespace HT
open PySem PySem.Spec PyProof.Rows
open PySem.AutoSeq1
theorem tuple_addW0(l b:Addr)(items Hu:Array Value)(n n2:Nat)(dd EH:Option Addr)(sl Ij:Array (Option Value))(Ry:items.isEmpty=true) :
  Meets (Builtin.«tuple.__add__» ⟨[.ref l,.ref b],[]⟩) (λ_ R s=>s.heap.get? l=some ⟨.type "tuple",dd,.seq items n,sl⟩/\s.heap.get? b=some ⟨.type "tuple",EH,.seq Hu n2,Ij⟩/\R (.ok (.ret (.ref b))) s) :=
 .of_wp λprog w A R s h=>by
  obtain⟨hp,g,d,tk,os⟩:=s
  obtain⟨hl,hb,h⟩:=h
  have f2:=PySem.AutoSeq1.sub_tuple_tuple
  wp_walk using wpAny_loadPart' hl,wpAny_loadPart' hb
  exact⟨_,U,h⟩
section
variable{prog:Program}{w:World}{A:Around}{E:VG}{s:Shared}
theorem AZ{t b:Addr}{ws:List Value}{Q:VG}(ht:IsTup s.heap t ([]:List Value).toArray)(hb:IsTup s.heap b ws.toArray)(h:Q (.ref b) s):wpAny (model prog w) A (binaryOp .Add (.ref t) (.ref b)) Q E s:=by
 obtain⟨⟨cls,dd,data,sl⟩,ho,hc,n,hd⟩:=id ht
 obtain⟨⟨cls2,EH,data2,Ij⟩,ho2,hc2,n2,hd2⟩:=id hb
 simp only at hc hd hc2 hd2
 subst hc hd hc2 hd2
 exact concat_meets ⟨_,ho,U⟩ ⟨_,ho2,U⟩ noFill_tuple_add seq_tuple_add Vy Vt (Vs _ _) (tuple_addW0 t b _ ws.toArray n n2 dd EH sl Ij U) ⟨ho,ho2,h⟩
end
end HT
namespace L2
open PySem PySem.Spec PyProof.Rows
section
variable{X:Cx}
def ES(K:Frag):R2:=λx y H Q=>∃ a b xs ys,x=.ref a/\y=.ref b/\hV K H a xs/\hV K H b ys/\xs.length+ys.length<=sizeLine/\(xs=[]->Q (.ref b) H)/\(xs≠[]->ys=[]->Q (.ref a) H)/\(xs≠[]->ys≠[]->∀ p,H p=none->Q (.ref p) (upd H p (.tup (xs++ys))))
theorem kO:iV X (binaryOp .Add) (ES X.K):=by
 intro pins s O H x y v u Q I rx ry h
 obtain⟨a,b,xs,ys,rfl,rfl,ha,hb,hz,q0,q1,q2⟩:=h
 by_cases hx:xs=[]
 ·cases rx
  cases ry
  obtain⟨its,r1,p1,_⟩:=I.tuple ha
  obtain⟨dU,r2,p2,_⟩:=I.tuple hb
  have e:its=[]:=r1.ny.mpr hx
  subst e
  exact HT.AZ p1 p2 ⟨.ref b,H,I,U,q0 hx⟩
 ·exact rK pins s O H _ _ v u Q I rx ry ⟨a,b,xs,ys,U,U,ha,hb,hx,hz,q1 hx,q2 hx⟩
end
end L2
namespace DL
open PySem PySem.Spec L2
section
variable{X:Cx}{c:Ent}
def As:D->D->(D->Prop)->Prop:=λa b k=>∃ xs ys,a=.tup xs/\b=.tup ys/\xs.length+ys.length<=sizeLine/\k (.tup (xs++ys))
theorem nH:pf X c (ES X.K) As:=λM s as O H x y dx dy k Q L rx ry z7r kk=>by
 obtain⟨xs,ys,e1,e2,hl,hk⟩:=z7r
 subst e1;subst e2
 obtain⟨p,vs,rfl,t,r⟩:=rx
 obtain⟨p',Bg,rfl,t',r'⟩:=ry
 refine⟨p,p',vs,Bg,U,U,t.sq,t'.sq,by rw[r.length,r'.length];exact hl,λz=>?_,λ_ z=>?_,λ_ z q hq=>?_⟩
 ·have:=r.length
  rw[z] at this
  have e:xs=[]:=Ut this.symm
  subst e
  rw[TJ] at hk
  exact kk _ hk M H _ L .refl ⟨p',Bg,U,t',r'⟩
 ·have:=r'.length
  rw[z] at this
  have e:ys=[]:=Ut this.symm
  subst e
  rw[TM] at hk
  exact kk _ hk M H _ L .refl ⟨p,vs,U,t,r⟩
 ·exact kk _ hk _ _ _ (L.fresh hq) (Ext.fresh hq) ⟨q,vs++Bg,U,⟨.inr U,au⟩,iq hq (r.append r')⟩
end
end DL
namespace DL
open PySem PySem.Spec L2
open PyProof.Rows hiding St
mutual
def fe:D->Bool
 | .lst _=>false
 | .qX _ _=>false
 | .kq _ _=>false
 | .tup ds=>bU ds
 | _=>true
def bU:List D->Bool
 | []=>true
 | d::ds=>fe d&&bU ds
end
section
variable{K:Frag}{H:Hp}{M:Addr->Prop}{a:Addr}
mutual
theorem Rep.off(na:∀ xs,H a≠some (.tup xs)):∀ (d:D) (v:V),fe d=true->Rep K H M d v->Rep K H (λb=>M b/\b≠a) d v
 | .bD,v,_,h=>h
 | .bl b,v,_,h=>h
 | .int i,v,_,h=>h
 | .str x,v,_,h=>h
 | .eW a,v,_,h=>h
 | .ty n,v,_,h=>h
 | .tup ds,v,t,h=>by
  obtain⟨b,xs,e,⟨m,q⟩,r⟩:=h
  exact⟨b,xs,e,⟨⟨m,λz=>na xs (z▸q)⟩,q⟩,ay.off na ds xs t r⟩
 | .lst ds,v,t,h=>(nomatch t)
 | .qX ks vs,v,t,h=>(nomatch t)
 | .kq ks vs,v,t,h=>(nomatch t)
theorem ay.off(na:∀ xs,H a≠some (.tup xs)):∀ (ds:List D) (vs:List V),bU ds=true->ay K H M ds vs->ay K H (λb=>M b/\b≠a) ds vs
 | [],vs,_,h=>h
 | d::ds,vs,t,h=>by
  obtain⟨x,r,e,h1,h2⟩:=h
  have t:(fe d&&bU ds)=true:=t
  rw[T8] at t
  exact⟨x,r,e,Rep.off na d x t.1 h1,ay.off na ds r t.2 h2⟩
end
end
section
variable{X:Cx}{c:Ent}{k:Nat}{f:Addr}{fd:FuncData}{ps:List Str}{t:VI}{x:Str}{p pos:Pos}{e ex:Expr}{te:br}
def Gd(t:VI)(te:br)(i:Nat):br:=λs Q=>te s λd0 s1=>(∃ d1,s1.sl[i]?=some (.dat d1)/\t [d0,d1] λd=>Q d s1)\/(∃ k d1,s1.sl[i]?=some (.own k)/\s1.os[k]?=some (some d1)/\t [d0,d1] λd=>fe d=true/\Q d s1)
theorem xN{i:Nat}(hr:cb k X.A)(hg:Gl X x)(hm:X.mg x=some (.ref f))(hk:keepIn X.K (.ref f)=true)(hb:Binds X.K fd ps [])(h0:DE X c e te)(hx:PE X ex (bB i))(F:cw X.prog X.w X.K X.mg X.base bb k f fd ps (cn X.K .no t))(fP:VM x:=by decide)(he:starEach (e::[ex]) X.env=(false,eval e X.env)::starEach [ex] X.env:=by rfl)(hs:starEach [ex] X.env=[(false,eval ex X.env)]:=by rfl)(dA:(backTo pos (starEach [ex] X.env)).any (·.1)=false:=by rfl) :
  DE X c (.Call (.Name x p) [e,ex] [] pos) (Gd t te i):=⟨(gD F hr hg hm hk hb .nil (E:=E0) mH (aG h0.pe (aG hx bY hs) he) fP he dA).imp λO H Q zz=>ei zz λM s as R L q kk =>
 ⟨M,s,as,_,L,q,λd0 s1 q1 M1 H1 v0 L1 E1 r0=>by
  rcases q1 with ⟨d1,g1,q1⟩ | ⟨k,d1,g1,g2,q1⟩
  ·obtain⟨v1,h1,r1⟩:=L1.dat i d1 g1
   exact⟨v1,h1,M1,[d0,d1],_,L1.base.nI,⟨v0,[v1],U,r0,ay.one r1⟩,q1,λd rd M' H' v B rv=>kk d s1 rd M' H' v (L1.after (L1.base.gZ B)) (E1.trans L1.base (Ext.after (L1.base.gZ B))) rv⟩
  ·obtain⟨a,o,h1,h2,h3,h4⟩:=L1.slot g1 g2
   have nM:¬ M1 a:=(L1.obj k d1 a g2 h1).2.1
   have nt:∀ xs,o≠.tup xs:=λxs z=>by subst z;exact h4.Bh
   have mk:∀ b u,M1 b->H1 b=some u->H1 b=some u:=λ_ _ _ e=>e
   refine⟨_,h2,λb=>M1 b\/b=a,[d0,d1],_,⟨trivial,λ_ _ e _=>e,λb m=>?_,λ_ _ h=>h,λ_ m=>m,λ_ m=>.inl m⟩,⟨v0,[.ref a],U,Rep.mono (λ_ m=>.inl m) mk d0 v0 r0,ay.one ((h4.mono (λ_ m=>.inl m) mk).rep h3 (.inr U))⟩,q1,λd ⟨td,rd⟩ M' H' v B rv=>?_⟩
   ·rcases m with m | rfl
    ·exact L1.base.md b m
    ·exact⟨o,h3⟩
   ·have ha:H' a=some o:=B.fr a o h3 λz=>z
    have B3:Base ⟨.no,M1,H1⟩ (λb=>M' b/\b≠a) H':=⟨trivial,B.fr,λb m=>B.md b m.1,λ_ _ h=>h,λb m=>⟨B.m0 b (.inl m),λz=>nM (z▸m)⟩,λb m=>by
     rcases B.mn b m.1 with z | z
     ·rcases z with z | z
      ·exact .inl z
      ·exact absurd z m.2
     ·exact .inr z⟩
    exact kk d s1 rd _ H' v (L1.after (L1.base.gZ B3)) (E1.trans L1.base (Ext.after (L1.base.gZ B3))) (Rep.off (λxs z=>nt xs (by rw[ha] at z;injection z)) d v td rv)⟩⟩
end
end DL
namespace DL
open PySem L2
theorem d8{α:Type}{f:α->D}{l:List α}(h:∀ x∈l,fe (f x)=true):bU (l.map f)=true:=by
 induction l with
 | nil=>rfl
 | cons a l ih =>
  show (fe (f a)&&bU (l.map f))=true
  rw[h a Tu,ih λx hx=>h x (Tv _ hx)]
  rfl
theorem yV{l:List Str}:bU (l.map D.str)=true:=d8 λ_ _=>rfl
theorem jx:∀ {hs:List (Str×List Str)} {ks:List D},bU ks=true->bU (bA hs ks)=true
 | [],_,_=>rfl
 | _::_,[],_=>rfl
 | h::hs,k::ks,t=>by
  have t:(fe k&&bU ks)=true:=t
  rw[T8] at t
  show (fe (vm h k)&&bU (bA hs ks))=true
  rw[jx t.2]
  show ((true&&(bU (h.2.map D.str)&&(fe k&&true)))&&true)=true
  rw[yV,t.1]
  rfl
theorem qr{k:D}{ks:List D}(t:bU (k::ks)=true):fe k=true/\bU ks=true:=by
 have t:(fe k&&bU ks)=true:=t
 rwa [T8] at t
theorem BL{f:Fm}{ks:List D}(t:bU ks=true):fe (Me f ks)=true:=by
 unfold Me
 split
 ·rfl
 ·rfl
 ·exact t
 ·exact t
 ·exact t
 ·show (true&&(true&&(bU _&&true)))=true
  rw[t]
  rfl
 ·cases ks with
  | nil=>rfl
  | cons k ks =>
   obtain⟨t1,t2⟩:=qr t
   show (true&&(fe k&&(true&&(bU ks&&true))))=true
   rw[t1,t2]
   rfl
 ·cases ks with
  | nil =>
   show (true&&(true&&(true&&(bU (bA _ [])&&true))))=true
   rw[jx U]
   rfl
  | cons k ks =>
   obtain⟨t1,t2⟩:=qr t
   show (true&&(fe k&&(true&&(bU (bA _ ks)&&true))))=true
   rw[t1,jx t2]
   rfl
 ·show (true&&(true&&(bU (bA _ ks)&&true)))=true
  rw[jx t]
  rfl
mutual
theorem wK:∀ t:Tm,fe (toD t)=true
 | .node f ks=>BL (sW ks)
theorem sW:∀ ks:List Tm,bU (toDs ks)=true
 | []=>rfl
 | t::r=>by
  show (fe (toD t)&&bU (toDs r))=true
  rw[wK t,sW r]
  rfl
end
theorem kP{ps:List (Str×Str)}:bU (ps.map pairD)=true:=d8 λ_ _=>rfl
theorem uW{rs:List (Str×Tm)}:bU (rs.map dH)=true:=d8 λr _=>by
 show (true&&(fe (toD r.2)&&true))=true
 rw[wK]
 rfl
theorem CA{p:PK}:fe (cm p)=true:=by
 have h1:fe (rE p)=true:=by
  unfold rE
  split
  ·exact d8 λa _=>by
    show (true&&(bU (a.ps.map pairD)&&(true&&true)))=true
    rw[kP]
    rfl
  ·exact d8 λm _=>by
    show (true&&(bU (m.fs.map pairD)&&true))=true
    rw[kP]
    rfl
 have h2:bU (c9 p)=true:=by
  unfold c9
  split
  ·exact d8 λx _=>by
    show (true&&(bU (x.1.fs.map pairD)&&(bU (x.2.map dH)&&true)))=true
    rw[kP,uW]
    rfl
  ·exact d8 λx _=>by
    show (true&&(bU (x.1.ps.map pairD)&&(true&&(bU (x.2.map dH)&&true))))=true
    rw[kP,uW]
    rfl
 show (true&&(true&&(fe (rE p)&&(bU (c9 p)&&true))))=true
 rw[h1,h2]
 rfl
theorem qw{ps:List PK}:fe (.tup (ps.map cm))=true:=d8 λ_ _=>CA
end DL
namespace DL
open PySem PySem.Spec L2
open PyProof.Rows hiding St
section
variable{K:Frag}{d l r:Addr}{M:Addr->Prop}{H:Hp}
end
section
variable{P:Program}{w:World}{K:Frag}{mg:Str->Option Value}{base:Heap}{d l r:Addr}
end
section
variable{X:Cx}{c:Ent}{st:Stmt}{e:Expr}{te:br}{pos:Pos}
end
section
variable{K:Frag}{c:Ent}{M M':Addr->Prop}{s:DS}{as:List Addr}{O:St}{H H':Hp}{d l r:Addr}
end
section
variable{X:Cx}{k:Nat}{f d l r:Addr}{M0:Addr->Prop}{H0:Hp}{fd:FuncData}{ps:List Str}{x:Str}{p pos:Pos}{e:Expr}{es:List Expr}{ta:fU}
end
end DL
namespace HT
open PySem PySem.Spec PyProof.Rows
open PySem.AutoSeq1
section
variable{prog:Program}{w:World}{A:Around}{E:VG}{s:Shared}
end
end HT
namespace L2
open PySem PySem.Spec PyProof.Rows
section
variable{X:Cx}
end
end L2
namespace DL
open PySem PySem.Spec L2
section
variable{X:Cx}{c:Ent}
end
end DL
namespace DL
open PySem L2
end DL
namespace L2
open PySem PySem.Spec PyProof.Rows
section
variable{X:Cx}
end
end L2
namespace DL
open PySem PySem.Spec L2
section
variable{X:Cx}{c:Ent}
end
end DL
namespace DL
open PySem L2
end DL
namespace HT
open PySem PySem.Spec PyProof.Rows
open PySem.Builtin PySem.Builtin.Str
section
variable{prog:Program}{w:World}{A:Around}{E:VG}{s:Shared}{x y:Str}{t u:Tok}{Q:VG}
end
end HT
namespace L2
open PySem PySem.Spec PyProof.Rows
section
variable{X:Cx}
end
end L2
namespace DL
open PySem L2
end DL
namespace DL
open PySem L2
open PySem.Builtin.Str
end DL
namespace L2
open PySem PySem.Calls PyProof.Rows PyProof.V PySem.Spec
section
variable{X:Cx}{d:Addr}{kvs:List (Str×Value)}
def ET(X:Cx)(k:Nat)(f:Addr)(sp:Sp):Prop:=∃ fd ps,cw X.prog X.w X.K X.mg X.base bb k f fd ps sp/\keepIn X.K (.ref f)=true/\Binds X.K fd ps []
def HR(X:Cx)(k:Nat)(tf:TE)(t:TA):TE:=λO H Q=>tf O H λv H1=>∃ f sp,v=.ref f/\ET X k f sp/\t O H1 λvs H2=>sp vs H2 Q E0
theorem zx{k:Nat}{a b e:Expr}{es:List Expr}{p pos:Pos}{tf:TE}{t:TA}(hr:cb k X.A)(hf:PE X (.Subscript a b p) tf)(ha:PA X (e::es) t)(he:VJ X.env e es:=by rfl)(dA:VL X.env pos es:=by rfl) :
  PE X (.Call (.Subscript a b p) (e::es) [] pos) (HR X k tf t):=by
 intro pins s O H Q I h
 rw[show eval (.Call (.Subscript a b p) (e::es) [] pos) X.env=(do callWith pos (<- eval (.Subscript a b p) X.env) [] (backTo pos (starEach (e::es) X.env)) (backToKw pos (keywordEach [] X.env))) from U]
 refine wpAny_bind (b8 (hf pins s O H _ I h) λv s1 ⟨x,H1,I1,r,f,sp,e1,⟨fd,ps,F,hk,hb⟩,q⟩=>?_)
 subst e1
 cases (show v=Value.ref f from r)
 refine Vr (h₀:=X.base) I1.ok.mod.Iq hk (b8 (ha pos pins s1 O H1 _ I1 q) λus s2 zz=>el2 zz λvs H2 I2 r2 q2=>⟨I2.i7,?_⟩) he dA
 exact An F hr hb .nil mH I2 r2 (by rw[TM];exact q2)
end
end L2
namespace DL
open PySem L2
section
variable{X:Cx}{c:Ent}{k:Nat}{p pos:Pos}{a b e:Expr}{es:List Expr}{tf:br}{ta:fU}
def D9(X:Cx)(c:Ent)(k:Nat)(tf:br)(ta:fU):br:=λs Q=>tf s λd s1=>∃ f t,d=.eW f/\ET X k f (cn X.K c.g t)/\ta s1 λds s2=>t ds λd=>Q d s2
theorem CO(hr:cb k X.A)(hf:DE X c (.Subscript a b p) tf)(ha:DA X c (e::es) ta)(he:VJ X.env e es:=by rfl)(dA:VL X.env pos es:=by rfl) :
  DE X c (.Call (.Subscript a b p) (e::es) [] pos) (D9 X c k tf ta):=⟨(zx hr hf.pe ha.pa he dA).imp λO H Q zz=>ei zz λM s as R L q kk =>
 ⟨M,s,as,_,L,q,λd s1 z2q M1 H1 v L1 E1 r1=>by
  obtain⟨f,t,ed,C,q1⟩:=z2q
  subst ed
  exact⟨f,_,r1,C,M1,s1,as,_,L1,q1,λds s2 q2 M2 H2 vs L2 E2 r2 hl=>⟨M2,ds,_,L2.base.here,r2,q2,λd rd M' H' v B rv=>kk d s2 rd M' H' v (L2.after B) ((E1.trans L1.base E2).trans L2.base (Ext.after B)) rv⟩⟩⟩⟩
end
end DL
namespace DL
open PySem PySem.Spec L2
def yF(W:er)(kd:Kd)(n:Nat)(ks:List (List Key))(vs:List D):Prop:=ks.length=vs.length/\∀ q x,cp ks vs q=some x->∃ m∈kd.bj,∃ a∈kd.bO,∃ t:Tm,q=[.inr m.name,.inr a.name]/\x=toD t/\Ty W (m.fs++a.ps) a.res t/\t.sm n
theorem yF.nil{W:er}{kd:Kd}{n:Nat}:yF W kd n [] []:=⟨U,λq x h=>by cases h⟩
theorem yF.put{W:er}{kd:Kd}{n:Nat}{ks:List (List Key)}{vs:List D}(h:yF W kd n ks vs){m:fZ}(hm:m∈kd.bj){a:fB}(ha:a∈kd.bO){t:Tm}(ht:Ty W (m.fs++a.ps) a.res t)(hd:t.sm n):yF W kd n (dY ks [.inr m.name,.inr a.name]) (dC ks vs [.inr m.name,.inr a.name] (toD t)):=by
 refine⟨(xu h.1).1,λq x hx=>?_⟩
 rw[zP q h.1] at hx
 by_cases e:q=[.inr m.name,.inr a.name]
 ·rw[if_pos e] at hx
  cases hx
  exact⟨m,hm,a,ha,t,e,U,ht,hd⟩
 ·rw[if_neg e] at hx
  exact h.2 q x hx
theorem yF.at{W:er}(w:jG W){kd:Kd}(hk:kd∈W.kinds){n:Nat}{ks:List (List Key)}{vs:List D}(h:yF W kd n ks vs){m:fZ}(hm:m∈kd.bj){a:fB}(ha:a∈kd.bO){x:D}(e:cp ks vs [.inr m.name,.inr a.name]=some x):∃ t:Tm,x=toD t/\Ty W (m.fs++a.ps) a.res t/\t.sm n:=by
 obtain⟨m',hm',a',ha',t,e1,e2,e3,e4⟩:=h.2 _ _ e
 injection e1 with e5 e6
 injection e5 with e5
 injection e6 with e6 _
 injection e6 with e6
 have:=map_one (rR w hk) hm hm' e5
 subst this
 have:=map_one (sJ w hk) ha ha' e6
 subst this
 exact⟨t,e2,e3,e4⟩
structure xa(other:List Str)(n:Nat)(rs:List (Str×Tm)):Prop where
 ok:Ad other n rs
 sm:∀ r∈rs,r.2.sm n
theorem xa.perm{other:List Str}{n:Nat}{rs qs:List (Str×Tm)}(h:xa other n rs)(p:qs.Perm rs):xa other n qs:=⟨h.ok.perm p,λr hr=>h.sm r (p.mem_iff.mp hr)⟩
theorem Ex{α:Type}{nm:α->Str}{l sub:List α}{rs:List (Str×Tm)}{F:α->Tm->Prop}{n:Nat}(hn:(l.map nm).Nodup)(h5:l.length<=5)(hs:sub.Sublist l)(hp:Paired (λm (r:Str×Tm)=>r.1=nm m/\F m r.2) sub rs)(hg:∀ m∈l,∀ t,F m t->t.wf=true/\t.yg=true/\t.sm n):xa (l.map nm) n rs:=by
 refine⟨DU hn h5 hs hp λm hm t ht=>⟨(hg m hm t ht).1,(hg m hm t ht).2.1,(hg m hm t ht).2.2.1⟩,λr hr=>?_⟩
 obtain⟨m,hm,_,h2⟩:=fh hp r hr
 exact (hg m (hs.subset hm) r.2 h2).2.2
def K4(ps:List (Str×Str)):Prop:=∀ q∈ps,PyData.strOk q.1=true/\PyData.strOk q.2=true
structure KN(kd:Kd):Prop where
 nm:Nm kd.name
 ml:kd.bj.length<=5
 al:kd.bO.length<=5
 mn:(kd.bj.map fZ.name).Nodup
 an:(kd.bO.map fB.name).Nodup
 ms:∀ m∈kd.bj,PyData.strOk m.name=true/\K4 m.fs
 as:∀ a∈kd.bO,PyData.strOk a.name=true/\K4 a.ps/\PyData.strOk a.res=true
theorem jG.Pk{W:er}(w:jG W){kd:Kd}(hk:kd∈W.kinds):KN kd:=by
 obtain⟨h1,h2,h3⟩:=w.kw kd hk
 have key:∀ {ns:List Str} {ps:List (Str×Str)},(∀ x∈ns,Nm x)->Cv W ns ps->K4 ps:=λ{ns ps} hn h q hq=>by
  have:q.1∈ps.map (·.1):=Ua hq
  rw[h.2.1] at this
  exact⟨(hn _ (Uq this)).ok,(h.2.2 q hq).ok w⟩
 refine⟨h1,h2,h3,rR w hk,sJ w hk,λm hm=>?_,λa ha=>?_⟩
 ·obtain⟨a,b⟩:=w.mo kd hk m hm
  exact⟨a.ok,key (λx hx=>w.nm x (Ui _ (Uq hx))) b⟩
 ·obtain⟨a,b,c⟩:=w.ao kd hk a ha
  exact⟨a.ok,key (λx hx=>w.nm x (Ui _ (UI hx))) b,c.ok w⟩
structure PF(n:Nat)(p:PK):Prop where
 kd:KN p.kd
 tl:p.tabs.length=if p.asked=true then p.kd.bj.length else p.kd.bO.length
 rw:∀ rs∈p.tabs,xa (if p.asked=true then p.kd.bO.map fB.name else p.kd.bj.map fZ.name) n rs
def v3(p:PK):List Str:=if p.asked=true then p.kd.bj.map fZ.name else p.kd.bO.map fB.name
theorem PF.bl{n:Nat}{p:PK}(h:PF n p):(v3 p).Nodup/\(v3 p).length=p.tabs.length/\(v3 p).length<=5:=by
 obtain⟨⟨_,ml,al,mn,an,_,_⟩,tl,_⟩:=h
 obtain⟨b,kd,ts⟩:=p
 cases b with
 | true=>exact⟨mn,by rw[tl];exact Tr ..,TU (U2 (Tr ..)) ml⟩
 | false=>exact⟨an,by rw[tl];exact Tr ..,TU (U2 (Tr ..)) al⟩
theorem PF.nd{n:Nat}{p:PK}(h:PF n p):((ents p).map (·.1)).Nodup:=by
 obtain⟨h1,h2,h3⟩:=h.bl
 show ((((v3 p).zip p.tabs).flatMap (du p.asked)).map (·.1)).Nodup
 refine qC ?_ λx hx=>(h.rw x.2 (Um (a:=x.1) (b:=x.2) hx).2).ok.nd
 rw[Vg (by omega)]
 exact h1
theorem PF.ln{n:Nat}{p:PK}(h:PF n p):(ents p).length<=25:=by
 obtain⟨h1,h2,h3⟩:=h.bl
 show (((v3 p).zip p.tabs).flatMap (du p.asked)).length<=25
 have:=xF (b:=p.asked) (bs:=(v3 p).zip p.tabs) λx hx=>(h.rw x.2 (Um (a:=x.1) (b:=x.2) hx).2).ok.ln
 rw[U6] at this
 omega
theorem PF.tm{n:Nat}{p:PK}(h:PF n p):∀ e∈ents p,e.2.wf=true/\e.2.yg=true/\e.2.sm n:=λe he=>by
 obtain⟨x,hx,r,hr,rfl⟩:=wN (b:=p.asked) (bs:=yO p) he
 have hm:x∈(v3 p).zip p.tabs:=hx
 have hq:=h.rw x.2 (Um (a:=x.1) (b:=x.2) hm).2
 obtain⟨a,b,c,d⟩:=hq.ok.ok r hr
 exact⟨b,c,hq.sm r hr⟩
def gQ(p:PK)(c f:Str):Option Tm:=((ents p).find? λe=>decide (e.1=(c,f))).map (·.2)
def jf(p:PK)(m:fZ):List (Str×Tm):=p.kd.bO.filterMap λa=>(gQ p m.name a.name).map λt=>(a.name,t)
def jq(p:PK)(a:fB):List (Str×Tm):=p.kd.bj.filterMap λm=>(gQ p m.name a.name).map λt=>(m.name,t)
def gm(b:Bool)(p:PK):PK:=⟨b,p.kd,if b=true then p.kd.bj.map (jf p) else p.kd.bO.map (jq p)⟩
theorem xK{n:Nat}{p:PK}(h:PF n p){c f:Str}{t:Tm}(e:gQ p c f=some t):t.wf=true/\t.yg=true/\t.sm n:=by
 obtain⟨x,hx,rfl⟩:=Up.mp e
 exact h.tm x (List.mem_of_find?_eq_some hx)
theorem tM{α:Type}{nm:α->Str}{g:α->Option Tm}:∀ l:List α,((l.filterMap λa=>(g a).map λt=>(nm a,t)).map (·.1)).Sublist (l.map nm)
 | []=>UQ _
 | a::l=>by
  have ih:=tM (nm:=nm) (g:=g) l
  cases e:g a with
  | none =>
   rw[List.filterMap_cons_none (by rw[e];rfl),TC]
   exact ih.cons _
  | some t =>
   rw[List.filterMap_cons_some (b:=(nm a,t)) (by rw[e];rfl),TC,TC]
   exact ih.cons_cons _
theorem EC{α:Type}{nm:α->Str}{g:α->Option Tm}{l:List α}{n:Nat}(hn:(l.map nm).Nodup)(h5:l.length<=5)(hg:∀ a t,g a=some t->t.wf=true/\t.yg=true/\t.sm n):xa (l.map nm) n (l.filterMap λa=>(g a).map λt=>(nm a,t)):=by
 have hs:=tM (nm:=nm) (g:=g) l
 have mem:∀ r∈(l.filterMap λa=>(g a).map λt=>(nm a,t)),r.1∈l.map nm/\r.2.wf=true/\r.2.yg=true/\r.2.sm n:=λr hr=>by
  obtain⟨a,ha,e⟩:=List.mem_filterMap.mp hr
  obtain⟨t,et,rfl⟩:=Up.mp e
  exact⟨Ua ha,hg a t et⟩
 refine⟨⟨?_,hn.sublist hs,λr hr=>⟨(mem r hr).1,(mem r hr).2.1,(mem r hr).2.2.1,(mem r hr).2.2.2.1⟩⟩,λr hr=>(mem r hr).2.2.2⟩
 have:=List.length_filterMap_le (λa=>(g a).map λt=>(nm a,t)) l
 omega
theorem PF.tell{n:Nat}{p:PK}(h:PF n p)(b:Bool):PF n (gm b p):=by
 cases b with
 | true =>
  refine⟨h.kd,Tr _,λrs hrs=>?_⟩
  obtain⟨m,hm,rfl⟩:=TR.mp (show rs∈p.kd.bj.map (jf p) from hrs)
  exact EC h.kd.an h.kd.al λa t e=>xK h e
 | false =>
  refine⟨h.kd,Tr _,λrs hrs=>?_⟩
  obtain⟨m,hm,rfl⟩:=TR.mp (show rs∈p.kd.bO.map (jq p) from hrs)
  exact EC h.kd.mn h.kd.ml λa t e=>xK h e
theorem zip_map_self{α β:Type}{g:α->β}:∀ l:List α,l.zip (l.map g)=l.map λa=>(a,g a)
 | []=>rfl
 | a::l=>by rw[TC,List.zip_cons_cons,zip_map_self l];rfl
theorem zr{p:PK}:c9 (gm true p)=p.kd.bj.map λm=>cx (m,jf p m):=by
 show (p.kd.bj.zip (p.kd.bj.map (jf p))).map cx=_
 rw[zip_map_self,T9]
 rfl
theorem zC{p:PK}:c9 (gm false p)=p.kd.bO.map λa=>b5 (a,jq p a):=by
 show (p.kd.bO.zip (p.kd.bO.map (jq p))).map b5=_
 rw[zip_map_self,T9]
 rfl
theorem qd:∀ (es pre:List ((Str×Str)×Tm)),((pre++es).map (·.1)).Nodup->(es.map λe=>(keyOf e,iF e)).foldl putD (pre.map keyOf,pre.map iF)=((pre++es).map keyOf,(pre++es).map iF)
 | [],pre,_=>by rw[TM];rfl
 | e::es,pre,h=>by
  have hn:e.1∉pre.map (·.1):=λhm=>by
   rw[Tx,Uk] at h
   exact h.2.2 _ hm _ Tu U
  obtain⟨p1,p2⟩:=sx hn
  rw[TC,List.foldl_cons]
  have e1:putD (pre.map keyOf,pre.map iF) (keyOf e,iF e)=((pre++[e]).map keyOf,(pre++[e]).map iF):=by
   show (dY _ _,dC _ _ _ _)=_
   rw[p1,p2]
  rw[e1,qd es (pre++[e]) (by rw[Uj];exact h),Uj]
  rfl
theorem DM{rs:List (Str×Tm)}(h:∀ r∈rs,PyData.strOk r.1=true/\dz (toD r.2)=true):dz (kg rs)=true:=by
 refine cg λr hr=>?_
 show (PyData.strOk r.1&&(dz (toD r.2)&&true))=true
 rw[(h r hr).1,(h r hr).2]
 rfl
theorem rS{ps:List (Str×Str)}(h:K4 ps):dz (eF ps)=true:=by
 refine cg λp hp=>?_
 show (PyData.strOk p.1&&(PyData.strOk p.2&&true))=true
 rw[(h p hp).1,(h p hp).2]
 rfl
end DL
namespace DL
open PySem L2 PyProof.Rows
def L8(H:Hp)(dd:Option Addr)(fs:List (Str×V)):Prop:=(fs=[]/\dd=none)\/∃ d,dd=some d/\H d=some (xf d fs)
def He(C:Addr):Sp:=λvs H Q _=>∃ ea,vs=[.ref ea]/\H ea=some (xo ea C none true)/\Q .bD H
def Hf(C:Addr):Sp:=λvs H Q _=>∃ ea y,vs=[.ref ea,y]/\H ea=some (xo ea C none true)/\∀ d,H d=none->d≠ea->Q .bD (upd (upd H ea (xo ea C (some d) true)) d (xf d [("row",y)]))
abbrev XD:=Addr->List (Str×V)->Prop
def XT(E:XK)(c:Ent)(RX:XD):Prop:=∀ C fs,RX C fs->∀ M' H' dd,Base c M' H'->L8 H' dd fs->E (.ref C) dd H'
def DH(K:Frag)(t:List D->(D->Prop)->XD->Prop):Sp:=λvs H Q E=>∃ M ds R RX,Base ⟨.no,M,H⟩ M H/\ay K H M ds vs/\t ds R RX/\(∀ d,R d->∀ M' H' v,Base ⟨.no,M,H⟩ M' H'->Rep K H' M' d v->Q v H')/\XT E ⟨.no,M,H⟩ RX
theorem Base.same{M0 M:Addr->Prop}{H0 H H':Hp}(B:Base ⟨.no,M0,H0⟩ M H)(S:eQ H H'):Base ⟨.no,M0,H0⟩ M H' :=
 ⟨trivial,λb o e n=>S b o (B.fr b o e n),λb m=>let ⟨o,e⟩:=B.md b m;⟨o,S b o e⟩,B.mo,B.m0,B.mn⟩
theorem GB{H:Hp}{ea d:Addr}{o1 o2 o3 o4:HO}(h1:H ea=none)(h2:upd H ea o1 d=none):eQ H (upd (upd (upd (upd H ea o1) ea o2) d o3) ea o4):=λb u e=>by
 have n1:=aC e h1
 have n2:b≠d:=λq=>by
  rw[<- q,aj n1] at h2
  rw[e] at h2;cases h2
 rw[aj n1,aj n2,aj n1,aj n1]
 exact e
theorem GD{H:Hp}{ea:Addr}{o1 o4:HO}(h1:H ea=none):eQ H (upd (upd H ea o1) ea o4):=λb u e=>by
 have n1:=aC e h1
 rw[aj n1,aj n1]
 exact e
section
variable{P:Program}{w:World}{K:Frag}{mg:Str->Option Value}{base:Heap}
theorem fnX{x qual:Str}{st:Stmt}{f:Addr}{fd:FuncData}{N ps:List Str}{k nos:Nat}{t:List D->(D->Prop)->XD->Prop}(F:sR K x qual st f fd)(S:az N ps (ai st))(len:∀ ds R RX,t ds R RX->ds.length=ps.length)(hb:∀ (bN:Value) (A:Around) (outer:List Env) (s:Shared) (H:Hp) (E:XK) (M:Addr->Prop) (RX:XD),cb k (A.deeper (envOfC qual (ai st) s.heap.objs.size f bN))->XT E ⟨.no,M,H⟩ RX ->
   ∃ tb,vJ (Ku P w K mg base N qual (ai st) f bN A outer s H E) ⟨.no,M,H⟩ (bc st) tb/\∀ ds R,t ds R RX->tb { nx:=λ_=>R .bD,rt:=R } (fC N.length nos ds)):cw P w K mg base (tH P w) (k+1) f fd ps (DH K t):=by
 refine F.QG S (λvs H Q E h=>?_) λbN A outer s H vs Q E hr h=>?_
 ·obtain⟨M,ds,R,RX,B,r,q,_⟩:=h
  rw[r.length]
  exact len ds R RX q
 ·obtain⟨M,ds,R,RX,B,r,q,kk,hX⟩:=h
  obtain⟨tb,h1,h2⟩:=hb bN A outer s H E M RX hr hX
  exact⟨_,h1.ps,M,_,_,_,ka B r U,h2 ds R q,⟨λs as M' O H' r L _=>kk .bD r M' H' .bD L.base U,λ_ _ _ _ _ z=>z.elim,λ_ _ _ _ _ z=>z.elim,λd M' H' v r B' rv=>kk d r M' H' v B' rv,λ_ _ _ _ _ z=>z.elim,λ_ _ _ _ _ _ _ z=>z.elim⟩⟩
end
section
variable{X:Cx}{M0:Addr->Prop}{H0:Hp}{E:XK}{RX:XD}{C f:Addr}{fd:FuncData}{x:Str}{p p2 pos:Pos}{e:Expr}{es:List Expr}{te:br}{ta:fU}{k:Nat}{ps:List Str}
theorem Af(hc:X.calm=true)(hR:Raises X E)(hX:XT E ⟨.no,M0,H0⟩ RX)(M:Dy X.K C f)(G:cw X.prog X.w X.K X.mg X.base bb 1 f fd ["self"] (He C))(hr:cb 2 X.A)(hg:Gl X x)(hm:X.mg x=some (.ref C))(b:Binds X.K fd ["self"] [])(fP:VM x:=by decide):pb X ⟨.no,M0,H0⟩ (.Raise (some (.Call (.Name x p) [] [] p2)) none pos) (λ_ _=>RX C []) :=
 ⟨(tD hc hR (yh M G hr hg hm b fP)).imp λE O H z6q=>by obtain⟨M',s,as,R,L,q,_⟩:=z6q;exact⟨by show 0<=1000;decide,λea sT=>⟨ea,U,au,U,ea,_,_,U,au,M.toExC,hX C [] q M' _ none (L.base.same (GD sT)) (.inl ⟨U,U⟩)⟩⟩⟩
theorem zw(hc:X.calm=true)(hR:Raises X E)(hX:XT E ⟨.no,M0,H0⟩ RX)(M:Dy X.K C f)(G:cw X.prog X.w X.K X.mg X.base bb 1 f fd ["self","row"] (Hf C))(hr:cb 2 X.A)(hg:Gl X x)(hm:X.mg x=some (.ref C))(b:Binds X.K fd ["self","row"] [])(ha:DA X ⟨.no,M0,H0⟩ [e] ta)(fP:VM x:=by decide)(he:starEach [e] X.env=(false,eval e X.env)::starEach [] X.env:=by rfl)(dA:(backTo p2 (starEach [] X.env)).any (·.1)=false:=by rfl) :
  pb X ⟨.no,M0,H0⟩ (.Raise (some (.Call (.Name x p) [e] [] p2)) none pos) (λ_ s=>ta s λds _=>∃ i,ds=[.int i]/\RX C [("row",.int i)]) :=
 ⟨(tD hc hR (AK M G hr hg hm b ha.pa fP he dA)).imp λE O H z7q=>by obtain⟨M',s,as,R,L,q,_⟩:=z7q;exact⟨M',s,as,_,L,q,λds s1 z8q M1 H1 vs L1 E1 r1 _=>by
   obtain⟨i,ed,q1⟩:=z8q
   subst ed
   obtain⟨v,rfl,ev⟩:=dJ r1
   have ev:v=.int i:=ev
   subst ev
   exact⟨by show 1<=1000;decide,λea sT=>⟨ea,_,U,au,λd hd va=>⟨U,ea,_,_,U,(by rw[aj (Ne.symm va)];exact au),M.toExC,hX C _ q1 M1 _ (some d) (L1.base.same (GB sT hd)) (.inr ⟨d,U,by rw[aj va];exact au⟩)⟩⟩⟩⟩⟩
theorem wZ{t:List D->(D->Prop)->XD->Prop}(hp:∀ E':XK,(∀ c dd H',E' c dd H'->E c dd H')->Passes (tH X.prog X.w) X E')(hX:XT E ⟨.no,M0,H0⟩ RX)(hr:cb k X.A)(hg:Gl X x)(hm:X.mg x=some (.ref f))(hk:keepIn X.K (.ref f)=true)(hb:Binds X.K fd ps [])(ha:DA X ⟨.no,M0,H0⟩ (e::es) ta)(F:cw X.prog X.w X.K X.mg X.base (tH X.prog X.w) k f fd ps (DH X.K t))(fP:VM x:=by decide)(he:VJ X.env e es:=by rfl)(dA:(backTo p2 (starEach es X.env)).any (·.1)=false:=by rfl)(hs:swapsWith (.Call (.Name x p) (e::es) [] p2) none pos.line X.env=pure false:=by rfl) :
  pb X ⟨.no,M0,H0⟩ (.Expr (.Call (.Name x p) (e::es) [] p2) pos) (λD s=>ta s λds s1=>t ds (λ_=>D.nx s1) RX) :=
 ⟨(nh (gD F hr hg hm hk hb .nil (E:=λcv dd H'=>∃ C fs M',cv=.ref C/\RX C fs/\Base ⟨.no,M0,H0⟩ M' H'/\L8 H' dd fs) (hp _ λcv dd H' z9q=>by obtain⟨C,fs,M',e,h1,h2,h3⟩:=z9q;subst e;exact hX C fs h1 M' H' dd h2 h3) ha.pa fP he dA) hs).imp λE2 O H zz=>ei zz λM s as R L q kk =>
   ⟨M,s,as,_,L,q,λds s1 q1 M1 H1 vs L1 E1 r1 hl=>⟨M1,ds,_,RX,L1.base.nI,by rw[TM];exact r1,q1,λd rd M' H' v B rv=>by
    have L2:=L1.after (L1.base.gZ B)
    exact kk.nx s1 as M' O H' rd L2 ((E1.trans L1.base (Ext.after (L1.base.gZ B))).grow L),λC fs hx M' H' dd B fa=>⟨C,fs,M',U,hx,(L1.after (L1.base.gZ B)).base,fa⟩⟩⟩⟩
end
end DL
namespace DL
open PySem PySem.Spec L2
theorem Gf{kd:Kd}(h:KN kd){m:fZ}(hm:m∈kd.bj):dz (bW m)=true:=by
 show (PyData.strOk m.name&&(dz (eF m.fs)&&true))=true
 rw[(h.ms m hm).1,rS (h.ms m hm).2]
 rfl
theorem FG{kd:Kd}(h:KN kd){a:fB}(ha:a∈kd.bO):dz (bP a)=true:=by
 obtain⟨h1,h2,h3⟩:=h.as a ha
 show (PyData.strOk a.name&&(dz (eF a.ps)&&(PyData.strOk a.res&&true)))=true
 rw[h1,rS h2,h3]
 rfl
theorem xa.dz{other:List Str}{n:Nat}{rs:List (Str×Tm)}(h:xa other n rs)(ho:∀ x∈other,PyData.strOk x=true):DL.dz (kg rs)=true:=DM λr hr=>by
 obtain⟨a,b,c,_⟩:=h.ok.ok r hr
 exact⟨ho _ a,zQ r.2 b c⟩
theorem xa.dep{other:List Str}{n:Nat}{rs:List (Str×Tm)}(h:xa other n rs)(hn:n<=26):cj (kg rs)<=120:=by
 unfold kg
 rw[aQ]
 have:=fg (f:=dH) (n:=115) (l:=rs) λr hr=>by
  obtain⟨_,b,_,e⟩:=h.ok.ok r hr
  have:=B6 r.2 b
  unfold dH
  rw[aQ,ak,ak,aX,aO]
  omega
 omega
theorem PF.SN{n:Nat}{p:PK}(h:PF n p):dz (cm p)=true:=by
 obtain⟨hk,tl,hr⟩:=h
 obtain⟨b,kd,ts⟩:=p
 have hm:∀ x∈kd.bj.map fZ.name,PyData.strOk x=true:=λx hx=>by
  obtain⟨m,hm,rfl⟩:=TR.mp hx
  exact (hk.ms m hm).1
 have ha:∀ x∈kd.bO.map fB.name,PyData.strOk x=true:=λx hx=>by
  obtain⟨m,hm,rfl⟩:=TR.mp hx
  exact (hk.as m hm).1
 have hn:PyData.strOk kd.name=true:=hk.nm.ok
 cases b with
 | true =>
  have e1:dz (.tup (kd.bO.map bP))=true:=cg λa ha=>FG hk ha
  have e2:dz (.tup ((kd.bj.zip ts).map cx))=true:=cg λx hx=>by
   obtain⟨x1,x2⟩:=Um (a:=x.1) (b:=x.2) hx
   show (PyData.strOk x.1.name&&(dz (eF x.1.fs)&&(dz (kg x.2)&&true)))=true
   rw[(hk.ms _ x1).1,rS (hk.ms _ x1).2,(hr _ x2).dz ha]
   rfl
  show (PyData.strOk (bu true)&&(PyData.strOk kd.name&&(dz (.tup (kd.bO.map bP))&&(dz (.tup ((kd.bj.zip ts).map cx))&&true))))=true
  rw[hn,e1,e2]
  decide+kernel
 | false =>
  have e1:dz (.tup (kd.bj.map bW))=true:=cg λa ha=>Gf hk ha
  have e2:dz (.tup ((kd.bO.zip ts).map b5))=true:=cg λx hx=>by
   obtain⟨x1,x2⟩:=Um (a:=x.1) (b:=x.2) hx
   obtain⟨h1,h2,h3⟩:=hk.as _ x1
   show (PyData.strOk x.1.name&&(dz (eF x.1.ps)&&(PyData.strOk x.1.res&&(dz (kg x.2)&&true))))=true
   rw[h1,rS h2,h3,(hr _ x2).dz hm]
   rfl
  show (PyData.strOk (bu false)&&(PyData.strOk kd.name&&(dz (.tup (kd.bj.map bW))&&(dz (.tup ((kd.bO.zip ts).map b5))&&true))))=true
  rw[hn,e1,e2]
  decide+kernel
theorem PF.dep{n:Nat}{p:PK}(h:PF n p)(hn:n<=26):cj (cm p)<=150:=by
 obtain⟨hk,tl,hr⟩:=h
 obtain⟨b,kd,ts⟩:=p
 cases b with
 | true =>
  have e1:=DB (ms:=kd.bO)
  have e2:cj (.tup ((kd.bj.zip ts).map cx))<=140:=by
   rw[aQ]
   have:=fg (f:=cx) (n:=130) (l:=kd.bj.zip ts) λx hx=>by
    obtain⟨x1,x2⟩:=Um (a:=x.1) (b:=x.2) hx
    have h1:=m8 (ps:=x.1.fs)
    have h2:=(hr _ x2).dep hn
    unfold cx
    rw[aQ,ak,ak,ak,aX,aO]
    omega
   omega
  show cj (.tup [.str (bu true),.str kd.name,.tup (kd.bO.map bP),.tup ((kd.bj.zip ts).map cx)])<=150
  rw[aQ,ak,ak,ak,ak,aX,aO,aO]
  omega
 | false =>
  have e1:=Cn (ms:=kd.bj)
  have e2:cj (.tup ((kd.bO.zip ts).map b5))<=140:=by
   rw[aQ]
   have:=fg (f:=b5) (n:=130) (l:=kd.bO.zip ts) λx hx=>by
    obtain⟨x1,x2⟩:=Um (a:=x.1) (b:=x.2) hx
    have h1:=m8 (ps:=x.1.ps)
    have h2:=(hr _ x2).dep hn
    unfold b5
    rw[aQ,ak,ak,ak,ak,aX,aO,aO]
    omega
   omega
  show cj (.tup [.str (bu false),.str kd.name,.tup (kd.bj.map bW),.tup ((kd.bO.zip ts).map b5)])<=150
  rw[aQ,ak,ak,ak,ak,aX,aO,aO]
  omega
theorem DV{n:Nat}{ps:List PK}(h:∀ p∈ps,PF n p)(hn:n<=26):dz (.tup (ps.map cm))=true/\cj (.tup (ps.map cm))<=200:=by
 refine⟨cg λp hp=>(h p hp).SN,?_⟩
 rw[aQ]
 have:=fg (f:=cm) (n:=150) (l:=ps) λp hp=>(h p hp).dep hn
 omega
end DL
namespace L2
open PySem PyProof.Rows
section
variable{X:Cx}
def Gp(te:TE)(tx:IC):IC:=λO H Q R=>te O H λx H1=>tx O H1 (λy H2=>∀ p,H2 p=none->Q (.ref p) (upd H2 p (.tup [x,y]))) R
theorem Al{a b:Expr}{x1}{pos:Pos}{te:TE}{tx:IC}(ha:PE X.sV a te)(hb:Md X b tx)(h1:starEach [a,b] X.env=(false,eval a X.env)::starEach [b] X.env:=by rfl)(h2:starEach [b] X.env=(false,eval b X.env)::starEach [] X.env:=by rfl) :
  Md X (.Tuple [a,b] x1 pos) (Gp te tx):=by
 intro pins s O H Q R I h
 refine wpAny_Tuple_spliced ?_
 rw[h1,h2]
 show wpAny _ _ (spliced ((false,eval a X.env)::(false,eval b X.env)::backTo pos (starEach [] X.env))) _ _ s
 refine Calls.spliced_cons (wpAny_mono (ha pins s O H _ (I.mQ _) h) (λu s1 ⟨x,H1,I1,r1,q1⟩=>?_) λ_ _ z=>False.elim z)
 refine Calls.spliced_cons (b8 (hb pins s1 O H1 _ R I1.gO q1) λv s2 z1q=>?_)
 obtain⟨y,H2,I2,r2,q2⟩:=z1q
 refine Calls.spliced_nil ⟨by show 2<=sizeLine;decide,?_⟩
 have hf:H2 s2.heap.objs.size=none:=I2.aL.fresh (TB _)
 refine⟨.ref s2.heap.objs.size,upd H2 s2.heap.objs.size (.tup [x,y]),I2.laid (t':=s2.toks) (λb u e=>Ts _ e) (TB _) ?_,U,q2 _ hf⟩
 exact⟨by show 2<=sizeLine;decide,[u,v],.cons r1 (.cons r2 .nil),⟨_,TK _ U,U,_,U⟩⟩
end
end L2
namespace DL
open PySem L2 PyProof.Rows
section
variable{X:Cx}{M0:Addr->Prop}{H0:Hp}{f:Addr}{fd:FuncData}{x xn:Str}{p p2 p3 p5 p6 pos:Pos}{a e:Expr}{es:List Expr}{t0:br}{ta:fU}{k i:Nat}{ps:List Str}{th:Ed}
def Pt(K:Frag)(c:Ent)(th:Ed)(D:mN)(s:DS):XD:=λC fs=>∀ (E:Ends) (M M1:Addr->Prop) (as:List Addr) (O:L2.St) (H H1:Hp) (ea:Addr) (dd:Option Addr),t5 K c M1 H1 D E->dW M1 H1 M H->aE K c M s as O H->L8 H dd fs->H ea=some (xo ea C dd false)->th C dd ea E O H
theorem Ho{x1}{h₀:ExceptHandler}{hs:List ExceptHandler}{t:List D->(D->Prop)->XD->Prop}(h1:X.stack=X.env::X.outer)(h2:X.env.frame=some X.env.locals)(hN:X.N.Nodup)(hi:X.N[i]?=some xn)(hx:Loc X.env.scope xn)(h0:DE X.sV ⟨.no,M0,H0⟩ a t0)(hr:cb k X.A)(hg:Gl X x)(hm:X.mg x=some (.ref f))(hk:keepIn X.K (.ref f)=true)(hb:Binds X.K fd ps [])(ha:DA X.sV ⟨.no,M0,H0⟩ (e::es) ta)(F:cw X.prog X.w X.K X.mg X.base (tH X.prog X.w) k f fd ps (DH X.K t))(hh:PH X (h₀::hs) th)(fP:VM x:=by decide)(he:VJ X.env e es:=by rfl)(dA:(backTo p2 (starEach es X.env)).any (·.1)=false:=by rfl)(g1:starEach [a,.Call (.Name x p) (e::es) [] p2] X.env=(false,eval a X.env)::starEach [.Call (.Name x p) (e::es) [] p2] X.env:=by rfl)(g2:starEach [.Call (.Name x p) (e::es) [] p2] X.env=(false,eval (.Call (.Name x p) (e::es) [] p2) X.env)::starEach [] X.env:=by rfl)(FO:swapsWith (.Tuple [a,.Call (.Name x p) (e::es) [] p2] x1 p5) (some (.Name xn p3)) p6.line X.env=pure false:=by rfl)(hf:X.fn xn=true\/X.env.scope.names.lookup xn=some .local:=by first | exact .inl U | exact .inr U | assumption) :
  pb X ⟨.no,M0,H0⟩ (.Try [.Assign [.Name xn p3] (.Tuple [a,.Call (.Name x p) (e::es) [] p2] x1 p5) p6] (h₀::hs) [] [] pos)
   (λD s=>t0 s λd0 s0=>ta s0 λds s1=>t ds (λd=>D.nx (s1.set i (.dat (.tup [d0,d])))) (Pt X.K ⟨.no,M0,H0⟩ th D s1)) :=
 ⟨(Hz h1 h2 (D4 hN hi hx (Al h0.pe (zG F hr hg hm hk hb ha.pa fP he dA) g1 g2) FO hf) hh).imp λE O H zz=>ei zz λM s as R L q kk =>
   ⟨M,s,as,_,L,q,λd0 s0 q0 M1 H1 x L1 E1 r1=>⟨M1,s0,as,_,L1,q0,λds s1 q1 M2 H2 vs L2 E2 r2 hl=>⟨M2,ds,_,_,L2.base.nI,r2,q1,λd rd M' H' y B ry p hp=>by
    have L3:=L2.after (L2.base.gZ B)
    have E3:=E2.trans L2.base (Ext.after (L2.base.gZ B))
    have r3:=E3.rep L1 r1
    refine kk.nx _ as _ _ _ rd ((L3.fresh hp).Dx i ⟨p,[x,y],U,⟨.inr U,au⟩,⟨x,[y],U,j9 hp r3,y,[],U,j9 hp ry,U⟩⟩) ?_
    exact (((E1.trans L1.base E3).trans L3.base (Ext.fresh hp)).grow L),λC fs hx M' H' dd B fa=>⟨C,U,λea sT=>by
     have L3:=L2.after (L2.base.gZ B)
     have E3:=E2.trans L2.base (Ext.after (L2.base.gZ B))
     exact hx E M' M as O H' H ea dd kk ((E1.trans L1.base E3).grow L) L3 fa sT⟩⟩⟩⟩⟩
end
end DL
namespace L2
open PySem PyProof.Rows
section
variable{X:Cx}
theorem nO:∀ {as:List Addr} {us:List Value},Vals (as.map V.ref) us->us=as.map Value.ref
 | [],_,.nil=>rfl
 | a::as,u::us,.cons h r=>by
  obtain rfl:u=Value.ref a:=h
  rw[nO r]
  rfl
def E4(K:Frag)(as:List Addr):List V->Hp->VK->Prop:=λxs H Q=>∃ ea C dd fr b p,xs=[.ref ea,.ref p]/\hV K H p (as.map V.ref)/\H ea=some (xo ea C dd fr)/\eM H dd/\Ir K C/\kitAny K (.ref C) (as.map Value.ref)=some b/\Q (.bl b) H
theorem pU{K:Frag}{as:List Addr}(hK:X.K=K):fq X (.builtin "isinstance") (E4 K as):=by
 subst hK
 intro pins s O H xs us Q I r h
 obtain⟨ea,C,dd,fr,b,p,rfl,ht,e,D,t,k,q⟩:=h
 cases r with
 | @cons _ u _ us' ru rr =>
  cases rr with
  | @cons _ u2 _ us2 ru2 rr2 =>
   cases rr2
   obtain rfl:u=Value.ref ea:=ru
   obtain rfl:u2=Value.ref p:=ru2
   obtain⟨its,rv,⟨o,ho,hc,n,hs⟩,_⟩:=I.tuple ht
   obtain⟨oc,od',odt,zl⟩:=o
   cases hc
   cases hs
   rw[nO rv] at ho
   obtain⟨ox,od,J⟩:=xX I e (D.at I)
   exact PySem.W.kia_tup (uo t.toExC t.cc) I.i7 J ho k (λz=>nomatch z) λtk=>⟨.bl b,H,I.tok _,U,q⟩
end
end L2
namespace DL
open PySem L2 PyProof.Rows
def Dl(X:Cx)(kG:List Stmt):TS:=λE O H=>∃ t,(∀ ev,nz (X.hand ev) kG t)/\t E O H
theorem Ds{X:Cx}{kG:List Stmt}:∀ ev,nz (X.hand ev) kG (Dl X kG):=λev pins s O H D I ⟨t,h,q⟩=>h ev pins s O H D I q
section
variable{K:Frag}{M0 M M':Addr->Prop}{H0 H H':Hp}{s s':DS}{as pC:List Addr}{O O':L2.St}
theorem aE.down(L:aE K ⟨.no,M0,H0⟩ M s as O H)(vR:∀ (k:Nat) (d:D),s.os[k]?≠some (some d)):aE K ⟨.no,M,H⟩ M s as O H :=
 ⟨L.base.nI,L.len,L.fI,L.dat,L.own,λk d a e _=>absurd e (vR k d),λk l d e a h1=>absurd h1 (vR _ _),L.lt⟩
theorem aE.up(L:aE K ⟨.no,M0,H0⟩ M s as O H)(L':aE K ⟨.no,M,H⟩ M' s' pC O' H'):aE K ⟨.no,M0,H0⟩ M' s' pC O' H' :=
 ⟨(L.after L'.base).base,L'.len,L'.fI,L'.dat,L'.own,λk d a e1 e2=>by
   obtain⟨h1,h2,h3,h4⟩:=L'.obj k d a e1 e2
   exact⟨h1,h2,h3,L.base.uD h4⟩,L'.inj,L'.lt⟩
theorem aE.Jx{c:Ent}{x:Option V}(L:aE K c M s as O H)(i:Nat):aE K c M (s.set i .no) as (O.set i x) H:=by
 have ne:∀ {j:Nat} {y:Sl},(s.set i .no).sl[j]?=some y->y≠.no->s.sl[j]?=some y/\j≠i:=λ{j y} e n=>by
  have e:(s.sl.set i .no)[j]?=some y:=e
  by_cases h:i=j
  ·subst h
   rw[List.getElem?_set] at e
   simp at e
   exact absurd e.2.symm n
  ·rw[TZ h] at e
   exact⟨e,Ne.symm h⟩
 refine⟨L.base,?_,L.fI,λj d e=>?_,λj k e=>?_,L.obj,L.inj,L.lt⟩
 ·show (s.sl.set i .no).length=(O.set i x).length
  rw[Uu,Uu]
  exact L.len
 ·obtain⟨e,n⟩:=ne e (by simp)
  obtain⟨v,h1,h2⟩:=L.dat j d e
  exact⟨v,by rw[TZ (Ne.symm n)];exact h1,h2⟩
 ·obtain⟨e,n⟩:=ne e (by simp)
  obtain⟨a,h1,h2⟩:=L.own j k e
  exact⟨a,h1,by rw[TZ (Ne.symm n)];exact h2⟩
end
section
variable{X:Cx}{M0:Addr->Prop}{H0:Hp}{i:Nat}{ea C d:Addr}{dd:Option Addr}{fr b:Bool}{e:Expr}{fs:List (Str×V)}{f:Str}{r:Int}
def Mu(i:Nat)(ea:Addr)(d:D):br:=λs Q=>s.sl[i]?=some (.dat (.eW ea))/\Q d s
theorem uZ{c:Value}{cv:V}(hc:RelV cv c)(hH:H0 ea=some (xo ea C dd fr))(hD:eM H0 dd)(hT:Ir X.K C)(hk:kitOne X.K (.ref C) c=some b)(h:PE X e (Dv (JD X.K c) (jU (bB i) (jU (tC cv) uJ)))):DE X ⟨.no,M0,H0⟩ e (Mu i ea (.bl b)) :=
 ⟨h.imp λO H Q z7q=>by
  obtain⟨M,s,as,R,L,⟨hi,q⟩,kk⟩:=z7q
  obtain⟨v,h1,h2⟩:=L.dat i _ hi
  have h2:v=.ref ea:=h2
  subst h2
  exact⟨_,h1,ea,C,dd,fr,b,cv,U,hc,L.base.fr ea _ hH λz=>z,λd e=>let ⟨fs,z⟩:=hD d e;⟨fs,L.base.fr d _ z λz=>z⟩,hT,hk,kk _ s q M H _ L .refl U⟩⟩
def IB:List Addr->TA
 | []=>uJ
 | a::as=>jU (tC (.ref a)) (IB as)
theorem Br:∀ {cs:List Addr} {O:L2.St} {H:Hp} {Q:List V->Hp->Prop},Q (cs.map V.ref) H->IB cs O H Q
 | [],_,_,_,h=>h
 | a::cs,O,H,Q,h=>Br (cs:=cs) (Q:=λxs H2=>Q (.ref a::xs) H2) h
theorem BV{cs:List Addr}(hl:cs.length<=1000)(hH:H0 ea=some (xo ea C dd fr))(hD:eM H0 dd)(hT:Ir X.K C)(hk:kitAny X.K (.ref C) (cs.map Value.ref)=some b)(h:PE X e (Dv (E4 X.K cs) (jU (bB i) (jU (LW (IB cs)) uJ)))):DE X ⟨.no,M0,H0⟩ e (Mu i ea (.bl b)) :=
 ⟨h.imp λO H Q z8r=>by
  obtain⟨M,s,as,R,L,⟨hi,q⟩,kk⟩:=z8r
  obtain⟨v,h1,h2⟩:=L.dat i _ hi
  have h2:v=.ref ea:=h2
  subst h2
  refine⟨_,h1,Br ⟨by rw[Tr];exact U9 (lz hl),λp hp=>?_⟩⟩
  have up:∀ b o,H b=some o->upd H p (.tup (cs.map V.ref)) b=some o:=λb o e=>by rw[aj (aC e hp)];exact e
  exact⟨ea,C,dd,fr,b,p,U,.inl (.inl au),up _ _ (L.base.fr ea _ hH λz=>z),λd e=>let ⟨fs,z⟩:=hD d e;⟨fs,up _ _ (L.base.fr d _ z λz=>z)⟩,hT,hk,kk _ s q _ _ _ (L.fresh hp) (Ext.fresh hp) U⟩⟩
theorem F1(hH:H0 ea=some (xo ea C (some d) fr))(hd:H0 d=some (xf d fs))(hC:ExC X.K C)(hN:D8 X.K C f)(hl:fs.lookup f=some (.int r))(h:PE X e (Ai X.K (bB i) f)):DE X ⟨.no,M0,H0⟩ e (Mu i ea (.int r)) :=
 ⟨h.imp λO H Q z8q=>by
  obtain⟨M,s,as,R,L,⟨hi,q⟩,kk⟩:=z8q
  obtain⟨v,h1,h2⟩:=L.dat i _ hi
  have h2:v=.ref ea:=h2
  subst h2
  exact⟨_,h1,ea,C,d,fr,fs,_,U,L.base.fr ea _ hH λz=>z,L.base.fr d _ hd λz=>z,hC,hN,hl,kk _ s q M H _ L .refl U⟩⟩
theorem zq{H:Hp}(h:L8 H dd fs):eM H dd:=λd e=>by
 rcases h with ⟨_,h⟩ | ⟨d',h,z⟩
 ·rw[h] at e;cases e
 ·rw[h] at e;cases e;exact⟨_,z⟩
end
end DL
namespace L2
open PySem PyProof.Rows
section
variable{X:Cx}
def xT:V->List V->Hp->VK->Prop:=λx vs H Q=>∃ l xs i k y,x=.ref l/\vs=[.int i,y]/\H l=some (.lst xs)/\i=(k:Nat)/\k<=xs.length/\xs.length < sizeLine/\Q .bD (upd H l (.lst (xs.take k++y::xs.drop k)))
theorem yK:Iy X "list.insert" xT:=by
 intro pins s O H x vs v us Q I rx rv h
 obtain⟨l,xs,i,k,y,rfl,rfl,hH,hi,hk,hz,q⟩:=h
 cases rx
 cases rv with
 | @cons _ u1 _ _ ru1 rr =>
 cases rr with
 | @cons _ u2 _ _ ru2 rr2 =>
 cases rr2
 obtain⟨t,rfl⟩:=ru1
 obtain⟨z,its,n,r,hl,e⟩:=I.uL hH
 have hsl:sizeLine=16777216:=by decide
 have hfit:Builtin.List.listFitsIndex i=true:=fitsIndex_both (by omega) (by omega)
 refine call_meets PySem.F.slot_list_insert ⟨_,e,U⟩ PySem.F.entry_list_insert (PySem.F.args_list_insert_3 _ _ _) (PySem.AutoSeq1.list_insert_list_int_val_1 l its.toArray n i t u2 (by rw[hfit];exact TF) (by rw[TV];omega)) ⟨e,?_⟩
 refine⟨.bD,_,I.AJ (its':=its.take k++u2::its.drop k) hH e ?_ ?_ ?_,U,q⟩
 ·have hK:(if i < 0 then (i+((its.toArray.size:Nat):Int)).toNat else min i.toNat its.toArray.size)=k:=by
   rw[if_neg (by omega),TV]
   omega
  show (its.toArray.extract 0 (if i < 0 then (i+((its.toArray.size:Nat):Int)).toNat else min i.toNat its.toArray.size)).push u2++its.toArray.extract (if i < 0 then (i+((its.toArray.size:Nat):Int)).toNat else min i.toNat its.toArray.size)=_
  rw[hK]
  simp
  rw[List.take_of_length_le (by rw[UB];exact TB _)]
 ·exact (r.take k).append (.cons ru2 (r.drop k))
 ·rw[Tt,TH,UG,UB]
  omega
end
end L2
namespace DL
open PySem L2 PyProof.Rows
section
variable{X:Cx}
def MT:D->List D->(D->D->Prop)->Prop:=λd ds k=>∃ xs i j x,d=.lst xs/\ds=[.int i,x]/\i=(j:Nat)/\j<=xs.length/\xs.length < sizeLine/\k .bD (.lst (xs.take j++x::xs.drop j))
theorem LK:Di X xT MT:=λM H a o d ds vs k Q ha ro rv nm z3q kk=>by
 obtain⟨xs,i,j,x,e1,e2,hi,hj,hl,hk⟩:=z3q
 subst e1;subst e2
 cases o with
 | lst ys =>
  have ro:ay X.K H M xs ys:=ro
  obtain⟨v1,r1,rfl,rv1,rr⟩:=rv
  obtain⟨v2,rfl,rx⟩:=dJ rr
  have rv1:v1=.int i:=rv1
  subst rv1
  exact⟨a,ys,i,j,v2,U,U,ha,hi,by rw[ro.length];exact hj,by rw[ro.length];exact hl,kk _ _ hk _ _ (show cH X.K H M (.lst _) (.lst _) from (ro.take j).append ⟨v2,_,U,rx,ro.drop j⟩) U⟩
 | _=>exact ro.elim
end
end DL
namespace DL
open PySem L2
section
variable{X:Cx}{c:Ent}{k:Nat}{f:Addr}{fd:FuncData}{ps:List Str}{t:VI}{x:Str}{p pos:Pos}{e ex:Expr}{te:br}
variable{e3:Expr}{b3:Bool}
def CQ(t:VI)(te:br)(i:Nat)(b3:Bool):br:=λs Q=>te s λd0 s1=>(∃ d1,s1.sl[i]?=some (.dat d1)/\t [d0,d1,.bl b3] λd=>Q d s1)\/(∃ k d1,s1.sl[i]?=some (.own k)/\s1.os[k]?=some (some d1)/\t [d0,d1,.bl b3] λd=>fe d=true/\Q d s1)
theorem Bp{i:Nat}(hr:cb k X.A)(hg:Gl X x)(hm:X.mg x=some (.ref f))(hk:keepIn X.K (.ref f)=true)(hb:Binds X.K fd ps [])(h0:DE X c e te)(hx:PE X ex (bB i))(h3:PE X e3 (tC (.bl b3)))(F:cw X.prog X.w X.K X.mg X.base bb k f fd ps (cn X.K .no t))(fP:VM x:=by decide)(he:starEach [e,ex,e3] X.env=(false,eval e X.env)::starEach [ex,e3] X.env:=by rfl)(hs:starEach [ex,e3] X.env=(false,eval ex X.env)::starEach [e3] X.env:=by rfl)(IE:starEach [e3] X.env=[(false,eval e3 X.env)]:=by rfl)(dA:(backTo pos (starEach [ex,e3] X.env)).any (·.1)=false:=by rfl) :
  DE X c (.Call (.Name x p) [e,ex,e3] [] pos) (CQ t te i b3):=⟨(gD F hr hg hm hk hb .nil (E:=E0) mH (aG h0.pe (aG hx (aG h3 bY IE) hs) he) fP he dA).imp λO H Q zz=>ei zz λM s as R L q kk =>
 ⟨M,s,as,_,L,q,λd0 s1 q1 M1 H1 v0 L1 E1 r0=>by
  rcases q1 with ⟨d1,g1,q1⟩ | ⟨k,d1,g1,g2,q1⟩
  ·obtain⟨v1,h1,r1⟩:=L1.dat i d1 g1
   exact⟨v1,h1,M1,[d0,d1,.bl b3],_,L1.base.nI,⟨v0,[v1,.bl b3],U,r0,v1,[.bl b3],U,r1,ay.one U⟩,q1,λd rd M' H' v B rv=>kk d s1 rd M' H' v (L1.after (L1.base.gZ B)) (E1.trans L1.base (Ext.after (L1.base.gZ B))) rv⟩
  ·obtain⟨a,o,h1,h2,hx3,h4⟩:=L1.slot g1 g2
   have nM:¬ M1 a:=(L1.obj k d1 a g2 h1).2.1
   have nt:∀ xs,o≠.tup xs:=λxs z=>by subst z;exact h4.Bh
   have mk:∀ b u,M1 b->H1 b=some u->H1 b=some u:=λ_ _ _ e=>e
   refine⟨_,h2,λb=>M1 b\/b=a,[d0,d1,.bl b3],_,⟨trivial,λ_ _ e _=>e,λb m=>?_,λ_ _ h=>h,λ_ m=>m,λ_ m=>.inl m⟩,⟨v0,[.ref a,.bl b3],U,Rep.mono (λ_ m=>.inl m) mk d0 v0 r0,.ref a,[.bl b3],U,(h4.mono (λ_ m=>.inl m) mk).rep hx3 (.inr U),ay.one U⟩,q1,λd ⟨td,rd⟩ M' H' v B rv=>?_⟩
   ·rcases m with m | rfl
    ·exact L1.base.md b m
    ·exact⟨o,hx3⟩
   ·have ha:H' a=some o:=B.fr a o hx3 λz=>z
    have B3:Base ⟨.no,M1,H1⟩ (λb=>M' b/\b≠a) H':=⟨trivial,B.fr,λb m=>B.md b m.1,λ_ _ h=>h,λb m=>⟨B.m0 b (.inl m),λz=>nM (z▸m)⟩,λb m=>by
     rcases B.mn b m.1 with z | z
     ·rcases z with z | z
      ·exact .inl z
      ·exact absurd z m.2
     ·exact .inr z⟩
    exact kk d s1 rd _ H' v (L1.after (L1.base.gZ B3)) (E1.trans L1.base (Ext.after (L1.base.gZ B3))) (Rep.off (λxs z=>nt xs (by rw[ha] at z;injection z)) d v td rv)⟩⟩
end
section
variable{X:Cx}{c:Ent}
def rW(K:Frag)(neg:Bool):R2:=λx y H Q=>∃ M dx dy,Rep K H M dx x/\Rep K H M dy y/\dz dx=true/\dz dy=true/\(cj dx<=400\/cj dy<=400)/\Q (.bl (if neg=true then !yb dx dy else yb dx dy)) H
theorem BK(hu:X.A.units+400 < cLine):iV X (compareOp .NotEq) (rW X.K true):=by
 intro pins s O H x y v u Q I rx ry h
 obtain⟨M,dx,dy,r1,r2,o1,o2,hd,q⟩:=h
 obtain⟨as,h1⟩:=el I dx x v o1 r1 rx
 obtain⟨bs,h2⟩:=el I dy y u o2 r2 ry
 refine SeqAt.compareNe_reads h1 h2 (iH dx o1) (iH dy o2) ?_ ⟨.bl _,H,I,U,q⟩
 have e1:(toP dx).depth=cj dx:=rfl
 have e2:(toP dy).depth=cj dy:=rfl
 rw[e1,e2]
 omega
theorem GR(hu:X.A.units+400 < cLine):iV X (compareOp .Eq) (rW X.K false):=by
 intro pins s O H x y v u Q I rx ry h
 obtain⟨M,dx,dy,r1,r2,o1,o2,hd,q⟩:=h
 obtain⟨as,h1⟩:=el I dx x v o1 r1 rx
 obtain⟨bs,h2⟩:=el I dy y u o2 r2 ry
 refine SeqAt.compareEq_reads h1 h2 (iH dx o1) (iH dy o2) ?_ ⟨.bl _,H,I,U,q⟩
 have e1:(toP dx).depth=cj dx:=rfl
 have e2:(toP dy).depth=cj dy:=rfl
 rw[e1,e2]
 omega
def cW(neg:Bool):D->D->(D->Prop)->Prop:=λa b k=>(dz a=true/\dz b=true/\(cj a<=400\/cj b<=400))/\k (.bl (if neg=true then !yb a b else yb a b))
theorem Ny{neg:Bool}:pf X c (rW X.K neg) (cW neg):=λM s as O H x y dx dy k Q L rx ry ⟨⟨o1,o2,hd⟩,hk⟩ kk=>⟨M,dx,dy,rx,ry,o1,o2,hd,kk _ hk M H _ L .refl U⟩
theorem ON{A:Around}{k:Nat}(hr:cb k A)(hk:100<=k:=by decide):A.units+400 < cLine:=by have:=hr.un;omega
end
end DL
namespace cK
open PySem L2
section
variable{P:Program}{w:World}{K:Frag}{mg:Str->Option Value}{base:Heap}
abbrev Qi:List Str:=["_law_script","_law_base","_law_some_here","_law_number","_law_one"]
theorem Av{st:Stmt}{f:Addr}{fd:FuncData}(F:sR K "_law_deal" "_law_deal" st f fd)(sc:az Qi ["_law_script","_law_base"] (ai st))(hb:∀ (bN:Value) (A:Around) (outer:List Env) (s:Shared) (H:Hp) (E:XK),nz (jl bb P w K mg base Qi "_law_deal" (ai st) f bN A outer s H E).sV (bc st) (Kq K)) :
  cw P w K mg base bb 1 f fd ["_law_script","_law_base"] (vM K):=by
 refine F.ok sc (λvs H Q E h=>?_) (λbN A outer s H vs Q E hr h=>?_)
 ·obtain⟨a,ns,bs,rfl,_⟩:=h
  rfl
 ·obtain⟨a,ns,bs,rfl,hS,hn,hb0,hb1,k⟩:=h
  refine⟨_,hb _ _ _ _ _ _,?_⟩
  obtain⟨ms,ems,hms⟩:=CB ns (some bs) (some 63)
  refine⟨_,U,_,U,_,U,_,U,a,_,U,hS,λp hp=>⟨p,U,⟨_,d5.of au⟩,?_⟩⟩
  rw[ems]
  refine j3 (xs:=ms.map V.int) (λ_=>true) Ew (d5.of au) (by rw[Tr];exact TU (TU hms hn) (by decide)) (by decide) (λx hx H1 k1 q=>q) (λx hx _ H1 k1 q=>?_) (λD hD=>?_)
  ·obtain⟨i,_,rfl⟩:=TR.mp hx
   exact⟨_,U,_,U,_,_,U,U,_,_,U,q⟩
  ·have hD0:H D=none:=(eQ.upd hp).free hD
   have e1:((ms.map V.int).filter λ_=>true).map Ew=(ms.map mT).map V.int:=by
    rw[List.filter_eq_self.mpr (by simp),List.map_map,List.map_map]
    rfl
   rw[e1]
   have s1:eQ H (upd (upd H p (.lst (ms.map V.int))) D (.lst ((ms.map mT).map V.int))):=(eQ.upd hp).trans (eQ.upd hD)
   generalize hH2:upd (upd H p (.lst (ms.map V.int))) D (.lst ((ms.map mT).map V.int))=H2 at s1
   have hD2:H2 D=some (.lst ((ms.map mT).map V.int)):=by rw[<- hH2];exact au
   -- number=7919+base
   refine⟨_,U,_,_,U,U,?_⟩
   -- for
   refine⟨_,U,D,U,⟨_,d5.of hD2⟩,AH (K:=K) (a:=D) (xs:=(ms.map mT).map V.int) (λi O H3=>∃ (n:Int) (v:Option V),O=[some (.ref a),some (.int bs),some (.ref D),some (.int n),v]/\0<=n/\n < 2147483647/\H3=H2)
    ⟨7919+bs,none,U,by omega,by omega,U⟩ (λi O H3 _ z0q=>by obtain⟨_,_,_,_,_,e⟩:=z0q;rw[e];exact d5.of hD2) ?_ ?_⟩
   ·rintro i y O H3 hi ⟨n,v,rfl,h0,h1,rfl⟩
    obtain⟨j,_,rfl⟩:=TR.mp (Uw hi)
    refine⟨_,U,_,_,U,U,.inr ⟨by decide,by decide⟩,_,U,_,_,U,U,(by show (0:Int) < 2147483629;decide),_,_,U,U,_,_,U,U,(by show (0:Int) < 2147483647;decide),?_⟩
    exact⟨_,_,U,UX _ (by decide),UU _ (by decide),U⟩
   ·rintro O H3 ⟨n,v,rfl,h0,h1,rfl⟩
    -- the dict
    intro d hd
    have hd0:H d=none:=s1.free hd
    have hDd:(upd H3 d (.dK [])) D=some (.lst ((ms.map mT).map V.int)):=by rw[aj (aC hD2 hd)];exact hD2
    refine⟨_,U,_,U,D,U,⟨_,d5.of hDd⟩,?_⟩
    refine j3 (xs:=(ms.map mT).map V.int) Gx id (d5.of hDd) (by rw[Tr,Tr];exact TU (TU hms hn) (by decide)) (by decide) (λx hx H1 k1 q=>?_) (λx hx _ H1 k1 q=>⟨_,U,q⟩) (λD2 hD2'=>?_)
    ·obtain⟨i,_,rfl⟩:=TR.mp hx
     exact⟨_,U,_,_,U,U,⟨by decide,by decide,by decide⟩,_,_,U,U,_,U,q⟩
    ·refine⟨D2,_,U,d5.of au,λl hl=>?_⟩
     have ndD2:d≠D2:=aC au hD2'
     have ndl:d≠l:=aC (H:=upd (upd H3 d (.dK [])) D2 _) (by rw[aj ndD2];exact au) hl
     refine⟨by rw[aj ndl,aj ndD2];exact au,cP n 0 l,U,(by show 3<=15;decide),?_⟩
     rw[Gz]
     have hD20:H D2=none:=(s1.trans (eQ.upd hd)).free hD2'
     have hl0:H l=none:=((s1.trans (eQ.upd hd)).trans (eQ.upd hD2')).free hl
     have e3:∃ ks:List Int,((((ms.map mT).map V.int).filter Gx).map id).reverse=ks.map V.int/\∀ n∈ks,0<=n:=by
      refine⟨((ms.map mT).filter λi=>Gx (.int i)).reverse,?_,?_⟩
      ·rw[List.map_id,List.filter_map,List.map_reverse]
       rfl
      ·intro n hn'
       obtain⟨i,_,rfl⟩:=TR.mp (UJ.mp (List.mem_reverse.mp hn')).1
       exact D0 i
     obtain⟨ks,e3,hks⟩:=e3
     rw[e3]
     refine k d l _ hd0 hl0 ⟨n,0,ks,au,by rw[aj (Ne.symm ndl)];exact au,h0,h1,Int.le_refl _,hks⟩ ?_
     exact (((s1.trans (eQ.upd hd)).trans (eQ.upd hD2')).Kh hl0).Kh hd0
end
end cK
section
local macro_rules
 | `(tactic|trivial)=>`(tactic|repeat (first | refine DL.nk (by decide+kernel) ?_ | refine DL.jD (by decide+kernel) ?_ | refine⟨_,U,?_⟩ | refine⟨_,_,_,U,U,U,?_⟩ | refine⟨_,_,_,U,U,DL.bR,?_⟩ | refine⟨_,_,U,U,?_⟩ | refine⟨⟨U,U,U⟩,?_⟩ | refine⟨_,.inr U,⟨U,U⟩,?_⟩ | refine⟨_,.inl U,⟨U,U⟩,?_⟩ | refine⟨_,.inr U,?_⟩ | refine⟨_,.inl U,?_⟩ | refine⟨_,_,U,U,U,?_⟩ | refine .inl ⟨_,U,?_⟩ | refine .inr ⟨_,_,U,U,?_⟩ | refine⟨_,_,_,U,U,?_⟩ | refine⟨⟨U,U⟩,?_⟩))
namespace Nr
open PySem L2 DL
def top(i:Nat):Stmt:=PySem.Challenge.pw_sideturn_k36_turning_refused.main.body.getD i (.Pass ⟨0,0,0,0⟩)
abbrev mE:Stmt:=top 11
abbrev gB:D3:=("makers_in",mE,["kind"])
theorem rP:az ["kind"] ["kind"] (ai mE):=gJ
abbrev mB:Stmt:=top 12
abbrev gz:D3:=("askers_in",mB,["kind"])
theorem rj:az ["kind"] ["kind"] (ai mB):=gJ
abbrev j2:Stmt:=top 13
abbrev eY:D3:=("kind_called",j2,["program","name"])
theorem iY:az ["program","name","kind"] ["program","name"] (ai j2):=gJ
abbrev mO:Stmt:=top 14
abbrev gF:D3:=("tables_in",mO,["kind"])
theorem sG:az ["kind"] ["kind"] (ai mO):=gJ
abbrev gY:Stmt:=top 15
abbrev dq:D3:=("numbered_kinds",gY,["program"])
theorem cD:az ["program","numbered","row","kind"] ["program"] (ai gY):=gJ
abbrev gk:Stmt:=top 16
abbrev df:D3:=("numbered_tables",gk,["program"])
theorem bE:az ["program","numbered","row","kind","number","table"] ["program"] (ai gk):=gJ
abbrev lq:Stmt:=top 17
abbrev fH:D3:=("cells_told",lq,["kind"])
theorem cZ:az ["kind","told","name","rows","row_name","term"] ["kind"] (ai lq):=gJ
abbrev iT:Stmt:=top 20
abbrev eD:D3:=("terms_within",iT,["term"])
theorem iL:az ["term","word"] ["term"] (ai iT):=gJ
abbrev xD:Stmt:=top 21
abbrev mY:D3:=("parts",xD,["term"])
theorem k7:az ["term","told","ahead","part"] ["term"] (ai xD):=gJ
abbrev nV:Stmt:=top 22
abbrev iz:D3:=("is_table",nV,["term"])
theorem um:az ["term"] ["term"] (ai nV):=gJ
abbrev iX:Stmt:=top 23
abbrev ek:D3:=("inner_tables",iX,["program"])
theorem bg:az ["program","told","row","kind","table","ahead","name","term","part"] ["program"] (ai iX):=gJ
abbrev kZ:Stmt:=top 25
abbrev fJ:D3:=("need_kinds",kZ,["program","kinds"])
theorem pF:az ["program","kinds"] ["program","kinds"] (ai kZ):=gJ
abbrev me:Stmt:=top 26
abbrev gp:D3:=("need_flat",me,["program"])
theorem fN:az ["program","tables","place","table"] ["program"] (ai me):=gJ
abbrev pL:Stmt:=top 27
abbrev jH:D3:=("rows_of",pL,["pairs"])
theorem vh:az ["pairs"] ["pairs"] (ai pL):=gJ
abbrev jZ:Stmt:=top 28
abbrev e8:D3:=("turned_kind",jZ,["kind"])
theorem bx:az ["kind","cells","makers","askers","tables","maker","rows","asker"] ["kind"] (ai jZ):=gJ
abbrev uf:Stmt:=top 29
abbrev kF:D3:=("turned",uf,["program","kinds"])
theorem yw:az ["program","kinds"] ["program","kinds"] (ai uf):=gJ
abbrev oP:Stmt:=top 31
abbrev iE:D3:=("_law_deal",oP,["_law_script","_law_base"])
abbrev oB:Stmt:=top 32
abbrev aY:D3:=("_law_draw",oB,["_law_deal_here","_law_many"])
abbrev cy:Stmt:=top 33
abbrev gH:D3:=("_law_words",cy,["_law_deal_here","_law_many"])
theorem a9:az ["_law_deal_here","_law_many","_law_letters","_law_core","_law_at","_law_turn","_law_found","_law_k","_law_own","_law_word","_law_near"] ["_law_deal_here","_law_many"] (ai cy):=gJ
abbrev mv:Stmt:=top 34
abbrev fi:D3:=("_law_pairs",mv,["_law_deal_here","_law_names","_law_some_here","_law_most"])
theorem kz:az ["_law_deal_here","_law_names","_law_some_here","_law_most","_law_many"] ["_law_deal_here","_law_names","_law_some_here","_law_most"] (ai mv):=gJ
abbrev mC:Stmt:=top 35
abbrev gC:D3:=("_law_heads",mC,["_law_deal_here","_law_words_here","_law_most"])
theorem ba:az ["_law_deal_here","_law_words_here","_law_most","_law_found","_law_names","_law_shift","_law_makers_left","_law_askers_left","_law_kk","_law_makers","_law_k","_law_some_here","_law_askers","_law_params"] ["_law_deal_here","_law_words_here","_law_most"] (ai mC):=gJ
abbrev nA:Stmt:=top 36
abbrev iA:D3:=("_law_leaf",nA,["_law_deal_here","_law_world","_law_scope","_law_kind"])
theorem iW:az ["_law_deal_here","_law_world","_law_scope","_law_kind","_law_own","_law_first"] ["_law_deal_here","_law_world","_law_scope","_law_kind"] (ai nA):=gJ
abbrev ql:Stmt:=top 37
abbrev g0:D3:=("_law_all",ql,["_law_deal_here","_law_world","_law_scope","_law_some_here","_law_room"])
theorem vY:az ["_law_deal_here","_law_world","_law_scope","_law_some_here","_law_room"] ["_law_deal_here","_law_world","_law_scope","_law_some_here","_law_room"] (ai ql):=gJ
abbrev p7:Stmt:=top 38
abbrev jA:D3:=("_law_ask",p7,["_law_deal_here","_law_world","_law_scope","_law_kind","_law_room"])
theorem cF:az ["_law_deal_here","_law_world","_law_scope","_law_kind","_law_room","_law_some_here","_law_side","_law_kk","_law_makers","_law_askers","_law_f","_law_params","_law_terms"] ["_law_deal_here","_law_world","_law_scope","_law_kind","_law_room"] (ai p7):=gJ
abbrev mD:Stmt:=top 39
abbrev d6:D3:=("_law_bound",mD,["_law_deal_here","_law_world","_law_scope","_law_many"])
theorem ip:az ["_law_deal_here","_law_world","_law_scope","_law_many","_law_some_here","_law_at"] ["_law_deal_here","_law_world","_law_scope","_law_many"] (ai mD):=gJ
abbrev o5:Stmt:=top 40
abbrev iB:D3:=("_law_case",o5,["_law_deal_here","_law_world","_law_scope","_law_kind","_law_room"])
theorem bz:az ["_law_deal_here","_law_world","_law_scope","_law_kind","_law_room","_law_some_here","_law_side","_law_kk","_law_makers","_law_askers","_law_a","_law_found","_law_c","_law_fields","_law_names","_law_more"] ["_law_deal_here","_law_world","_law_scope","_law_kind","_law_room"] (ai o5):=gJ
abbrev qo:Stmt:=top 41
abbrev ju:D3:=("_law_new",qo,["_law_deal_here","_law_world","_law_scope","_law_kind","_law_room"])
theorem cV:az ["_law_deal_here","_law_world","_law_scope","_law_kind","_law_room","_law_some_here","_law_askers","_law_found","_law_f","_law_params","_law_result","_law_names","_law_more"] ["_law_deal_here","_law_world","_law_scope","_law_kind","_law_room"] (ai qo):=gJ
abbrev og:Stmt:=top 42
abbrev d4:D3:=("_law_term",og,["_law_deal_here","_law_world","_law_scope","_law_kind","_law_room"])
theorem aT:az ["_law_deal_here","_law_world","_law_scope","_law_kind","_law_room","_law_form","_law_found","_law_a","_law_b","_law_other","_law_x","_law_makers","_law_c","_law_fields"] ["_law_deal_here","_law_world","_law_scope","_law_kind","_law_room"] (ai og):=gJ
abbrev mj:Stmt:=top 43
abbrev gE:D3:=("_law_scene",mj,["_law_deal_here","_law_most"])
theorem iu:az ["_law_deal_here","_law_most","_law_words_here","_law_heads_here"] ["_law_deal_here","_law_most"] (ai mj):=gJ
abbrev mG:Stmt:=top 44
abbrev gy:D3:=("_law_cells",mG,["_law_deal_here","_law_world","_law_room"])
theorem bf:az ["_law_deal_here","_law_world","_law_room","_law_found","_law_side","_law_kk","_law_makers","_law_askers","_law_own","_law_c","_law_fields","_law_f","_law_params","_law_result"] ["_law_deal_here","_law_world","_law_room"] (ai mG):=gJ
abbrev jS:Stmt:=top 45
abbrev fb:D3:=("_law_program",jS,["_law_deal_here","_law_world","_law_room"])
theorem aD:az ["_law_deal_here","_law_world","_law_room","_law_found","_law_one","_law_cells_here","_law_side","_law_kk","_law_makers","_law_askers","_law_way","_law_blocks","_law_f","_law_params","_law_result","_law_rows","_law_c","_law_fields"] ["_law_deal_here","_law_world","_law_room"] (ai jS):=gJ
abbrev nW:Stmt:=top 46
abbrev fX:D3:=("_law_grid",nW,["_law_kind"])
theorem bM:az ["_law_kind","_law_side","_law_kk","_law_heads_here","_law_blocks","_law_cells_here","_law_block","_law_name","_law_term_here","_law_pair","_law_others"] ["_law_kind"] (ai nW):=gJ
abbrev iM:Stmt:=top 47
abbrev dQ:D3:=("_law_told_from",iM,["_law_kind","_law_side"])
theorem aM:az ["_law_kind","_law_side","_law_makers","_law_askers","_law_cells_here","_law_blocks","_law_f","_law_params","_law_result","_law_rows","_law_c","_law_fields"] ["_law_kind","_law_side"] (ai iM):=gJ
abbrev lp:Stmt:=top 48
abbrev fR:D3:=("_law_turned",lp,["_law_program_here","_law_kinds","_law_once"])
theorem dF:az ["_law_program_here","_law_kinds","_law_once","_law_found","_law_kind","_law_side"] ["_law_program_here","_law_kinds","_law_once"] (ai lp):=gJ
abbrev oX:Stmt:=top 49
abbrev ig:D3:=("_law_some",oX,["_law_deal_here","_law_program_here"])
theorem gA:az ["_law_deal_here","_law_program_here","_law_left","_law_found","_law_k"] ["_law_deal_here","_law_program_here"] (ai oX):=gJ
abbrev lr:Stmt:=top 50
abbrev fM:D3:=("_law_within",lr,["_law_term_here"])
theorem gL:az ["_law_term_here","_law_word","_law_rows"] ["_law_term_here"] (ai lr):=gJ
abbrev ma:Stmt:=top 51
abbrev gx:D3:=("_law_inner",ma,["_law_term_here"])
theorem sI:az ["_law_term_here"] ["_law_term_here"] (ai ma):=gJ
abbrev kU:Stmt:=top 52
abbrev fO:D3:=("_law_row_of",kU,["_law_program_here"])
theorem bJ:az ["_law_program_here","_law_at","_law_side","_law_kk","_law_heads_here","_law_blocks","_law_block"] ["_law_program_here"] (ai kU):=gJ
abbrev cG:Stmt:=top 53
abbrev ij:D3:=("_law_told",cG,["_law_program_here","_law_kinds"])
theorem cB:az ["_law_program_here","_law_kinds","_law_answer","e","_law_others","_law_both"] ["_law_program_here","_law_kinds"] (ai cG):=gJ
abbrev iI:Stmt:=top 54
abbrev dO:D3:=("_law_with_bare",iI,["_law_deal_here","_law_scene_here","_law_program_here"])
theorem bp:az ["_law_deal_here","_law_scene_here","_law_program_here","_law_names","_law_heads_here","_law_k","_law_params","_law_more","_law_at"] ["_law_deal_here","_law_scene_here","_law_program_here"] (ai iI):=gJ
abbrev la:Stmt:=top 55
theorem d3:az ["_law_script","_law_deal_here","_law_scene_here","_law_program_here","_law_row","_law_kinds","_law_other","_law_k","_law_some_here","_law_due"] ["_law_script"] (ai la):=gJ
structure Txt(K:Frag)(mg:Str->Option Value):Prop where
 any:mg "any"=none
 bool:mg "bool"=none
 dict:mg "dict"=none
 enumerate:mg "enumerate"=none
 int:mg "int"=none
 EE:mg "isinstance"=none
 len:mg "len"=none
 list:mg "list"=none
 max:mg "max"=none
 min:mg "min"=none
 range:mg "range"=none
 rev:mg "reversed"=none
 tuple:mg "tuple"=none
 zip:mg "zip"=none
 str:mg "str"=none
section
variable{P:Program}{w:World}{K:Frag}{mg:Str->Option Value}{base:Heap}
theorem aR{b b':Bool}{A B:Prop}(h:b=b')(q1:b'=true->A)(q2:b'=false->B):if b=true then A else B:=by
 subst h
 cases b with
 | true=>exact lJ (q1 U)
 | false=>exact sv (q2 U)
theorem yI{ws:List Str}:(ws.map D.str).all iK=true:=by
 rw[List.all_map]
 exact Uv.mpr λ_ _=>rfl
theorem Cg{ws:List Str}:(ws.map D.str).map fv=ws.map V.str:=by
 rw[T9]
 rfl
theorem xB{zs:List Str}{r:Int}(h0:0<=r)(h1:r < zs.length):∃ z∈zs,jQ (zs.map D.str) r=some (.str z):=by
 have hj:r.toNat < zs.length:=by omega
 refine⟨zs[r.toNat],U3 hj,?_⟩
 have e:(r.toNat:Int)=r:=Vn h0
 have q:=nj (xs:=zs.map D.str) (j:=r.toNat) (v:=.str zs[r.toNat]) (by simp[hj])
 rw[e] at q
 exact q
theorem sY:∀ (ys:List D),(∀ y∈ys,∃ ch,(97<=ch/\ch<=122)/\y=D.str ⟨#[ch]⟩)->∃ cs:List Nat,ys=(cs.map λc=>(⟨#[c]⟩:Str)).map D.str/\(∀ c∈cs,97<=c/\c<=122)/\cs.length=ys.length
 | [],_=>⟨[],U,λ_ h=>absurd h (by simp),U⟩
 | y::ys,h=>by
  obtain⟨ch,hc,e⟩:=h y Tu
  obtain⟨cs,e2,h2,h3⟩:=sY ys λz hz=>h z (Tv _ hz)
  subst e
  refine⟨ch::cs,by rw[e2];simp,λc hm=>?_,by simp[h3]⟩
  rcases TX.mp hm with rfl | hm
  ·exact hc
  ·exact h2 c hm
theorem BH{d l:Addr}(d9:C4 P w K mg base bb aY 1 (cn K (aU d l) (fG d)))(F:Own K mg gH)(T:Txt K mg):C4 P w K mg base bb gH 2 (cn K (aU d l) (Ak d)):=by
 refine F.d (nos:=1) a9 (λds R h=>?_) λf bN A outer s H E M hr=>?_
 ·obtain⟨m,rfl,_⟩:=h
  rfl
 have hb:bc cy=K2 (bc cy) 6 (zL ((bc cy).getD 6 yG)):=rfl
 have ha:qZ (zL ((bc cy).getD 6 yG))=true:=rfl
 have hz:xE (zL ((bc cy).getD 6 yG))=cK.near:=rfl
 have hl3:(zL ((bc cy).getD 6 yG)).length=cK.near.length:=rfl
 generalize zL ((bc cy).getD 6 yG)=es at hb ha hz hl3
 have hn:(es.length<=1000:Bool)=true:=by rw[hl3];decide
 rw[hb]
 refine⟨_,(af (iO (f7 (i:=2) a9.nd U (Or.inr U) (DE.pe aw)))
 (af (sS 3 a9.nd (FI aw (aa (DN.de (nC ["_law_k"] [2,0] (dG U T.range (aa (av hr d9 (aa (vd 0) (aa ag ae))) ae)) (λ_ _ _ _=>(gM 0 ["_law_k","_law_letters","_law_deal_here"])) (λ_ _ _ _=>bh)
 (λ_ _ _ _=>(zO vb Aw (vd 1) (av hr d9 (aa (vd 2) (aa ag ae))) (λ_ _=>rfl))))) ae)))
 (af (sS 4 a9.nd (av hr d9 (aa (vd 0) (aa (bC b4 eE (iD rC G9 U T.len UM (aa (vd 3) ae)) ag) ae))))
 (af (sS 5 a9.nd (av hr d9 (aa (vd 0) (aa ag ae))))
 (af (sN 0 6 a9.nd (aN ae))
 (af (sF (dG U T.range (aa (vd 1) ae)) (gN 7 a9.nd)
 (af (sS 8 a9.nd (zO vb Aw (vd 2) (bC gK yX (bC b4 eE (vd 5) (bC kj yX ag (vd 7))) ag) (λ_ _=>rfl)))
 (af (sS 9 a9.nd (bC eL lH (bC eL lH (bC eL lH (bC eL lH (t8 (vd 3) cQ (bQ (vd 4))) (vd 8)) (t8 (vd 3) (bQ (vd 4)) cQ)) (bC oh zE aw (bC gK yX (vd 7) ag))) (bC oh zE aw (bC dh yX (vd 7) ag))))
 (af (bZ (aB cL okIn (vd 9) (aA (aa aw (aa aw (aa aw (aa aw (aa aw (aa aw (aa aw ae)))))))) U)
 (ah (sS 9 a9.nd (bC eL lH (vd 9) aw)))
 aJ)
 (af (bZ (aB cL okIn (vd 9) (aA (aa aw (aa aw (aa aw (aa aw (aa aw (aa aw ae))))))) U)
 (ah (sS 9 a9.nd (bC eL lH (vd 9) aw)))
 aJ)
 (ah (ph 6 (aa (vd 9) ae))))))))
 (af (sS 10 a9.nd (DN.de (aN (Cs ha hz hl3) hn)))
 (af (sS 9 a9.nd (jJ (vd 10) (av hr d9 (aa (vd 0) (aa ag ae)))))
 (af (bZ (DW.dt (ik (aB bw cU (av hr d9 (aa (vd 0) (aa ag ae))) ag (ax _)) (iC (Fu eC (vd 9) (pv 6) U))))
 (ah (Dw (BS (DE.pe (vd 9)) (GC (pv 6) (DE.pe (av hr d9 (aa (vd 0) (aa (vd 1) ae)))) set_list))))
 aJ)
 (ah (aP (mV (pv 6))))))))))))),λds R h=>?_⟩
 ·obtain⟨m,rfl,⟨hm0,hm1⟩,q⟩:=h
  trivial
  refine⟨⟨by decide,by decide⟩,λr r0 r1=>?_⟩
  refine⟨r,U,⟨by omega,by omega⟩,?_⟩
  refine oZ (λy=>∃ ch,(97<=ch/\ch<=122)/\y=D.str ⟨#[ch]⟩) _ (λx hx k hk=>?_) λys hyl hyp=>?_
  ·refine⟨_,U,_,U,_,U,⟨by decide,by decide⟩,λa a0 a1=>?_⟩
   exact⟨_,_,_,U,U,by decide+kernel,xM a0 a1,hk _ _ ⟨_,⟨by omega,by omega⟩,U⟩ rfl⟩
  obtain⟨cs,e1,hcs,hcl⟩:=sY ys hyp
  subst e1
  have hcl':cs.length<=4:=by
   have:(fu 0 r.toNat).length=r.toNat:=by simp[fu]
   rw[hcl,hyl,this]
   omega
  refine⟨cs.map λc=>(⟨#[c]⟩:Str),U,?_,?_⟩
  ·rw[cK.uR,Tr]
   show cs.length+cs.length * 0<=16777216
   omega
  have hcore:(Txt.join ("":Str) (cs.map λc=>(⟨#[c]⟩:Str))).length<=4:=by
   have:=cK.join_ones cs
   omega
  have hlw:Lw (Txt.join ("":Str) (cs.map λc=>(⟨#[c]⟩:Str))):=λc hc=>by
   rw[uT] at hc
   exact hcs c hc
  generalize Txt.join ("":Str) (cs.map λc=>(⟨#[c]⟩:Str))=core at hcore hlw
  have hsz:(1000:Nat)<=sizeLine:=by decide
  refine⟨_,U,_,U,_,U,by omega,_,_,U,U,_,U,⟨by omega,by omega⟩,λat_' a0 a1=>?_⟩
  refine⟨_,U,_,U,⟨by decide,by decide⟩,λtn t0 t1=>?_⟩
  refine⟨⟨U,U⟩,_,U,m,U,⟨by omega,by omega⟩,?_⟩
  have h2s:=ye (x:=core) (i:=at_') a0 (by omega)
  have hL1:=hlw.slice none (some at_')
  have hL2:=hlw.slice (some at_') none
  generalize yk:Txt.slice core none (some at_')=pre at h2s hL1
  generalize hpost:Txt.slice core (some at_') none=post at h2s hL2
  refine aV (λxs s=>∃ (ws:List Str) (a b e:Sl),(∀ (i:Nat) (x:D),xs[i]?=some x->x=D.int ((ws.length+i:Nat):Int))/\ws.length+xs.length=m.toNat/\tV pre.cps.toList post.cps.toList tn.toNat ws/\s=⟨[.dat (.eW d),.dat (.int m),.dat (.str cK.JE),.dat (.str core),.dat (.int at_'),.dat (.int tn),.own 0,a,b,e,.no],[some (.lst (ws.map D.str))]⟩) ?_ ?_ _ _ ⟨[],.no,.no,.no,?_,?_,λ_ _ h=>absurd h (by simp),U⟩
  ·rintro s ⟨ws,a,b,e,h1,h2,h3,rfl⟩
   replace h2:ws.length=m.toNat:=h2
   trivial
   refine⟨⟨by decide,by decide⟩,λr r0 r1=>?_⟩
   obtain⟨z,hz2,ez⟩:=xB (zs:=cK.near) r0 r1
   have hzw:=Ct z hz2
   refine⟨_,_,_,U,U,ez,?_⟩
   refine⟨_,U,_,U,⟨by decide,by decide⟩,λr2 r20 r21=>?_⟩
   refine⟨⟨U,U,U⟩,_,U,?_⟩
   refine aR U (λ_=>?_) λ_=>?_
   ·refine⟨_,U,0,_,U,U,⟨U,yI⟩,_,U,?_⟩
    refine aR U (λhni=>?_) λ_=>?_
    ·refine⟨_,U,0,U,_,U,_,U,_,U,⟨by omega,by omega⟩,λr3 r30 r31=>?_⟩
     have hj:Bd (ws.map D.str).length r3=some r3.toNat:=by
      rw[Tr]
      unfold Bd
      rw[if_pos (by omega),if_pos (by omega)]
     refine⟨_,_,_,U,U,hj,?_⟩
     refine .inr ⟨0,_,U,U,?_⟩
     show R (.lst ((ws.map D.str).set r3.toNat (.str z)))
     rw[<- List.map_set]
     have hnz:z∉ws:=λhm=>by
      replace hni:(!qU (.str z) ((ws.map D.str).map fv))=true:=hni
      rw[Cg,fk,decide_eq_true hm] at hni
      cases hni
     refine q _ (by simpa using h2) (qK _ h3.nodup hnz) λy hy=>?_
     rcases List.mem_or_eq_of_mem_set hy with hy | rfl
     ·exact h3.nm y hy
     ·exact hzw
    ·exact .inr ⟨0,_,U,U,q ws h2 h3.nodup h3.nm⟩
   ·exact .inr ⟨0,_,U,U,q ws h2 h3.nodup h3.nm⟩
  ·rintro x xs s N ⟨ws,a,b,e,h1,h2,h3,rfl⟩ hN hE_
   have hx:=h1 0 x U
   subst hx
   replace h2:ws.length+(xs.length+1)=m.toNat:=h2
   have hk:ws.length < 60:=by omega
   trivial
   refine⟨.inl ⟨by decide,by decide⟩,?_⟩
   refine⟨_,_,U,U,?_⟩
   refine⟨_,_,U,U,(show (0:Int) < 26 by decide),?_⟩
   have ea:=xM (r:=(tn+7 * ((ws.length+0:Nat):Int)) % 26) (UX _ (by decide)) (UU _ (by decide))
   refine⟨_,_,_,U,U,by decide+kernel,ea,?_⟩
   rw[show ((tn+7 * ((ws.length+0:Nat):Int)) % 26).toNat=(tn.toNat+7 * ws.length) % 26 by omega]
   have qa:97<=97+(tn.toNat+7 * ws.length) % 26/\97+(tn.toNat+7 * ws.length) % 26<=122:=⟨by omega,by omega⟩
   obtain⟨mx,ox⟩:=xA (c:=120) (n:=((ws.length+0:Nat):Int) % 2) (UX _ (by decide)) (by omega)
   obtain⟨my,oy⟩:=xA (c:=121) (n:=((ws.length+0:Nat):Int) / 26) (by omega) (by omega)
   rw[show (((ws.length+0:Nat):Int) % 2).toNat=ws.length % 2 by omega] at mx
   rw[show (((ws.length+0:Nat):Int) / 26).toNat=ws.length / 26 by omega] at my
   generalize hmx:Txt.mul (⟨#[120]⟩:Str) (((ws.length+0:Nat):Int) % 2)=tx at mx
   generalize hmy:Txt.mul (⟨#[121]⟩:Str) (((ws.length+0:Nat):Int) / 26)=ty at my
   have lx:tx.length=ws.length % 2:=by rw[show tx.length=tx.cps.toList.length by simp[Str.length],mx,List.length_replicate]
   have ly:ty.length=ws.length / 26:=by rw[show ty.length=ty.cps.toList.length by simp[Str.length],my,List.length_replicate]
   have wx:Lw tx:=λc hc=>by rw[mx] at hc;have:=List.eq_of_mem_replicate hc;omega
   have wy:Lw ty:=λc hc=>by rw[my] at hc;have:=List.eq_of_mem_replicate hc;omega
   have hL:Lw (pre++(⟨#[97+(tn.toNat+7 * ws.length) % 26]⟩:Str)++post++tx++ty) :=
    (((hL1.app (λc hc'=>by simp at hc';subst hc';exact qa)).app hL2).app wx).app wy
   have B9:(pre++(⟨#[97+(tn.toNat+7 * ws.length) % 26]⟩:Str)++post++tx++ty).length<=8/\1<=(pre++(⟨#[97+(tn.toNat+7 * ws.length) % 26]⟩:Str)++post++tx++ty).length:=by
    rw[cK.cJ,cK.cJ,cK.cJ,cK.cJ,cK.jF]
    omega
   have hcp:(pre++(⟨#[97+(tn.toNat+7 * ws.length) % 26]⟩:Str)++post++tx++ty).cps.toList=wl pre.cps.toList post.cps.toList tn.toNat ws.length 0:=by
    rw[k6,k6,k6,k6,mx,my]
    simp[wl]
   refine⟨_,U,_,U,_,U,_,U,by omega,?_⟩
   rw[yk]
   refine⟨_,U,_,_,U,U,by rw[cK.jF];omega,?_⟩
   refine⟨_,U,_,U,_,U,_,U,by omega,?_⟩
   rw[hpost]
   refine⟨_,_,U,U,by rw[cK.cJ,cK.jF];omega,?_⟩
   refine⟨_,U,_,_,U,U,(show (0:Int) < 2 by decide),?_⟩
   refine⟨_,_,U,U,ox,?_⟩
   rw[show Txt.mul (Str.ofString "x") (((ws.length+0:Nat):Int) % 2)=tx from hmx]
   refine⟨_,_,U,U,by rw[cK.cJ,cK.cJ,cK.jF];omega,?_⟩
   refine⟨_,U,_,_,U,U,⟨by decide,by decide⟩,?_⟩
   refine⟨_,_,U,U,oy,?_⟩
   rw[show Txt.mul (Str.ofString "y") (((ws.length+0:Nat):Int) / 26)=ty from hmy]
   refine⟨_,_,U,U,by rw[cK.cJ,cK.cJ,cK.cJ,cK.jF];omega,?_⟩
   generalize pre++(⟨#[97+(tn.toNat+7 * ws.length) % 26]⟩:Str)++post++tx++ty=wd at hL B9 hcp
   have hLq:Lw ("q":Str):=by decide+kernel
   have hq1:("q":Str).length=1:=rfl
   have hcq:(wd++("q":Str)).cps.toList=wl pre.cps.toList post.cps.toList tn.toNat ws.length 1:=by
    rw[k6,hcp]
    simp[wl]
    rfl
   have fin:∀ (u:Str) (a b:Sl) (e:Nat),Nm u->u.cps.toList=wl pre.cps.toList post.cps.toList tn.toNat ws.length e->N.nx ⟨[.dat (.eW d),.dat (.int m),.dat (.str cK.JE),.dat (.str core),.dat (.int at_'),.dat (.int tn),.own 0,a,b,.dat (.str u),.no],[some (.lst (ws.map D.str++[D.str u]))]⟩:=λu a b e hu he=>by
    refine hN _ ⟨ws++[u],a,b,.dat (.str u),λi z hz=>?_,?_,h3.snoc hu he,by simp⟩
    ·have:=h1 (i+1) z hz
     rw[this]
     simp
     omega
    ·rw[Tt]
     simp
     omega
   have nq:(ws.map D.str).length < sizeLine:=by
    rw[Tr]
    omega
   refine⟨_,U,?_⟩
   refine⟨_,.inr U,⟨U,U⟩,_,U,?_⟩
   refine aR (b':=qU (.str wd) (uU.map V.str)) U (λc1=>?_) λc1=>?_
   ·rw[fk] at c1
    have c1:=CN wd (of_decide_eq_true c1)
    refine⟨_,U,_,_,U,U,by omega,?_⟩
    refine⟨_,U,?_⟩
    refine⟨_,.inr U,⟨U,U⟩,_,U,?_⟩
    refine aR (b':=qU (.str (wd++("q":Str))) (qN.map V.str)) U (λc2=>?_) λc2=>?_
    ·rw[fk] at c2
     exact absurd (of_decide_eq_true c2) c1.2.1
    ·have nm:Nm (wd++("q":Str)):=⟨hL.app hLq,by rw[cK.cJ];omega,by rw[cK.cJ];omega,c1.1,c1.2.1⟩
     exact⟨0,_,U,U,U,_,U,_,U,_,_,U,U,nq,fin _ _ _ 1 nm hcq⟩
   ·rw[fk] at c1
    have c1:=of_decide_eq_false c1
    refine⟨_,U,?_⟩
    refine⟨_,.inr U,⟨U,U⟩,_,U,?_⟩
    refine aR (b':=qU (.str wd) (qN.map V.str)) U (λc2=>?_) λc2=>?_
    ·rw[fk] at c2
     have c2:=Dm wd (of_decide_eq_true c2)
     have nm:Nm (wd++("q":Str)):=⟨hL.app hLq,by rw[cK.cJ];omega,by rw[cK.cJ];omega,c2.1,c2.2.1⟩
     refine⟨_,U,_,_,U,U,by omega,?_⟩
     exact⟨0,_,U,U,U,_,U,_,U,_,_,U,U,nq,fin _ _ _ 1 nm hcq⟩
    ·rw[fk] at c2
     exact⟨0,_,U,U,U,_,U,_,U,_,_,U,U,nq,fin _ _ _ 0 ⟨hL,B9.2,B9.1,c1,of_decide_eq_false c2⟩ hcp⟩
  ·intro i x hx
   unfold fu at hx
   rw[Us] at hx
   obtain⟨j,hj,rfl⟩:=Up.mp hx
   obtain⟨_,e⟩:=Tw.mp hj
   simp at e
   subst e
   simp
  ·simp[fu]
def MO(d:Addr):VI:=λds R=>∃ ns ss:List Str,ds=[.eW d,.lst (ns.map .str),.lst (ss.map .str),.int 3]/\(3<=ns.length/\0 < ss.length/\ss.length<=100)/\∀ ps,Cd ns ss ps->R (eF ps)
theorem Js{d l:Addr}(d9:C4 P w K mg base bb aY 1 (cn K (aU d l) (fG d)))(F:Own K mg fi)(T:Txt K mg):C4 P w K mg base bb fi 2 (cn K (aU d l) (MO d)):=by
 refine F.d (nos:=0) kz (λds R h=>?_) λf bN A outer s H E M hr=>⟨_,(af (sS 4 kz.nd (jJ (DN.de (aN (aa ag (aa ag (aa ag (aa ag (aa (vd 3) ae))))))) (av hr d9 (aa (vd 0) (aa ag ae)))))
 (ah (aP (eK T.tuple (aa (DN.de (nC ["_law_k"] [1,2,0] (dG U T.range (aa (iD (yc U) LD U T.min (by decide+kernel) (aa (vd 4) (aa (vd 3) ae))) ae)) (λ_ _ _ _=>(gM 0 ["_law_k","_law_names","_law_some_here","_law_deal_here"])) (λ_ _ _ _=>bh)
 (λ_ _ _ _=>(aA (aa (jJ (vd 1) (vd 0)) (aa (jJ (vd 2) (av hr d9 (aa (vd 3) (aa (fY T.len (aa (vd 2) ae)) ae)))) ae)))))) ae))))),λds R h=>?_⟩
 ·obtain⟨ns,ss,rfl,_⟩:=h
  rfl
 ·obtain⟨ns,ss,rfl,⟨hn,hs0,LY⟩,q⟩:=h
  trivial
  refine⟨⟨by decide,by decide⟩,λr r0 r1=>?_⟩
  have hm:∃ m:Int,jQ [D.int 0,D.int 1,D.int 1,D.int 2,D.int 3] r=some (.int m)/\0<=m/\m<=3:=by
   have:r=0\/r=1\/r=2\/r=3\/r=4:=by omega
   rcases this with rfl | rfl | rfl | rfl | rfl
   ·exact⟨0,U,by decide,by decide⟩
   ·exact⟨1,U,by decide,by decide⟩
   ·exact⟨1,U,by decide,by decide⟩
   ·exact⟨2,U,by decide,by decide⟩
   ·exact⟨3,U,by decide,by decide⟩
  obtain⟨m,em,hm0,hm1⟩:=hm
  refine⟨_,_,_,U,U,em,?_⟩
  refine⟨_,U,_,U,?_⟩
  have e3:(if (3:Int) < m then 3 else m)=m:=if_neg (by omega)
  refine⟨_,_,U,?_⟩
  rw[e3]
  refine⟨m,U,⟨by omega,by omega⟩,?_⟩
  rw[ia]
  refine fS (λi:Nat=>D.int (i:Int)) pairD (λi p=>ns[i]?=some p.1/\p.2∈ss) _ (λi hi k hk=>?_) λps hps=>?_
  ·have zW:i < 3:=by have:=Vc.mp hi;omega
   obtain⟨x,hx,ex⟩:=lE (f:=D.str) (xs:=ns) (r:=(i:Int)) (by omega) (by omega)
   rw[U0] at hx
   refine⟨_,U,_,U,_,_,_,U,U,ex,?_⟩
   refine⟨_,U,_,U,_,U,_,.inl U,?_⟩
   refine⟨_,U,⟨by rw[Tr];omega,by rw[Tr];omega⟩,λr2 r20 r21=>?_⟩
   obtain⟨y,hy,ey⟩:=iZ (f:=D.str) (xs:=ss) r20 (by simpa using r21)
   refine⟨_,_,_,U,U,ey,?_⟩
   exact hk (x,y) _ ⟨hx,hy⟩ rfl
  ·refine⟨_,.inl U,?_⟩
   have hl:=f9 hps
   rw[U1] at hl
   refine q ps ⟨by omega,?_,λp hp=>?_⟩
   ·exact rD (λi y h=>h.1) hps
   ·obtain⟨i,_,h⟩:=fh hps p hp
    exact h.2
def PM(d:Addr):VI:=λds R=>∃ (ws:List Str) (most:Int),ds=[.eW d,.lst (ws.map .str),.int most]/\(ws.length=45/\ws.Nodup/\(∀ x∈ws,Nm x)/\1<=most/\most<=5)/\∀ ks,w6 ws ks->R (.lst (ks.map lI))
theorem IU{d l:Addr}(d9:C4 P w K mg base bb aY 1 (cn K (aU d l) (fG d)))(Mt:C4 P w K mg base bb fi 2 (cn K (aU d l) (MO d)))(F:Own K mg gC)(T:Txt K mg):C4 P w K mg base bb gC 3 (cn K (aU d l) (PM d)):=by
 refine F.d (nos:=5) ba (λds R h=>?_) λf bN A outer s H E M hr=>⟨_,(af (sN 0 3 ba.nd (aN ae))
 (af (iO (mi (ic (i:=4) ba.nd U U (ts:=["_law_k"]) (us:=[1]) ⟨U,U,U,U,U,U⟩ rfl (dG U T.range (aa (bC b4 eE ag (av hr d9 (aa (vd 0) (aa (vd 2) ae)))) ae)) (λ_ _ _ _=>(gM 0 ["_law_k","_law_words_here"])) (λ_ _ _ _=>bh)
 (λ_ _ _ _=>(jJ (vd 1) (vd 0))))))
 (af (sS 5 ba.nd (jJ (DN.de (aN (aa ag (aa ag ae)))) (av hr d9 (aa (vd 0) (aa ag ae)))))
 (af (sN 1 6 ba.nd (fE dE dB (DN.de (dP (vd 1) (bQ ag) cQ)) (DN.de (dP (vd 1) cQ (bQ ag)))))
 (af (sN 2 7 ba.nd (fE dE dB (DN.de (dP (vd 1) (bQ (bC gS eE ag (vd 5))) cQ)) (DN.de (dP (vd 1) cQ (bQ (bC gS eE ag (vd 5)))))))
 (af (sF (aI (vd 4)) (gN 8 ba.nd)
 (af (sN 3 9 ba.nd (aN ae))
 (af (sF (dG U T.range (aa (bC b4 eE ag (av hr d9 (aa (vd 0) (aa (jJ (DN.de (aN (aa ag (aa ag ae)))) (fj eP kc U T.int (by decide+kernel) (aa (gw bw cU (fY T.len (aa (vd 4) ae)) ag (ax _)) ae))) ae)))) ae)) (gN 10 ba.nd)
 (af (sS 11 ba.nd (jJ (DN.de (aN (aa (DN.de (fE dE dB (vd 4) (DN.de (aN (aa aw ae))))) (aa (DN.de (aN (aa aw ae))) ae)))) (fj eP kc U T.int (by decide+kernel) (aa (gw bw cU (vd 10) ag (ax _)) ae))))
 (ah (ph 9 (aa (aA (aa (wt UY UZ oF rV (pv 6) (aa ag ae)) (aa (av hr Mt (aa (vd 0) (aa (DN.de (dP (vd 1) (bQ ag) (bQ ag))) (aa (vd 11) (aa ag ae))))) ae))) ae)))))
 (af (sN 4 12 ba.nd (aN ae))
 (af (sF (dG U T.range (aa (av hr d9 (aa (vd 0) (aa (jJ (DN.de (aN (aa ag (aa ag ae)))) (fj eP kc U T.int (by decide+kernel) (aa (gw bw cU (fY T.len (aa (vd 4) ae)) ag (ax _)) ae))) ae))) ae)) (gN 10 ba.nd)
 (af (sS 13 ba.nd (av hr Mt (aa (vd 0) (aa (DN.de (dP (vd 1) (bQ ag) (bQ ag))) (aa (DN.de (fE dE dB (vd 4) (DN.de (aN (aa aw ae))))) (aa ag ae))))))
 (ah (ph 12 (aa (aA (aa (wt UY UZ oF rV (pv 7) (aa ag ae)) (aa (vd 13) (aa (jJ (DN.de (fE dE dB (vd 4) (DN.de (aN (aa aw ae))))) (av hr d9 (aa (vd 0) (aa (bC b4 eE (fY T.len (aa (vd 4) ae)) ag) ae)))) ae)))) ae)))))
 (ah (ph 3 (aa (aA (aa (jJ (DN.de (aN (aa aw (aa aw ae)))) (av hr d9 (aa (vd 0) (aa ag ae)))) (aa (vd 8) (aa (eK T.tuple (aa (mV (pv 9)) ae)) (aa (eK T.tuple (aa (mV (pv 12)) ae)) ae))))) ae))))))))
 (ah (aP (mV (pv 3)))))))))),λds R h=>?_⟩
 ·obtain⟨ns,ss,rfl,_⟩:=h
  rfl
 ·obtain⟨ws,most,rfl,⟨nq,hwn,hwm,hm0,hm1⟩,q⟩:=h
  trivial
  refine⟨⟨by omega,by omega⟩,λr r0 r1=>?_⟩
  refine⟨_,_,U,U,?_⟩
  refine⟨_,U,⟨by omega,by omega⟩,?_⟩
  rw[ia]
  refine fS (λi:Nat=>D.int (i:Int)) D.str (λi x=>ws[i]?=some x) _ (λi hi k hk=>?_) λns nJ=>?_
  ·have zW:i < 5:=by have:=Vc.mp hi;omega
   obtain⟨x,hx,ex⟩:=lE (f:=D.str) (xs:=ws) (r:=(i:Int)) (by omega) (by omega)
   rw[U0] at hx
   exact⟨_,U,_,U,_,_,_,U,U,ex,hk x _ hx U⟩
  have hnl:ns.length=(1+r).toNat:=by have:=f9 nJ;rwa [U1] at this
  have MQ:ns=ws.take ns.length:=by
   have:=rD (v:=id) (ns:=ws) (λi y h=>h) nJ
   simpa using this
  rw[TJ]
  trivial
  refine⟨⟨by decide,by decide⟩,λr2 r20 r21=>?_⟩
  have hsh:∃ m:Int,jQ [D.int 0,D.int 20] r2=some (.int m)/\(m=0\/m=20):=by
   have:r2=0\/r2=1:=by omega
   rcases this with rfl | rfl
   ·exact⟨0,U,.inl U⟩
   ·exact⟨20,U,.inr U⟩
  obtain⟨sh,esh,hsh⟩:=hsh
  refine⟨_,_,_,U,U,esh,?_⟩
  obtain⟨ML,eML,pML⟩:=vn (f:=D.str) (ws:=ws) (n:=4) (by decide) (by omega)
  obtain⟨AL,eAL,pAL⟩:=vn (f:=D.str) (ws:=ws) (n:=20 - sh) (by omega) (by omega)
  have hsz:=bq
  refine⟨_,U,_,U,_,U,_,U,_,U,_,U,_,_,U,U,?_,?_⟩
  ·rw[<- Tt,eML,Tr,pML.length_eq]
   omega
  rw[eML]
  refine⟨⟨U,U⟩,?_⟩
  refine⟨_,U,_,U,_,_,U,U,_,U,_,U,_,U,_,U,_,_,U,U,_,U,_,U,_,_,U,U,?_,?_⟩
  ·rw[<- Tt,eAL,Tr,pAL.length_eq]
   omega
  rw[eAL]
  refine⟨⟨U,U⟩,?_⟩
  refine⟨_,U,_,.inl U,?_⟩
  have e24:cutD (ws.map D.str) (some 24) (some 27)=((ws.drop 24).take 3).map D.str:=by rw[eB,nq];rfl
  have e27:cutD (ws.map D.str) (some 27) (some 30)=((ws.drop 27).take 3).map D.str:=by rw[eB,nq];rfl
  have mlL:ML.length=45:=by rw[pML.length_eq,nq]
  have alL:AL.length=45:=by rw[pAL.length_eq,nq]
  refine aV (λxs s=>∃ (ks:List Kd) (x8 x9 jV js gf hZ:Sl),((x8.pl=true/\x9.pl=true/\jV.pl=true)/\js.pl=true/\gf.pl=true/\hZ.pl=true)/\C2 ws ns ML AL ks/\xs=(ns.drop ks.length).map .str/\s=⟨[.dat (.eW d),.dat (.lst (ws.map .str)),.dat (.int most),.own 0,.dat (.lst (ns.map .str)),.dat (.int sh),.own 1,.own 2,x8,x9,jV,js,gf,hZ],[some (.lst (ks.map lI)),some (.lst ((ML.drop (fD ks).length).map .str)),some (.lst ((AL.drop (fw ks).length).map .str)),none,none]⟩) ?_ ?_ _ _ ⟨[],.no,.no,.no,.no,.no,.no,⟨⟨U,U,U⟩,U,U,U⟩,C2.nil,U,U⟩
  ·rintro s ⟨ks,x8,x9,jV,js,gf,hZ,⟨⟨h8,h9,h10⟩,h11,h12,h13⟩,hI,hx,rfl⟩
   have hkl:ks.length=ns.length:=by
    have:=congrArg List.length hx
    simp at this
    have:=hI.kl
    omega
   exact .inr ⟨_,_,U,U,q ks ⟨ns,ML,AL,MQ,by omega,by omega,pML,pAL,hkl,hI⟩⟩
  ·rintro x xs s N ⟨ks,x8,x9,jV,js,gf,hZ,⟨⟨h8,h9,h10⟩,h11,h12,h13⟩,hI,hx,rfl⟩ hN hE_
   have hkl:ks.length < ns.length:=by
    have:=congrArg List.length hx
    simp at this
    omega
   rw[UN hkl,TC] at hx
   injection hx with hx1 hx2
   subst hx1
   refine⟨⟨U,(show noRef 3 5 [jV,js,gf,hZ]=true by rw[cX h10,cX h11,cX h12,cX h13];rfl)⟩,?_⟩
   trivial
   have hwide:∃ m:Int,jQ [D.int 3,D.int 5] (if decide (V.int (ns.map D.str).length=V.int 1) then 1 else 0)=some (.int m)/\1<=m/\m<=5:=by
    split
    ·exact⟨5,U,by decide,by decide⟩
    ·exact⟨3,U,by decide,by decide⟩
   obtain⟨mw,emw,hmw0,hmw1⟩:=hwide
   refine .inr ⟨_,U,?_⟩
   refine⟨_,_,_,U,U,emw,?_⟩
   refine⟨_,U,⟨by omega,by omega⟩,λr3 r30 r31=>?_⟩
   refine⟨_,_,U,U,?_⟩
   refine⟨_,U,⟨by omega,by omega⟩,?_⟩
   have hML:(fD ks).length+5 < ML.length:=by have:=hI.mb;omega
   have hAL:(fw ks).length+5 < AL.length:=by have:=hI.ab;omega
   generalize hnm:(fD ks).length=nm at hML
   generalize hna:(fw ks).length=na at hAL
   generalize hn3:(1+r3).toNat=n3
   have hn30:1<=n3:=by omega
   have hn35:n3<=5:=by omega
   refine aV (λxs s=>∃ (ms:List fZ) (jV js:Sl),(jV.pl=true/\js.pl=true)/\HL ws ns (ML.drop nm) ms/\wA xs ms.length n3/\s=⟨[.dat (.eW d),.dat (.lst (ws.map .str)),.dat (.int most),.own 0,.dat (.lst (ns.map .str)),.dat (.int sh),.own 1,.own 2,.dat (.str ns[ks.length]),.own 3,jV,js,gf,hZ],[some (.lst (ks.map lI)),some (.lst ((ML.drop (nm+ms.length)).map .str)),some (.lst ((AL.drop na).map .str)),some (.lst (ms.map bW)),none]⟩) ?_ ?_ _ _ ⟨[],jV,js,⟨h10,h11⟩,HL.nil,wA.init _,U⟩
   ·rintro s ⟨ms,ua,u4,⟨g10,g11⟩,hM,hR,rfl⟩
    have hR:=hR.nil
    refine⟨⟨U,(show noRef 4 2 [ua,u4,gf,hZ]=true by rw[cX g10,cX g11];show noRef 4 2 [hZ]=true;rw[cX h13];rfl)⟩,?_⟩
    trivial
    have hwide:∃ m:Int,jQ [D.int 4,D.int 6] (if decide (V.int (ns.map D.str).length=V.int 1) then 1 else 0)=some (.int m)/\1<=m/\m<=6:=by
     split
     ·exact⟨6,U,by decide,by decide⟩
     ·exact⟨4,U,by decide,by decide⟩
    obtain⟨mw2,emw2,hmw20,hmw21⟩:=hwide
    refine .inr ⟨_,U,?_⟩
    refine⟨_,_,_,U,U,emw2,?_⟩
    refine⟨_,U,⟨by omega,by omega⟩,λr4 r40 r41=>?_⟩
    refine⟨_,U,⟨by omega,by omega⟩,?_⟩
    generalize hn4:r4.toNat=n4
    have hn45:n4<=5:=by omega
    refine aV (λxs s=>∃ (as:List fB) (ua ED:Sl),(ua.pl=true/\ED.pl=true)/\GJ ws ns (AL.drop na) as/\wA xs as.length n4/\s=⟨[.dat (.eW d),.dat (.lst (ws.map .str)),.dat (.int most),.own 0,.dat (.lst (ns.map .str)),.dat (.int sh),.own 1,.own 2,.dat (.str ns[ks.length]),.own 3,ua,u4,.own 4,ED],[some (.lst (ks.map lI)),some (.lst ((ML.drop (nm+ms.length)).map .str)),some (.lst ((AL.drop (na+as.length)).map .str)),some (.lst (ms.map bW)),some (.lst (as.map bP))]⟩) ?_ ?_ _ _ ⟨[],ua,hZ,⟨g10,h13⟩,GJ.nil,wA.init _,U⟩
    ·rintro s ⟨as,z10,z13,⟨f10,f13⟩,hA,hR3,rfl⟩
     have hR3:=hR3.nil
     trivial
     refine⟨U,?_⟩
     refine⟨_,U,?_⟩
     refine⟨_,U,⟨by decide,by decide⟩,λr5 r50 r51=>?_⟩
     obtain⟨sd,esd⟩:=D6 r50 r51
     refine⟨_,_,_,U,U,esd,?_⟩
     refine⟨_,U,?_⟩
     refine .inr ⟨_,_,U,U,?_⟩
     refine⟨_,.inl U,?_⟩
     refine .inr ⟨_,_,U,U,?_⟩
     refine⟨_,.inl U,?_⟩
     refine⟨_,U,_,_,U,U,by rw[Tr];omega,?_⟩
     have hkd:C2 ws ns ML AL (ks++[⟨sd,ns[ks.length],ms,as⟩]):=hI.snoc ⟨?_,?_,?_,hM.mp,hM.mf,hA.ap⟩ (Ud hkl) (by rw[hnm];exact hM.nm) (by rw[hna];exact hA.nm)
     refine hN _ ⟨ks++[⟨sd,ns[ks.length],ms,as⟩],.dat (.str ns[ks.length]),.dat (.lst (ms.map bW)),(je 4 (.lst (as.map bP)) (je 3 (.lst (ms.map bW)) z10)),(je 4 (.lst (as.map bP)) (je 3 (.lst (ms.map bW)) u4)),.dat (.lst (as.map bP)),(je 4 (.lst (as.map bP)) (je 3 (.lst (ms.map bW)) z13)),⟨⟨U,U,b9 (b9 f10)⟩,b9 (b9 g11),U,b9 (b9 f13)⟩,hkd,?_,?_⟩
     ·rw[Tt]
      exact hx2
     ·rw[i8,iR,Tt,Tt,Tr,Tr,hnm,hna,Tx]
      rfl
     ·intro e
      have e:ms=[]:=e
      rw[e] at hR
      simp at hR
      omega
     ·show ms.length<=5
      omega
     ·show as.length<=5
      omega
    ·rintro x xs s N3 ⟨as,z10,z13,⟨f10,f13⟩,hA,hR3,rfl⟩ hN3 hE_3
     obtain⟨rfl,hj,hR4⟩:=hR3.cons
     trivial
     refine⟨by simp;omega,?_⟩
     refine⟨(ws.drop 27).take 3,ns++gh,by rw[<- e27,List.map_append]<;>rfl,⟨by simp;omega,by simp,by simp;omega⟩,λps hps=>?_⟩
     obtain⟨nx,p1,p2,p3,p4,p5⟩:=J9 (L:=AL) (n:=na) (j:=as.length) (by omega)
     refine⟨4,_,U,U,U,?_⟩
     refine⟨2,_,U,U,U,_,U,?_⟩
     refine⟨_,_,_,_,U,U,⟨by decide,by decide⟩,p3,p4,?_⟩
     rw[p5]
     refine⟨_,U,?_⟩
     refine⟨_,U,_,_,U,U,by simp;omega,?_⟩
     refine⟨_,U,_,U,_,.inl U,_,_,U,U,_,U,⟨by omega,by simp;omega⟩,λr6 r60 r61=>?_⟩
     obtain⟨rs,hrs,ers⟩:=iZ (f:=D.str) (xs:=ns++gh) r60 (by simpa using r61)
     rw[Tx] at ers
     refine⟨_,_,_,U,U,ers,?_⟩
     refine⟨_,U,_,_,U,U,by rw[Tr];omega,?_⟩
     refine hN3 _ ⟨as++[⟨nx,ps,rs⟩],.dat (.int as.length),.dat (eF ps),⟨U,U⟩,hA.snoc p2 hps hrs,by rw[Tt];exact hR4,?_⟩
     rw[Tx,Tt]
     rfl
   ·rintro x xs s N2 ⟨ms,ua,u4,⟨g10,g11⟩,hM,hR,rfl⟩ hN2 hE_2
    obtain⟨rfl,hj,hR2⟩:=hR.cons
    trivial
    refine⟨by simp;omega,?_⟩
    refine⟨_,U,⟨U,U,U⟩,?_⟩
    refine .inr ⟨_,U,?_⟩
    have hSS:∃ SS:List Str,jQ [D.lst (ns.map D.str++[D.str "number"]),D.lst [D.str "number"]] (if decide (V.int (ms.length:Nat)=V.int 0) then 1 else 0)=some (.lst (SS.map D.str))/\(∀ x∈SS,x∈ns++gh)/\(ms=[]->SS=gh)/\0 < SS.length/\SS.length<=100:=by
     by_cases h0:ms=[]
     ·subst h0
      exact⟨gh,U,λx hx=>Ub _ hx,λ_=>rfl,by decide,by decide⟩
     ·have va:¬ (V.int (ms.length:Nat)=V.int 0):=λe=>by
       injection e with e
       exact h0 (Ut (by omega))
      refine⟨ns++gh,?_,λx hx=>hx,λe=>absurd e h0,by simp,by simp;omega⟩
      rw[decide_eq_false va,Tx]
      rfl
    obtain⟨SS,eSS,hSS1,hSS2,hSS3,hSS4⟩:=hSS
    refine⟨_,_,_,U,U,eSS,?_⟩
    obtain⟨nx,p1,p2,p3,p4,p5⟩:=J9 (L:=ML) (n:=nm) (j:=ms.length) (by omega)
    refine⟨3,_,U,U,U,?_⟩
    refine⟨1,_,U,U,U,_,U,?_⟩
    refine⟨_,_,_,_,U,U,⟨by decide,by decide⟩,p3,p4,?_⟩
    rw[p5]
    refine⟨_,U,_,U,_,U,_,U,_,U,_,U,?_⟩
    refine⟨(ws.drop 24).take 3,SS,by rw[<- e24],⟨by simp;omega,hSS3,hSS4⟩,λps hps=>?_⟩
    refine⟨_,U,_,_,U,U,by rw[Tr];omega,?_⟩
    refine hN2 _ ⟨ms++[⟨nx,ps⟩],.dat (.int ms.length),.dat (.lst (SS.map .str)),⟨U,U⟩,hM.snoc p2 (hps.sub hSS1) (λh p hp=>?_),by rw[Tt];exact hR2,?_⟩
    ·have:=hps.2.2 p hp
     rw[hSS2 h] at this
     exact TL.mp this
    ·rw[Tx,Tt]
     rfl
def Mf(d:Addr):VI:=λds R=>∃ (W:er) (sc:List (Str×Str)) (m:Nat),ds=[.eW d,dZ W,.lst (sc.map pairD),.int m]/\(jG W/\mR W sc/\m<=3/\sc.length+m<=15)/\∀ ns:List Str,ns.length=m->vU W sc ns->R (.tup (ns.map .str))
theorem JG{d l:Addr}(d9:C4 P w K mg base bb aY 1 (cn K (aU d l) (fG d)))(F:Own K mg d6)(T:Txt K mg):C4 P w K mg base bb d6 2 (cn K (aU d l) (Mf d)):=by
 refine F.d (nos:=0) ip (λds R h=>?_) λf bN A outer s H E M hr=>⟨_,(af (iO (mi (ic (i:=4) ip.nd U U (ts:=["_law_x"]) (us:=[2]) ⟨U,U,U,U,U,U⟩ rfl (aI (dw (aW (b7 hr) (DE.pe (vd 1)) (DE.pe aw) (λ_ _=>rfl)))) (λ_ _ _ _=>(gM 0 ["_law_x","_law_scope"])) (λ_ _ _ _=>eX (aB eC okIn (vd 0) (DN.de (nC ["_law_pair"] [] (aI (vd 1)) (λ_ _ _ _=>(gM 0 ["_law_pair"])) (λ_ _ _ _=>bh)
 (λ_ _ _ _=>(cO (vd 0) ag)))) U))
 (λ_ _ _ _=>(vd 0)))))
 (af (bZ (DW.dt (ik (aB bw cU (av hr d9 (aa (vd 0) (aa ag ae))) ag (ax _)) (iC (aB Eo mP (fY T.len (aa (vd 4) ae)) (vd 3) (ax _)))))
 (af (sS 5 ip.nd (av hr d9 (aa (vd 0) (aa (bC b4 eE (fY T.len (aa (vd 4) ae)) ag) ae))))
 (ah (aP (eK T.tuple (aa (DN.de (dP (DN.de (fE dE dB (DN.de (dP (vd 4) (bQ (vd 5)) cQ)) (DN.de (dP (vd 4) cQ (bQ (vd 5)))))) cQ (bQ (vd 3)))) ae)))))
 aJ)
 (ah (aP (eK T.tuple (aa (DN.de (nC ["_law_k"] [1,2] (dG U T.range (aa (vd 3) ae)) (λ_ _ _ _=>(gM 0 ["_law_k","_law_world","_law_scope"])) (λ_ _ _ _=>bh)
 (λ_ _ _ _=>(jJ (dw (aW (b7 hr) (DE.pe (vd 1)) (DE.pe aw) (λ_ _=>rfl))) (bC b4 eE (fY T.len (aa (vd 2) ae)) (vd 0)))))) ae)))))),λds R h=>?_⟩
 ·obtain⟨W,sc,m,rfl,_⟩:=h
  rfl
 ·obtain⟨W,sc,m,rfl,⟨cC,sok,hm,hl⟩,q⟩:=h
  refine⟨_,U,?_⟩
  refine kf ⟨_,U,_,.inl U,?_⟩
  refine aZ D.str D.str (λx=>!decide (x∈sc.map (·.1))) _ (λx hx kk N h1 h2=>?_) ?_
  ·refine⟨_,U,_,U,_,.inl U,?_⟩
   refine aH pairD (λp=>D.str p.1) _ (λp hp k2 hk2=>⟨_,U,_,_,_,U,U,U,hk2 _ U⟩) ?_
   rw[TJ,show sc.map (λp=>D.str p.1)=(sc.map (·.1)).map D.str by rw[T9];rfl]
   refine⟨_,.inl U,⟨U,jI⟩,_,U,?_⟩
   refine aR (b':=!decide (x∈sc.map (·.1))) (congrArg (!·) nv) (λe=>?_) λe=>?_
   ·exact⟨_,U,h1 e _ U⟩
   ·exact h2 e _ U
  ·rw[TJ]
   have hvars:Bt (jX G3 (jb (oA ["_law_k"].length [1,2] (Fo (jb (yQ 3) kI)) (sy 0) cq (xW Fy (Fh (yQ 1) (Hd (D.str "vars"))) (xW (OG HAdd.hAdd) (jX C9 (jb (yQ 2) kI)) (yQ 0)))) kI)) { nx:=λ_=>R D.bD,rt:=R } ⟨[.dat (.eW d),.dat (dZ W),.dat (.lst (sc.map pairD)),.dat (.int m),.dat (.lst ((W.heads.filter λx=>!decide (x∈sc.map (·.1))).map D.str)),.no],[]⟩:=by
    refine⟨_,U,m,U,⟨by omega,by omega⟩,?_⟩
    rw[U0,ia]
    refine fS (λi:Nat=>D.int (i:Int)) D.str (λk x=>W.vars[sc.length+k]?=some x) _ (λi hi k hk=>?_) λns nJ=>?_
    ·have zW:=Vc.mp hi
     have hv:=cC.vl
     obtain⟨x,hx,ex⟩:=lE (f:=D.str) (xs:=W.vars) (r:=((sc.map pairD).length:Int)+(i:Int)) (by omega) (by rw[Tr];omega)
     refine⟨_,U,?_⟩
     refine g6 ⟨_,U,?_⟩
     refine⟨_,U,_,.inl U,_,U,_,_,U,U,?_⟩
     refine⟨_,_,_,U,U,ex,hk x _ ?_ U⟩
     rw[Tr] at hx
     rwa [show ((sc.length:Int)+(i:Int)).toNat=sc.length+i by omega] at hx
    ·refine⟨_,.inl U,?_⟩
     exact q ns (by have:=f9 nJ;rwa [U1] at this) (vU.vars cC sok nJ)
   refine⟨_,U,_,U,⟨by decide,by decide⟩,λr r0 r1=>?_⟩
   refine⟨⟨U,U,U⟩,_,U,?_⟩
   refine aR U (λ_=>?_) λ_=>?_
   rotate_left
   ·exact hvars
   refine⟨_,U,_,.inl U,_,U,_,_,U,U,_,U,?_⟩
   refine aR U (λhge=>?_) λ_=>?_
   rotate_left
   ·exact hvars
   generalize hsm:(W.heads.filter λx=>!decide (x∈sc.map (·.1)))=sm at hge
   have hsl:sm.length<=6:=by
    rw[<- hsm,<- cC.hl]
    exact UL _ _
   have hge:m<=sm.length:=by simpa using hge
   have hsz:=bq
   refine⟨_,U,_,U,_,.inl U,_,_,U,U,_,U,⟨by omega,by simp;omega⟩,λa a0 a1=>?_⟩
   obtain⟨al,eal,pal⟩:=vn (f:=D.str) (ws:=sm) (n:=a) a0 (by simp at a1;omega)
   refine⟨_,U,_,U,_,U,_,U,_,U,_,U,_,U,_,U,_,_,U,U,?_,?_⟩
   ·rw[<- Tt,eal,Tr,pal.length_eq]
    omega
   rw[eal]
   refine⟨_,U,_,U,_,U,_,.inl U,?_⟩
   have hal:al.length=sm.length:=pal.length_eq
   have e9:cutD (al.map D.str) none (some (m:Int))=(al.take m).map D.str:=by
    rw[eB]
    congr 1
    have e1:HT.ck al.length 0 none=0:=rfl
    have e2:HT.ck al.length al.length (some (m:Int))=m:=by
     unfold HT.ck
     simp only[]
     repeat' split
     all_goals omega
    rw[e1,e2,List.drop_zero,Nat.sub_zero]
   show R (.tup (cutD (al.map D.str) none (some (m:Int))))
   rw[e9]
   exact q _ (by rw[UG];omega) (vU.heads cC (by rw[hsm];exact pal) m)
def PB(d:Addr):Nat->VI
 | 0=>λ_ _=>False
 | n+1=>λds R=>∃ (W:er) (sc:List (Str×Str)) (k:Str),ds=[.eW d,dZ W,.lst (sc.map pairD),.str k]/\(jG W/\mR W sc/\wI W k/\(n=0->k="number"))/\∀ t:Tm,Ty W sc k t->t.lf (n+1) k->R (toD t)
theorem EU{d l:Addr}(d9:C4 P w K mg base bb aY 1 (cn K (aU d l) (fG d)))(ID:Own K mg iA)(T:Txt K mg):∀ n,C4 P w K mg base bb iA (n+1) (cn K (aU d l) (PB d n))
 | 0=>ID.c λ_ _ _=>lh
 | n+1=>by
  have Mq:=EU d9 ID T n
  refine ID.c λfLe fdLe F_=>?_
  refine KQ (nos:=0) F_ iW (λds R h=>?_) λbN A outer s H E M hr=>⟨_,(af (iO (mi (ic (i:=4) iW.nd U U (ts:=["_law_x","_law_other"]) (us:=[3]) ⟨U,U,U,U,U,U⟩ rfl (aI (vd 2)) (λ_ _ _ _=>(bI (m:=2) U (aq (gM 0 ["_law_x","_law_other","_law_kind"]) (aq (gM 1 ["_law_x","_law_other","_law_kind"]) bH)))) (λ_ _ _ _=>eX (aB bw cU (vd 1) (vd 2) (ax _)))
 (λ_ _ _ _=>(vd 0)))))
 (af (bZ (DW.dt (ik (aB (FN (nB hr)) ud (vd 4) (DN.de (aN ae)) (ax _)) (iC (aB jW mP (av hr d9 (aa (vd 0) (aa ag ae))) ag (ax _)))))
 (ah (aP (aA (aa aw (aa (jJ (vd 4) (iD (lP U) EO U T.max PyProof.Rows.boot_max (aa (av hr d9 (aa (vd 0) (aa (fY T.len (aa (vd 4) ae)) ae))) (aa (av hr d9 (aa (vd 0) (aa (fY T.len (aa (vd 4) ae)) ae))) ae)))) ae)))))
 aJ)
 (af (bZ (aB bw cU (vd 3) aw (ax _))
 (ah (aP (aA (aa aw (aa (av hr d9 (aa (vd 0) (aa (jJ (DN.de (aN (aa ag (aa ag (aa ag ae))))) (av hr d9 (aa (vd 0) (aa ag ae)))) ae))) ae)))))
 aJ)
 (af (sS 5 iW.nd (jJ (DN.de (nC ["_law_one"] [3] (aI (dw (aW (b7 hr) (DE.pe (vd 1)) (DE.pe aw) (λ_ _=>rfl)))) (λ_ _ _ _=>(gM 0 ["_law_one","_law_kind"])) (λ_ _ _ _=>eX (aB bw cU (cO (vd 0) ag) (vd 1) (ax _)))
 (λ_ _ _ _=>(cO (cO (vd 0) ag) ag)))) ag))
 (ah (aP (aA (aa aw (aa (cO (vd 5) ag) (aa (eK T.tuple (aa (DN.de (nC ["_law_field"] [0,1,2] (aI (cO (vd 5) ag)) (λ_ _ _ _=>(gM 0 ["_law_field","_law_deal_here","_law_world","_law_scope"])) (λ_ _ _ _=>bh)
 (λ_ _ _ _=>(av hr Mq (aa (vd 1) (aa (vd 2) (aa (vd 3) (aa aw ae)))))))) ae)) ae)))))))))),λds R h=>?_⟩
  ·obtain⟨W,sc,k,rfl,_⟩:=h
   rfl
  ·obtain⟨W,sc,k,rfl,⟨cC,sok,hk,hk0⟩,q⟩:=h
   refine⟨_,U,_,.inl U,?_⟩
   refine aZ pairD (λp=>D.str p.1) (λp=>decide (p.2=k)) _ (λp hp kk N h1 h2=>?_) ?_
   ·refine⟨_,U,U,_,_,U,_,_,U,U,?_⟩
    refine⟨_,U,_,U,⟨U,U,U⟩,_,U,?_⟩
    exact aR (b':=decide (p.2=k)) dM (λe=>⟨_,U,h1 e _ U⟩) λe=>h2 e _ U
   ·rw[TJ]
    refine⟨_,U,⟨cg λp hp=>?_,U,.inr (by decide)⟩,_,U,?_⟩
    ·exact (sok.nm cC p ((UJ.mp hp).1)).ok
    refine' jn ?hrest λhrest=>?main
    case main =>
     by_cases how:sc.filter (λp=>decide (p.2=k))=[]
     ·exact nk (by rw[how];rfl) hrest
     have hol:0 < (sc.filter λp=>decide (p.2=k)).length:=US.mpr how
     have hol2:(sc.filter λp=>decide (p.2=k)).length<=15:=TU (UL _ _) sok.len
     refine jD ?_ ?_
     ·obtain⟨p0,r0,e⟩:=Ur how
      rw[e]
      rfl
     refine⟨_,U,_,U,⟨by decide,by decide⟩,λr r0 r1=>?_⟩
     refine⟨_,_,U,U,_,U,?_⟩
     refine aR U (λ_=>?_) λ_=>hrest
     refine⟨_,U,?_⟩
     refine⟨_,U,_,U,_,.inl U,_,U,⟨by rw[Tr];omega,by rw[Tr];omega⟩,λa a0 a1=>?_⟩
     refine⟨_,U,_,U,_,.inl U,_,U,⟨by rw[Tr];omega,by rw[Tr];omega⟩,λb b0 b1=>?_⟩
     refine⟨_,_,U,?_⟩
     rw[Tr] at a1 b1
     obtain⟨p,hp,ep⟩:=iZ (f:=λp:Str×Str=>D.str p.1) (xs:=sc.filter λp=>decide (p.2=k)) (r:=if a < b then b else a) (by split<;>omega) (by split<;>omega)
     refine⟨_,_,_,U,U,ep,?_⟩
     obtain⟨hp1,hp2⟩:=UJ.mp hp
     have hp2:p.2=k:=by simpa using hp2
     exact q (.node (.nm p.1) []) (Ty.mk (.nm (hp2▸hp1)) gj.nil) xc
    case hrest =>
     refine⟨_,U,⟨U,U,U⟩,_,U,?_⟩
     refine aR (b':=decide (k="number")) dM (λe=>?_) λe=>?_
     ·have e:k="number":=by simpa using e
      refine⟨_,U,_,U,_,U,⟨by decide,by decide⟩,λr r0 r1=>?_⟩
      have h3:∃ m:Int,jQ [D.int 3,D.int 10,D.int 1000000] r=some (.int m)/\1<=m/\m<=1000000:=by
       have:r=0\/r=1\/r=2:=by omega
       rcases this with rfl | rfl | rfl
       ·exact⟨3,U,by decide,by decide⟩
       ·exact⟨10,U,by decide,by decide⟩
       ·exact⟨1000000,U,by decide,by decide⟩
      obtain⟨m,em,hm0,hm1⟩:=h3
      refine⟨_,_,_,U,U,em,?_⟩
      refine⟨_,U,⟨by omega,by omega⟩,λi i0 i1=>?_⟩
      exact q (.node (.num i) []) (e▸Ty.mk (.num i0 (by omega)) gj.nil) xc
     ·have e:k≠"number":=by simpa using e
      obtain⟨kd,hkd,hmk,hnm,nn,zc⟩:=kinds_of cC hk e
      obtain⟨m0,mr,hms⟩:=Ur hmk
      refine⟨_,U,?_⟩
      refine cR ⟨_,U,_,.inl U,?_⟩
      refine aZ lI (λk=>(k.bj.map bW).headD .bD) (λx=>decide (x.name=k)) _ (λx hx kk N h1 h2=>?_) ?_
      ·refine⟨_,U,_,_,_,U,U,U,_,U,⟨U,U,U⟩,_,U,?_⟩
       refine aR (b':=decide (x.name=k)) dM (λe=>?_) λe=>h2 e _ U
       have ex:x=kd:=sL cC hx hkd (by rw[hnm];simpa using e)
       subst ex
       refine⟨_,U,_,_,_,U,U,U,?_⟩
       have h1':=h1 e
       rw[hms] at h1' ⊢
       exact⟨_,_,_,U,U,bR,h1' _ U⟩
      rw[zc,List.replicate_succ,TC,TJ,hms]
      refine⟨_,_,_,U,U,bR,?_⟩
      obtain⟨n',rfl⟩:∃ n',n=n'+1:=⟨n - 1,by have:=mt hk0 e;omega⟩
      refine⟨_,U,_,_,_,U,U,U,?_⟩
      refine⟨_,U,_,_,_,U,U,U,_,.inr U,?_⟩
      refine fS pairD toD (λp t=>Ty W sc "number" t/\t.lf (n'+1) "number") _ (λp hp k hk=>?_) λts hts=>?_
      ·exact⟨_,U,_,U,_,U,W,sc,"number",U,⟨cC,sok,.inl U,λ_=>rfl⟩,λt ht hd=>hk t _ ⟨ht,hd⟩ rfl⟩
      ·refine⟨_,.inl U,?_⟩
       have hm0:m0∈kd.bj:=by rw[hms];exact Tu
       have:=q (.node (.mk m0.name) ts) (hnm▸Ty.mk (.mk hkd hm0) ?_) ?_
       ·rw[toD,toDs_map] at this
        exact this
       ·have hf:=cC.ft kd hkd m0 mr hms
        refine vf hts λp hp t ht=>?_
        rw[hf p hp]
        exact ht.1
       ·refine Co e (by have:=f9 hts;have:=(cC.mo kd hkd m0 hm0).2.1;omega) λt ht=>?_
        obtain⟨_,_,h⟩:=fh hts t ht
        exact h.2
def K5(d:Addr):Nat->VI
 | 0=>λ_ _=>False
 | n+1=>λds R=>∃ (W:er) (sc:List (Str×Str)) (k:Str) (room:Int),ds=[.eW d,dZ W,.lst (sc.map pairD),.str k,.int room]/\(jG W/\(∀ k∈W.kinds,k.bj≠[])/\mR W sc/\wI W k/\0<=room/\room<=n+1)/\∀ t:Tm,Ty W sc k t->t.rm (n+2) room.toNat->R (toD t)
def OT(d:Addr):Nat->VI
 | 0=>λ_ _=>False
 | n+1=>λds R=>∃ (W:er) (sc:List (Str×Str)) (ks:List Str) (room:Int),ds=[.eW d,dZ W,.lst (sc.map pairD),.lst (ks.map .str),.int room]/\(jG W/\(∀ k∈W.kinds,k.bj≠[])/\mR W sc/\(∀ k∈ks,wI W k)/\ks.length<=100/\0<=room/\room<=n+1)/\∀ (ts:List Tm) (q:Nat),gj W sc (ks.map λk=>([],k)) ts->(∀ t∈ts,t.rm (n+2) q)->ts.length * q<=room.toNat/\q<=room.toNat->R (.tup (ts.map toD))
theorem LP{d l:Addr}{n lv:Nat}(uk:C4 P w K mg base bb d4 lv (cn K (aU d l) (K5 d n)))(F:Own K mg g0)(T:Txt K mg):C4 P w K mg base bb g0 (lv+1) (cn K (aU d l) (OT d n)):=by
 refine F.c λf fd F=>?_
 cases n with
 | zero=>exact lh
 | succ n =>
 refine KQ (nos:=0) F vY (λds R h=>?_) λbN A outer s H E M hr=>⟨_,(ah (aP (eK T.tuple (aa (DN.de (nC ["_law_kind"] [0,1,2,4,3] (aI (vd 3)) (λ_ _ _ _=>(gM 0 ["_law_kind","_law_deal_here","_law_world","_law_scope","_law_room","_law_some_here"])) (λ_ _ _ _=>bh)
 (λ_ _ _ _=>(av hr uk (aa (vd 1) (aa (vd 2) (aa (vd 3) (aa (vd 0) (aa (bC dh yX (vd 4) (iD (lP U) EO U T.max PyProof.Rows.boot_max (aa ag (aa (fY T.len (aa (vd 5) ae)) ae)))) ae))))))))) ae)))),λds R h=>?_⟩
 ·obtain⟨W,sc,ks,room,rfl,_⟩:=h
  rfl
 ·obtain⟨W,sc,ks,room,rfl,⟨cC,hmk,sok,hks,hl,h0,h1⟩,q⟩:=h
  have hc:∃ m:Nat,(if ((ks.map D.str).length:Int) > 1 then ((ks.map D.str).length:Int) else 1)=(m:Int)/\1<=m/\m<=100/\ks.length<=m:=by
   rw[Tr]
   split
   ·exact⟨ks.length,U,by omega,hl,TB _⟩
   ·exact⟨1,U,by decide,by decide,by omega⟩
  obtain⟨m,em,hm0,hm1,hm2⟩:=hc
  refine⟨_,U,_,.inl U,?_⟩
  refine fS D.str toD (λk t=>Ty W sc k t/\t.rm (n+2) (room / m).toNat) _ (λk hk kk hkk=>?_) λts hts=>?_
  ·refine⟨_,U,_,U,_,U,_,U,_,U,?_⟩
   refine⟨_,U,_,.inl U,_,_,U,?_⟩
   rw[em]
   refine⟨_,_,U,U,⟨by omega,by omega⟩,?_⟩
   refine⟨W,sc,k,room / m,U,⟨cC,hmk,sok,hks k hk,Vq h0 (by omega),?_⟩,λt ht hd=>hkk t _ ⟨ht,hd⟩ rfl⟩
   exact Int.le_trans (VD _ h0) h1
  ·refine⟨_,.inl U,?_⟩
   refine q ts (room / m).toNat (vf hts λk _ t ht=>ht.1) (λt ht=>?_) ?_
   ·obtain⟨_,_,h⟩:=fh hts t ht
    exact h.2
   ·have Cb:=f9 hts
    have e0:=Vq h0 (show (0:Int)<=m by omega)
    have e1:=Int.ediv_mul_le room (show (m:Int)≠0 by omega)
    have e2:=VD (m:Int) h0
    refine⟨?_,by omega⟩
    obtain⟨q',hq'⟩:∃ q':Nat,room / m=q':=⟨(room / m).toNat,by omega⟩
    rw[hq'] at e1 ⊢
    rw[U0,<- show ks.length=ts.length by omega]
    have e3:ks.length * q'<=m * q':=Vi _ hm2
    rw[<- Int.natCast_mul,Nat.mul_comm q'] at e1
    omega
def Jq(d:Addr)(n:Nat):VI:=λds R=>∃ (W:er) (sc:List (Str×Str)) (k:Str) (room:Int),ds=[.eW d,dZ W,.lst (sc.map pairD),.str k,.int room]/\(jG W/\(∀ k∈W.kinds,k.bj≠[])/\mR W sc/\wI W k/\sc.length<=12/\2<=room/\room<=n+1)/\R .bD/\∀ t:Tm,Ty W sc k t->t.rm (n+2) room.toNat->R (toD t)
def A8(c:Kd×fB):D:=.tup [.str c.1.name,.str c.2.name,eF c.2.ps]
theorem KP{d l:Addr}(d9:C4 P w K mg base bb aY 1 (cn K (aU d l) (fG d))){n lv:Nat}(IL:C4 P w K mg base bb g0 lv (cn K (aU d l) (OT d n)))(F:Own K mg jA)(T:Txt K mg)(Ms:1<=lv):C4 P w K mg base bb jA (lv+1) (cn K (aU d l) (Jq d n)):=by
 refine F.d (nos:=1) cF (λds R h=>?_) λf bN A outer s H E M hr=>⟨_,(af (sN 0 5 cF.nd (aN ae))
 (af (sF (aI (dw (aW (b7 hr) (DE.pe (vd 1)) (DE.pe aw) (λ_ _=>rfl)))) (bI (m:=4) U (aq (gN 6 cF.nd) (aq (fA (cT (i:=7) cF.nd U (Or.inr U)) (by decide)) (aq (gN 8 cF.nd) (aq (gN 9 cF.nd) bH)))))
 (ah (rH (wt PySem.F.slot_list_extend PySem.F.type_list_extend qm EM (pv 5) (aa (DN.de (nC ["_law_f","_law_params","_law_result"] [7,3] (aI (vd 9)) (λ_ _ _ _=>(bI (m:=3) U (aq (gM 0 ["_law_f","_law_params","_law_result","_law_kk","_law_kind"]) (aq (gM 1 ["_law_f","_law_params","_law_result","_law_kk","_law_kind"]) (aq (gM 2 ["_law_f","_law_params","_law_result","_law_kk","_law_kind"]) bH))))) (λ_ _ _ _=>eX (aB bw cU (vd 2) (vd 4) (ax _)))
 (λ_ _ _ _=>(aA (aa (vd 3) (aa (vd 0) (aa (vd 1) ae))))))) ae)))))
 (af (bZ (F9 (oK (nB hr)) (pv 5) (DN.de (aN ae)) (ax _))
 (ah (aP jh))
 aJ)
 (af (mh (n:=1000) (KD (EA xV (pv 5) (DE.pe (av hr d9 (aa (vd 0) (aa (lW (bT cE U T.len UM (aG (pv 5) bY))) ae)))) (λ_ _=>rfl))) (bI (m:=3) U (aq (fA (cT (i:=7) cF.nd U (Or.inr U)) (by decide)) (aq (gN 10 cF.nd) (aq (gN 11 cF.nd) bH)))))
 (af (sS 12 cF.nd (av hr IL (aa (vd 0) (aa (vd 1) (aa (vd 2) (aa (DN.de (fE dE dB (DN.de (aN (aa (vd 7) ae))) (DN.de (nC ["_law_param"] [] (aI (vd 11)) (λ_ _ _ _=>(gM 0 ["_law_param"])) (λ_ _ _ _=>bh)
 (λ_ _ _ _=>(cO (vd 0) ag)))))) (aa (bC gS eE (vd 4) ag) ae)))))))
 (ah (aP (aA (aa aw (aa (cO (vd 12) ag) (aa (vd 10) (aa (fo (vd 12) (bQ ag) cQ) ae)))))))))))),λds R h=>?_⟩
 ·obtain⟨W,sc,ks,room,rfl,_⟩:=h
  rfl
 ·obtain⟨W,sc,k,room,rfl,⟨cC,hmk,sok,hk,hsl,h0,h1⟩,qn,q⟩:=h
  obtain⟨n',rfl⟩:∃ n',n=n'+1:=⟨n - 1,by omega⟩
  have hsz:=bq
  refine⟨⟨U,U⟩,?_⟩
  refine⟨_,U,?_⟩
  refine cR ⟨_,U,_,.inl U,?_⟩
  refine aV (λxs s=>∃ (ks:List Kd) (cs:List (Kd×fB)) (x6 x7 x8 x9 jV js gf:Sl),xs=ks.map lI/\(∀ c∈ks,c∈W.kinds)/\(∀ c∈cs,c.1∈W.kinds/\c.2∈c.1.bO/\c.2.res=k)/\cs.length+5 * ks.length<=25/\s=⟨[.dat (.eW d),.dat (dZ W),.dat (.lst (sc.map pairD)),.dat (.str k),.dat (.int room),.own 0,x6,x7,x8,x9,jV,js,gf],[some (.lst (cs.map A8))]⟩) ?_ ?_ _ _ ⟨W.kinds,[],.no,.no,.no,.no,.no,.no,.no,U,λ_ h=>h,λ_ h=>(nomatch h),?_,U⟩
  ·rintro s ⟨ks,cs,x6,x7,x8,x9,jV,js,gf,hx,_,hcs,hcl,rfl⟩
   refine⟨0,_,U,U,_,U,⟨cg λc hc=>?_,U,.inr (by decide)⟩,_,U,?_⟩
   ·obtain⟨c1,c2,c3⟩:=hcs c hc
    obtain⟨a1,a2,a3⟩:=cC.ao c.1 c1 c.2 c2
    show (PyData.strOk c.1.name&&(PyData.strOk c.2.name&&(dz (eF c.2.ps)&&true)))=true
    rw[(cC.kw c.1 c1).1.ok,a1.ok,rJ cC (λx hx=>cC.nm x (Ui _ (UI hx))) a2]
    rfl
   by_cases hcn:cs=[]
   ·exact jD (by rw[hcn];rfl) qn
   refine nk ?_ ?_
   ·obtain⟨c0,r0,e⟩:=Ur hcn
    rw[e]
    rfl
   have Ry:0 < cs.length:=US.mpr hcn
   refine⟨0,U,_,U,0,_,U,U,_,U,⟨by rw[Tr];omega,by rw[Tr];omega⟩,λr r0 r1=>?_⟩
   obtain⟨c,hc,ec⟩:=iZ (f:=A8) (xs:=cs) r0 (by simpa using r1)
   refine⟨_,_,_,U,U,ec,?_⟩
   obtain⟨c1,c2,c3⟩:=hcs c hc
   have c4:=hmk c.1 c1
   obtain⟨a1,a2,a3⟩:=cC.ao c.1 c1 c.2 c2
   refine⟨_,U,U,_,_,U,_,_,U,_,_,U,U,?_⟩
   refine⟨_,U,_,U,_,U,_,U,_,U,_,.inr U,?_⟩
   refine aH pairD (λp=>D.str p.2) _ (λp hp k2 hk2=>⟨_,U,_,_,_,U,U,U,hk2 _ U⟩) ?_
   have hps:=a2.1
   refine⟨_,_,U,U,by simp;omega,?_⟩
   refine⟨_,U,_,_,U,U,?_⟩
   refine⟨W,sc,c.1.name::c.2.ps.map (·.2),room - 1,?_,⟨cC,hmk,sok,λx hx=>?_,by simp;omega,by omega,by omega⟩,λts q2 hts hd hq=>?_⟩
   ·rw[TC,T9]
    rfl
   ·rcases TX.mp hx with rfl | hx
    ·exact .inr ⟨c.1,c1,c4,U⟩
    ·obtain⟨p,hp,rfl⟩:=TR.mp hx
     exact a2.2.2 p hp
   have hl:=hts.len
   obtain⟨t0,tr,rfl⟩:=lF (l:=ts) (by rw[hl];simp)
   refine⟨_,U,_,_,_,U,U,bR,?_⟩
   refine⟨_,U,_,U,_,U,_,U,?_⟩
   show R (.tup [.str "ask",toD t0,.str c.2.name,.tup (cutD (toD t0::tr.map toD) (some 1) none)])
   rw[yR]
   have:=q (.node (.ask c.2.name) (t0::tr)) (c3▸Ty.mk (.ask c1 c4 c2) (by rw[List.map_cons,List.map_map] at hts;exact hts)) (jE (by rw[hl];simp;omega) hd (Nat.le_trans hq.1 (by omega)) (by omega))
   rw[toD,toDs_map] at this
   exact this
  ·rintro x xs s N ⟨ks,cs,x6,x7,x8,x9,jV,js,gf,hx,hks,hcs,hcl,rfl⟩ hN hE_
   cases ks with
   | nil=>cases hx
   | cons kd ks =>
   injection hx with e1 e2
   subst e1 e2
   have hkd:=hks kd Tu
   refine⟨_,U,U,_,_,U,_,_,U,_,_,U,_,_,U,U,?_⟩
   refine⟨0,_,U,U,U,?_⟩
   refine⟨_,U,_,.inr U,?_⟩
   refine aZ bP (λa=>A8 (kd,a)) (λa=>decide (a.res=k)) _ (λa ha kk N2 g1 g2=>?_) ?_
   ·refine⟨_,U,U,_,_,U,_,_,U,_,_,U,U,?_⟩
    refine⟨_,U,_,U,⟨U,U,U⟩,_,U,?_⟩
    exact aR (b':=decide (a.res=k)) dM (λe=>⟨_,U,_,U,_,U,g1 e _ U⟩) λe=>g2 e _ U
   have hal:(kd.bO.filter λa=>decide (a.res=k)).length<=5:=TU (UL _ _) (cC.kw kd hkd).2.2
   rw[TJ]
   have hcl2:cs.length+5 * (ks.length+1)<=25:=hcl
   refine⟨_,U,_,_,U,U,by rw[Tr,Tr];omega,?_⟩
   refine hN _ ⟨ks,cs++(kd.bO.filter λa=>decide (a.res=k)).map λa=>(kd,a),.dat (.str (bu kd.asked)),.dat (.str kd.name),.dat (.tup (kd.bj.map bW)),.dat (.tup (kd.bO.map bP)),jV,js,gf,U,λc hc=>hks c (Tv _ hc),λc hc=>?_,by rw[Tt,Tr];omega,?_⟩
   ·rcases TY.mp hc with hc | hc
    ·exact hcs c hc
    ·obtain⟨a,ha,rfl⟩:=TR.mp hc
     obtain⟨ha1,ha2⟩:=UJ.mp ha
     exact⟨hks kd List.mem_cons_self,ha1,by simpa using ha2⟩
   ·rw[Tx,T9]
    rfl
  ·have:=cC.kl
   simp
   omega
theorem BI{room:Int}{a c:Nat}(Pm:a<=c)(hc:1<=c)(h0:2<=room):a * ((room - 1) / (1+(c:Int))).toNat < room.toNat/\2 * ((room - 1) / (1+(c:Int))).toNat < room.toNat:=by
 obtain⟨r,rfl⟩:∃ r:Nat,room=r+1:=⟨(room - 1).toNat,by omega⟩
 have e0:((r:Int)+1 - 1) / (1+(c:Int))=((r / (1+c):Nat):Int):=by
  rw[Int.add_sub_cancel]
  rfl
 rw[e0,U0]
 have e1:(1+c) * (r / (1+c))<=r:=Nat.mul_div_le ..
 have e2:a * (r / (1+c))<=(1+c) * (r / (1+c)):=Vi _ (by omega)
 have e3:2 * (r / (1+c))<=(1+c) * (r / (1+c)):=Vi _ (by omega)
 omega
theorem BJ{f:Fm}{ta:Tm}{ts:List Tm}{n c:Nat}{room:Int}(hl:ts.length<=c)(hc:c<=5)(QT:1<=c)(h0:2<=room)(h1:ta.rm n (room / 3).toNat)(h:∀ t∈ts,t.rm n ((room - 1) / (1+(c:Int))).toNat):(Tm.node f (ta::ts)).rm (n+1) room.toNat :=
 have:=BI hl QT h0
 DK (by omega) h1 h (by omega) this.1 this.2
def QX(W:er)(sc:List (Str×Str))(k:Str)(n q:Nat)(ms:List fZ)(sub:List (fZ×List Str))(ts:List Tm):Prop :=
 (sub.map (·.1)).Sublist ms/\(∀ p∈sub,p.2.length=p.1.fs.length/\vU W sc p.2)/\gj W sc (sub.map λp=>(p.2.zip (p.1.fs.map (·.2)),k)) ts/\∀ t∈ts,t.rm (n+2) q
theorem qO{ns:List Str}:∀ {ps:List (Str×Str)},oO (ns.map D.str) (ps.map λp=>D.str p.2)=(ns.zip (ps.map (·.2))).map pairD:=by
 induction ns with
 | nil=>intro ps;rfl
 | cons x xs ih =>
  intro ps
  cases ps with
  | nil=>rfl
  | cons p ps =>
   have:=ih (ps:=ps)
   unfold oO at this ⊢
   rw[TC,TC,List.zipWith_cons_cons,this]
   rfl
theorem j5:∀ (hs:List (Str×List Str)) (ts:List D) (h:Str×List Str) (k:D),hs.length=ts.length->bA (hs++[h]) (ts++[k])=bA hs ts++[vm h k]
 | [],[],h,k,_=>rfl
 | [],_::_,h,k,e=>by simp at e
 | _::_,[],h,k,e=>by simp at e
 | a::hs,t::ts,h,k,e=>by
  rw[List.cons_append,List.cons_append,bA,j5 hs ts h k (by simpa using e)]
  rfl
theorem lX:∀ (hs:List (Str×List Str)) (l:List D),(bA hs l).length<=l.length
 | [],[]=>by simp[bA]
 | [],_::_=>by simp[bA]
 | _::_,[]=>by simp[bA]
 | _::hs,_::l=>by simpa [bA] using lX hs l
theorem Ja{d l:Addr}(d9:C4 P w K mg base bb aY 1 (cn K (aU d l) (fG d))){n lv:Nat}(uk:C4 P w K mg base bb d4 lv (cn K (aU d l) (K5 d n)))(Fi:C4 P w K mg base bb d6 2 (cn K (aU d l) (Mf d)))(F:Own K mg iB)(T:Txt K mg)(Ms:2<=lv):C4 P w K mg base bb iB (lv+1) (cn K (aU d l) (Jq d n)):=by
 refine F.d (nos:=1) bz (λds R h=>?_) λf bN A outer s H E M hr=>⟨_,(af (iO (mi (ic (i:=5) bz.nd U U (ts:=["_law_one"]) (us:=[]) ⟨U,U,U,U,U,U⟩ rfl (aI (dw (aW (b7 hr) (DE.pe (vd 1)) (DE.pe aw) (λ_ _=>rfl)))) (λ_ _ _ _=>(gM 0 ["_law_one"])) (λ_ _ _ _=>eX (aB bw cU (cO (vd 0) ag) aw (ax _)))
 (λ_ _ _ _=>(vd 0)))))
 (af (bZ (aB (oK (nB hr)) ud (vd 5) (DN.de (aN ae)) (ax _))
 (ah (aP jh))
 aJ)
 (af (mh (n:=1000) (jJ (vd 5) (av hr d9 (aa (vd 0) (aa (fY T.len (aa (vd 5) ae)) ae)))) (bI (m:=4) U (aq (gN 6 bz.nd) (aq (gN 7 bz.nd) (aq (gN 8 bz.nd) (aq (gN 9 bz.nd) bH))))))
 (af (sS 10 bz.nd (av hr uk (aa (vd 0) (aa (vd 1) (aa (vd 2) (aa (vd 7) (aa (bC dh yX (vd 4) ag) ae)))))))
 (af (sN 0 11 bz.nd (aN ae))
 (af (sF (aI (vd 8)) (bI (m:=2) U (aq (gN 12 bz.nd) (aq (gN 13 bz.nd) bH)))
 (af (sS 14 bz.nd (av hr Fi (aa (vd 0) (aa (vd 1) (aa (vd 2) (aa (fY T.len (aa (vd 13) ae)) ae))))))
 (af (sS 15 bz.nd (DN.de (fE dE dB (vd 2) (DN.de (qk U U T.list U T.zip (aa (vd 14) (aa (DN.de (nC ["_law_field"] [] (aI (vd 13)) (λ_ _ _ _=>(gM 0 ["_law_field"])) (λ_ _ _ _=>bh)
 (λ_ _ _ _=>(cO (vd 0) ag)))) ae)))))))
 (ah (bZ (aB jW mP (av hr d9 (aa (vd 0) (aa ag ae))) ag (ax _))
 (ah (ph 11 (aa (aA (aa (vd 12) (aa (vd 14) (aa (av hr uk (aa (vd 0) (aa (vd 1) (aa (vd 15) (aa (vd 3) (aa (bC dh yX (bC gS eE (vd 4) ag) (bC b4 eE ag (fY T.len (aa (vd 8) ae)))) ae)))))) ae)))) ae)))
 aJ)))))
 (ah (aP (aA (aa aw (aa (vd 10) (aa (vd 3) (aa (eK T.tuple (aa (mV (pv 11)) ae)) ae))))))))))))),λds R h=>?_⟩
 ·obtain⟨W,sc,ks,room,rfl,_⟩:=h
  rfl
 ·obtain⟨W,sc,k,room,rfl,⟨cC,hmk,sok,hk,hsl,h0,h1⟩,qn,q⟩:=h
  obtain⟨n',rfl⟩:∃ n',n=n'+1:=⟨n - 1,by omega⟩
  have hsz:=bq
  refine⟨_,U,?_⟩
  refine cR ⟨_,U,_,.inl U,?_⟩
  refine aZ lI lI (λx=>decide (bu x.asked="made")) _ (λx hx kk N g1 g2=>?_) ?_
  ·refine⟨_,U,_,_,_,U,U,U,⟨U,U,U⟩,_,U,?_⟩
   exact aR (b':=decide (bu x.asked="made")) dM (λe=>⟨_,U,g1 e _ U⟩) λe=>g2 e _ U
  rw[TJ]
  generalize hsm:W.kinds.filter (λx=>decide (bu x.asked="made"))=sm
  have hmem:∀ x∈sm,x∈W.kinds/\x.bj≠[]/\x.asked=false:=λx hx=>by
   rw[<- hsm] at hx
   obtain⟨a,b⟩:=UJ.mp hx
   refine⟨a,hmk x a,?_⟩
   cases e:x.asked with
   | false=>rfl
   | true=>rw[e] at b;revert b;decide+kernel
  have hsml:sm.length<=5:=by
   rw[<- hsm]
   have:=cC.kl
   exact TU (UL _ _) (by omega)
  have hpk:dz (.lst (sm.map lI))=true:=cg λx hx=>AE cC (hmem x hx).1
  refine⟨_,U,⟨hpk,U,.inr (by decide)⟩,_,U,?_⟩
  by_cases hsn:sm=[]
  ·exact jD (by rw[hsn];rfl) qn
  refine nk ?_ ?_
  ·obtain⟨c0,r0,e⟩:=Ur hsn
   rw[e]
   rfl
  have hs0:0 < sm.length:=US.mpr hsn
  refine⟨_,U,_,U,_,U,_,.inl U,_,U,⟨by rw[Tr];omega,by rw[Tr];omega⟩,λr r0 r1=>?_⟩
  obtain⟨kd,hkd,ekd⟩:=iZ (f:=lI) (xs:=sm) r0 (by simpa using r1)
  obtain⟨k1,k2,k3⟩:=hmem kd hkd
  refine⟨_,_,_,U,U,ekd,?_⟩
  refine⟨_,U,U,_,_,U,_,_,U,_,_,U,_,_,U,U,?_⟩
  refine⟨_,U,_,U,_,U,_,U,_,U,_,_,U,U,⟨by decide,by decide⟩,?_⟩
  refine⟨W,sc,kd.name,room / 3,U,⟨cC,hmk,sok,.inr ⟨kd,k1,k2,U⟩,by omega,by omega⟩,λta hta hda=>?_⟩
  refine⟨⟨U,U⟩,?_⟩
  refine⟨_,U,_,.inr U,?_⟩
  have DX:=(cC.kw kd k1).2.1
  refine aV (λxs s=>∃ (dn td:List fZ) (sub:List (fZ×List Str)) (ts:List Tm) (gf hZ u7 u9:Sl),kd.bj=dn++td/\xs=td.map bW/\QX W sc k n' ((room - 1) / (1+((kd.bj.map bW).length:Int))).toNat dn sub ts/\s=⟨[.dat (.eW d),.dat (dZ W),.dat (.lst (sc.map pairD)),.dat (.str k),.dat (.int room),.dat (.lst (sm.map lI)),.dat (.str (bu kd.asked)),.dat (.str kd.name),.dat (.tup (kd.bj.map bW)),.dat (.tup (kd.bO.map bP)),.dat (toD ta),.own 0,gf,hZ,u7,u9],[some (.lst (bA (sub.map λp=>(p.1.name,p.2)) (ts.map toD)))]⟩) ?_ ?_ _ _ ⟨[],kd.bj,[],[],.no,.no,.no,.no,U,U,⟨UQ _,λ_ h=>(nomatch h),gj.nil,λ_ h=>(nomatch h)⟩,U⟩
  ·rintro s ⟨dn,td,sub,ts,gf,hZ,u7,u9,hdt,hx,⟨i1,i2,i3,i4⟩,rfl⟩
   have htd:td=[]:=by
    cases td with
    | nil=>rfl
    | cons a b=>cases hx
   rw[htd,TM] at hdt
   refine⟨_,U,_,U,?_⟩
   refine .inr ⟨_,_,U,U,?_⟩
   refine⟨_,.inl U,?_⟩
   have:=q (.node (.ux k (sub.map λp=>(p.1.name,p.2))) (ta::ts)) (Ty.mk (.ux k1 k2 k3 (hdt▸i1) i2) (gj.pY hta i3)) ?_
   ·rw[toD,toDs_map] at this
    exact this
   ·have e1:ts.length=sub.length:=by rw[i3.len,Tr]
    have e2:=i1.length_le
    rw[Tr] at e2
    have e3:=congrArg List.length hdt
    exact BJ (TU (U2 e1) (TU e2 (U2 e3.symm))) DX (US.mpr k2) h0 hda (by rw[Tr] at i4;exact i4)
  ·rintro x xs s N ⟨dn,td,sub,ts,gf,hZ,u7,u9,hdt,hx,⟨i1,i2,i3,i4⟩,rfl⟩ hN hE_
   cases td with
   | nil=>cases hx
   | cons m td =>
   injection hx with e1 e2
   subst e1 e2
   have hm:m∈kd.bj:=by rw[hdt];simp
   obtain⟨m1,m2,m3,m4⟩:=cC.mo kd k1 m hm
   refine⟨_,U,U,_,_,U,_,_,U,U,?_⟩
   refine⟨_,U,_,U,_,U,_,U,_,.inr U,?_⟩
   refine⟨W,sc,m.fs.length,by rw[Tr],⟨cC,sok,m2,by omega⟩,λns nJ hb=>?_⟩
   refine⟨_,U,_,U,_,U,_,.inr U,?_⟩
   refine aH pairD (λp=>D.str p.2) _ (λp hp k2 hk2=>⟨_,U,_,_,_,U,U,U,hk2 _ U⟩) ?_
   rw[TJ]
   refine⟨_,_,_,_,U,⟨U,U⟩,?_⟩
   rw[qO]
   refine⟨_,_,U,U,by simp;omega,?_⟩
   rw[<- Tx]
   refine⟨_,U,_,U,⟨by decide,by decide⟩,λr2 r20 r21=>?_⟩
   refine⟨_,_,U,U,_,U,?_⟩
   refine aR U (λ_=>?_) λ_=>?_
   rotate_left
   ·exact hN _ ⟨dn++[m],td,sub,ts,.dat (.str m.name),.dat (eF m.fs),.dat (.tup (ns.map D.str)),_,by rw[hdt];simp,U,⟨i1.trans (List.sublist_append_left _ _),i2,i3,i4⟩,U⟩
   refine⟨0,_,U,U,U,?_⟩
   refine⟨_,U,_,U,?_⟩
   refine⟨_,U,_,U,_,U,_,U,?_⟩
   refine⟨_,U,_,_,U,U,?_⟩
   refine⟨_,U,_,.inr U,_,_,U,U,?_⟩
   refine⟨_,_,U,U,⟨by rw[Tr];omega,by rw[Tr];omega⟩,?_⟩
   have hdl:0<=(room - 1) / (1+((kd.bj.map bW).length:Int))/\(room - 1) / (1+((kd.bj.map bW).length:Int))<=n'+1:=⟨Vq (by omega) (by omega),Int.le_trans (VD _ (by omega)) (by omega)⟩
   refine⟨W,sc++ns.zip (m.fs.map (·.2)),k,_,U,⟨cC,hmk,sok.more hb (by rw[nJ,Tr]) (λx hx=>?_) (by omega),hk,hdl.1,hdl.2⟩,λt ht hd=>?_⟩
   ·obtain⟨p,hp,rfl⟩:=TR.mp hx
    exact m4 p hp
   have htl:ts.length=sub.length:=by rw[i3.len,Tr]
   have hsub:=i1.length_le
   have hdl2:=congrArg List.length hdt
   rw[Tt] at hdl2
   rw[Tr] at hsub
   refine⟨_,U,_,_,U,U,?_,?_⟩
   ·have:=lX (sub.map λp=>(p.1.name,p.2)) (ts.map toD)
    rw[Tr] at this
    omega
   refine hN _ ⟨dn++[m],td,sub++[(m,ns)],ts++[t],.dat (.str m.name),.dat (eF m.fs),.dat (.tup (ns.map D.str)),.dat (.lst ((sc++ns.zip (m.fs.map (·.2))).map pairD)),by rw[hdt];simp,U,⟨?_,λp hp=>?_,?_,λu hu=>?_⟩,?_⟩
   rotate_right
   ·have e:bA ((sub++[(m,ns)]).map λp=>(p.1.name,p.2)) ((ts++[t]).map toD)=bA (sub.map λp=>(p.1.name,p.2)) (ts.map toD)++[vm (m.name,ns) (toD t)]:=by
     rw[Tx,Tx]
     exact j5 _ _ _ _ (by rw[Tr,Tr];exact htl.symm)
    rw[e]
    rfl
   ·rw[Tx]
    exact Vo i1 (UQ _)
   ·rcases TY.mp hp with hp | hp
    ·exact i2 p hp
    ·rw[TL.mp hp]
     exact⟨nJ,hb⟩
   ·rw[Tx]
    exact gj.app i3 (gj.cons ht gj.nil)
   ·rcases TY.mp hu with hu | hu
    ·exact i4 u hu
    ·rw[TL.mp hu]
     exact hd
theorem C3{f:Fm}{ts:List Tm}{n c:Nat}{room:Int}(hl:ts.length<=c)(hc:c<=5)(h0:2<=room)(h:∀ t∈ts,t.rm n ((room - 1) / (1+(c:Int))).toNat):(Tm.node f ts).rm (n+1) room.toNat:=by
 cases c with
 | zero =>
  cases ts with
  | nil=>exact⟨jd λ_ h=>(nomatch h),by show 0+1<=_;omega⟩
  | cons a b=>exact absurd hl (by simp)
 | succ c =>
  have:=BI hl (by omega) h0
  exact jE (by omega) h (by omega) (by omega)
def Rm(W:er)(sc:List (Str×Str))(n q:Nat)(ms:List fB)(sub:List (fB×List Str))(ts:List Tm):Prop :=
 (sub.map (·.1)).Sublist ms/\(∀ p∈sub,p.2.length=p.1.ps.length/\vU W sc p.2)/\gj W sc (sub.map λp=>(p.2.zip (p.1.ps.map (·.2)),p.1.res)) ts/\∀ t∈ts,t.rm (n+2) q
theorem Kn{d l:Addr}(d9:C4 P w K mg base bb aY 1 (cn K (aU d l) (fG d))){n lv:Nat}(uk:C4 P w K mg base bb d4 lv (cn K (aU d l) (K5 d n)))(Fi:C4 P w K mg base bb d6 2 (cn K (aU d l) (Mf d)))(F:Own K mg ju)(T:Txt K mg)(Ms:2<=lv):C4 P w K mg base bb ju (lv+1) (cn K (aU d l) (Jq d n)):=by
 refine F.d (nos:=1) cV (λds R h=>?_) λf bN A outer s H E M hr=>⟨_,(af (iO (mi (ic (i:=5) cV.nd U U (ts:=["_law_one"]) (us:=[3]) ⟨U,U,U,U,U,U⟩ rfl (aI (dw (aW (b7 hr) (DE.pe (vd 1)) (DE.pe aw) (λ_ _=>rfl)))) (λ_ _ _ _=>(gM 0 ["_law_one","_law_kind"])) (λ_ _ _ _=>eX (DW.dt (ik (aB bw cU (cO (vd 0) ag) aw (ax _)) (iC (aB bw cU (cO (vd 0) ag) (vd 1) (ax _))))))
 (λ_ _ _ _=>(vd 0)))))
 (af (bZ (aB (oK (nB hr)) ud (vd 5) (DN.de (aN ae)) (ax _))
 (ah (aP jh))
 aJ)
 (af (sS 6 cV.nd (cO (jJ (vd 5) ag) ag))
 (af (sN 0 7 cV.nd (aN ae))
 (af (sF (aI (vd 6)) (bI (m:=3) U (aq (gN 8 cV.nd) (aq (gN 9 cV.nd) (aq (gN 10 cV.nd) bH))))
 (af (sS 11 cV.nd (av hr Fi (aa (vd 0) (aa (vd 1) (aa (vd 2) (aa (fY T.len (aa (vd 9) ae)) ae))))))
 (af (sS 12 cV.nd (DN.de (fE dE dB (vd 2) (DN.de (qk U U T.list U T.zip (aa (vd 11) (aa (DN.de (nC ["_law_param"] [] (aI (vd 9)) (λ_ _ _ _=>(gM 0 ["_law_param"])) (λ_ _ _ _=>bh)
 (λ_ _ _ _=>(cO (vd 0) ag)))) ae)))))))
 (ah (bZ (aB jW mP (av hr d9 (aa (vd 0) (aa ag ae))) ag (ax _))
 (ah (ph 7 (aa (aA (aa (vd 8) (aa (vd 11) (aa (av hr uk (aa (vd 0) (aa (vd 1) (aa (vd 12) (aa (vd 10) (aa (bC dh yX (bC gS eE (vd 4) ag) (bC b4 eE ag (fY T.len (aa (vd 6) ae)))) ae)))))) ae)))) ae)))
 aJ)))))
 (ah (aP (aA (aa aw (aa (vd 3) (aa (eK T.tuple (aa (mV (pv 7)) ae)) ae))))))))))),λds R h=>?_⟩
 ·obtain⟨W,sc,ks,room,rfl,_⟩:=h
  rfl
 ·obtain⟨W,sc,k,room,rfl,⟨cC,hmk,sok,hk,hsl,h0,h1⟩,qn,q⟩:=h
  obtain⟨n',rfl⟩:∃ n',n=n'+1:=⟨n - 1,by omega⟩
  have hsz:=bq
  refine⟨_,U,?_⟩
  refine cR ⟨_,U,_,.inl U,?_⟩
  refine aZ lI lI (λx=>decide (bu x.asked="asked")&&decide (x.name=k)) _ (λx hx kk N g1 g2=>?_) ?_
  ·refine⟨_,U,_,_,_,U,U,U,⟨U,U,U⟩,_,U,?_⟩
   refine aR (b':=decide (bu x.asked="asked")) dM (λe=>?_) λe=>g2 (by rw[e];rfl) _ U
   refine⟨_,U,_,_,_,U,U,U,_,U,⟨U,U,U⟩,_,U,?_⟩
   exact aR (b':=decide (x.name=k)) dM (λe2=>⟨_,U,g1 (by rw[e,e2];rfl) _ U⟩) λe2=>g2 (by rw[e,e2];rfl) _ U
  rw[TJ]
  generalize hsm:W.kinds.filter (λx=>decide (bu x.asked="asked")&&decide (x.name=k))=sm
  have hmem:∀ x∈sm,x∈W.kinds/\x.asked=true/\x.name=k:=λx hx=>by
   rw[<- hsm] at hx
   obtain⟨a,b⟩:=UJ.mp hx
   rw[T8] at b
   refine⟨a,?_,by simpa using b.2⟩
   have b:=b.1
   cases e:x.asked with
   | true=>rfl
   | false=>rw[e] at b;revert b;decide+kernel
  have hpk:dz (.lst (sm.map lI))=true:=cg λx hx=>AE cC (hmem x hx).1
  refine⟨_,U,⟨hpk,U,.inr (by decide)⟩,_,U,?_⟩
  by_cases hsn:sm=[]
  ·exact jD (by rw[hsn];rfl) qn
  obtain⟨kd,sr,rfl⟩:=Ur hsn
  refine nk U ?_
  obtain⟨k1,k3,k4⟩:=hmem kd Tu
  have k2:=AG cC hk k1 k4
  refine⟨_,U,_,_,_,U,U,bR,_,_,_,U,U,U,?_⟩
  refine⟨⟨U,U⟩,?_⟩
  refine⟨_,U,_,.inr U,?_⟩
  have DX:=(cC.kw kd k1).2.2
  refine aV (λxs s=>∃ (dn td:List fB) (sub:List (fB×List Str)) (ts:List Tm) (x8 x9 jV js gf:Sl),kd.bO=dn++td/\xs=td.map bP/\Rm W sc n' ((room - 1) / (1+((kd.bO.map bP).length:Int))).toNat dn sub ts/\s=⟨[.dat (.eW d),.dat (dZ W),.dat (.lst (sc.map pairD)),.dat (.str k),.dat (.int room),.dat (.lst ((kd::sr).map lI)),.dat (.tup (kd.bO.map bP)),.own 0,x8,x9,jV,js,gf],[some (.lst (bA (sub.map λp=>(p.1.name,p.2)) (ts.map toD)))]⟩) ?_ ?_ _ _ ⟨[],kd.bO,[],[],.no,.no,.no,.no,.no,U,U,⟨UQ _,λ_ h=>(nomatch h),gj.nil,λ_ h=>(nomatch h)⟩,U⟩
  ·rintro s ⟨dn,td,sub,ts,x8,x9,jV,js,gf,hdt,hx,⟨i1,i2,i3,i4⟩,rfl⟩
   have htd:td=[]:=by
    cases td with
    | nil=>rfl
    | cons a b=>cases hx
   rw[htd,TM] at hdt
   refine⟨_,U,?_⟩
   refine .inr ⟨_,_,U,U,?_⟩
   refine⟨_,.inl U,?_⟩
   have:=q (.node (.new kd.name (sub.map λp=>(p.1.name,p.2))) ts) (k4▸Ty.mk (.new k1 k2 k3 (hdt▸i1) i2) i3) (by
    have e1:ts.length=sub.length:=by rw[i3.len,Tr]
    have e2:=i1.length_le
    rw[Tr] at e2
    have e3:=congrArg List.length hdt
    rw[Tr] at i4
    exact C3 (TU (U2 e1) (TU e2 (U2 e3.symm))) DX h0 i4)
   rw[toD,toDs_map] at this
   rw[<- k4]
   exact this
  ·rintro x xs s N ⟨dn,td,sub,ts,x8,x9,jV,js,gf,hdt,hx,⟨i1,i2,i3,i4⟩,rfl⟩ hN hE_
   cases td with
   | nil=>cases hx
   | cons m td =>
   injection hx with e1 e2
   subst e1 e2
   have hm:m∈kd.bO:=by rw[hdt];simp
   obtain⟨m1,⟨m2,m3,m4⟩,m5⟩:=cC.ao kd k1 m hm
   refine⟨_,U,U,_,_,U,_,_,U,_,_,U,U,?_⟩
   refine⟨_,U,_,U,_,U,_,U,_,.inr U,?_⟩
   refine⟨W,sc,m.ps.length,by rw[Tr],⟨cC,sok,m2,by omega⟩,λns nJ hb=>?_⟩
   refine⟨_,U,_,U,_,U,_,.inr U,?_⟩
   refine aH pairD (λp=>D.str p.2) _ (λp hp k2 hk2=>⟨_,U,_,_,_,U,U,U,hk2 _ U⟩) ?_
   rw[TJ]
   refine⟨_,_,_,_,U,⟨U,U⟩,?_⟩
   rw[qO]
   refine⟨_,_,U,U,by simp;omega,?_⟩
   rw[<- Tx]
   refine⟨_,U,_,U,⟨by decide,by decide⟩,λr2 r20 r21=>?_⟩
   refine⟨_,_,U,U,_,U,?_⟩
   refine aR U (λ_=>?_) λ_=>?_
   rotate_left
   ·exact hN _ ⟨dn++[m],td,sub,ts,.dat (.str m.name),.dat (eF m.ps),.dat (.str m.res),.dat (.tup (ns.map D.str)),_,by rw[hdt];simp,U,⟨i1.trans (List.sublist_append_left _ _),i2,i3,i4⟩,U⟩
   refine⟨0,_,U,U,U,?_⟩
   refine⟨_,U,_,U,?_⟩
   refine⟨_,U,_,U,_,U,_,U,?_⟩
   refine⟨_,U,_,_,U,U,?_⟩
   refine⟨_,U,_,.inr U,_,_,U,U,?_⟩
   refine⟨_,_,U,U,⟨by rw[Tr];omega,by rw[Tr];omega⟩,?_⟩
   have hdl:0<=(room - 1) / (1+((kd.bO.map bP).length:Int))/\(room - 1) / (1+((kd.bO.map bP).length:Int))<=n'+1:=⟨Vq (by omega) (by omega),Int.le_trans (VD _ (by omega)) (by omega)⟩
   refine⟨W,sc++ns.zip (m.ps.map (·.2)),m.res,_,U,⟨cC,hmk,sok.more hb (by rw[nJ,Tr]) (λx hx=>?_) (by omega),m5,hdl.1,hdl.2⟩,λt ht hd=>?_⟩
   ·obtain⟨p,hp,rfl⟩:=TR.mp hx
    exact m4 p hp
   have htl:ts.length=sub.length:=by rw[i3.len,Tr]
   have hsub:=i1.length_le
   have hdl2:=congrArg List.length hdt
   rw[Tt] at hdl2
   rw[Tr] at hsub
   refine⟨_,U,_,_,U,U,?_,?_⟩
   ·have:=lX (sub.map λp=>(p.1.name,p.2)) (ts.map toD)
    rw[Tr] at this
    omega
   refine hN _ ⟨dn++[m],td,sub++[(m,ns)],ts++[t],.dat (.str m.name),.dat (eF m.ps),.dat (.str m.res),.dat (.tup (ns.map D.str)),.dat (.lst ((sc++ns.zip (m.ps.map (·.2))).map pairD)),by rw[hdt];simp,U,⟨?_,λp hp=>?_,?_,λu hu=>?_⟩,?_⟩
   rotate_right
   ·have e:bA ((sub++[(m,ns)]).map λp=>(p.1.name,p.2)) ((ts++[t]).map toD)=bA (sub.map λp=>(p.1.name,p.2)) (ts.map toD)++[vm (m.name,ns) (toD t)]:=by
     rw[Tx,Tx]
     exact j5 _ _ _ _ (by rw[Tr,Tr];exact htl.symm)
    rw[e]
    rfl
   ·rw[Tx]
    exact Vo i1 (UQ _)
   ·rcases TY.mp hp with hp | hp
    ·exact i2 p hp
    ·rw[TL.mp hp]
     exact⟨nJ,hb⟩
   ·rw[Tx]
    exact gj.app i3 (gj.cons ht gj.nil)
   ·rcases TY.mp hu with hu | hu
    ·exact i4 u hu
    ·rw[TL.mp hu]
     exact hd
theorem CW{r:Int}(h0:0<=r)(h1:r < 3):∃ ch,jQ ("+-*":Str).cps.toList r=some ch/\(⟨#[ch]⟩:Str)∈(["+","-","*"]:List Str):=by
 have:r=0\/r=1\/r=2:=by omega
 rcases this with rfl | rfl | rfl
 ·exact⟨43,U,by decide+kernel⟩
 ·exact⟨45,U,by decide+kernel⟩
 ·exact⟨42,U,by decide+kernel⟩
theorem En{d l:Addr}(d9:C4 P w K mg base bb aY 1 (cn K (aU d l) (fG d)))(Fi:C4 P w K mg base bb d6 2 (cn K (aU d l) (Mf d)))(Mq:C4 P w K mg base bb iA 3 (cn K (aU d l) (PB d 2)))(Kp:Own K mg g0)(Ki:Own K mg jA)(HU:Own K mg iB)(GY:Own K mg ju)(Ih:Own K mg d4)(T:Txt K mg):∀ n,C4 P w K mg base bb d4 (3 * n+2) (cn K (aU d l) (K5 d n))
 | 0=>Ih.c λ_ _ _=>lh
 | n+1=>by
  have uk:=En d9 Fi Mq Kp Ki HU GY Ih T n
  have IL:=LP uk Kp T
  have GAs:=KP d9 IL Ki T (by omega)
  have GCa:=Ja d9 uk Fi HU T (by omega)
  have GNe:=Kn d9 uk Fi GY T (by omega)
  obtain⟨fCa,fdCa,GCa,HU,mCa,bCa⟩:=GCa
  obtain⟨fNe,fdNe,GNe,GY,mNe,bNe⟩:=GNe
  refine Ih.c λfTe fdTe F_=>?_
  refine KQ (nos:=0) F_ aT (λds R h=>?_) λbN A outer s H E M hr=>⟨_,(af (sS 5 aT.nd (av hr d9 (aa (vd 0) (aa ag ae))))
 (af (sS 6 aT.nd jh)
 (af (bZ (DW.dt (Ap (aB BN mP (vd 4) ag (ax _)) (Ap (aB bw cU (vd 5) ag (ax _)) (AY (aB jW mP (fY T.len (aa (vd 2) ae)) ag (ax _))))))
 (ah (aP (av hr Mq (aa (vd 0) (aa (vd 1) (aa (vd 2) (aa (vd 3) ae)))))))
 aJ)
 (af (bZ (aB BN mP (vd 5) ag (ax _))
 (ah (sS 6 aT.nd (av hr GAs (aa (vd 0) (aa (vd 1) (aa (vd 2) (aa (vd 3) (aa (vd 4) ae))))))))
 (ah (bZ (DW.dt (ik (aB BN mP (vd 5) ag (ax _)) (iC (om (dw (aW (b7 hr) (DE.pe (vd 1)) (DE.pe aw) (λ_ _=>rfl)))))))
 (ah (sS 6 aT.nd (CO (k:=3 * n+3) (hr.mono (by first | decide | omega)) (jJ (DN.de (aN (aa (dc (d:=.eW fCa) (eg (v:=.ref fCa) U mCa U) U) (aa (dc (d:=.eW fNe) (eg (v:=.ref fNe) U mNe U) U) ae)))) (bC gS eE (vd 5) ag)) (aa (vd 0) (aa (vd 1) (aa (vd 2) (aa (vd 3) (aa (vd 4) ae))))))))
 (ah (bZ (aB bw cU (vd 5) ag (ax _))
 (af (sS 7 aT.nd (av hr uk (aa (vd 0) (aa (vd 1) (aa (vd 2) (aa aw (aa (bC dh yX (vd 4) ag) ae)))))))
 (af (sS 8 aT.nd (av hr uk (aa (vd 0) (aa (vd 1) (aa (vd 2) (aa (vd 3) (aa (bC dh yX (vd 4) ag) ae)))))))
 (ah (sS 6 aT.nd (aA (aa aw (aa (vd 7) (aa (vd 8) (aa (av hr uk (aa (vd 0) (aa (vd 1) (aa (vd 2) (aa (vd 3) (aa (bC dh yX (vd 4) ag) ae)))))) ae)))))))))
 (ah (bZ (aB bw cU (vd 5) ag (ax _))
 (af (sS 9 aT.nd (jJ (DN.de (fE dE dB (DN.de (nC ["_law_one"] [] (aI (dw (aW (b7 hr) (DE.pe (vd 1)) (DE.pe aw) (λ_ _=>rfl)))) (λ_ _ _ _=>(gM 0 ["_law_one"])) (λ_ _ _ _=>bh)
 (λ_ _ _ _=>(cO (vd 0) ag)))) (DN.de (aN (aa aw ae))))) (av hr d9 (aa (vd 0) (aa (bC b4 eE (fY T.len (aa (dw (aW (b7 hr) (DE.pe (vd 1)) (DE.pe aw) (λ_ _=>rfl))) ae)) ag) ae)))))
 (af (sS 10 aT.nd (cO (av hr Fi (aa (vd 0) (aa (vd 1) (aa (vd 2) (aa ag ae))))) ag))
 (af (sS 7 aT.nd (av hr uk (aa (vd 0) (aa (vd 1) (aa (vd 2) (aa (vd 9) (aa (bC dh yX (vd 4) ag) ae)))))))
 (ah (sS 6 aT.nd (aA (aa aw (aa (vd 10) (aa (vd 7) (aa (av hr uk (aa (vd 0) (aa (vd 1) (aa (DN.de (fE dE dB (vd 2) (DN.de (aN (aa (aA (aa (vd 10) (aa (vd 9) ae))) ae))))) (aa (vd 3) (aa (bC dh yX (vd 4) ag) ae)))))) ae))))))))))
 aJ)))))))
 (af (bZ (aB xY zV (vd 6) jh (ax _))
 (ah (aP (vd 6)))
 aJ)
 (af (bZ (aB bw cU (vd 3) aw (ax _))
 (af (mh (n:=1000) (av hr IL (aa (vd 0) (aa (vd 1) (aa (vd 2) (aa (DN.de (aN (aa aw (aa aw ae)))) (aa (bC gS eE (vd 4) ag) ae)))))) (bI (m:=2) U (aq (gN 7 aT.nd) (aq (gN 8 aT.nd) bH))))
 (ah (aP (aA (aa aw (aa (zO vb Aw aw (av hr d9 (aa (vd 0) (aa ag ae))) (λ_ _=>rfl)) (aa (vd 7) (aa (vd 8) ae))))))))
 aJ)
 (af (sS 11 aT.nd (jJ (DN.de (nC ["_law_one"] [3] (aI (dw (aW (b7 hr) (DE.pe (vd 1)) (DE.pe aw) (λ_ _=>rfl)))) (λ_ _ _ _=>(gM 0 ["_law_one","_law_kind"])) (λ_ _ _ _=>eX (aB bw cU (cO (vd 0) ag) (vd 1) (ax _)))
 (λ_ _ _ _=>(cO (vd 0) ag)))) ag))
 (af (mh (n:=1000) (cO (vd 11) (av hr d9 (aa (vd 0) (aa (fY T.len (aa (vd 11) ae)) ae)))) (bI (m:=2) U (aq (gN 12 aT.nd) (aq (gN 13 aT.nd) bH))))
 (ah (aP (aA (aa aw (aa (vd 12) (aa (av hr IL (aa (vd 0) (aa (vd 1) (aa (vd 2) (aa (DN.de (nC ["_law_field"] [] (aI (vd 13)) (λ_ _ _ _=>(gM 0 ["_law_field"])) (λ_ _ _ _=>bh)
 (λ_ _ _ _=>(cO (vd 0) ag)))) (aa (bC gS eE (vd 4) ag) ae)))))) ae)))))))))))))),λds R h=>?_⟩
  ·obtain⟨W,sc,k,room,rfl,_⟩:=h
   rfl
  ·obtain⟨W,sc,k,room,rfl,⟨cC,hmk,sok,hk,h0,h1⟩,q⟩:=h
   refine⟨_,U,_,U,⟨by decide,by decide⟩,λfm f0 f1=>?_⟩
   refine' jn ?hleaf λhleaf=>?main
   case main =>
    refine⟨_,U,_,_,U,U,_,U,?_⟩
    refine aR U (λ_=>lJ hleaf) λc1=>?_
    refine⟨_,U,⟨U,U,U⟩,_,U,?_⟩
    refine aR U (λ_=>lJ hleaf) λc2=>?_
    refine⟨_,U,_,.inl U,_,_,U,U,_,U,?_⟩
    refine aR U (λ_=>hleaf) λc3=>?_
    have c1:¬ room < 2:=by simpa using c1
    have c3:¬ (12:Int) < sc.length:=by simpa using c3
    obtain⟨n',rfl⟩:∃ n',n=n'+1:=⟨n - 1,by omega⟩
    refine' jn ?hnone λhnone=>?main2
    case main2 =>
     refine⟨_,U,_,_,U,U,_,U,?_⟩
     refine aR U (λ_=>?_) λ_=>?_
     ·refine⟨_,U,_,U,_,U,_,U,_,U,W,sc,k,room,U,⟨cC,hmk,sok,hk,by omega,by omega,by omega⟩,hnone,λt ht hd=>?_⟩
      exact⟨_,U,U,_,U,jD (xG t) ⟨_,U,q t ht hd⟩⟩
     refine⟨_,U,_,_,U,U,_,U,?_⟩
     refine' jn ?h6 λh6=>?main3
     case main3 =>
      rename_i c4
      refine aR U (λc5=>?_) λ_=>h6
      refine⟨_,U,?_⟩
      refine v9 ⟨_,U,_,U,?_⟩
      refine aR U (λ_=>?_) λ_=>h6
      have c4:¬ fm < 4:=by simpa using c4
      have c5:fm < 6:=by simpa using c5
      refine⟨_,U,_,_,U,U,?_⟩
      have:fm=4\/fm=5:=by omega
      rcases this with rfl | rfl
      ·refine⟨_,_,_,U,U,U,fCa,Jq d (n'+1),U,⟨fdCa,_,GCa,HU.kp,bCa⟩,_,U,_,U,_,U,_,U,_,U,W,sc,k,room,U,⟨cC,hmk,sok,hk,by omega,by omega,by omega⟩,hnone,λt ht hd=>?_⟩
       exact⟨_,U,U,_,U,jD (xG t) ⟨_,U,q t ht hd⟩⟩
      ·refine⟨_,_,_,U,U,U,fNe,Jq d (n'+1),U,⟨fdNe,_,GNe,GY.kp,bNe⟩,_,U,_,U,_,U,_,U,_,U,W,sc,k,room,U,⟨cC,hmk,sok,hk,by omega,by omega,by omega⟩,hnone,λt ht hd=>?_⟩
       exact⟨_,U,U,_,U,jD (xG t) ⟨_,U,q t ht hd⟩⟩
     case h6 =>
     refine⟨_,U,⟨U,U,U⟩,_,U,?_⟩
     refine aR U (λ_=>?_) λ_=>?_
     ·refine⟨_,U,_,U,_,U,_,U,_,_,U,U,⟨by decide,by decide⟩,W,sc,"number",room / 3,U,⟨cC,hmk,sok,.inl U,by omega,by omega⟩,λta hta hda=>?_⟩
      refine⟨_,U,_,U,_,U,_,U,_,U,_,_,U,U,⟨by decide,by decide⟩,W,sc,k,room / 3,U,⟨cC,hmk,sok,hk,by omega,by omega⟩,λtb htb fP=>?_⟩
      refine⟨_,U,_,U,?_⟩
      refine⟨_,U,_,U,_,U,_,U,_,U,_,_,U,U,⟨by decide,by decide⟩,W,sc,k,room / 3,U,⟨cC,hmk,sok,hk,by omega,by omega⟩,λtc htc hdc=>?_⟩
      refine⟨_,U,U,_,U,jD U ⟨_,U,?_⟩⟩
      exact q (.node .wC [ta,tb,tc]) (Ty.mk .wC (.pY hta (.pY htb (.pY htc .nil)))) (jE (q:=(room / 3).toNat) (by simp) (λt ht=>by
       simp at ht
       rcases ht with rfl | rfl | rfl<;>assumption) (by show 3 * _<=_;omega) (by omega))
     refine⟨_,U,⟨U,U,U⟩,_,U,?_⟩
     refine aR U (λ_=>?_) λ_=>hnone
     refine⟨_,U,?_⟩
     refine cR ⟨_,U,_,.inl U,?_⟩
     refine aH lI (λk=>D.str k.name) _ (λk hk k2 hk2=>⟨_,U,_,_,_,U,U,U,hk2 _ U⟩) ?_
     have hsz:=bq
     have htl:=cC.kl
     have enm:W.kinds.map (λk=>D.str k.name)++[D.str "number"]=(W.kinds.map Kd.name++gh).map D.str:=by
      rw[Tx,T9]
      rfl
     rw[TJ]
     refine⟨_,_,U,U,by simp;omega,?_⟩
     rw[enm]
     refine⟨_,U,_,U,?_⟩
     refine cR ⟨_,U,_,.inl U,?_⟩
     refine⟨_,_,U,U,_,U,⟨by omega,by simp;omega⟩,λr2 r20 r21=>?_⟩
     obtain⟨ot,hot,eot⟩:=iZ (f:=D.str) (xs:=W.kinds.map Kd.name++gh) r20 (by simpa using r21)
     refine⟨_,_,_,U,U,eot,?_⟩
     have aL:wI W ot:=by
      rcases TY.mp hot with h | h
      ·obtain⟨kd,hkd,rfl⟩:=TR.mp h
       exact .inr ⟨kd,hkd,hmk kd hkd,U⟩
      ·exact .inl (TL.mp h)
     refine⟨_,U,_,U,_,U,W,sc,1,U,⟨cC,sok,by decide,by omega⟩,λns nJ hb=>?_⟩
     obtain⟨x,rfl⟩:∃ x,ns=[x]:=by
      obtain⟨x,r,rfl⟩:=lF (l:=ns) (by omega)
      cases r with
      | nil=>exact⟨x,U⟩
      | cons y r=>simp at nJ
     refine⟨_,_,_,U,U,bR,?_⟩
     refine⟨_,U,_,U,_,U,_,U,_,U,_,_,U,U,⟨by decide,by decide⟩,W,sc,ot,room / 2,U,⟨cC,hmk,sok,aL,by omega,by omega⟩,λta hta hda=>?_⟩
     refine⟨_,U,_,U,?_⟩
     refine⟨_,U,_,U,_,U,_,U,_,U,_,_,U,U,by simp;omega,?_⟩
     refine⟨_,U,_,U,_,_,U,U,⟨by decide,by decide⟩,?_⟩
     refine⟨W,sc++[(x,ot)],k,room / 2,by rw[List.map_append]<;>rfl,⟨cC,hmk,sok.more (ns:=[x]) (ks:=[ot]) hb U (λy hy=>List.mem_singleton.mp hy▸aL) (by simp;omega),hk,by omega,by omega⟩,λtb htb fP=>?_⟩
     refine⟨_,U,U,_,U,jD U ⟨_,U,?_⟩⟩
     exact q (.node (.lt x) [ta,tb]) (Ty.mk (.lt hb aL) (.pY hta (.cons htb .nil))) (jE (q:=(room / 2).toNat) (by simp) (λt ht=>by
      simp at ht
      rcases ht with rfl | rfl<;>assumption) (by show 2 * _<=_;omega) (by omega))
    case hnone =>
     refine⟨_,U,U,_,U,nk U ?_⟩
     refine⟨_,U,⟨U,U,U⟩,_,U,?_⟩
     refine aR (b':=decide (k="number")) dM (λe=>?_) λe=>?_
     ·have e:k="number":=by simpa using e
      refine⟨_,U,_,U,_,U,_,U,_,_,U,U,?_⟩
      refine⟨W,sc,["number","number"],room - 1,U,⟨cC,hmk,sok,λx hx=>?_,by decide,by omega,by omega⟩,λts q2 hts hd hq=>?_⟩
      ·simp at hx
       exact .inl hx
      have hl:=hts.len
      obtain⟨ta,tb,rfl⟩:=yL (l:=ts) hl
      refine⟨_,U,U,_,_,U,_,_,U,U,?_⟩
      refine⟨_,U,_,U,⟨by decide,by decide⟩,λr2 r20 r21=>?_⟩
      obtain⟨ch,ech,qa⟩:=CW r20 r21
      refine⟨_,_,_,U,U,by decide+kernel,ech,?_⟩
      refine⟨_,U,_,U,?_⟩
      exact q (.node (.op ⟨#[ch]⟩) [ta,tb]) (e▸Ty.mk (.op qa) hts) (jE (by simp) hd (Nat.le_trans hq.1 (by omega)) (by omega))
     ·have e:k≠"number":=by simpa using e
      obtain⟨kd,hkd,hmk1,hnm,nn,zc⟩:=kinds_of cC hk e
      refine⟨_,U,?_⟩
      refine cR ⟨_,U,_,.inl U,?_⟩
      refine aZ lI (λk=>D.tup (k.bj.map bW)) (λx=>decide (x.name=k)) _ (λx hx kk N g1 g2=>?_) ?_
      ·refine⟨_,U,_,_,_,U,U,U,_,U,⟨U,U,U⟩,_,U,?_⟩
       exact aR (b':=decide (x.name=k)) dM (λe=>⟨_,U,_,_,_,U,U,U,g1 e _ U⟩) λe=>g2 e _ U
      rw[zc,List.replicate_succ,TC,TJ]
      refine⟨_,_,_,U,U,bR,?_⟩
      have hm0:0 < kd.bj.length:=US.mpr hmk1
      have hm5:=(cC.kw kd hkd).2.1
      refine⟨_,U,_,U,_,U,_,.inr U,_,U,⟨by rw[Tr];omega,by rw[Tr];omega⟩,λr2 r20 r21=>?_⟩
      obtain⟨m,hm,em⟩:=iZ (f:=bW) (xs:=kd.bj) r20 (by simpa using r21)
      obtain⟨m1,m2,m3,m4⟩:=cC.mo kd hkd m hm
      refine⟨_,_,_,U,U,em,?_⟩
      refine⟨_,U,U,_,_,U,_,_,U,U,?_⟩
      refine⟨_,U,_,U,_,U,_,U,_,U,_,.inr U,?_⟩
      refine aH pairD (λp=>D.str p.2) _ (λp hp k2 hk2=>⟨_,U,_,_,_,U,U,U,hk2 _ U⟩) ?_
      rw[TJ]
      refine⟨_,U,_,_,U,U,?_⟩
      refine⟨W,sc,m.fs.map (·.2),room - 1,by rw[T9]<;>rfl,⟨cC,hmk,sok,λx hx=>?_,by rw[Tr];omega,by omega,by omega⟩,λts q2 hts hd hq=>?_⟩
      ·obtain⟨p,hp,rfl⟩:=TR.mp hx
       exact m4 p hp
      have:=q (.node (.mk m.name) ts) (hnm▸Ty.mk (.mk hkd hm) (by rw[List.map_map] at hts;exact hts)) (jE (by have:=hts.len;simp at this;omega) hd (Nat.le_trans hq.1 (by omega)) (by omega))
      rw[toD,toDs_map] at this
      exact this
   case hleaf =>
    exact⟨_,U,_,U,_,U,_,U,W,sc,k,U,⟨cC,sok,hk,λe=>absurd e (by decide)⟩,λt ht hd=>q t ht (Tm.lf.rm (n:=2) hd (by omega))⟩
def P8(d:Addr):VI:=λds R=>∃ (most:Int),ds=[.eW d,.int most]/\(1<=most/\most<=5)/\∀ (ws:List Str) (ks:List Kd),ws.length=45->ws.Nodup->(∀ x∈ws,Nm x)->w6 ws ks->R (dZ (ff ws ks false))
theorem LU{d l:Addr}(QF:C4 P w K mg base bb gH 2 (cn K (aU d l) (Ak d)))(RT:C4 P w K mg base bb gC 3 (cn K (aU d l) (PM d)))(F:Own K mg gE)(T:Txt K mg):C4 P w K mg base bb gE 4 (wz K (aU d l) (P8 d)):=by
 refine F.c λf fd F=>?_
 refine Mw (nos:=0) F iu (λds R h=>?_) λbN A outer s H E M hr=>⟨_,(af (sS 2 iu.nd (av hr QF (aa (vd 0) (aa ag ae))))
 (af (sS 3 iu.nd (av hr RT (aa (vd 0) (aa (vd 2) (aa (vd 1) ae)))))
 (ah (i9 (F8 (kE (vd 3) (kE (DN.de (dP (vd 2) (bQ ag) cQ)) (kE lU (kE (DN.de (dP (vd 2) (bQ ag) (bQ ag))) Cw)))) (show List.Nodup [(Sum.inr ("kinds":Str):Key),(Sum.inr ("vars":Str):Key),(Sum.inr ("inner":Str):Key),(Sum.inr ("heads":Str):Key)] by decide+kernel)))))),λds R h=>?_⟩
 ·obtain⟨most,rfl,_⟩:=h
  rfl
 ·obtain⟨most,rfl,⟨h1,h3⟩,q⟩:=h
  refine⟨_,U,45,U,⟨by decide,by decide⟩,λws nq hwn hwm=>?_⟩
  have nq:ws.length=45:=nq
  refine⟨_,U,_,U,_,U,ws,most,U,⟨nq,hwn,hwm,h1,h3⟩,λks hks=>?_⟩
  have e30:cutD (ws.map D.str) (some 30) none=(ws.drop 30).map D.str:=by
   rw[eB,nq,show HT.ck 45 0 (some 30)=30 from U,show HT.ck 45 45 none=45 from U,List.take_of_length_le (by simp[nq])]
  have e24:cutD (ws.map D.str) (some 24) (some 30)=((ws.drop 24).take 6).map D.str:=by rw[eB,nq];rfl
  refine⟨_,U,_,U,_,U,_,U,?_⟩
  refine⟨_,U,_,U,_,U,_,U,?_⟩
  rw[e30,e24]
  exact q ws ks nq hwn hwm hks
def DQ(c:List (List Key)×List D):D:=.kq c.1 c.2
def IB(d:Addr)(n:Nat):VI:=λds R=>∃ (W:er) (room:Int),ds=[.eW d,dZ W,.int room]/\(jG W/\(∀ k∈W.kinds,k.bj≠[])/\0<=room/\room<=n+1/\room<=24)/\∀ u6:List (List (List Key)×List D),Paired (λkd c=>yF W kd (n+2) c.1 c.2) W.kinds u6->R (.lst (u6.map DQ))
theorem Ll{d l:Addr}(d9:C4 P w K mg base bb aY 1 (cn K (aU d l) (fG d))){n lv:Nat}(uk:C4 P w K mg base bb d4 lv (cn K (aU d l) (K5 d (n+1))))(F:Own K mg gy)(T:Txt K mg)(Ms:2<=lv):C4 P w K mg base bb gy (lv+1) (cn K (aU d l) (IB d n)):=by
 refine F.d (nos:=2) bf (λds R h=>?_) λf bN A outer s H E M hr=>⟨_,(af (sN 0 3 bf.nd (aN ae))
 (af (sF (aI (dw (aW (b7 hr) (DE.pe (vd 1)) (DE.pe aw) (λ_ _=>rfl)))) (bI (m:=4) U (aq (gN 4 bf.nd) (aq (gN 5 bf.nd) (aq (gN 6 bf.nd) (aq (gN 7 bf.nd) bH)))))
 (af (sN 1 8 bf.nd wM)
 (af (sF (aI (vd 6)) (bI (m:=2) U (aq (gN 9 bf.nd) (aq (gN 10 bf.nd) bH)))
 (ah (sF (aI (vd 7)) (bI (m:=3) U (aq (gN 11 bf.nd) (aq (gN 12 bf.nd) (aq (gN 13 bf.nd) bH))))
 (ah (bZ (aB jW mP (av hr d9 (aa (vd 0) (aa ag ae))) ag (ax _))
 (ah (qT (jK (b7 hr) (pv 8) (DE.pe (aA (aa (vd 9) (aa (vd 11) ae)))) (DE.pe (av hr uk (aa (vd 0) (aa (vd 1) (aa (DN.de (fE dE dB (DN.de (fV dk hU U T.list (by decide+kernel) (aa (vd 10) ae))) (DN.de (fV dk hU U T.list (by decide+kernel) (aa (vd 12) ae))))) (aa (vd 13) (aa (vd 2) ae))))))) U)))
 aJ)))))
 (ah (ph 3 (aa (mV (pv 8)) ae))))))
 (ah (aP (mV (pv 3)))))),λds R h=>?_⟩
 ·obtain⟨W,room,rfl,_⟩:=h
  rfl
 ·obtain⟨W,room,rfl,⟨cC,hmk,h0,h1,h24⟩,q⟩:=h
  have hsz:=bq
  refine⟨⟨U,U⟩,?_⟩
  refine⟨_,U,?_⟩
  refine cR ⟨_,U,_,.inl U,?_⟩
  refine aV (λxs s=>∃ (dn td:List Kd) (u6:List (List (List Key)×List D)) (x4 x5 x6 x7 x8 x9 jV js gf hZ:Sl),W.kinds=dn++td/\xs=td.map lI/\Paired (λkd c=>yF W kd (n+2) c.1 c.2) dn u6/\(x9.pl=true/\jV.pl=true/\js.pl=true/\gf.pl=true/\hZ.pl=true)/\s=⟨[.dat (.eW d),.dat (dZ W),.dat (.int room),.own 0,x4,x5,x6,x7,x8,x9,jV,js,gf,hZ],[some (.lst (u6.map DQ)),none]⟩) ?_ ?_ _ _ ⟨[],W.kinds,[],.no,.no,.no,.no,.no,.no,.no,.no,.no,.no,U,U,.nil,⟨U,U,U,U,U⟩,U⟩
  ·rintro s ⟨dn,td,u6,x4,x5,x6,x7,x8,x9,jV,js,gf,hZ,hdt,hx,hP,_,rfl⟩
   have htd:td=[]:=by
    cases td with
    | nil=>rfl
    | cons a b=>cases hx
   rw[htd,TM] at hdt
   exact .inr ⟨_,_,U,U,q u6 (hdt▸hP)⟩
  ·rintro x xs s N ⟨dn,td,u6,x4,x5,x6,x7,x8,x9,jV,js,gf,hZ,hdt,hx,hP,⟨h9,h10,h11,h12,h13⟩,rfl⟩ hN hE_
   cases td with
   | nil=>cases hx
   | cons kd td =>
   injection hx with e1 e2
   subst e1 e2
   have hkd:kd∈W.kinds:=by rw[hdt];simp
   have hkw:=cC.kw kd hkd
   refine⟨_,U,U,_,_,U,_,_,U,_,_,U,_,_,U,U,?_⟩
   refine⟨⟨U,(show noRef 1 6 [x9,jV,js,gf,hZ]=true by rw[cX h9,cX h10,cX h11,cX h12,cX h13];rfl)⟩,?_⟩
   refine⟨_,U,_,.inr U,?_⟩
   refine aV (λxs s=>∃ (ms:List fZ) (ks:List (List Key)) (vs:List D) (x9 jV js gf hZ:Sl),xs=ms.map bW/\(∀ m∈ms,m∈kd.bj)/\yF W kd (n+2) ks vs/\ks.length+5 * ms.length<=25/\(x9.pl=true/\jV.pl=true/\js.pl=true/\gf.pl=true/\hZ.pl=true)/\s=⟨[.dat (.eW d),.dat (dZ W),.dat (.int room),.own 0,.dat (.str (bu kd.asked)),.dat (.str kd.name),.dat (.tup (kd.bj.map bW)),.dat (.tup (kd.bO.map bP)),.own 1,x9,jV,js,gf,hZ],[some (.lst (u6.map DQ)),some (.kq ks vs)]⟩) ?_ ?_ _ _ ⟨kd.bj,[],[],x9,jV,js,gf,hZ,U,λ_ h=>h,yF.nil,by simp;omega,⟨h9,h10,h11,h12,h13⟩,U⟩
   ·rintro s ⟨ms,ks,vs,y9,ua,u4,y12,ED,hx,_,hC,_,⟨g9,g10,g11,g12,g13⟩,rfl⟩
    refine⟨0,_,U,U,U,?_⟩
    refine .inr ⟨_,_,U,U,?_⟩
    have hcl:u6.length=dn.length:=f9 hP
    have hdl:=congrArg List.length hdt
    rw[Tt] at hdl
    have hkl:=cC.kl
    refine⟨_,U,_,_,U,U,by rw[Tr];omega,?_⟩
    refine hN _ ⟨dn++[kd],td,u6++[(ks,vs)],_,_,_,_,.dat (.kq ks vs),_,_,_,_,_,by rw[hdt];simp,U,xZ hP hC,⟨b9 (k:=1) (d:=.kq ks vs) g9,b9 (k:=1) (d:=.kq ks vs) g10,b9 (k:=1) (d:=.kq ks vs) g11,b9 (k:=1) (d:=.kq ks vs) g12,b9 (k:=1) (d:=.kq ks vs) g13⟩,by rw[List.map_append];rfl⟩
   ·rintro x xs s N2 ⟨ms,ks,vs,y9,ua,u4,y12,ED,hx,hms,hC,hcl,⟨g9,g10,g11,g12,g13⟩,rfl⟩ hN2 hE_2
    cases ms with
    | nil=>cases hx
    | cons m ms =>
    injection hx with e1 e2
    subst e1 e2
    have hm:=hms m Tu
    have hcl:ks.length+5 * (ms.length+1)<=25:=hcl
    refine⟨_,U,U,_,_,U,_,_,U,U,?_⟩
    refine⟨_,U,_,.inr U,?_⟩
    refine aV (λxs s=>∃ (as:List fB) (ks:List (List Key)) (vs:List D) (js gf hZ:Sl),xs=as.map bP/\(∀ a∈as,a∈kd.bO)/\yF W kd (n+2) ks vs/\ks.length+as.length+5 * ms.length<=25/\(js.pl=true/\gf.pl=true/\hZ.pl=true)/\s=⟨[.dat (.eW d),.dat (dZ W),.dat (.int room),.own 0,.dat (.str (bu kd.asked)),.dat (.str kd.name),.dat (.tup (kd.bj.map bW)),.dat (.tup (kd.bO.map bP)),.own 1,.dat (.str m.name),.dat (eF m.fs),js,gf,hZ],[some (.lst (u6.map DQ)),some (.kq ks vs)]⟩) ?_ ?_ _ _ ⟨kd.bO,ks,vs,u4,y12,ED,U,λ_ h=>h,hC,by omega,⟨g11,g12,g13⟩,U⟩
    ·rintro s ⟨as,ks,vs,z11,z12,z13,hx,_,hC,hcl,⟨f11,f12,f13⟩,rfl⟩
     exact hN2 _ ⟨ms,ks,vs,_,_,z11,z12,z13,U,λa ha=>hms a (Tv _ ha),hC,by omega,⟨U,U,f11,f12,f13⟩,U⟩
    ·rintro x xs s N3 ⟨as,ks,vs,z11,z12,z13,hx,has,hC,hcl,⟨f11,f12,f13⟩,rfl⟩ hN3 hE_3
     cases as with
     | nil=>cases hx
     | cons a as =>
     injection hx with e1 e2
     subst e1 e2
     have ha:=has a Tu
     have hcl:ks.length+(as.length+1)+5 * ms.length<=25:=hcl
     refine⟨_,U,U,_,_,U,_,_,U,_,_,U,U,?_⟩
     refine⟨_,U,_,U,⟨by decide,by decide⟩,λr r0 r1=>?_⟩
     refine⟨_,_,U,U,_,U,?_⟩
     refine aR U (λ_=>?_) λ_=>?_
     rotate_left
     ·exact hN3 _ ⟨as,ks,vs,_,_,_,U,λb hb=>has b (Tv _ hb),hC,by omega,⟨U,U,U⟩,U⟩
     obtain⟨_,m2,_⟩:=cC.mo kd hkd m hm
     obtain⟨_,⟨a2,_⟩,ar⟩:=cC.ao kd hkd a ha
     have hm3:=m2
     refine⟨_,U,_,U,?_⟩
     refine⟨_,U,?_⟩
     refine⟨_,.inr U,?_⟩
     refine⟨_,U,_,.inr U,?_⟩
     refine⟨_,_,U,U,by rw[Tr,Tr];omega,?_⟩
     refine⟨_,U,_,U,?_⟩
     refine⟨W,m.fs++a.ps,a.res,room,by rw[Tx],⟨cC,hmk,DL.xy cC hkd hm ha,ar,h0,h1⟩,λt ht hd=>?_⟩
     refine⟨1,U,_,U,_,U,_,U,?_⟩
     refine .inr ⟨_,_,_,[.inr m.name,.inr a.name],U,U,U,by omega,?_⟩
     have hp:=xu (x:=toD t) (q:=[.inr m.name,.inr a.name]) hC.1
     exact hN3 _ ⟨as,_,_,_,_,_,U,λb hb=>has b (Tv _ hb),hC.put hm ha ht (hd.sm (by omega)),by omega,⟨U,U,U⟩,U⟩
def O5(d:Addr)(n:Nat):VI:=λds R=>∃ (W:er) (room:Int),ds=[.eW d,dZ W,.int room]/\(jG W/\(∀ k∈W.kinds,k.bj≠[])/\0<=room/\room<=n+1/\room<=24)/\∀ ps:List PK,ps.map PK.kd=W.kinds->(∀ p∈ps,PF (n+2) p)->R (.tup (ps.map cm))
theorem AI{α β:Type}{F:α->β->Prop}{f:α->D}{h:β->D}:∀ {l₁:List α} {l₂:List β},Paired F l₁ l₂->oO (l₁.map f) (l₂.map h)=(l₁.zip l₂).map λx=>D.tup [f x.1,h x.2]
 | _,_,.nil=>rfl
 | _,_,.cons r t=>by
  have:=AI (f:=f) (h:=h) t
  unfold oO at this ⊢
  rw[TC,TC,List.zipWith_cons_cons,this]
  rfl
theorem Bz{α β:Type}{F:α->β->Prop}:∀ {l₁:List α} {l₂:List β},Paired F l₁ l₂->∀ x∈l₁.zip l₂,F x.1 x.2
 | _,_,.nil,x,h=>by cases h
 | _,_,.cons r t,x,h=>by
  rcases TX.mp h with rfl | h
  ·exact r
  ·exact Bz t x h
theorem FC{r:Int}(h0:0<=r)(h1:r < 2):∃ w:Int,jQ [D.int 1,D.int (-1)] r=some (.int w)/\(w=1\/w=-1):=by
 have:r=0\/r=1:=by omega
 rcases this with rfl | rfl
 ·exact⟨1,U,.inl U⟩
 ·exact⟨-1,U,.inr U⟩
theorem Ls{d l:Addr}(d9:C4 P w K mg base bb aY 1 (cn K (aU d l) (fG d))){n lv:Nat}(Sn:C4 P w K mg base bb gy lv (cn K (aU d l) (IB d n)))(F:Own K mg fb)(T:Txt K mg)(Ms:2<=lv):C4 P w K mg base bb fb (lv+1) (cn K (aU d l) (O5 d n)):=by
 refine F.d (nos:=2) aD (λds R h=>?_) λf bN A outer s H E M hr=>⟨_,(af (sN 0 3 aD.nd (aN ae))
 (af (sF (JJ U T.zip (aa (dw (aW (b7 hr) (DE.pe (vd 1)) (DE.pe aw) (λ_ _=>rfl))) (aa (av hr Sn (aa (vd 0) (aa (vd 1) (aa (vd 2) ae)))) ae))) (bI (m:=2) U (aq (gN 4 aD.nd) (aq (fA (cT (i:=5) aD.nd U (Or.inr U)) (by decide)) bH)))
 (af (mh (n:=1000) (vd 4) (bI (m:=4) U (aq (gN 6 aD.nd) (aq (gN 7 aD.nd) (aq (gN 8 aD.nd) (aq (gN 9 aD.nd) bH))))))
 (af (sS 10 aD.nd (jJ (DN.de (aN (aa ag (aa (dc (d:=.int (-1)) gn U) ae)))) (av hr d9 (aa (vd 0) (aa ag ae)))))
 (af (sN 1 11 aD.nd (aN ae))
 (af (sF (aI (vd 9)) (bI (m:=3) U (aq (fA (cT (i:=12) aD.nd U (Or.inr U)) (by decide)) (aq (gN 13 aD.nd) (aq (gN 14 aD.nd) bH))))
 (af (sS 15 aD.nd (DN.de (EJ (DN.de (nC ["_law_c","_law_fields"] [5,12] (aI (vd 8)) (λ_ _ _ _=>(bI (m:=2) U (aq (gM 0 ["_law_c","_law_fields","_law_cells_here","_law_f"]) (aq (gM 1 ["_law_c","_law_fields","_law_cells_here","_law_f"]) bH)))) (λ_ _ _ _=>eX (rA (b7 hr) (aA (aa (vd 0) (aa (vd 3) ae))) (vd 2)))
 (λ_ _ _ _=>(aA (aa (vd 0) (aa (dw (aW (b7 hr) (DE.pe (vd 2)) (DE.pe (aA (aa (vd 0) (aa (vd 3) ae)))) (λ_ _=>rfl))) ae)))))) (vd 10))))
 (ah (ph 11 (aa (aA (aa (vd 12) (aa (vd 13) (aa (vd 14) (aa (eK T.tuple (aa (vd 15) ae)) ae))))) ae)))))
 (af (bZ (aB bw cU (vd 6) aw (ax _))
 (af (sN 1 11 aD.nd (aN ae))
 (ah (sF (aI (vd 8)) (bI (m:=2) U (aq (fA (cT (i:=16) aD.nd U (Or.inr U)) (by decide)) (aq (gN 17 aD.nd) bH)))
 (af (sS 15 aD.nd (DN.de (EJ (DN.de (nC ["_law_f","_law_params","_law_result"] [5,16] (aI (vd 9)) (λ_ _ _ _=>(bI (m:=3) U (aq (gM 0 ["_law_f","_law_params","_law_result","_law_cells_here","_law_c"]) (aq (gM 1 ["_law_f","_law_params","_law_result","_law_cells_here","_law_c"]) (aq (gM 2 ["_law_f","_law_params","_law_result","_law_cells_here","_law_c"]) bH))))) (λ_ _ _ _=>eX (rA (b7 hr) (aA (aa (vd 4) (aa (vd 0) ae))) (vd 3)))
 (λ_ _ _ _=>(aA (aa (vd 0) (aa (dw (aW (b7 hr) (DE.pe (vd 3)) (DE.pe (aA (aa (vd 4) (aa (vd 0) ae)))) (λ_ _=>rfl))) ae)))))) (vd 10))))
 (ah (ph 11 (aa (aA (aa (vd 16) (aa (vd 17) (aa (eK T.tuple (aa (vd 15) ae)) ae)))) ae)))))))
 aJ)
 (ah (ph 3 (aa (aA (aa (vd 6) (aa (vd 7) (aa (jJ (DN.de (aN (aa (vd 8) (aa (vd 9) ae)))) (fj eP kc U T.int (by decide+kernel) (aa (gw bw cU (vd 6) aw (ax _)) ae))) (aa (eK T.tuple (aa (mV (pv 11)) ae)) ae))))) ae)))))))))
 (ah (aP (eK T.tuple (aa (mV (pv 3)) ae)))))),λds R h=>?_⟩
 ·obtain⟨W,room,rfl,_⟩:=h
  rfl
 ·obtain⟨W,room,rfl,⟨cC,hmk,h0,h1,h24⟩,q⟩:=h
  have hsz:=bq
  refine⟨⟨U,U⟩,?_⟩
  refine⟨_,U,?_⟩
  refine cR ⟨_,U,?_⟩
  refine⟨_,U,_,U,_,U,W,room,U,⟨cC,hmk,h0,h1,h24⟩,λu6 pj=>?_⟩
  refine⟨_,_,_,_,U,⟨U,U⟩,?_⟩
  rw[AI pj]
  have hzl:(W.kinds.zip u6).map (·.1)=W.kinds:=Vg (by rw[f9 pj];exact TB _)
  have hzp:=Bz pj
  have hzk:∀ x∈W.kinds.zip u6,x.1∈W.kinds:=λx hx=>(Um (a:=x.1) (b:=x.2) hx).1
  generalize W.kinds.zip u6=zs0 at hzl hzp hzk
  refine aV (λxs s=>∃ (td:List (Kd×(List (List Key)×List D))) (ps:List PK) (x4 x5 x6 x7 x8 x9 jV js gf hZ u7 u9 zk zj:Sl),xs=td.map (λx=>D.tup [lI x.1,DQ x.2])/\(∀ x∈td,x∈zs0)/\ps.map PK.kd++td.map (·.1)=W.kinds/\(∀ p∈ps,PF (n+2) p)/\(gf.pl=true/\hZ.pl=true/\u7.pl=true/\u9.pl=true/\zk.pl=true/\zj.pl=true)/\s=⟨[.dat (.eW d),.dat (dZ W),.dat (.int room),.own 0,x4,x5,x6,x7,x8,x9,jV,js,gf,hZ,u7,u9,zk,zj],[some (.lst (ps.map cm)),none]⟩) ?_ ?_ _ _ ⟨zs0,[],.no,.no,.no,.no,.no,.no,.no,.no,.no,.no,.no,.no,.no,.no,U,λ_ h=>h,hzl,λ_ h=>(nomatch h),⟨U,U,U,U,U,U⟩,U⟩
  ·rintro s ⟨td,ps,x4,x5,x6,x7,x8,x9,jV,js,gf,hZ,u7,u9,zk,zj,hx,_,hps,aL,_,rfl⟩
   have htd:td=[]:=by
    cases td with
    | nil=>rfl
    | cons a b=>cases hx
   rw[htd,UH,TM] at hps
   refine .inr ⟨_,_,U,U,_,.inl U,?_⟩
   exact q ps hps aL
  ·rintro x xs s N ⟨td,ps,x4,x5,x6,x7,x8,x9,jV,js,gf,hZ,u7,u9,zk,zj,hx,htd,hps,aL,⟨g12,g13,g14,g15,g16,g17⟩,rfl⟩ hN hE_
   cases td with
   | nil=>cases hx
   | cons z td =>
   injection hx with e1 e2
   subst e1 e2
   obtain⟨kd,ks,vs⟩:=z
   have hz0:=htd _ Tu
   have hkd:kd∈W.kinds:=hzk _ hz0
   have hC:yF W kd (n+2) ks vs:=hzp _ hz0
   refine⟨_,U,U,_,_,U,_,_,U,U,?_⟩
   refine⟨_,U,?_⟩
   refine⟨_,U,U,_,_,U,_,_,U,_,_,U,_,_,U,U,?_⟩
   refine⟨_,U,_,U,⟨by decide,by decide⟩,λr r0 r1=>?_⟩
   obtain⟨wy,ewy,hwy⟩:=FC r0 r1
   refine⟨_,_,_,U,U,ewy,?_⟩
   refine⟨⟨U,(show noRef 1 7 [gf,hZ,u7,u9,zk,zj]=true by rw[cX g12,cX g13,cX g14,cX g15,cX g16,cX g17];rfl)⟩,?_⟩
   refine⟨_,U,_,.inr U,?_⟩
   obtain⟨_,k5,a5⟩:=cC.kw kd hkd
   refine aV (λxs s=>∃ (dn td:List fB) (tabs:List (List (Str×Tm))) (gf hZ u7 u9 zk zj:Sl),kd.bO=dn++td/\xs=td.map bP/\tabs.length=dn.length/\(∀ rs∈tabs,xa (kd.bj.map fZ.name) (n+2) rs)/\(gf.pl=true/\hZ.pl=true/\u7.pl=true/\u9.pl=true/\zk.pl=true/\zj.pl=true)/\s=⟨[.dat (.eW d),.dat (dZ W),.dat (.int room),.own 0,.dat (lI kd),.dat (DQ (ks,vs)),.dat (.str (bu kd.asked)),.dat (.str kd.name),.dat (.tup (kd.bj.map bW)),.dat (.tup (kd.bO.map bP)),.dat (.int wy),.own 1,gf,hZ,u7,u9,zk,zj],[some (.lst (ps.map cm)),some (.lst ((dn.zip tabs).map b5))]⟩) ?_ ?_ _ _ ⟨[],kd.bO,[],gf,hZ,u7,u9,zk,zj,U,U,U,λ_ h=>(nomatch h),⟨g12,g13,g14,g15,g16,g17⟩,U⟩
   rotate_left
   ·rintro x xs s N2 ⟨dn,td,tabs,y12,ED,y14,y15,y16,y17,hdt,hx,htl,hro,⟨p12,p13,p14,p15,p16,p17⟩,rfl⟩ hN2 hE_2
    cases td with
    | nil=>cases hx
    | cons b0 td =>
    injection hx with e1 e2
    subst e1 e2
    have hb0:b0∈kd.bO:=by rw[hdt];simp
    refine⟨_,U,U,_,_,U,_,_,U,_,_,U,U,?_⟩
    refine⟨_,U,_,.inr U,?_⟩
    refine ir bW dH (λr0 (r:Str×Tm)=>r.1=r0.name/\(λt=>Ty W (r0.fs++b0.ps) b0.res t/\t.sm (n+2)) r.2) _ (λr0 hr0 k N0 g1 g2=>?_) λsub rs hsub hprs=>?_
    ·refine⟨_,U,U,_,_,U,_,_,U,U,?_⟩
     refine⟨_,U,_,U,_,U,U,.inr ⟨_,_,_,[.inr r0.name,.inr b0.name],U,U,U,?_⟩⟩
     cases hl:cp ks vs [.inr r0.name,.inr b0.name] with
     | none=>exact⟨_,U,nk U (g2 _ U)⟩
     | some v =>
      obtain⟨t,rfl,ht1,ht2⟩:=hC.at cC hkd hr0 hb0 hl
      exact⟨_,U,jD U ⟨_,U,_,U,_,U,_,U,U,.inr ⟨_,_,_,[.inr r0.name,.inr b0.name],U,U,U,_,hl,g1 (r0.name,t) _ ⟨U,ht1,ht2⟩ rfl⟩⟩⟩
    have hrw:xa (kd.bj.map fZ.name) (n+2) rs:=Ex (F:=λr0 t=>Ty W (r0.fs++b0.ps) b0.res t/\t.sm (n+2)) (rR cC hkd) k5 hsub hprs λr0 hr0 t ht=>⟨(jB cC hkd hr0 hb0 ht.1).1,(jB cC hkd hr0 hb0 ht.1).2,ht.2⟩
    have hrw2:=hrw.perm (qE wy rs)
    rw[TJ]
    refine⟨_,U,_,wy,U,U,hwy,?_⟩
    rw[tY]
    have hdl:=congrArg List.length hdt
    rw[Tt] at hdl
    refine⟨1,_,U,U,U,?_⟩
    refine⟨_,U,_,U,_,U,_,U,_,.inl U,?_⟩
    refine⟨_,U,_,_,U,U,?_,?_⟩
    ·rw[Tr,U6]
     omega
    refine hN2 _ ⟨dn++[b0],td,tabs++[lg wy rs],.dat (.str b0.name),.dat (eF b0.ps),.dat (.str b0.res),.dat (.lst ((lg wy rs).map dH)),y16,y17,by rw[hdt];simp,U,by rw[List.length_append,List.length_append,htl];rfl,λq hq=>?_,⟨U,U,U,U,p16,p17⟩,?_⟩
    ·rcases TY.mp hq with hq | hq
     ·exact hro q hq
     ·rw[TL.mp hq]
      exact hrw2
    ·rw[uz htl,Tx]
     rfl
   ·rintro s ⟨dn,td2,tabs,z12,z13,z14,z15,z16,z17,hdt,hx,htl,hro,⟨f12,f13,f14,f15,f16,f17⟩,rfl⟩
    have htd2:td2=[]:=by
     cases td2 with
     | nil=>rfl
     | cons a b=>cases hx
    rw[htd2,TM] at hdt
    subst hdt
    refine⟨_,U,⟨U,U,U⟩,_,U,?_⟩
    refine aR (b':=kd.asked) (dX _) (λhask=>?_) λhask=>?_
    rotate_left
    ·refine⟨0,_,U,U,U,?_⟩
     refine⟨_,U,_,U,?_⟩
     refine⟨_,U,_,U,_,U,⟨U,U,U⟩,?_⟩
     refine .inr ⟨_,U,?_⟩
     rw[dX,hask]
     refine⟨_,_,_,U,U,U,?_⟩
     refine .inr ⟨_,_,U,U,?_⟩
     refine⟨_,.inl U,?_⟩
     refine⟨_,U,_,_,U,U,?_,?_⟩
     ·have:=congrArg List.length hps
      rw[Tt,Tr] at this
      have:=cC.kl
      rw[Tr]
      omega
     have hpk:PF (n+2) ⟨false,kd,tabs⟩:=⟨cC.Pk hkd,by rw[htl];rfl,hro⟩
     refine hN _ ⟨td,ps++[⟨false,kd,tabs⟩],.dat (lI kd),.dat (DQ (ks,vs)),.dat (.str (bu kd.asked)),.dat (.str kd.name),.dat (.tup (kd.bj.map bW)),.dat (.tup (kd.bO.map bP)),.dat (.int wy),.dat (D.lst ((kd.bO.zip tabs).map b5)),(je 1 (D.lst ((kd.bO.zip tabs).map b5)) z12),(je 1 (D.lst ((kd.bO.zip tabs).map b5)) z13),(je 1 (D.lst ((kd.bO.zip tabs).map b5)) z14),(je 1 (D.lst ((kd.bO.zip tabs).map b5)) z15),(je 1 (D.lst ((kd.bO.zip tabs).map b5)) z16),(je 1 (D.lst ((kd.bO.zip tabs).map b5)) z17),U,λx hx=>htd x (List.mem_cons_of_mem _ hx),by rw[<- hps];simp,λp hp=>?_,⟨b9 f12,b9 f13,b9 f14,b9 f15,b9 f16,b9 f17⟩,?_⟩
     ·rcases TY.mp hp with hp | hp
      ·exact aL p hp
      ·rw[TL.mp hp]
       exact hpk
     ·rw[Tx]
      show _=DS.mk _ [some (D.lst (ps.map cm++[D.tup [D.str (bu false),D.str kd.name,rE ⟨false,kd,tabs⟩,D.tup (c9 ⟨false,kd,tabs⟩)]])),none]
      rw[hask]
      rfl
    refine⟨⟨U,(show noRef 1 7 [z12,z13,z14,z15,z16,z17]=true by rw[cX f12,cX f13,cX f14,cX f15,cX f16,cX f17];rfl)⟩,?_⟩
    refine⟨_,U,_,.inr U,?_⟩
    refine aV (λxs s=>∃ (dn td:List fZ) (tabs:List (List (Str×Tm))) (gf hZ u7 u9 zk zj:Sl),kd.bj=dn++td/\xs=td.map bW/\tabs.length=dn.length/\(∀ rs∈tabs,xa (kd.bO.map fB.name) (n+2) rs)/\(gf.pl=true/\hZ.pl=true/\u7.pl=true/\u9.pl=true/\zk.pl=true/\zj.pl=true)/\s=⟨[.dat (.eW d),.dat (dZ W),.dat (.int room),.own 0,.dat (lI kd),.dat (DQ (ks,vs)),.dat (.str (bu kd.asked)),.dat (.str kd.name),.dat (.tup (kd.bj.map bW)),.dat (.tup (kd.bO.map bP)),.dat (.int wy),.own 1,gf,hZ,u7,u9,zk,zj],[some (.lst (ps.map cm)),some (.lst ((dn.zip tabs).map cx))]⟩) ?_ ?_ _ _ ⟨[],kd.bj,[],z12,z13,z14,z15,z16,z17,U,U,U,λ_ h=>(nomatch h),⟨f12,f13,f14,f15,f16,f17⟩,U⟩
    rotate_left
    ·rintro x xs s N2 ⟨dn,td,tabs,y12,ED,y14,y15,y16,y17,hdt,hx,htl,hro,⟨p12,p13,p14,p15,p16,p17⟩,rfl⟩ hN2 hE_2
     cases td with
     | nil=>cases hx
     | cons b0 td =>
     injection hx with e1 e2
     subst e1 e2
     have hb0:b0∈kd.bj:=by rw[hdt];simp
     refine⟨_,U,U,_,_,U,_,_,U,U,?_⟩
     refine⟨_,U,_,.inr U,?_⟩
     refine ir bP dH (λr0 (r:Str×Tm)=>r.1=r0.name/\(λt=>Ty W (b0.fs++r0.ps) r0.res t/\t.sm (n+2)) r.2) _ (λr0 hr0 k N0 g1 g2=>?_) λsub rs hsub hprs=>?_
     ·refine⟨_,U,U,_,_,U,_,_,U,_,_,U,U,?_⟩
      refine⟨_,U,_,U,_,U,U,.inr ⟨_,_,_,[.inr b0.name,.inr r0.name],U,U,U,?_⟩⟩
      cases hl:cp ks vs [.inr b0.name,.inr r0.name] with
      | none=>exact⟨_,U,nk U (g2 _ U)⟩
      | some v =>
       obtain⟨t,rfl,ht1,ht2⟩:=hC.at cC hkd hb0 hr0 hl
       exact⟨_,U,jD U ⟨_,U,_,U,_,U,_,U,U,.inr ⟨_,_,_,[.inr b0.name,.inr r0.name],U,U,U,_,hl,g1 (r0.name,t) _ ⟨U,ht1,ht2⟩ rfl⟩⟩⟩
     have hrw:xa (kd.bO.map fB.name) (n+2) rs:=Ex (F:=λr0 t=>Ty W (b0.fs++r0.ps) r0.res t/\t.sm (n+2)) (sJ cC hkd) a5 hsub hprs λr0 hr0 t ht=>⟨(jB cC hkd hb0 hr0 ht.1).1,(jB cC hkd hb0 hr0 ht.1).2,ht.2⟩
     have hrw2:=hrw.perm (qE wy rs)
     rw[TJ]
     refine⟨_,U,_,wy,U,U,hwy,?_⟩
     rw[tY]
     have hdl:=congrArg List.length hdt
     rw[Tt] at hdl
     refine⟨1,_,U,U,U,?_⟩
     refine⟨_,U,_,U,_,U,_,.inl U,?_⟩
     refine⟨_,U,_,_,U,U,?_,?_⟩
     ·rw[Tr,U6]
      omega
     refine hN2 _ ⟨dn++[b0],td,tabs++[lg wy rs],y12,ED,y14,.dat (.lst ((lg wy rs).map dH)),.dat (.str b0.name),.dat (eF b0.fs),by rw[hdt];simp,U,by rw[List.length_append,List.length_append,htl];rfl,λq hq=>?_,⟨p12,p13,p14,U,U,U⟩,?_⟩
     ·rcases TY.mp hq with hq | hq
      ·exact hro q hq
      ·rw[TL.mp hq]
       exact hrw2
     ·rw[uz htl,Tx]
      rfl
    ·rintro s ⟨dn,td3,tabs,z12,z13,z14,z15,z16,z17,hdt,hx,htl,hro,⟨f12,f13,f14,f15,f16,f17⟩,rfl⟩
     have htd3:td3=[]:=by
      cases td3 with
      | nil=>rfl
      | cons a b=>cases hx
     rw[htd3,TM] at hdt
     subst hdt
     refine⟨0,_,U,U,U,?_⟩
     refine⟨_,U,_,U,?_⟩
     refine⟨_,U,_,U,_,U,⟨U,U,U⟩,?_⟩
     refine .inr ⟨_,U,?_⟩
     rw[dX,hask]
     refine⟨_,_,_,U,U,U,?_⟩
     refine .inr ⟨_,_,U,U,?_⟩
     refine⟨_,.inl U,?_⟩
     refine⟨_,U,_,_,U,U,?_,?_⟩
     ·have:=congrArg List.length hps
      rw[Tt,Tr] at this
      have:=cC.kl
      rw[Tr]
      omega
     have hpk:PF (n+2) ⟨true,kd,tabs⟩:=⟨cC.Pk hkd,by rw[htl];rfl,hro⟩
     refine hN _ ⟨td,ps++[⟨true,kd,tabs⟩],.dat (lI kd),.dat (DQ (ks,vs)),.dat (.str (bu kd.asked)),.dat (.str kd.name),.dat (.tup (kd.bj.map bW)),.dat (.tup (kd.bO.map bP)),.dat (.int wy),.dat (D.lst ((kd.bj.zip tabs).map cx)),(je 1 (D.lst ((kd.bj.zip tabs).map cx)) z12),(je 1 (D.lst ((kd.bj.zip tabs).map cx)) z13),(je 1 (D.lst ((kd.bj.zip tabs).map cx)) z14),(je 1 (D.lst ((kd.bj.zip tabs).map cx)) z15),(je 1 (D.lst ((kd.bj.zip tabs).map cx)) z16),(je 1 (D.lst ((kd.bj.zip tabs).map cx)) z17),U,λx hx=>htd x (List.mem_cons_of_mem _ hx),by rw[<- hps];simp,λp hp=>?_,⟨b9 f12,b9 f13,b9 f14,b9 f15,b9 f16,b9 f17⟩,?_⟩
     ·rcases TY.mp hp with hp | hp
      ·exact aL p hp
      ·rw[TL.mp hp]
       exact hpk
     ·rw[Tx]
      show _=DS.mk _ [some (D.lst (ps.map cm++[D.tup [D.str (bu true),D.str kd.name,rE ⟨true,kd,tabs⟩,D.tup (c9 ⟨true,kd,tabs⟩)]])),none]
      rw[hask]
      rfl
def OS:VI:=λds R=>∃ (n:Nat) (p:PK),ds=[cm p]/\PF n p/\R (.tup (p.kd.bj.map bW))
theorem Lk(F:Own K mg gB)(T:Txt K mg):C4 P w K mg base bb gB 1 (cn K .no OS):=by
 refine F.d (nos:=0) rP (λds R h=>?_) λf bN A outer s H E M hr=>⟨_,(af (bZ (aB bw cU (cO (vd 0) ag) aw (ax _))
 (ah (aP (cO (vd 0) ag)))
 aJ)
 (ah (aP (eK T.tuple (aa (DN.de (nC ["table"] [] (aI (cO (vd 0) ag)) (λ_ _ _ _=>(gM 0 ["table"])) (λ_ _ _ _=>bh)
 (λ_ _ _ _=>(aA (aa (cO (vd 0) ag) (aa (cO (vd 0) ag) ae)))))) ae))))),λds R h=>?_⟩
 ·obtain⟨n,p,rfl,_⟩:=h
  rfl
 ·obtain⟨n,⟨b,kd,ts⟩,rfl,ok,q⟩:=h
  have tl:=ok.tl
  refine⟨_,U,_,_,_,U,U,U,⟨U,U,U⟩,_,U,?_⟩
  cases b with
  | false=>exact jD (c7 false) ⟨_,U,_,_,_,U,U,U,q⟩
  | true =>
   refine nk (c7 true) ?_
   refine⟨_,U,_,_,_,U,U,U,_,.inr U,?_⟩
   refine aH cx (λx=>bW x.1) _ (λx hx k hk=>⟨_,U,_,_,_,U,U,U,_,U,_,_,_,U,U,U,hk _ U⟩) ?_
   refine⟨_,.inl U,?_⟩
   rw[TJ,ur tl]
   exact q
def Py:VI:=λds R=>∃ (n:Nat) (p:PK),ds=[cm p]/\PF n p/\R (.tup (p.kd.bO.map bP))
theorem IQ(F:Own K mg gz)(T:Txt K mg):C4 P w K mg base bb gz 1 (cn K .no Py):=by
 refine F.d (nos:=0) rj (λds R h=>?_) λf bN A outer s H E M hr=>⟨_,(af (bZ (aB bw cU (cO (vd 0) ag) aw (ax _))
 (ah (aP (cO (vd 0) ag)))
 aJ)
 (ah (aP (eK T.tuple (aa (DN.de (nC ["function"] [] (aI (cO (vd 0) ag)) (λ_ _ _ _=>(gM 0 ["function"])) (λ_ _ _ _=>bh)
 (λ_ _ _ _=>(aA (aa (cO (vd 0) ag) (aa (cO (vd 0) ag) (aa (cO (vd 0) ag) ae))))))) ae))))),λds R h=>?_⟩
 ·obtain⟨n,p,rfl,_⟩:=h
  rfl
 ·obtain⟨n,⟨b,kd,ts⟩,rfl,ok,q⟩:=h
  have tl:=ok.tl
  refine⟨_,U,_,_,_,U,U,U,⟨U,U,U⟩,_,U,?_⟩
  cases b with
  | true=>exact jD (dX true) ⟨_,U,_,_,_,U,U,U,q⟩
  | false =>
   refine nk (dX false) ?_
   refine⟨_,U,_,_,_,U,U,U,_,.inr U,?_⟩
   refine aH b5 (λx=>bP x.1) _ (λx hx k hk=>⟨_,U,_,_,_,U,U,U,_,U,_,_,_,U,U,U,_,U,_,_,_,U,U,U,hk _ U⟩) ?_
   refine⟨_,.inl U,?_⟩
   rw[TJ,tR tl]
   exact q
def Qn:VI:=λds R=>∃ (n:Nat) (p:PK),ds=[cm p]/\PF n p/\R (.lst ((yO p).map C7))
theorem Kx(F:Own K mg gF)(T:Txt K mg):C4 P w K mg base bb gF 1 (cn K .no Qn):=by
 refine F.d (nos:=0) sG (λds R h=>?_) λf bN A outer s H E M hr=>⟨_,(ah (aP (DN.de (nC ["table"] [] (aI (cO (vd 0) ag)) (λ_ _ _ _=>(gM 0 ["table"])) (λ_ _ _ _=>bh)
 (λ_ _ _ _=>(aA (aa (cO (vd 0) ag) (aa (cO (vd 0) (dc (d:=.int (-1)) gn U)) ae)))))))),λds R h=>?_⟩
 ·obtain⟨n,p,rfl,_⟩:=h
  rfl
 ·obtain⟨n,⟨b,kd,ts⟩,rfl,ok,q⟩:=h
  refine⟨_,U,_,_,_,U,U,U,_,.inr U,?_⟩
  cases b with
  | true =>
   refine aH cx (λx=>C7 (x.1.name,x.2)) _ (λx hx k hk=>⟨_,U,_,_,_,U,U,U,_,U,_,_,_,U,U,U,hk _ U⟩) ?_
   rw[AQ,T9] at q
   exact q
  | false =>
   refine aH b5 (λx=>C7 (x.1.name,x.2)) _ (λx hx k hk=>⟨_,U,_,_,_,U,U,U,_,U,_,_,_,U,U,U,hk _ U⟩) ?_
   rw[AR,T9] at q
   exact q
def B8(ps:List PK)(nm:Str):D:=match ps.find? (λp=>decide (p.kd.name=nm)) with
 | some p=>cm p
 | none=>.bD
def Pp:VI:=λds R=>∃ (ps:List PK) (nm:Str),ds=[.tup (ps.map cm),.str nm]/\R (B8 ps nm)
theorem JO(F:Own K mg eY)(T:Txt K mg):C4 P w K mg base bb eY 1 (cn K .no Pp):=by
 refine F.d (nos:=0) iY (λds R h=>?_) λf bN A outer s H E M hr=>⟨_,(af (sF (aI (vd 0)) (gN 2 iY.nd)
 (ah (bZ (aB bw cU (cO (vd 2) ag) (vd 1) (ax _))
 (ah (aP (vd 2)))
 aJ)))
 (ah (aP jh))),λds R h=>?_⟩
 ·obtain⟨ps,nm,rfl,_⟩:=h
  rfl
 ·obtain⟨ps,nm,rfl,q⟩:=h
  refine⟨_,U,_,.inr U,?_⟩
  refine aV (λxs s=>∃ (rs:List PK) (x2:Sl),xs=rs.map cm/\B8 rs nm=B8 ps nm/\s=⟨[.dat (.tup (ps.map cm)),.dat (.str nm),x2],[]⟩) ?_ ?_ _ _ ⟨ps,.no,U,U,U⟩
  ·rintro s ⟨rs,x2,hx,hr,rfl⟩
   cases rs with
   | nil =>
    rw[<- hr] at q
    exact q
   | cons a b=>cases hx
  ·rintro x xs s N ⟨rs,x2,hx,hr,rfl⟩ hN hE_
   cases rs with
   | nil=>cases hx
   | cons r rs =>
   injection hx with e1 e2
   subst e1 e2
   refine⟨_,U,_,_,_,U,U,U,_,U,⟨U,U,U⟩,_,U,?_⟩
   refine aR (b':=decide (r.kd.name=nm)) dM (λe=>?_) λe=>?_
   ·refine⟨_,U,?_⟩
    have e3:B8 (r::rs) nm=cm r:=by
     unfold B8
     rw[Vz (p:=λp:PK=>decide (p.kd.name=nm)) e]
    rw[<- hr,e3] at q
    exact hE_ _ q
   ·refine hN _ ⟨rs,_,U,?_,U⟩
    rw[<- hr]
    unfold B8
    rw[VA (by rw[e];decide)]
def Oi(z:Nat×PK):D:=.tup [.int z.1,cm z.2]
def sQ:Nat->List PK->List (Nat×PK)
 | _,[]=>[]
 | r,p::ps=>(r,p)::sQ (r+1+(c9 p).length) ps
def Px:VI:=λds R=>∃ (n:Nat) (ps:List PK),ds=[.tup (ps.map cm)]/\(ps.length<=10/\∀ p∈ps,PF n p)/\R (.lst ((sQ 0 ps).map Oi))
theorem ll{n:Nat}{p:PK}(h:PF n p):(c9 p).length<=5:=by
 obtain⟨_,h2,h3⟩:=h.bl
 obtain⟨b,kd,ts⟩:=p
 cases b with
 | true =>
  show ((kd.bj.zip ts).map cx).length<=5
  have h3:(kd.bj.map fZ.name).length<=5:=h3
  rw[Tr] at h3
  rw[Tr,U6]
  omega
 | false =>
  show ((kd.bO.zip ts).map b5).length<=5
  have h3:(kd.bO.map fB.name).length<=5:=h3
  rw[Tr] at h3
  rw[Tr,U6]
  omega
theorem JY(F:Own K mg dq)(T:Txt K mg):C4 P w K mg base bb dq 1 (cn K .no Px):=by
 refine F.d (nos:=1) cD (λds R h=>?_) λf bN A outer s H E M hr=>⟨_,(af (sN 0 1 cD.nd (aN ae))
 (af (sS 2 cD.nd ag)
 (af (sF (aI (vd 0)) (gN 3 cD.nd)
 (af (ph 1 (aa (aA (aa (vd 2) (aa (vd 3) ae))) ae))
 (ah (sS 2 cD.nd (bC b4 eE (bC b4 eE (vd 2) ag) (fY T.len (aa (cO (vd 3) ag) ae)))))))
 (ah (aP (mV (pv 1))))))),λds R h=>?_⟩
 ·obtain⟨n,ps,rfl,_⟩:=h
  rfl
 ·obtain⟨n,ps,rfl,⟨hl,aL⟩,q⟩:=h
  have hsz:=bq
  refine⟨⟨U,U⟩,?_⟩
  refine⟨_,U,_,.inr U,?_⟩
  refine aV (λxs s=>∃ (zs:List (Nat×PK)) (td:List PK) (row:Nat) (x3:Sl),xs=td.map cm/\(zs++sQ row td=sQ 0 ps/\zs.length+td.length=ps.length)/\(∀ p∈td,p∈ps)/\row<=6 * zs.length/\s=⟨[.dat (.tup (ps.map cm)),.own 0,.dat (.int row),x3],[some (.lst (zs.map Oi))]⟩) ?_ ?_ _ _ ⟨[],ps,0,.no,U,⟨U,by simp⟩,λ_ h=>h,Nat.zero_le _,U⟩
  ·rintro s ⟨zs,td,row,x3,hx,hzt,hz,hr,rfl⟩
   cases td with
   | nil =>
    refine .inr ⟨_,_,U,U,?_⟩
    rw[show zs=sQ 0 ps by rw[<- hzt.1];simp[sQ]]
    exact q
   | cons a b=>cases hx
  ·rintro x xs s N ⟨zs,td,row,x3,hx,hzt,hz,hr,rfl⟩ hN hE_
   cases td with
   | nil=>cases hx
   | cons p td =>
   injection hx with e1 e2
   subst e1 e2
   have hp:p∈ps:=hz p Tu
   have hzl:=hzt.2
   rw[TH] at hzl
   have hb:=ll (aL p hp)
   refine⟨0,_,U,U,U,?_⟩
   refine⟨_,U,_,U,?_⟩
   refine⟨_,U,_,_,U,U,by rw[Tr];omega,?_⟩
   refine⟨_,U,_,_,U,U,?_⟩
   refine⟨_,U,_,_,_,U,U,U,_,.inr U,_,_,U,U,?_⟩
   refine hN _ ⟨zs++[(row,p)],td,row+1+(c9 p).length,.dat (cm p),U,⟨?_,by rw[List.length_append];simp;omega⟩,λz FZ=>hz z (List.mem_cons_of_mem _ FZ),by rw[List.length_append];simp;omega,?_⟩
   ·rw[<- hzt.1,Uj]
    rfl
   ·rw[Tx]
    rfl
theorem nE{n:Nat}:∀ {ps:List PK} {r:Nat},(∀ p∈ps,PF n p)->∀ z∈sQ r ps,z.2∈ps/\z.1<=r+6 * ps.length
 | [],_,_,z,hz=>nomatch hz
 | p::ps,r,h,z,hz=>by
  rcases TX.mp hz with rfl | hz
  ·exact⟨Tu,Nat.le_add_right _ _⟩
  ·have:=nE (λq hq=>h q (Tv _ hq)) z hz
   have hb:=ll (h p Tu)
   exact⟨Tv _ this.1,by rw[TH];omega⟩
theorem rL:∀ {ps:List PK} {r:Nat},(sQ r ps).length=ps.length
 | [],_=>rfl
 | p::ps,r=>by rw[sQ,TH,rL,TH]
abbrev qA:=Sum (fZ×List (Str×Tm)) (fB×List (Str×Tm))
def Ab:qA->D
 | .inl x=>cx x
 | .inr x=>b5 x
def xw:qA->List (Str×Tm)
 | .inl x=>x.2
 | .inr x=>x.2
def rq(p:PK):List qA:=if p.asked=true then (p.kd.bj.zip p.tabs).map .inl else (p.kd.bO.zip p.tabs).map .inr
theorem lY(p:PK):c9 p=(rq p).map Ab:=by
 obtain⟨b,kd,ts⟩:=p
 cases b with
 | true =>
  show (kd.bj.zip ts).map cx=((kd.bj.zip ts).map Sum.inl).map Ab
  rw[T9]
  rfl
 | false =>
  show (kd.bO.zip ts).map b5=((kd.bO.zip ts).map Sum.inr).map Ab
  rw[T9]
  rfl
theorem wm{p:PK}{b:qA}(h:b∈rq p):xw b∈p.tabs:=by
 obtain⟨a,kd,ts⟩:=p
 cases a with
 | true =>
  obtain⟨x,hx,rfl⟩:=TR.mp (show b∈(kd.bj.zip ts).map Sum.inl from h)
  exact (Um (a:=x.1) (b:=x.2) hx).2
 | false =>
  obtain⟨x,hx,rfl⟩:=TR.mp (show b∈(kd.bO.zip ts).map Sum.inr from h)
  exact (Um (a:=x.1) (b:=x.2) hx).2
def Mb(u:Nat×PK×qA):D:=.tup [.int u.1,cm u.2.1,Ab u.2.2]
def Ep(z:Nat×PK):List (Nat×PK×qA):=((rq z.2).zipIdx (z.1+1)).map λb=>(b.2,z.2,b.1)
def jM(ps:List PK):List (Nat×PK×qA):=(sQ 0 ps).flatMap Ep
def Pw:VI:=λds R=>∃ (n:Nat) (ps:List PK),ds=[.tup (ps.map cm)]/\(ps.length<=10/\∀ p∈ps,PF n p)/\R (.lst ((jM ps).map Mb))
theorem yq{α:Type}{f:α->D}{n:Nat}{l:List α}:oV n (l.map f)=(l.zipIdx n).map λx=>D.tup [.int (x.2:Nat),f x.1]:=by
 apply List.ext_getElem?
 intro i
 unfold oV
 rw[VF,Us,Us,List.getElem?_zipIdx,Tr]
 by_cases hi:i < l.length
 ·rw[List.getElem?_range hi,Ud hi]
  rfl
 ·rw[Vb (by rw[U1];omega),Vb (l:=l) (by omega)]
  rfl
theorem Lm(Ri:C4 P w K mg base bb dq 1 (cn K .no Px))(F:Own K mg df)(T:Txt K mg):C4 P w K mg base bb df 2 (cn K .no Pw):=by
 refine F.d (nos:=1) bE (λds R h=>?_) λf bN A outer s H E M hr=>⟨_,(af (sN 0 1 bE.nd (aN ae))
 (af (sF (aI (bo hr Ri (aa (vd 0) ae))) (bI (m:=2) U (aq (gN 2 bE.nd) (aq (gN 3 bE.nd) bH)))
 (ah (sF (JP U T.enumerate (aa (cO (vd 3) ag) ae) (bC b4 eE (vd 2) ag)) (bI (m:=2) U (aq (gN 4 bE.nd) (aq (gN 5 bE.nd) bH)))
 (ah (ph 1 (aa (aA (aa (vd 4) (aa (vd 3) (aa (vd 5) ae)))) ae))))))
 (ah (aP (mV (pv 1)))))),λds R h=>?_⟩
 ·obtain⟨n,ps,rfl,_⟩:=h
  rfl
 ·obtain⟨n,ps,rfl,⟨hl,aL⟩,q⟩:=h
  have hsz:=bq
  refine⟨⟨U,U⟩,?_⟩
  refine⟨_,U,n,ps,U,⟨hl,aL⟩,_,.inl U,?_⟩
  have hzl:(sQ 0 ps).length<=10:=by rw[rL];exact hl
  have FZ:=λz hz=>nE (r:=0) aL z hz
  have hzp:∀ z∈sQ 0 ps,PF n z.2:=λz hz=>aL z.2 (FZ z hz).1
  refine aV (λxs s=>∃ (td:List (Nat×PK)) (us:List (Nat×PK×qA)) (x2 x3 x4 x5:Sl),xs=td.map Oi/\(∀ z∈td,z∈sQ 0 ps)/\us.length+5 * td.length<=50/\us++td.flatMap Ep=jM ps/\s=⟨[.dat (.tup (ps.map cm)),.own 0,x2,x3,x4,x5],[some (.lst (us.map Mb))]⟩) ?_ ?_ _ _ ⟨sQ 0 ps,[],.no,.no,.no,.no,U,λ_ h=>h,by simp;omega,U,U⟩
  ·rintro s ⟨td,us,x2,x3,x4,x5,hx,htd,hul,hu,rfl⟩
   cases td with
   | nil =>
    refine .inr ⟨_,_,U,U,?_⟩
    rw[show us=jM ps by rw[<- hu];simp]
    exact q
   | cons a b=>cases hx
  ·rintro x xs s N ⟨td,us,x2,x3,x4,x5,hx,htd,hul,hu,rfl⟩ hN hE_
   cases td with
   | nil=>cases hx
   | cons z td =>
   injection hx with e1 e2
   subst e1 e2
   have hz:=htd z Tu
   have hb:=ll (hzp z hz)
   have hz0:=(FZ z hz).2
   rw[Uy] at hu
   rw[lY,Tr] at hb
   refine⟨_,U,U,_,_,U,_,_,U,U,?_⟩
   refine⟨_,U,_,_,_,U,U,U,?_⟩
   refine⟨_,U,_,_,U,U,?_⟩
   refine⟨c9 z.2,z.1+1,U,U,by omega,?_⟩
   rw[lY,yq]
   have hul:us.length+5 * (td.length+1)<=50:=hul
   refine aV (λxs s=>∃ (bs:List (qA×Nat)) (us:List (Nat×PK×qA)) (x4 x5:Sl),xs=bs.map (λx=>D.tup [.int (x.2:Nat),Ab x.1])/\(∀ b∈bs,b.1∈rq z.2)/\us.length+bs.length+5 * td.length<=50/\us++(bs.map (λb=>(b.2,z.2,b.1))++td.flatMap Ep)=jM ps/\s=⟨[.dat (.tup (ps.map cm)),.own 0,.dat (.int z.1),.dat (cm z.2),x4,x5],[some (.lst (us.map Mb))]⟩) ?_ ?_ _ _ ⟨(rq z.2).zipIdx (z.1+1),us,x4,x5,U,λb hb=>?_,by rw[List.length_zipIdx];omega,hu,U⟩
   ·rintro s ⟨bs,us,x4,x5,hx,hbs,hul,hu,rfl⟩
    cases bs with
    | nil=>exact hN _ ⟨td,us,_,_,_,_,U,λz hz=>htd z (List.mem_cons_of_mem _ hz),by simp at hul;omega,hu,U⟩
    | cons a b=>cases hx
   ·rintro x xs s N2 ⟨bs,us,x4,x5,hx,hbs,hul,hu,rfl⟩ hN2 hE_2
    cases bs with
    | nil=>cases hx
    | cons b bs =>
    injection hx with e1 e2
    subst e1 e2
    have hul:us.length+(bs.length+1)+5 * td.length<=50:=hul
    refine⟨_,U,U,_,_,U,_,_,U,U,?_⟩
    refine⟨0,_,U,U,U,?_⟩
    refine⟨_,U,_,U,_,U,?_⟩
    refine⟨_,U,_,_,U,U,by rw[Tr];omega,?_⟩
    refine hN2 _ ⟨bs,us++[(b.2,z.2,b.1)],.dat (.int b.2),.dat (Ab b.1),U,λc hc=>hbs c (List.mem_cons_of_mem _ hc),by rw[List.length_append];simp;omega,?_,?_⟩
    ·rw[<- hu,Uj]
     rfl
    ·rw[Tx]
     rfl
   ·obtain⟨i,hi,e⟩:=Ux hb
    rw[List.getElem_zipIdx] at e
    rw[<- e]
    exact U3 _
theorem HE{n:Nat}{ps:List PK}(aL:∀ p∈ps,PF n p){u:Nat×PK×qA}(hu:u∈jM ps):∀ r∈xw u.2.2,r.2.wf=true/\r.2.sm n:=λr hr=>by
 obtain⟨z,hz,hu⟩:=Vh.mp hu
 obtain⟨b,hb,rfl⟩:=TR.mp hu
 have hb1:b.1∈rq z.2:=by
  obtain⟨i,hi,e⟩:=Ux hb
  rw[List.getElem_zipIdx] at e
  rw[<- e]
  exact U3 _
 have hq:=(aL z.2 (nE (r:=0) aL z hz).1).rw _ (wm hb1)
 obtain⟨_,a,_,_⟩:=hq.ok.ok r hr
 exact⟨a,hq.sm r hr⟩
theorem Dn{z:Nat×PK}{n:Nat}(h:PF n z.2):(Ep z).length<=5:=by
 have:=ll h
 rw[lY,Tr] at this
 unfold Ep
 rw[Tr,List.length_zipIdx]
 exact this
theorem CP{n:Nat}{ps:List PK}(hl:ps.length<=10)(aL:∀ p∈ps,PF n p):(jM ps).length<=50:=by
 have key:∀ zs:List (Nat×PK),(∀ z∈zs,PF n z.2)->(zs.flatMap Ep).length<=5 * zs.length:=λzs=>by
  induction zs with
  | nil=>intro _;exact Uh _
  | cons z zs ih =>
   intro h
   have h1:=ih λy hy=>h y (Tv _ hy)
   have h2:=Dn (h z Tu)
   rw[Uy,Tt,TH]
   omega
 have h1:=key (sQ 0 ps) λz hz=>aL z.2 (nE (r:=0) aL z hz).1
 rw[rL] at h1
 unfold jM
 omega
def CK(e:(Str×Str)×Tm):D:=.tup [.str e.1.1,.str e.1.2,toD e.2]
def O9:VI:=λds R=>∃ (n:Nat) (p:PK),ds=[cm p]/\PF n p/\R (.lst ((ents p).map CK))
theorem JZ(QZ:C4 P w K mg base bb gF 1 (cn K .no Qn))(F:Own K mg fH)(T:Txt K mg):C4 P w K mg base bb fH 2 (cn K .no O9):=by
 refine F.d (nos:=1) cZ (λds R h=>?_) λf bN A outer s H E M hr=>⟨_,(af (sN 0 1 cZ.nd (aN ae))
 (af (sF (aI (bo hr QZ (aa (vd 0) ae))) (bI (m:=2) U (aq (gN 2 cZ.nd) (aq (gN 3 cZ.nd) bH)))
 (ah (sF (aI (vd 3)) (bI (m:=2) U (aq (gN 4 cZ.nd) (aq (gN 5 cZ.nd) bH)))
 (ah (ph 1 (aa (rh (aB bw cU (cO (vd 0) ag) aw (ax _)) (aA (aa (vd 4) (aa (vd 2) (aa (vd 5) ae)))) (aA (aa (vd 2) (aa (vd 4) (aa (vd 5) ae))))) ae))))))
 (ah (aP (mV (pv 1)))))),λds R h=>?_⟩
 ·obtain⟨n,p,rfl,_⟩:=h
  rfl
 ·obtain⟨n,p,rfl,ok,q⟩:=h
  have hsz:=bq
  have hln:=ok.ln
  refine⟨⟨U,U⟩,?_⟩
  refine⟨_,U,n,p,U,ok,_,.inl U,?_⟩
  refine aV (λxs s=>∃ (td:List (Str×List (Str×Tm))) (es:List ((Str×Str)×Tm)) (x2 x3 x4 x5:Sl),xs=td.map C7/\es++td.flatMap (du p.asked)=ents p/\s=⟨[.dat (cm p),.own 0,x2,x3,x4,x5],[some (.lst (es.map CK))]⟩) ?_ ?_ _ _ ⟨yO p,[],.no,.no,.no,.no,U,U,U⟩
  ·rintro s ⟨td,es,x2,x3,x4,x5,hx,he,rfl⟩
   cases td with
   | nil =>
    refine .inr ⟨_,_,U,U,?_⟩
    rw[show es=ents p by rw[<- he];simp]
    exact q
   | cons a b=>cases hx
  ·rintro x xs s N ⟨td,es,x2,x3,x4,x5,hx,he,rfl⟩ hN hE_
   cases td with
   | nil=>cases hx
   | cons b td =>
   injection hx with e1 e2
   subst e1 e2
   obtain⟨bn,rw0⟩:=b
   rw[Uy] at he
   refine⟨_,U,U,_,_,U,_,_,U,U,?_⟩
   refine⟨_,U,_,.inr U,?_⟩
   refine aV (λxs s=>∃ (rws:List (Str×Tm)) (es:List ((Str×Str)×Tm)) (x4 x5:Sl),xs=rws.map dH/\es++(du p.asked (bn,rws)++td.flatMap (du p.asked))=ents p/\s=⟨[.dat (cm p),.own 0,.dat (.str bn),.dat (kg rw0),x4,x5],[some (.lst (es.map CK))]⟩) ?_ ?_ _ _ ⟨rw0,es,x4,x5,U,he,U⟩
   ·rintro s ⟨rws,es,x4,x5,hx,he,rfl⟩
    cases rws with
    | nil=>exact hN _ ⟨td,es,_,_,_,_,U,he,U⟩
    | cons a b=>cases hx
   ·rintro x xs s N2 ⟨rws,es,x4,x5,hx,he,rfl⟩ hN2 hE_2
    cases rws with
    | nil=>cases hx
    | cons r1 rws =>
    injection hx with e1 e2
    subst e1 e2
    obtain⟨rn,t1⟩:=r1
    have hlen:es.length < 26:=by
     have:=congrArg List.length he
     rw[Tt] at this
     omega
    refine⟨_,U,U,_,_,U,_,_,U,U,?_⟩
    refine⟨0,_,U,U,U,?_⟩
    refine⟨_,U,_,_,_,U,U,U,⟨U,U,U⟩,_,U,?_⟩
    refine aR (b':=!p.asked) (c7 p.asked) (λc=>?_) λc=>?_
    ·refine⟨_,U,_,U,_,U,_,U,_,_,U,U,by rw[Tr];omega,?_⟩
     have hb:p.asked=false:=by simpa using c
     refine hN2 _ ⟨rws,es++[((rn,bn),t1)],.dat (.str rn),.dat (toD t1),U,?_,by rw[Tx];rfl⟩
     rw[<- he,hb,Uj]
     rfl
    ·refine⟨_,U,_,U,_,U,_,U,_,_,U,U,by rw[Tr];omega,?_⟩
     have hb:p.asked=true:=by simpa using c
     refine hN2 _ ⟨rws,es++[((bn,rn),t1)],.dat (.str rn),.dat (toD t1),U,?_,by rw[Tx];rfl⟩
     rw[<- he,hb,Uj]
     rfl
structure O1(K:Frag)(mg:Str->Option Value)(at_:Addr):Prop where
 inner:mg "INNER_TABLES"=some (.ref at_)
 tabs:∀ H,hV K H at_ [.str "case",.str "new"]
def Pq:VI:=λds R=>∃ t:Tm,(t.wf=true/\t.size<=100000)/\ds=[toD t]/\R (.lst (toDs t.kids))
theorem KA(F:Own K mg eD)(T:Txt K mg):C4 P w K mg base bb eD 1 (wz K .no Pq):=by
 refine F.c λf fd F=>?_
 refine Mw (nos:=0) F iL (λds R h=>?_) λbN A outer s H E M hr=>⟨_,(af (sS 1 iL.nd (cO (vd 0) ag))
 (af (bZ (aB cL okIn (vd 1) (aA (aa aw (aa aw ae))) U)
 (ah (i9 (fV dk hU U T.list (by decide+kernel) (aa (fo (vd 0) (bQ ag) cQ) ae))))
 aJ)
 (af (bZ (aB bw cU (vd 1) aw (ax _))
 (ah (i9 (fV dk hU U T.list (by decide+kernel) (aa (fo (vd 0) (bQ ag) cQ) ae))))
 aJ)
 (af (bZ (aB bw cU (vd 1) aw (ax _))
 (ah (i9 (fV dk hU U T.list (by decide+kernel) (aa (cO (vd 0) ag) ae))))
 aJ)
 (af (bZ (aB bw cU (vd 1) aw (ax _))
 (ah (i9 (fE dE dB (DN.de (aN (aa (cO (vd 0) ag) ae))) (DN.de (fV dk hU U T.list (by decide+kernel) (aa (cO (vd 0) ag) ae))))))
 aJ)
 (af (bZ (aB bw cU (vd 1) aw (ax _))
 (ah (i9 (fE dE dB (DN.de (aN (aa (cO (vd 0) ag) ae))) (DN.de (nC ["row"] [] (aI (cO (vd 0) ag)) (λ_ _ _ _=>(gM 0 ["row"])) (λ_ _ _ _=>bh)
 (λ_ _ _ _=>(cO (vd 0) ag)))))))
 aJ)
 (af (bZ (aB bw cU (vd 1) aw (ax _))
 (ah (i9 (nC ["row"] [] (aI (cO (vd 0) ag)) (λ_ _ _ _=>(gM 0 ["row"])) (λ_ _ _ _=>bh)
 (λ_ _ _ _=>(cO (vd 0) ag)))))
 aJ)
 (ah (i9 (aN ae)))))))))),λds R h=>?_⟩
 ·obtain⟨t,_,rfl,_⟩:=h
  rfl
 ·obtain⟨t,⟨hw,hs⟩,rfl,q⟩:=h
  obtain⟨f,ks⟩:=t
  obtain⟨ha,hk⟩:=gG hw
  have hl:ks.length < 100000:=TN uX hs
  replace q:R (.lst (toDs ks)):=q
  cases f with
  | nm x =>
   cases len0 (l:=ks) (by simpa [Fm.ar] using ha)
   trivial
   exact q
  | num x =>
   cases len0 (l:=ks) (by simpa [Fm.ar] using ha)
   trivial
   exact q
  | op x =>
   obtain⟨a,b,rfl⟩:=yL (l:=ks) (by simpa [Fm.ar] using ha)
   trivial
   exact q
  | wC =>
   obtain⟨a,b,c,rfl⟩:=LI (l:=ks) (by simpa [Fm.ar] using ha)
   trivial
   exact q
  | lt x =>
   obtain⟨a,b,rfl⟩:=yL (l:=ks) (by simpa [Fm.ar] using ha)
   trivial
   exact q
  | mk x =>
   trivial
   exact q
  | ask x =>
   obtain⟨a,r,rfl⟩:=lF (l:=ks) (by simpa [Fm.ar] using ha)
   trivial
   refine⟨?_,q⟩
   have:=bq
   have e:(toDs (a::r)).tail=toDs r:=rfl
   rw[e,toDs_len]
   simp at hl ⊢
   omega
  | ux x hd =>
   have Cb:ks.length=hd.length+1:=(rB ha).1
   obtain⟨a,r,rfl⟩:=lF (l:=ks) (by omega)
   have hr2:(toDs r).length=hd.length:=by rw[toDs_len];simpa using Cb
   trivial
   refine gU (f:=i6) (λy hy k hk=>?_) ⟨_,_,U,U,?_,?_⟩
   ·obtain⟨a1,a2,a3,rfl⟩:=gd hr2 y hy
    trivial
    exact hk _ U
   ·have e:(List.map i6 (bA hd (toDs r))).length=(toDs r).length:=by rw[gW hr2]
    have:=bq
    show [toD a].length+([]++List.map i6 (bA hd (toDs r))).length<=sizeLine
    rw[TJ,e,toDs_len]
    simp at hl ⊢
    omega
   ·show R (.lst ([toD a]++([]++List.map i6 (bA hd (toDs r)))))
    rw[gW hr2]
    exact q
  | new x hd =>
   have hr2:(toDs ks).length=hd.length:=by rw[toDs_len];exact (zY ha).1
   trivial
   refine gU (f:=i6) (λy hy k hk=>?_) ?_
   ·obtain⟨a1,a2,a3,rfl⟩:=gd hr2 y hy
    trivial
    exact hk _ U
   ·show R (.lst ([]++List.map i6 (bA hd (toDs ks))))
    rw[gW hr2]
    exact q
def Qy:VI:=λds R=>∃ t:Tm,(t.wf=true/\t.size<=100000)/\ds=[toD t]/\R (.lst (toDs t.pre))
theorem toDs_app(a b:List Tm):toDs (a++b)=toDs a++toDs b:=by rw[toDs_map,toDs_map,toDs_map,Tx]
theorem toDs_rev(a:List Tm):toDs a.reverse=(toDs a).reverse:=by rw[toDs_map,toDs_map,List.map_reverse]
theorem Jp(F:Own K mg mY)(T:Txt K mg)(RS:C4 P w K mg base bb eD 1 (wz K .no Pq)):C4 P w K mg base bb mY 2 (wz K .no Qy):=by
 refine F.c λf fd F=>?_
 refine Mw (nos:=2) F k7 (λds R h=>?_) λbN A outer s H E M hr=>⟨_,(af (sN 0 1 k7.nd (aN ae))
 (af (sN 1 2 k7.nd (aN (aa (vd 0) ae)))
 (af (Ec PassesOwn.never (Du (pv 2))
 (af (sS 3 k7.nd (K6 UY UZ zv J8 (pv 2)))
 (af (ph 1 (aa (vd 3) ae))
 (ah (rH (wt PySem.F.slot_list_extend PySem.F.type_list_extend qm EM (pv 2) (aa (DN.de (J0 (DN.de (tu hr RS (aa (vd 3) ae))) gn)) ae)))))))
 (ah (AW (pv 1)))))),λds R h=>?_⟩
 ·obtain⟨t,_,rfl,_⟩:=h
  rfl
 ·obtain⟨t,⟨hw,hs⟩,rfl,q⟩:=h
  replace q:R (.lst (toDs t.pre)):=q
  trivial
  refine⟨λm s=>∃ (dn st:List Tm) (x:Sl),s=⟨[.dat (toD t),.own 0,.own 1,x],[some (.lst (toDs dn)),some (.lst (toDs st.reverse))]⟩/\m=cz st/\dn++hW st=t.pre/\oM st=true,⟨_,[],[t],.no,U,U,?_,?_⟩,?_⟩
  ·show t.pre++[]=t.pre
   simp
  ·show (t.wf&&true)=true
   simp[hw]
  ·rintro m s ⟨dn,st,x,rfl,rfl,e,qM⟩
   have hlen:dn.length+cz st=t.size:=by rw[<- qQ t,<- e,Tt,oW]
   refine⟨1,toDs st.reverse,U,U,?_⟩
   cases st with
   | nil =>
    refine nk U ?_
    have e':dn=t.pre:=by simpa [hW] using e
    subst e'
    exact⟨0,_,U,U,q⟩
   | cons y r =>
    have hy:y.wf=true:=kQ qM y Tu
    have hr':oM r=true:=sP λz hz=>kQ qM z (Tv _ hz)
    have hsz:cz (y::r)=y.size+cz r:=rfl
    have ed:toDs (y::r).reverse=toDs r.reverse++[toD y]:=by rw[U8,toDs_app];rfl
    refine jD (by rw[ed];simp) ?_
    have iJ:=bq
    refine⟨1,_,U,U,U,_,U,toDs r.reverse,toD y,by rw[ed],U,?_⟩
    refine⟨0,_,U,U,U,_,U,_,U,_,_,U,U,?_,?_⟩
    ·rw[toDs_len]
     omega
    refine⟨1,_,U,U,U,_,U,y,⟨hy,by omega⟩,U,_,U,_,U,_,_,U,U,?_,?_⟩
    ·rw[toDs_len,List.length_reverse,List.length_reverse,toDs_len]
     have h1:=jy r
     have h2:=jy y.kids
     have h3:=size_eq y
     omega
    refine⟨cz (y.kids++r),?_,dn++[y],y.kids++r,.dat (toD y),?_,U,?_,Cu (Cz hy) hr'⟩
    ·rw[pP,hsz,size_eq y]
     omega
    ·rw[toDs_app,List.reverse_append,toDs_app,toDs_rev y.kids]
     rfl
    ·rw[<- e,u3,Uj]
     show _=dn++(y.pre++hW r)
     rw[Ao y]
     simp
def OP:VI:=λds R=>∃ t:Tm,t.wf=true/\ds=[toD t]/\R (.bl t.eu)
theorem KJ(F:Own K mg iz)(T:Txt K mg){at_:Addr}(J:O1 K mg at_):C4 P w K mg base bb iz 1 (cn K .no OP):=by
 refine F.d (nos:=0) um (λds R h=>?_) λf bN A outer s H E M hr=>⟨_,(ah (aP (gw cL (Ji J.tabs U) (cO (vd 0) ag) (dc (d:=.eW at_) (eg (v:=.ref at_) U J.inner U) U) U))),λds R h=>?_⟩
 ·obtain⟨t,_,rfl,_⟩:=h
  rfl
 ·obtain⟨⟨f,ks⟩,hw,rfl,q⟩:=h
  obtain⟨ha,hk⟩:=gG hw
  obtain⟨rest,e⟩:=toD_word f ks
  rw[e]
  refine⟨_,U,_,_,_,U,U,bR,U,U,?_⟩
  cases f<;>exact q
def HI(ys:List D):Option Nat->Prop
 | none=>ys=[]
 | some r=>∃ i d rest,ys=D.tup [.tup [.int (r:Nat),.int i],d]::rest
def K8:Option Nat->Nat->Bool->Option Nat
 | some x,_,_=>some x
 | none,r,b=>if b=true then some r else none
theorem G6{ys:List D}{o:Option Nat}{r:Nat}{b:Bool}{i:Int}{d:D}(h:HI ys (K8 o r b)):HI (ys++[.tup [.tup [.int r,.int i],d]]) (K8 o r true):=by
 cases o with
 | some x =>
  obtain⟨i',d',rest,rfl⟩:=h
  exact⟨i',d',_,U⟩
 | none =>
  cases b with
  | true =>
   obtain⟨i',d',rest,rfl⟩:=h
   exact⟨i',d',_,U⟩
  | false =>
   have h:ys=[]:=h
   subst h
   exact⟨i,d,[],U⟩
def vA(r:Str×Tm):Bool:=r.2.pre.any Tm.eu
def wg(u:Nat×PK×qA):Bool:=(xw u.2.2).any vA
def dm(us:List (Nat×PK×qA)):Option Nat:=(us.find? wg).map (·.1)
theorem zD{us:List (Nat×PK×qA)}{u:Nat×PK×qA}:dm (us++[u])=K8 (dm us) u.1 (wg u):=by
 unfold dm
 rw[List.find?_append]
 cases us.find? wg with
 | some x=>rfl
 | none =>
  cases h:wg u with
  | true=>rw[Vz h];rfl
  | false=>rw[VA (by rw[h];decide)];rfl
theorem GW{n:Nat}{ps:List PK}(aL:∀ p∈ps,PF n p){u:Nat×PK×qA}(hu:u∈jM ps):(xw u.2.2).length<=5:=by
 obtain⟨z,hz,hu⟩:=Vh.mp hu
 obtain⟨b,hb,rfl⟩:=TR.mp hu
 have hb1:b.1∈rq z.2:=by
  obtain⟨i,hi,e⟩:=Ux hb
  rw[List.getElem_zipIdx] at e
  rw[<- e]
  exact U3 _
 exact ((aL z.2 (nE (r:=0) aL z hz).1).rw _ (wm hb1)).ok.ln
def Qa:VI:=λds R=>∃ (n:Nat) (ps:List PK),ds=[.tup (ps.map cm)]/\(ps.length<=10/\∀ p∈ps,PF n p)/\∀ ys,HI ys (dm (jM ps))->R (.lst ys)
theorem Jo(Ti:C4 P w K mg base bb df 2 (cn K .no Pw))(Sf:C4 P w K mg base bb mY 2 (wz K .no Qy))(Te:C4 P w K mg base bb iz 1 (cn K .no OP))(F:Own K mg ek)(T:Txt K mg):C4 P w K mg base bb ek 3 (cn K .no Qa):=by
 refine F.d (nos:=1) bg (λds R h=>?_) λf bN A outer s H E M hr=>⟨_,(af (sN 0 1 bg.nd (aN ae))
 (af (sF (aI (bo hr Ti (aa (vd 0) ae))) (bI (m:=3) U (aq (gN 2 bg.nd) (aq (gN 3 bg.nd) (aq (gN 4 bg.nd) bH))))
 (af (sS 5 bg.nd (lW (bT cE U T.len UM (aG (pv 1) bY))))
 (ah (sF (aI (cO (vd 4) (dc (d:=.int (-1)) gn U))) (bI (m:=2) U (aq (gN 6 bg.nd) (aq (gN 7 bg.nd) bH)))
 (ah (sF (aI (DN.de (tu hr Sf (aa (vd 7) ae)))) (gN 8 bg.nd)
 (ah (bZ (om (bo hr Te (aa (vd 8) ae)))
 (ah (ph 1 (aa (aA (aa (aA (aa (vd 2) (aa (bC gS eE (lW (bT cE U T.len UM (aG (pv 1) bY))) (vd 5)) ae))) (aa (vd 8) ae))) ae)))
 aJ))))))))
 (ah (aP (mV (pv 1)))))),λds R h=>?_⟩
 ·obtain⟨n,ps,rfl,_⟩:=h
  rfl
 ·obtain⟨n,ps,rfl,⟨hl,aL⟩,q⟩:=h
  have hsz:=bq
  have hln:=CP hl aL
  refine⟨⟨U,U⟩,?_⟩
  refine⟨_,U,n,ps,U,⟨hl,aL⟩,_,.inl U,?_⟩
  refine aV (λxs s=>∃ (dn td:List (Nat×PK×qA)) (ys:List D) (x2 x3 x4 x5 x6 x7 x8:Sl),xs=td.map Mb/\dn++td=jM ps/\HI ys (dm dn)/\ys.length<=60500 * dn.length/\s=⟨[.dat (.tup (ps.map cm)),.own 0,x2,x3,x4,x5,x6,x7,x8],[some (.lst ys)]⟩) ?_ ?_ _ _ ⟨[],jM ps,[],.no,.no,.no,.no,.no,.no,.no,U,U,U,Uh _,U⟩
  ·rintro s ⟨dn,td,ys,x2,x3,x4,x5,x6,x7,x8,hx,hdt,hh,hy,rfl⟩
   cases td with
   | cons a b=>cases hx
   | nil =>
    rw[TM] at hdt
    exact .inr ⟨_,_,U,U,q ys (hdt▸hh)⟩
  ·rintro x xs s N ⟨dn,td,ys,x2,x3,x4,x5,x6,x7,x8,hx,hdt,hh,hy,rfl⟩ hN hE_
   cases td with
   | nil=>cases hx
   | cons u td =>
   injection hx with e1 e2
   subst e1 e2
   have hmu:u∈jM ps:=by rw[<- hdt];simp
   have hu:=HE aL hmu
   have hrl:=GW aL hmu
   have hdl:=congrArg List.length hdt
   rw[Tt,TH] at hdl
   have Oz:=zD (us:=dn) (u:=u)
   obtain⟨un,up,ub⟩:=u
   have htl:∃ ds,Ab ub=.tup ds/\jQ ds (-1)=some (kg (xw ub)):=by
    cases ub with
    | inl x=>exact⟨_,U,U⟩
    | inr x=>exact⟨_,U,U⟩
   obtain⟨ds,ed,ea⟩:=htl
   refine⟨_,U,U,_,_,U,_,_,U,_,_,U,U,?_⟩
   refine⟨0,_,U,U,?_⟩
   refine⟨_,U,_,_,_,ed,U,ea,_,.inr U,?_⟩
   refine aV (λxs s=>∃ (rd rws:List (Str×Tm)) (zs:List D) (x6 x7 x8:Sl),xs=rws.map dH/\rd++rws=xw ub/\HI zs (K8 (dm dn) un (rd.any vA))/\zs.length<=60500 * dn.length+12100 * rd.length/\s=⟨[.dat (.tup (ps.map cm)),.own 0,.dat (.int un),.dat (cm up),.dat (Ab ub),.dat (.int ys.length),x6,x7,x8],[some (.lst zs)]⟩) ?_ ?_ _ _ ⟨[],xw ub,ys,x6,x7,x8,U,U,?_,hy,U⟩
   ·rintro s ⟨rd,rws,zs,x6,x7,x8,hx,hrr,hz,hzl,rfl⟩
    cases rws with
    | cons a b=>cases hx
    | nil =>
     rw[TM] at hrr
     subst hrr
     exact hN _ ⟨dn++[(un,up,ub)],td,zs,_,_,_,_,_,_,_,U,by rw[<- hdt];simp,by rw[Oz];exact hz,by rw[List.length_append];have:(xw ub).length<=5:=hrl;simp;omega,U⟩
   ·rintro x xs s N2 ⟨rd,rws,zs,x6,x7,x8,hx,hrr,hz,hzl,rfl⟩ hN2 hE_2
    cases rws with
    | nil=>cases hx
    | cons r rws =>
    injection hx with e1 e2
    subst e1 e2
    have hr0:r∈xw ub:=by rw[<- hrr];simp
    have hrdl:=congrArg List.length hrr
    rw[Tt,TH] at hrdl
    have hrl:(xw ub).length<=5:=hrl
    obtain⟨hw,hd,hs⟩:=hu r hr0
    obtain⟨rn,t⟩:=r
    have hs:t.size<=12100:=hs
    have dA:t.pre.length=t.size:=qQ t
    refine⟨_,U,U,_,_,U,_,_,U,U,?_⟩
    refine⟨_,U,t,⟨hw,by omega⟩,U,_,.inl U,?_⟩
    rw[toDs_map]
    refine aV (λxs s=>∃ (pd us:List Tm) (zs:List D) (x8:Sl),xs=us.map toD/\pd++us=t.pre/\HI zs (K8 (dm dn) un (rd.any vA||pd.any Tm.eu))/\zs.length<=60500 * dn.length+12100 * rd.length+pd.length/\s=⟨[.dat (.tup (ps.map cm)),.own 0,.dat (.int un),.dat (cm up),.dat (Ab ub),.dat (.int ys.length),.dat (.str rn),.dat (toD t),x8],[some (.lst zs)]⟩) ?_ ?_ _ _ ⟨[],t.pre,zs,x8,U,U,by rw[List.any_nil,Bool.or_false];exact hz,hzl,U⟩
    ·rintro s ⟨pd,us,zs,x8,hx,hpu,hz,hzl,rfl⟩
     cases us with
     | cons a b=>cases hx
     | nil =>
      rw[TM] at hpu
      subst hpu
      exact hN2 _ ⟨rd++[(rn,t)],rws,zs,_,_,_,U,by rw[<- hrr];simp,by rw[List.any_append,List.any_cons,List.any_nil,Bool.or_false];exact hz,by rw[List.length_append];simp;omega,U⟩
    ·rintro x xs s N3 ⟨pd,us,zs,x8,hx,hpu,hz,hzl,rfl⟩ hN3 hE_3
     cases us with
     | nil=>cases hx
     | cons y us =>
     injection hx with e1 e2
     subst e1 e2
     have hy0:y∈t.pre:=by rw[<- hpu];simp
     have hpl2:=congrArg List.length hpu
     rw[Tt,TH] at hpl2
     refine⟨_,U,y,(Am t hw y hy0).1,U,_,U,?_⟩
     refine aR (b':=y.eu) U (λc=>?_) λc=>?_
     ·refine⟨0,_,U,U,U,?_⟩
      refine⟨_,U,0,_,U,U,_,U,_,_,U,U,_,U,?_⟩
      refine⟨_,U,_,_,U,U,by omega,?_⟩
      refine hN3 _ ⟨pd++[y],us,_,_,U,by rw[<- hpu];simp,?_,by rw[List.length_append,List.length_append];simp;omega,U⟩
      rw[List.any_append,Uz,c,Bool.true_or,Bool.or_true,Bool.or_true]
      exact G6 hz
     ·refine hN3 _ ⟨pd++[y],us,zs,_,U,by rw[<- hpu];simp,?_,by rw[List.length_append];simp;omega,U⟩
      rw[List.any_append,Uz,c,List.any_nil,Bool.or_false,Bool.or_false]
      exact hz
   ·cases h:dm dn with
    | some x=>rw[h] at hh;exact hh
    | none=>rw[h] at hh;exact hh
def AM(b:Bool)(ds:List D):D:=if b=true then .lst ds else .tup ds
theorem vz(b:Bool){ds:List D}:AM b ds=.lst ds\/AM b ds=.tup ds:=by
 cases b with
 | true=>exact .inl U
 | false=>exact .inr U
def sO:Option Tm->D
 | some t=>toD t
 | none=>.bD
def Cj(x:Str×Option Tm):D:=.tup [.str x.1,sO x.2]
def Lf(x:Str×Option Tm):Option (Str×Tm):=x.2.map λt=>(x.1,t)
def Qv:VI:=λds R=>∃ l:List (Str×Option Tm),ds=[.lst (l.map Cj)]/\R (kg (l.filterMap Lf))
theorem vG{l:List (Str×Option Tm)}:(l.filter λx=>x.2.isSome).map (λx=>D.tup [.str x.1,sO x.2])=(l.filterMap Lf).map dH:=by
 induction l with
 | nil=>rfl
 | cons x l ih =>
  obtain⟨a,o⟩:=x
  cases o with
  | none =>
   rw[List.filter_cons_of_neg (by simp),List.filterMap_cons_none (by rfl)]
   exact ih
  | some t =>
   rw[List.filter_cons_of_pos (by simp),List.filterMap_cons_some (b:=(a,t)) (by rfl),List.map_cons,List.map_cons,ih]
   rfl
theorem Jn(F:Own K mg jH)(T:Txt K mg):C4 P w K mg base bb jH 1 (cn K .no Qv):=by
 refine F.d (nos:=0) vh (λds R h=>?_) λf bN A outer s H E M hr=>⟨_,(ah (aP (eK T.tuple (aa (DN.de (nC ["name","term"] [] (aI (vd 0)) (λ_ _ _ _=>(bI (m:=2) U (aq (gM 0 ["name","term"]) (aq (gM 1 ["name","term"]) bH)))) (λ_ _ _ _=>eX (aB xY zV (vd 1) jh (ax _)))
 (λ_ _ _ _=>(aA (aa (vd 0) (aa (vd 1) ae)))))) ae)))),λds R h=>?_⟩
 ·obtain⟨l,rfl,_⟩:=h
  rfl
 ·obtain⟨l,rfl,q⟩:=h
  refine⟨_,U,_,.inl U,?_⟩
  refine aZ Cj (λx=>D.tup [.str x.1,sO x.2]) (λx=>x.2.isSome) _ (λx hx kk N h1 h2=>?_) ?_
  ·refine⟨_,U,U,_,_,U,_,_,U,U,?_⟩
   refine⟨_,U,U,_,U,?_⟩
   obtain⟨a,o⟩:=x
   cases o with
   | none=>exact nk U (h2 U _ U)
   | some t=>exact jD (xG t) ⟨_,U,_,U,h1 U _ U⟩
  ·refine⟨_,.inl U,?_⟩
   rw[TJ,vG]
   exact q
theorem tX{p:PK}{c f:Str}:(cp ((ents p).map keyOf) ((ents p).map iF) [.inr c,.inr f]).getD .bD=sO (gQ p c f):=by
 rw[fT]
 unfold gQ
 cases (ents p).find? λe=>decide (e.1=(c,f)) with
 | none=>rfl
 | some e=>rfl
def Qj:VI:=λds R=>∃ (n:Nat) (p:PK),ds=[cm p]/\PF n p/\R (cm (gm (!p.asked) p))
theorem Kk(SW:C4 P w K mg base bb fH 2 (cn K .no O9))(GMI:C4 P w K mg base bb gB 1 (cn K .no OS))(RB:C4 P w K mg base bb gz 1 (cn K .no Py))(Qc:C4 P w K mg base bb jH 1 (cn K .no Qv))(F:Own K mg e8)(T:Txt K mg):C4 P w K mg base bb e8 3 (cn K .no Qj):=by
 refine F.d (nos:=1) bx (λds R h=>?_) λf bN A outer s H E M hr=>⟨_,(af (iO (f7 (i:=1) bx.nd U (Or.inr U) (DE.pe (DN.de (fV (tW U (nB hr)) yu U T.dict (by decide+kernel) (aa (DN.de (nC ["maker","asker","term"] [] (aI (bo hr SW (aa (vd 0) ae))) (λ_ _ _ _=>(bI (m:=3) U (aq (gM 0 ["maker","asker","term"]) (aq (gM 1 ["maker","asker","term"]) (aq (gM 2 ["maker","asker","term"]) bH))))) (λ_ _ _ _=>bh)
 (λ_ _ _ _=>(aA (aa (aA (aa (vd 0) (aa (vd 1) ae))) (aa (vd 2) ae)))))) ae))))))
 (af (sS 2 bx.nd (bo hr GMI (aa (vd 0) ae)))
 (af (sS 3 bx.nd (bo hr RB (aa (vd 0) ae)))
 (af (sN 0 4 bx.nd (aN ae))
 (af (bZ (aB bw cU (cO (vd 0) ag) aw (ax _))
 (af (sF (aI (vd 2)) (fA (cT (i:=5) bx.nd U (Or.inr U)) (by decide))
 (af (sS 6 bx.nd (bo hr Qc (aa (DN.de (nC ["asker"] [1,5] (aI (vd 3)) (λ_ _ _ _=>(gM 0 ["asker","cells","maker"])) (λ_ _ _ _=>bh)
 (λ_ _ _ _=>(aA (aa (cO (vd 0) ag) (aa (xJ (uI (b7 hr) (DE.pe (vd 1)) (DE.pe (aA (aa (cO (vd 2) ag) (aa (cO (vd 0) ag) ae)))) ⟨U,U,U,U⟩)) ae)))))) ae)))
 (ah (ph 4 (aa (bC rK AN (vd 5) (aA (aa (vd 6) ae))) ae)))))
 (ah (aP (aA (aa aw (aa (cO (vd 0) ag) (aa (vd 3) (aa (eK T.tuple (aa (mV (pv 4)) ae)) ae))))))))
 aJ)
 (af (sF (aI (vd 3)) (fA (cT (i:=7) bx.nd U (Or.inr U)) (by decide))
 (af (sS 6 bx.nd (bo hr Qc (aa (DN.de (nC ["maker"] [1,7] (aI (vd 2)) (λ_ _ _ _=>(gM 0 ["maker","cells","asker"])) (λ_ _ _ _=>bh)
 (λ_ _ _ _=>(aA (aa (cO (vd 0) ag) (aa (xJ (uI (b7 hr) (DE.pe (vd 1)) (DE.pe (aA (aa (cO (vd 0) ag) (aa (cO (vd 2) ag) ae)))) ⟨U,U,U,U⟩)) ae)))))) ae)))
 (ah (ph 4 (aa (bC rK AN (vd 7) (aA (aa (vd 6) ae))) ae)))))
 (ah (aP (aA (aa aw (aa (cO (vd 0) ag) (aa (vd 2) (aa (eK T.tuple (aa (mV (pv 4)) ae)) ae))))))))))))),λds R h=>?_⟩
 ·obtain⟨n,p,rfl,_⟩:=h
  rfl
 ·obtain⟨n,⟨b,kd,ts⟩,rfl,ok,q⟩:=h
  have hsz:=bq
  have hln:=ok.ln
  have k5:kd.bj.length<=5:=ok.kd.ml
  have a5:kd.bO.length<=5:=ok.kd.al
  refine⟨_,U,n,⟨b,kd,ts⟩,U,ok,_,.inl U,?_⟩
  refine aH CK (λe=>D.tup [.tup [.str e.1.1,.str e.1.2],toD e.2]) _ (λe he k hk=>?_) ?_
  ·refine⟨_,U,U,_,_,U,_,_,U,_,_,U,U,?_⟩
   exact⟨_,U,_,U,_,U,hk _ U⟩
  rw[TJ]
  refine⟨(ents ⟨b,kd,ts⟩).map λe=>([.str e.1.1,.str e.1.2],(keyOf e,iF e)),by rw[T9];rfl,λq hq=>?_,by rw[Tr];omega,?_⟩
  ·obtain⟨e,he,rfl⟩:=TR.mp hq
   rfl
  have ef:=qd (ents ⟨b,kd,ts⟩) [] ok.nd
  rw[T9,show ((λx:List D×(List Key×D)=>x.2)∘λe:(Str×Str)×Tm=>(([.str e.1.1,.str e.1.2]:List D),(keyOf e,iF e)))=λe=>(keyOf e,iF e) from U,show (([]:List (List Key)),([]:List D))=(([]:List ((Str×Str)×Tm)).map keyOf,([]:List ((Str×Str)×Tm)).map iF) from U,ef,TJ]
  refine⟨_,U,n,⟨b,kd,ts⟩,U,ok,?_⟩
  refine⟨_,U,n,⟨b,kd,ts⟩,U,ok,?_⟩
  refine⟨⟨U,U⟩,?_⟩
  refine⟨_,U,_,_,_,U,U,U,⟨U,U,U⟩,_,U,?_⟩
  cases b with
  | false =>
   refine jD (c7 false) ?_
   refine⟨_,U,_,.inr U,?_⟩
   refine aV (λxs s=>∃ (dn td:List fZ) (x5 x6 x7:Sl),kd.bj=dn++td/\xs=td.map bW/\s=⟨[.dat (cm ⟨false,kd,ts⟩),.dat (kJ (ents ⟨false,kd,ts⟩)),.dat (.tup (kd.bj.map bW)),.dat (.tup (kd.bO.map bP)),.own 0,x5,x6,x7],[some (.lst (dn.map λm=>cx (m,jf ⟨false,kd,ts⟩ m)))]⟩) ?_ ?_ _ _ ⟨[],kd.bj,.no,.no,.no,U,U,U⟩
   ·rintro s ⟨dn,td,x5,x6,x7,hdt,hx,rfl⟩
    have htd:td=[]:=by
     cases td with
     | nil=>rfl
     | cons a b=>cases hx
    rw[htd,TM] at hdt
    subst hdt
    refine⟨_,U,_,_,_,U,U,U,?_⟩
    refine⟨_,U,?_⟩
    refine .inr ⟨_,_,U,U,?_⟩
    refine⟨_,.inl U,?_⟩
    have e:=zr (p:=⟨false,kd,ts⟩)
    show R (.tup [.str (bu true),.str kd.name,rE (gm true ⟨false,kd,ts⟩),.tup (kd.bj.map λm=>cx (m,jf ⟨false,kd,ts⟩ m))])
    rw[<- e]
    exact q
   ·rintro x xs s N ⟨dn,td,x5,x6,x7,hdt,hx,rfl⟩ hN hE_
    cases td with
    | nil=>cases hx
    | cons b0 td =>
    injection hx with e1 e2
    subst e1 e2
    have hdl:=congrArg List.length hdt
    rw[Tt,TH] at hdl
    refine⟨_,U,_,.inr U,?_⟩
    refine aH bP (λr0=>Cj (r0.name,gQ ⟨false,kd,ts⟩ (b0.name) (r0.name))) _ (λr0 hr0 k hk=>?_) ?_
    ·refine⟨_,U,_,_,_,U,U,U,?_⟩
     refine⟨_,U,U,?_⟩
     refine⟨_,U,_,_,_,U,U,U,_,U,_,_,_,U,U,U,?_⟩
     refine .inr ⟨_,_,_,[.inr b0.name,.inr r0.name],U,U,U,?_⟩
     show k (D.tup [.str r0.name,(cp _ _ _).getD .bD]) _
     rw[tX]
     exact hk _ U
    rw[TJ]
    refine⟨kd.bO.map λr0=>(r0.name,gQ ⟨false,kd,ts⟩ (b0.name) (r0.name)),by rw[T9];rfl,?_⟩
    rw[List.filterMap_map]
    refine⟨0,_,U,U,U,?_⟩
    refine⟨_,U,_,U,?_⟩
    refine⟨_,_,U,U,List.cons_ne_nil _ _,?_,?_⟩
    ·show _<=sizeLine
     simp
     omega
    refine⟨_,U,_,_,U,U,by rw[Tr];omega,?_⟩
    refine hN _ ⟨dn++[b0],td,.dat (bW b0),.dat (kg (jf ⟨false,kd,ts⟩ b0)),x7,by rw[hdt];simp,U,?_⟩
    rw[Tx]
    rfl
  | true =>
   refine nk (c7 true) ?_
   refine⟨_,U,_,.inr U,?_⟩
   refine aV (λxs s=>∃ (dn td:List fB) (x5 x6 x7:Sl),kd.bO=dn++td/\xs=td.map bP/\s=⟨[.dat (cm ⟨true,kd,ts⟩),.dat (kJ (ents ⟨true,kd,ts⟩)),.dat (.tup (kd.bj.map bW)),.dat (.tup (kd.bO.map bP)),.own 0,x5,x6,x7],[some (.lst (dn.map λm=>b5 (m,jq ⟨true,kd,ts⟩ m)))]⟩) ?_ ?_ _ _ ⟨[],kd.bO,.no,.no,.no,U,U,U⟩
   ·rintro s ⟨dn,td,x5,x6,x7,hdt,hx,rfl⟩
    have htd:td=[]:=by
     cases td with
     | nil=>rfl
     | cons a b=>cases hx
    rw[htd,TM] at hdt
    subst hdt
    refine⟨_,U,_,_,_,U,U,U,?_⟩
    refine⟨_,U,?_⟩
    refine .inr ⟨_,_,U,U,?_⟩
    refine⟨_,.inl U,?_⟩
    have e:=zC (p:=⟨true,kd,ts⟩)
    show R (.tup [.str (bu false),.str kd.name,rE (gm false ⟨true,kd,ts⟩),.tup (kd.bO.map λm=>b5 (m,jq ⟨true,kd,ts⟩ m))])
    rw[<- e]
    exact q
   ·rintro x xs s N ⟨dn,td,x5,x6,x7,hdt,hx,rfl⟩ hN hE_
    cases td with
    | nil=>cases hx
    | cons b0 td =>
    injection hx with e1 e2
    subst e1 e2
    have hdl:=congrArg List.length hdt
    rw[Tt,TH] at hdl
    refine⟨_,U,_,.inr U,?_⟩
    refine aH bW (λr0=>Cj (r0.name,gQ ⟨true,kd,ts⟩ (r0.name) (b0.name))) _ (λr0 hr0 k hk=>?_) ?_
    ·refine⟨_,U,_,_,_,U,U,U,?_⟩
     refine⟨_,U,U,?_⟩
     refine⟨_,U,_,_,_,U,U,U,_,U,_,_,_,U,U,U,?_⟩
     refine .inr ⟨_,_,_,[.inr r0.name,.inr b0.name],U,U,U,?_⟩
     show k (D.tup [.str r0.name,(cp _ _ _).getD .bD]) _
     rw[tX]
     exact hk _ U
    rw[TJ]
    refine⟨kd.bj.map λr0=>(r0.name,gQ ⟨true,kd,ts⟩ (r0.name) (b0.name)),by rw[T9];rfl,?_⟩
    rw[List.filterMap_map]
    refine⟨0,_,U,U,U,?_⟩
    refine⟨_,U,_,U,?_⟩
    refine⟨_,_,U,U,List.cons_ne_nil _ _,?_,?_⟩
    ·show _<=sizeLine
     simp
     omega
    refine⟨_,U,_,_,U,U,by rw[Tr];omega,?_⟩
    refine hN _ ⟨dn++[b0],td,x5,.dat (kg (jq ⟨true,kd,ts⟩ b0)),.dat (bP b0),by rw[hdt];simp,U,?_⟩
    rw[Tx]
    rfl
def Nh:VI:=λds R=>∃ (n:Nat) (p:PK),ds=[cm p]/\PF n p/\R (.tup [.tup (p.kd.bj.map bW),.tup (p.kd.bO.map bP),kJ (ents p)])
theorem IW(F:Own K mg fX)(T:Txt K mg):C4 P w K mg base bb fX 1 (cn K .no Nh):=by
 refine F.d (nos:=1) bM (λds R h=>?_) λf bN A outer s H E M hr=>⟨_,(af (mh (n:=1000) (vd 0) (bI (m:=4) U (aq (gN 1 bM.nd) (aq (gN 2 bM.nd) (aq (gN 3 bM.nd) (aq (gN 4 bM.nd) bH))))))
 (af (sN 0 5 bM.nd wM)
 (af (sF (aI (vd 4)) (gN 6 bM.nd)
 (ah (sF (aI (cO (vd 6) (dc (d:=.int (-1)) gn U))) (bI (m:=2) U (aq (gN 7 bM.nd) (aq (gN 8 bM.nd) bH)))
 (af (sS 9 bM.nd (jJ (DN.de (aN (aa (aA (aa (vd 7) (aa (cO (vd 6) ag) ae))) (aa (aA (aa (cO (vd 6) ag) (aa (vd 7) ae))) ae)))) (fj eP kc U T.int (by decide+kernel) (aa (gw bw cU (vd 1) aw (ax _)) ae))))
 (ah (qT (jK (b7 hr) (pv 5) (DE.pe (vd 9)) (DE.pe (vd 8)) U)))))))
 (af (sS 10 bM.nd (eK T.tuple (aa (DN.de (nC ["_law_block"] [] (aI (vd 4)) (λ_ _ _ _=>(gM 0 ["_law_block"])) (λ_ _ _ _=>bh)
 (λ_ _ _ _=>(fo (vd 0) cQ (bQ (dc (d:=.int (-1)) gn U)))))) ae)))
 (af (bZ (aB bw cU (vd 1) aw (ax _))
 (ah (aP (aA (aa (vd 3) (aa (vd 10) (aa (mV (pv 5)) ae))))))
 aJ)
 (ah (aP (aA (aa (vd 10) (aa (vd 3) (aa (mV (pv 5)) ae))))))))))),λds R h=>?_⟩
 ·obtain⟨n,p,rfl,_⟩:=h
  rfl
 ·obtain⟨n,⟨b,kd,ts⟩,rfl,ok,q⟩:=h
  have hsz:=bq
  have hln:=ok.ln
  have tl:=ok.tl
  refine⟨_,U,?_⟩
  refine⟨_,U,U,_,_,U,_,_,U,_,_,U,_,_,U,U,?_⟩
  refine⟨⟨U,U⟩,?_⟩
  refine⟨_,U,_,.inr U,?_⟩
  cases b with
  | true =>
   refine aV (λxs s=>∃ (zs:List (fZ×List (Str×Tm))) (es:List ((Str×Str)×Tm)) (x6 x7 x8 x9:Sl),(x6.pl=true/\x7.pl=true/\x8.pl=true/\x9.pl=true)/\xs=zs.map cx/\es++(zs.map λx=>(x.1.name,x.2)).flatMap (du true)=ents ⟨true,kd,ts⟩/\s=⟨[.dat (cm ⟨true,kd,ts⟩),.dat (.str (bu true)),.dat (.str kd.name),.dat (rE ⟨true,kd,ts⟩),.dat (.tup (c9 ⟨true,kd,ts⟩)),.own 0,x6,x7,x8,x9,.no],[some (kJ es)]⟩) ?_ ?_ _ _ ⟨kd.bj.zip ts,[],.no,.no,.no,.no,⟨U,U,U,U⟩,U,by rw[<- AQ];rfl,U⟩
   ·rintro s ⟨zs,es,x6,x7,x8,x9,dA,hx,he,rfl⟩
    cases zs with
    | nil =>
     have ee:es=ents ⟨true,kd,ts⟩:=by rw[<- he];simp
     refine⟨_,U,_,.inr U,?_⟩
     refine aH cx (λx=>bW x.1) _ (λx hx k hk=>⟨_,U,_,U,_,U,hk _ U⟩) ?_
     refine⟨_,.inl U,?_⟩
     rw[TJ,ur tl]
     refine⟨_,U,⟨U,U,U⟩,_,U,?_⟩
     refine nk (c7 true) ?_
     refine⟨_,U,_,U,?_⟩
     refine .inr ⟨_,_,U,U,?_⟩
     rw[ee]
     exact q
    | cons a b=>cases hx
   ·rintro x xs s N ⟨zs,es,x6,x7,x8,x9,⟨h6,h7,h8,h9⟩,hx,he,rfl⟩ hN hE_
    cases zs with
    | nil=>cases hx
    | cons z zs =>
    injection hx with e1 e2
    subst e1 e2
    obtain⟨m,rw0⟩:=z
    rw[TC,Uy] at he
    refine⟨_,U,_,_,_,U,U,U,_,.inr U,?_⟩
    refine aV (λxs s=>∃ (rws:List (Str×Tm)) (es:List ((Str×Str)×Tm)) (x7 x8 x9:Sl),(x7.pl=true/\x8.pl=true/\x9.pl=true)/\xs=rws.map dH/\es++(du true (m.name,rws)++(zs.map λx=>(x.1.name,x.2)).flatMap (du true))=ents ⟨true,kd,ts⟩/\s=⟨[.dat (cm ⟨true,kd,ts⟩),.dat (.str (bu true)),.dat (.str kd.name),.dat (rE ⟨true,kd,ts⟩),.dat (.tup (c9 ⟨true,kd,ts⟩)),.own 0,.dat (cx (m,rw0)),x7,x8,x9,.no],[some (kJ es)]⟩) ?_ ?_ _ _ ⟨rw0,es,x7,x8,x9,⟨h7,h8,h9⟩,U,he,U⟩
    ·rintro s ⟨rws,es,x7,x8,x9,⟨h7,h8,h9⟩,hx,he,rfl⟩
     cases rws with
     | nil=>exact hN _ ⟨zs,es,_,_,_,_,⟨U,h7,h8,h9⟩,U,he,U⟩
     | cons a b=>cases hx
    ·rintro x xs s N2 ⟨rws,es,x7,x8,x9,⟨h7,h8,h9⟩,hx,he,rfl⟩ hN2 hE_2
     cases rws with
     | nil=>cases hx
     | cons r1 rws =>
     injection hx with e1 e2
     subst e1 e2
     obtain⟨rn,t1⟩:=r1
     have hen:du true (m.name,(rn,t1)::rws)=((m.name,rn),t1)::du true (m.name,rws):=rfl
     rw[hen] at he
     have hnew:((m.name,rn):Str×Str)∉es.map (·.1):=by
      have:=ok.nd
      rw[<- he,Tx,Uk] at this
      exact λhm=>this.2.2 _ hm _ (by rw[List.cons_append,TC];exact Tu) U
     have hlen:es.length < 1001:=by
      have:=congrArg List.length he
      rw[Tt] at this
      omega
     obtain⟨p1,p2⟩:=sx (e:=((m.name,rn),t1)) hnew
     refine⟨_,U,U,_,_,U,_,_,U,U,?_⟩
     refine⟨_,U,_,U,_,_,_,U,U,U,_,U,_,_,_,U,U,U,_,U,?_⟩
     refine⟨_,U,⟨U,U,U⟩,?_⟩
     refine .inr ⟨_,U,?_⟩
     rw[dX]
     refine⟨_,_,_,U,U,U,?_⟩
     refine⟨_,U,0,U,_,U,?_⟩
     refine⟨_,U,.inr ⟨_,_,_,keyOf ((m.name,rn),t1),U,U,U,by rw[Tr];omega,?_⟩⟩
     rw[p1,show dC (es.map keyOf) (es.map iF) (keyOf ((m.name,rn),t1)) (toD t1)=_ from p2]
     exact hN2 _ ⟨rws,es++[((m.name,rn),t1)],_,_,_,⟨U,U,U⟩,U,by rw[<- he];simp,U⟩
  | false =>
   refine aV (λxs s=>∃ (zs:List (fB×List (Str×Tm))) (es:List ((Str×Str)×Tm)) (x6 x7 x8 x9:Sl),(x6.pl=true/\x7.pl=true/\x8.pl=true/\x9.pl=true)/\xs=zs.map b5/\es++(zs.map λx=>(x.1.name,x.2)).flatMap (du false)=ents ⟨false,kd,ts⟩/\s=⟨[.dat (cm ⟨false,kd,ts⟩),.dat (.str (bu false)),.dat (.str kd.name),.dat (rE ⟨false,kd,ts⟩),.dat (.tup (c9 ⟨false,kd,ts⟩)),.own 0,x6,x7,x8,x9,.no],[some (kJ es)]⟩) ?_ ?_ _ _ ⟨kd.bO.zip ts,[],.no,.no,.no,.no,⟨U,U,U,U⟩,U,by rw[<- AR];rfl,U⟩
   ·rintro s ⟨zs,es,x6,x7,x8,x9,dA,hx,he,rfl⟩
    cases zs with
    | nil =>
     have ee:es=ents ⟨false,kd,ts⟩:=by rw[<- he];simp
     refine⟨_,U,_,.inr U,?_⟩
     refine aH b5 (λx=>bP x.1) _ (λx hx k hk=>⟨_,U,_,U,_,U,hk _ U⟩) ?_
     refine⟨_,.inl U,?_⟩
     rw[TJ,tR tl]
     refine⟨_,U,⟨U,U,U⟩,_,U,?_⟩
     refine jD (c7 false) ?_
     refine⟨_,U,_,U,?_⟩
     refine .inr ⟨_,_,U,U,?_⟩
     rw[ee]
     exact q
    | cons a b=>cases hx
   ·rintro x xs s N ⟨zs,es,x6,x7,x8,x9,⟨h6,h7,h8,h9⟩,hx,he,rfl⟩ hN hE_
    cases zs with
    | nil=>cases hx
    | cons z zs =>
    injection hx with e1 e2
    subst e1 e2
    obtain⟨m,rw0⟩:=z
    rw[TC,Uy] at he
    refine⟨_,U,_,_,_,U,U,U,_,.inr U,?_⟩
    refine aV (λxs s=>∃ (rws:List (Str×Tm)) (es:List ((Str×Str)×Tm)) (x7 x8 x9:Sl),(x7.pl=true/\x8.pl=true/\x9.pl=true)/\xs=rws.map dH/\es++(du false (m.name,rws)++(zs.map λx=>(x.1.name,x.2)).flatMap (du false))=ents ⟨false,kd,ts⟩/\s=⟨[.dat (cm ⟨false,kd,ts⟩),.dat (.str (bu false)),.dat (.str kd.name),.dat (rE ⟨false,kd,ts⟩),.dat (.tup (c9 ⟨false,kd,ts⟩)),.own 0,.dat (b5 (m,rw0)),x7,x8,x9,.no],[some (kJ es)]⟩) ?_ ?_ _ _ ⟨rw0,es,x7,x8,x9,⟨h7,h8,h9⟩,U,he,U⟩
    ·rintro s ⟨rws,es,x7,x8,x9,⟨h7,h8,h9⟩,hx,he,rfl⟩
     cases rws with
     | nil=>exact hN _ ⟨zs,es,_,_,_,_,⟨U,h7,h8,h9⟩,U,he,U⟩
     | cons a b=>cases hx
    ·rintro x xs s N2 ⟨rws,es,x7,x8,x9,⟨h7,h8,h9⟩,hx,he,rfl⟩ hN2 hE_2
     cases rws with
     | nil=>cases hx
     | cons r1 rws =>
     injection hx with e1 e2
     subst e1 e2
     obtain⟨rn,t1⟩:=r1
     have hen:du false (m.name,(rn,t1)::rws)=((rn,m.name),t1)::du false (m.name,rws):=rfl
     rw[hen] at he
     have hnew:((rn,m.name):Str×Str)∉es.map (·.1):=by
      have:=ok.nd
      rw[<- he,Tx,Uk] at this
      exact λhm=>this.2.2 _ hm _ (by rw[List.cons_append,TC];exact Tu) U
     have hlen:es.length < 1001:=by
      have:=congrArg List.length he
      rw[Tt] at this
      omega
     obtain⟨p1,p2⟩:=sx (e:=((rn,m.name),t1)) hnew
     refine⟨_,U,U,_,_,U,_,_,U,U,?_⟩
     refine⟨_,U,_,U,_,_,_,U,U,U,_,U,_,_,_,U,U,U,_,U,?_⟩
     refine⟨_,U,⟨U,U,U⟩,?_⟩
     refine .inr ⟨_,U,?_⟩
     rw[dX]
     refine⟨_,_,_,U,U,U,?_⟩
     refine⟨_,U,0,U,_,U,?_⟩
     refine⟨_,U,.inr ⟨_,_,_,keyOf ((rn,m.name),t1),U,U,U,by rw[Tr];omega,?_⟩⟩
     rw[p1,show dC (es.map keyOf) (es.map iF) (keyOf ((rn,m.name),t1)) (toD t1)=_ from p2]
     exact hN2 _ ⟨rws,es++[((rn,m.name),t1)],_,_,_,⟨U,U,U⟩,U,by rw[<- he];simp,U⟩
theorem lR{α:Type}{nm:α->Str}{c:α->Option Tm}:∀ {l:List α},(l.filter λa=>(c a).isSome).map (λa=>D.tup [.str (nm a),sO (c a)])=(l.filterMap λa=>(c a).map λt=>(nm a,t)).map dH
 | []=>rfl
 | a::l=>by
  have ih:=lR (nm:=nm) (c:=c) (l:=l)
  cases e:c a with
  | none =>
   rw[List.filter_cons_of_neg (by rw[e];simp),List.filterMap_cons_none (by rw[e];rfl)]
   exact ih
  | some t =>
   rw[Vw (by rw[e];rfl),List.filterMap_cons_some (b:=(nm a,t)) (by rw[e];rfl),TC,TC,ih,e]
   rfl
def Qu:VI:=λds R=>∃ (n:Nat) (p:PK) (b:Bool),ds=[cm p,.str (bu b)]/\PF n p/\R (cm (gm b p))
theorem Jt(Ox:C4 P w K mg base bb fX 1 (cn K .no Nh))(F:Own K mg dQ)(T:Txt K mg):C4 P w K mg base bb dQ 2 (cn K .no Qu):=by
 refine F.d (nos:=1) aM (λds R h=>?_) λf bN A outer s H E M hr=>⟨_,(af (mh (n:=1000) (bo hr Ox (aa (vd 0) ae)) (bI (m:=3) U (aq (gN 2 aM.nd) (aq (gN 3 aM.nd) (aq (fA (cT (i:=4) aM.nd U (Or.inr U)) (by decide)) bH)))))
 (af (sN 0 5 aM.nd (aN ae))
 (af (bZ (aB bw cU (vd 1) aw (ax _))
 (af (sF (aI (vd 3)) (bI (m:=3) U (aq (fA (cT (i:=6) aM.nd U (Or.inr U)) (by decide)) (aq (gN 7 aM.nd) (aq (gN 8 aM.nd) bH))))
 (af (iO (mi (ic (i:=9) aM.nd U U (ts:=["_law_c","_law_fields"]) (us:=[4,6]) ⟨U,U,U,U,U,U⟩ rfl (aI (vd 2)) (λ_ _ _ _=>(bI (m:=2) U (aq (gM 0 ["_law_c","_law_fields","_law_cells_here","_law_f"]) (aq (gM 1 ["_law_c","_law_fields","_law_cells_here","_law_f"]) bH)))) (λ_ _ _ _=>eX (rA (b7 hr) (aA (aa (vd 0) (aa (vd 3) ae))) (vd 2)))
 (λ_ _ _ _=>(aA (aa (vd 0) (aa (dw (aW (b7 hr) (DE.pe (vd 2)) (DE.pe (aA (aa (vd 0) (aa (vd 3) ae)))) (λ_ _=>rfl))) ae)))))))
 (ah (ph 5 (aa (aA (aa (vd 6) (aa (vd 7) (aa (vd 8) (aa (eK T.tuple (aa (vd 9) ae)) ae))))) ae)))))
 (ah (aP (aA (aa aw (aa (cO (vd 0) ag) (aa (vd 2) (aa (eK T.tuple (aa (mV (pv 5)) ae)) ae))))))))
 aJ)
 (af (sF (aI (vd 2)) (bI (m:=2) U (aq (fA (cT (i:=10) aM.nd U (Or.inr U)) (by decide)) (aq (gN 11 aM.nd) bH)))
 (af (iO (mi (ic (i:=9) aM.nd U U (ts:=["_law_f","_law_params","_law_result"]) (us:=[4,10]) ⟨U,U,U,U,U,U⟩ rfl (aI (vd 3)) (λ_ _ _ _=>(bI (m:=3) U (aq (gM 0 ["_law_f","_law_params","_law_result","_law_cells_here","_law_c"]) (aq (gM 1 ["_law_f","_law_params","_law_result","_law_cells_here","_law_c"]) (aq (gM 2 ["_law_f","_law_params","_law_result","_law_cells_here","_law_c"]) bH))))) (λ_ _ _ _=>eX (rA (b7 hr) (aA (aa (vd 4) (aa (vd 0) ae))) (vd 3)))
 (λ_ _ _ _=>(aA (aa (vd 0) (aa (dw (aW (b7 hr) (DE.pe (vd 3)) (DE.pe (aA (aa (vd 4) (aa (vd 0) ae)))) (λ_ _=>rfl))) ae)))))))
 (ah (ph 5 (aa (aA (aa (vd 10) (aa (vd 11) (aa (eK T.tuple (aa (vd 9) ae)) ae)))) ae)))))
 (ah (aP (aA (aa aw (aa (cO (vd 0) ag) (aa (vd 3) (aa (eK T.tuple (aa (mV (pv 5)) ae)) ae))))))))))),λds R h=>?_⟩
 ·obtain⟨n,p,b,rfl,_⟩:=h
  rfl
 ·obtain⟨n,p,b,rfl,ok,q⟩:=h
  have hsz:=bq
  have k5:=ok.kd.ml
  have a5:=ok.kd.al
  refine⟨_,U,n,p,U,ok,?_⟩
  refine⟨_,U,U,_,_,U,_,_,U,_,_,U,U,?_⟩
  refine⟨⟨U,U⟩,?_⟩
  refine⟨_,U,⟨U,U,U⟩,_,U,?_⟩
  cases b with
  | true =>
   refine nk (c7 true) ?_
   refine⟨_,U,_,.inr U,?_⟩
   refine aV (λxs s=>∃ (dn td:List fZ) (y6 y7 y8 y9 ua u4:Sl),p.kd.bj=dn++td/\xs=td.map bW/\s=⟨[.dat (cm p),.dat (.str (bu true)),.dat (.tup (p.kd.bj.map bW)),.dat (.tup (p.kd.bO.map bP)),.dat (kJ (ents p)),.own 0,y6,y7,y8,y9,ua,u4],[some (.lst (dn.map λm=>cx (m,jf p m)))]⟩) ?_ ?_ _ _ ⟨[],p.kd.bj,.no,.no,.no,.no,.no,.no,U,U,U⟩
   ·rintro s ⟨dn,td,y6,y7,y8,y9,ua,u4,hdt,hx,rfl⟩
    have htd:td=[]:=by
     cases td with
     | nil=>rfl
     | cons a b=>cases hx
    rw[htd,TM] at hdt
    refine⟨_,U,_,_,_,U,U,U,?_⟩
    refine⟨_,U,?_⟩
    refine .inr ⟨_,_,U,U,?_⟩
    refine⟨_,.inl U,?_⟩
    have e:=zr (p:=p)
    rw[hdt] at e
    show R (.tup [.str (bu true),.str p.kd.name,rE (gm true p),.tup (dn.map λm=>cx (m,jf p m))])
    rw[<- e]
    exact q
   ·rintro x xs s N ⟨dn,td,y6,y7,y8,y9,ua,u4,hdt,hx,rfl⟩ hN hE_
    cases td with
    | nil=>cases hx
    | cons b0 td =>
    injection hx with e1 e2
    subst e1 e2
    have hdl:=congrArg List.length hdt
    rw[Tt,TH] at hdl
    refine⟨_,U,U,_,_,U,_,_,U,U,?_⟩
    refine⟨_,U,_,.inr U,?_⟩
    refine aZ bP (λr0=>D.tup [.str r0.name,sO (gQ p b0.name r0.name)]) (λr0=>(gQ p b0.name r0.name).isSome) _ (λr0 hr0 k N0 g1 g2=>?_) ?_
    ·refine⟨_,U,U,_,_,U,_,_,U,_,_,U,U,?_⟩
     refine⟨_,U,_,U,_,U,U,.inr ⟨_,_,_,[.inr b0.name,.inr r0.name],U,U,U,?_⟩⟩
     rw[fT]
     have hce:gQ p b0.name r0.name=((ents p).find? λe=>decide (e.1=(b0.name,r0.name))).map (·.2):=rfl
     cases hf:(ents p).find? λe=>decide (e.1=(b0.name,r0.name)) with
     | none =>
      rw[hf] at hce
      exact⟨_,U,nk U (g2 (by rw[hce];rfl) _ U)⟩
     | some e =>
      rw[hf] at hce
      have g1':=g1 (by rw[hce];rfl)
      rw[hce] at g1'
      refine⟨_,U,jD U ?_⟩
      refine⟨_,U,_,U,_,U,_,U,U,.inr ⟨_,_,_,[.inr b0.name,.inr r0.name],U,U,U,?_⟩⟩
      rw[fT,hf]
      exact⟨_,U,g1' _ U⟩
    have hrows:(p.kd.bO.filter λr0=>(gQ p b0.name r0.name).isSome).map (λr0=>D.tup [.str r0.name,sO (gQ p b0.name r0.name)])=(jf p b0).map dH:=lR (nm:=fB.name) (c:=λr0=>gQ p b0.name r0.name)
    rw[TJ,hrows]
    refine⟨0,_,U,U,U,?_⟩
    refine⟨_,U,_,U,_,U,_,.inl U,?_⟩
    refine⟨_,U,_,_,U,U,by rw[Tr];omega,?_⟩
    refine hN _ ⟨dn++[b0],td,y6,y7,y8,.dat (.lst ((jf p b0).map dH)),.dat (.str b0.name),.dat (eF b0.fs),by rw[hdt];simp,U,?_⟩
    rw[Tx]
    rfl
  | false =>
   refine jD (c7 false) ?_
   refine⟨_,U,_,.inr U,?_⟩
   refine aV (λxs s=>∃ (dn td:List fB) (y6 y7 y8 y9 ua u4:Sl),p.kd.bO=dn++td/\xs=td.map bP/\s=⟨[.dat (cm p),.dat (.str (bu false)),.dat (.tup (p.kd.bj.map bW)),.dat (.tup (p.kd.bO.map bP)),.dat (kJ (ents p)),.own 0,y6,y7,y8,y9,ua,u4],[some (.lst (dn.map λm=>b5 (m,jq p m)))]⟩) ?_ ?_ _ _ ⟨[],p.kd.bO,.no,.no,.no,.no,.no,.no,U,U,U⟩
   ·rintro s ⟨dn,td,y6,y7,y8,y9,ua,u4,hdt,hx,rfl⟩
    have htd:td=[]:=by
     cases td with
     | nil=>rfl
     | cons a b=>cases hx
    rw[htd,TM] at hdt
    refine⟨_,U,_,_,_,U,U,U,?_⟩
    refine⟨_,U,?_⟩
    refine .inr ⟨_,_,U,U,?_⟩
    refine⟨_,.inl U,?_⟩
    have e:=zC (p:=p)
    rw[hdt] at e
    show R (.tup [.str (bu false),.str p.kd.name,rE (gm false p),.tup (dn.map λm=>b5 (m,jq p m))])
    rw[<- e]
    exact q
   ·rintro x xs s N ⟨dn,td,y6,y7,y8,y9,ua,u4,hdt,hx,rfl⟩ hN hE_
    cases td with
    | nil=>cases hx
    | cons b0 td =>
    injection hx with e1 e2
    subst e1 e2
    have hdl:=congrArg List.length hdt
    rw[Tt,TH] at hdl
    refine⟨_,U,U,_,_,U,_,_,U,_,_,U,U,?_⟩
    refine⟨_,U,_,.inr U,?_⟩
    refine aZ bW (λr0=>D.tup [.str r0.name,sO (gQ p r0.name b0.name)]) (λr0=>(gQ p r0.name b0.name).isSome) _ (λr0 hr0 k N0 g1 g2=>?_) ?_
    ·refine⟨_,U,U,_,_,U,_,_,U,U,?_⟩
     refine⟨_,U,_,U,_,U,U,.inr ⟨_,_,_,[.inr r0.name,.inr b0.name],U,U,U,?_⟩⟩
     rw[fT]
     have hce:gQ p r0.name b0.name=((ents p).find? λe=>decide (e.1=(r0.name,b0.name))).map (·.2):=rfl
     cases hf:(ents p).find? λe=>decide (e.1=(r0.name,b0.name)) with
     | none =>
      rw[hf] at hce
      exact⟨_,U,nk U (g2 (by rw[hce];rfl) _ U)⟩
     | some e =>
      rw[hf] at hce
      have g1':=g1 (by rw[hce];rfl)
      rw[hce] at g1'
      refine⟨_,U,jD U ?_⟩
      refine⟨_,U,_,U,_,U,_,U,U,.inr ⟨_,_,_,[.inr r0.name,.inr b0.name],U,U,U,?_⟩⟩
      rw[fT,hf]
      exact⟨_,U,g1' _ U⟩
    have hrows:(p.kd.bj.filter λr0=>(gQ p r0.name b0.name).isSome).map (λr0=>D.tup [.str r0.name,sO (gQ p r0.name b0.name)])=(jq p b0).map dH:=lR (nm:=fZ.name) (c:=λr0=>gQ p r0.name b0.name)
    rw[TJ,hrows]
    refine⟨0,_,U,U,U,?_⟩
    refine⟨_,U,_,U,_,U,_,U,_,.inl U,?_⟩
    refine⟨_,U,_,_,U,U,by rw[Tr];omega,?_⟩
    refine hN _ ⟨dn++[b0],td,.dat (.str b0.name),.dat (eF b0.ps),.dat (.str b0.res),.dat (.lst ((jq p b0).map dH)),ua,u4,by rw[hdt];simp,U,?_⟩
    rw[Tx]
    rfl
def told(o:Bool)(ns:List Str)(ps:List PK):List PK:=ps.map λp=>if p.kd.name∈ns then gm (if o=true then !p.asked else p.asked) p else p
def O4:VI:=λds R=>∃ (n:Nat) (ps:List PK) (b:Bool) (ns:List Str) (o:Bool),ds=[.tup (ps.map cm),AM b (ns.map .str),.bl o]/\(ps.length<=10/\∀ p∈ps,PF n p)/\R (.tup ((told o ns ps).map cm))
theorem yz(a o:Bool):jQ [D.str "made",D.str "asked"] (if decide (V.bl (!a)=V.bl o) then 1 else 0)=some (.str (bu (if o=true then !a else a))):=by
 cases a<;>cases o<;>rfl
theorem Jz(Sq:C4 P w K mg base bb dQ 2 (cn K .no Qu))(F:Own K mg fR)(T:Txt K mg):C4 P w K mg base bb fR 3 (cn K .no O4):=by
 refine F.d (nos:=1) dF (λds R h=>?_) λf bN A outer s H E M hr=>⟨_,(af (sN 0 3 dF.nd (aN ae))
 (af (sF (aI (vd 0)) (gN 4 dF.nd)
 (af (bZ (aB cL okIn (cO (vd 4) ag) (vd 1) U)
 (af (sS 5 dF.nd (jJ (DN.de (aN (aa aw (aa aw ae)))) (fj eP kc U T.int (by decide+kernel) (aa (gw bw cU (gw bw cU (cO (vd 4) ag) aw (ax _)) (vd 2) (ax _)) ae))))
 (ah (sS 4 dF.nd (bo hr Sq (aa (vd 4) (aa (vd 5) ae))))))
 aJ)
 (ah (ph 3 (aa (vd 4) ae)))))
 (ah (aP (eK T.tuple (aa (mV (pv 3)) ae)))))),λds R h=>?_⟩
 ·obtain⟨n,ps,b,ns,o,rfl,_⟩:=h
  rfl
 ·obtain⟨n,ps,b,ns,o,rfl,⟨hl,aL⟩,q⟩:=h
  have hsz:=bq
  refine⟨⟨U,U⟩,?_⟩
  refine⟨_,U,_,.inr U,?_⟩
  refine aV (λxs s=>∃ (dn td:List PK) (x4 x5:Sl),ps=dn++td/\xs=td.map cm/\s=⟨[.dat (.tup (ps.map cm)),.dat (AM b (ns.map .str)),.dat (.bl o),.own 0,x4,x5],[some (.lst ((told o ns dn).map cm))]⟩) ?_ ?_ _ _ ⟨[],ps,.no,.no,U,U,U⟩
  ·rintro s ⟨dn,td,x4,x5,hdt,hx,rfl⟩
   have htd:td=[]:=by
    cases td with
    | nil=>rfl
    | cons a b=>cases hx
   rw[htd,TM] at hdt
   subst hdt
   exact .inr ⟨_,_,U,U,_,.inl U,q⟩
  ·rintro x xs s N ⟨dn,td,x4,x5,hdt,hx,rfl⟩ hN hE_
   cases td with
   | nil=>cases hx
   | cons p td =>
   injection hx with e1 e2
   subst e1 e2
   have hp:p∈ps:=by rw[hdt];simp
   have hdl:=congrArg List.length hdt
   rw[Tt,TH] at hdl
   have hlen:((told o ns dn).map cm).length < sizeLine:=by
    unfold told
    rw[Tr,Tr]
    omega
   refine⟨_,U,_,_,_,U,U,U,_,U,?_⟩
   refine⟨_,vz b,⟨U,jI⟩,_,U,?_⟩
   refine aR (b':=decide (p.kd.name∈ns)) nv (λe=>?_) λe=>?_
   ·refine⟨_,U,_,_,_,U,U,U,⟨U,U,U⟩,_,U,⟨U,U,U⟩,?_⟩
    refine .inr ⟨_,U,?_⟩
    rw[c7]
    refine⟨_,_,_,U,U,yz p.asked o,?_⟩
    refine⟨_,U,_,U,n,p,_,U,aL p hp,?_⟩
    refine⟨0,_,U,U,U,_,U,?_⟩
    refine⟨_,U,_,_,U,U,hlen,?_⟩
    refine hN _ ⟨dn++[p],td,.dat (cm (gm (if o=true then !p.asked else p.asked) p)),.dat (.str (bu (if o=true then !p.asked else p.asked))),by rw[hdt];simp,U,?_⟩
    unfold told
    rw[Tx,Tx,TC,if_pos (of_decide_eq_true e)]
    rfl
   ·refine⟨0,_,U,U,U,_,U,?_⟩
    refine⟨_,U,_,_,U,U,hlen,?_⟩
    refine hN _ ⟨dn++[p],td,.dat (cm p),x5,by rw[hdt];simp,U,?_⟩
    unfold told
    rw[Tx,Tx,TC,if_neg (of_decide_eq_false e)]
    rfl
theorem zN{α β:Type}{f:α->β}:∀ (l:List α) (i:Nat),(l.map f).eraseIdx i=(l.eraseIdx i).map f
 | [],_=>rfl
 | a::l,0=>rfl
 | a::l,i+1=>by
  have:=zN (f:=f) l i
  rw[TC,Vu,Vu,TC,this]
def P4(d:Addr):VI:=λds R=>∃ ps:List PK,ds=[.eW d,.tup (ps.map cm)]/\ps.length<=10/\∀ ns:List Str,ns.length<=10->(∀ x∈ns,x∈ps.map (λp=>p.kd.name))->R (.lst (ns.map .str))
theorem Jm{d l:Addr}(d9:C4 P w K mg base bb aY 1 (cn K (aU d l) (fG d)))(F:Own K mg ig)(T:Txt K mg):C4 P w K mg base bb ig 2 (wz K (aU d l) (P4 d)):=by
 refine F.c λf fd F=>?_
 refine Mw (nos:=2) F gA (λds R h=>?_) λbN A outer s H E M hr=>⟨_,(af (AF (k:=0) (ic (i:=2) gA.nd U U (ts:=["_law_kind"]) (us:=[]) ⟨U,U,U,U,U,U⟩ rfl (aI (vd 1)) (λ_ _ _ _=>(gM 0 ["_law_kind"])) (λ_ _ _ _=>bh)
 (λ_ _ _ _=>(cO (vd 0) ag))))
 (af (sN 1 3 gA.nd (aN ae))
 (af (sF (dG U T.range (aa (av hr d9 (aa (vd 0) (aa (bC b4 eE (lW (bT cE U T.len UM (aG (pv 2) bY))) ag) ae))) ae)) (gN 4 gA.nd)
 (ah (ph 3 (aa (wt UY UZ oF rV (pv 2) (aa (av hr d9 (aa (vd 0) (aa (lW (bT cE U T.len UM (aG (pv 2) bY))) ae))) ae)) ae))))
 (ah (AW (pv 3)))))),λds R h=>?_⟩
 ·obtain⟨ps,rfl,_⟩:=h
  rfl
 ·obtain⟨ps,rfl,hl,q⟩:=h
  have hsz:=bq
  refine⟨_,U,_,.inr U,?_⟩
  refine aH cm (λp=>D.str p.kd.name) _ (λp hp k hk=>⟨_,U,_,_,_,U,U,U,hk _ U⟩) ?_
  rw[TJ,show ps.map (λp=>D.str p.kd.name)=(ps.map λp=>p.kd.name).map D.str by rw[T9];rfl]
  refine⟨⟨U,U⟩,?_⟩
  refine⟨⟨U,U⟩,?_⟩
  generalize hnm:(ps.map λp=>p.kd.name)=nm
  have hnl:nm.length<=10:=by rw[<- hnm,Tr];exact hl
  refine⟨_,U,0,_,U,U,_,_,U,U,_,U,⟨by omega,by simp;omega⟩,λr r0 r1=>?_⟩
  refine⟨_,U,⟨by omega,by simp at r1;omega⟩,?_⟩
  generalize hn:r.toNat=n
  have hnn:n<=nm.length:=by simp at r1;omega
  rw[hnm] at q
  refine aV (λxs s=>∃ (lf fd:List Str) (x4:Sl),x4.pl=true/\lf.length+fd.length=nm.length/\(∀ x∈lf,x∈nm)/\(∀ x∈fd,x∈nm)/\wA xs fd.length n/\s=⟨[.dat (.eW d),.dat (.tup (ps.map cm)),.own 0,.own 1,x4],[some (.lst (lf.map .str)),some (.lst (fd.map .str))]⟩) ?_ ?_ _ _ ⟨nm,[],.no,U,U,λ_ h=>h,λ_ h=>(nomatch h),wA.init _,U⟩
  ·rintro s ⟨lf,fd,x4,hp,hll,hlf,hfd,hR,rfl⟩
   exact⟨_,_,U,U,q fd (by omega) hfd⟩
  ·rintro x xs s N ⟨lf,fd,x4,hp,hll,hlf,hfd,hR,rfl⟩ hN hE_
   obtain⟨rfl,hj,hR2⟩:=hR.cons
   have hlp:0 < lf.length:=by omega
   refine⟨1,_,U,U,U,?_⟩
   refine⟨0,_,U,U,U,?_⟩
   refine⟨_,U,0,_,U,U,_,U,⟨by rw[Tr];omega,by rw[Tr];omega⟩,λr2 r20 r21=>?_⟩
   rw[Tr] at r21
   have hj2:r2.toNat < lf.length:=by omega
   have e2:(r2.toNat:Int)=r2:=Vn r20
   refine⟨_,U,_,_,_,_,U,U,⟨by omega,by omega⟩,(by rw[Tr];exact PySem.seqIndex_of r20 r21),(by rw[Us,Ud hj2];rfl),?_⟩
   rw[show (lf.map D.str).eraseIdx r2.toNat=(lf.eraseIdx r2.toNat).map D.str from zN _ _]
   refine⟨_,U,_,_,U,U,by rw[Tr];omega,?_⟩
   refine hN _ ⟨lf.eraseIdx r2.toNat,fd++[lf[r2.toNat]],.dat (.int fd.length),U,?_,λx hx=>hlf x (List.mem_of_mem_eraseIdx hx),λx hx=>?_,by rw[Tt];exact hR2,?_⟩
   ·rw[List.length_eraseIdx_of_lt hj2,Tt]
    simp
    omega
   ·rcases TY.mp hx with hx | hx
    ·exact hfd x hx
    ·rw[TL.mp hx]
     exact hlf _ (U3 hj2)
   ·rw[Tx]
    rfl
def Qb(d:Addr):VI:=λds R=>∃ (W:er) (n:Nat) (ps:List PK),ds=[.eW d,dZ W,.tup (ps.map cm)]/\(jG W/\ps.map PK.kd=W.kinds/\∀ p∈ps,PF n p)/\∀ qs:List PK,(0 < ps.length->0 < qs.length)/\qs.length<=10->(∀ p∈qs,PF n p)->R (.tup (qs.map cm))
theorem vK{α:Type}{f:α->D}{l:List α}{i:Int}(h0:0<=i)(h1:i<=l.length):cutD (l.map f) none (some i)=(l.take i.toNat).map f:=by
 rw[eB]
 have e2:HT.ck l.length l.length (some i)=i.toNat:=by
  unfold HT.ck
  simp only[]
  repeat' split
  all_goals omega
 rw[show HT.ck l.length 0 none=0 from U,e2,List.drop_zero,Nat.sub_zero]
theorem vB{α:Type}{f:α->D}{l:List α}{i:Int}(h0:0<=i)(h1:i<=l.length):cutD (l.map f) (some i) none=(l.drop i.toNat).map f:=by
 rw[eB]
 have e2:HT.ck l.length 0 (some i)=i.toNat:=by
  unfold HT.ck
  simp only[]
  repeat' split
  all_goals omega
 rw[e2,show HT.ck l.length l.length none=l.length from U,List.take_of_length_le (by simp)]
theorem JQ{d l:Addr}(d9:C4 P w K mg base bb aY 1 (cn K (aU d l) (fG d)))(Mt:C4 P w K mg base bb fi 2 (cn K (aU d l) (MO d)))(F:Own K mg dO)(T:Txt K mg):C4 P w K mg base bb dO 3 (cn K (aU d l) (Qb d)):=by
 refine F.d (nos:=1) bp (λds R h=>?_) λf bN A outer s H E M hr=>⟨_,(af (bZ (DW.dt (Ap (aB jW mP (fY T.len (aa (vd 2) ae)) ag (ax _)) (AY (aB jW mP (av hr d9 (aa (vd 0) (aa ag ae))) ag (ax _)))))
 (ah (aP (vd 2)))
 aJ)
 (af (sS 3 bp.nd (DN.de (fE dE dB (DN.de (nC ["_law_kind"] [] (aI (vd 2)) (λ_ _ _ _=>(gM 0 ["_law_kind"])) (λ_ _ _ _=>bh)
 (λ_ _ _ _=>(cO (vd 0) ag)))) (DN.de (aN (aa aw ae))))))
 (af (sN 0 4 bp.nd (aN ae))
 (af (sF (dG U T.range (aa (av hr d9 (aa (vd 0) (aa ag ae))) ae)) (gN 5 bp.nd)
 (af (sS 6 bp.nd (av hr Mt (aa (vd 0) (aa (DN.de (dP (dw (aW (b7 hr) (DE.pe (vd 1)) (DE.pe aw) (λ_ _=>rfl))) (bQ ag) cQ)) (aa (vd 3) (aa ag ae))))))
 (ah (ph 4 (aa (aA (aa (jJ (dw (aW (b7 hr) (DE.pe (vd 1)) (DE.pe aw) (λ_ _=>rfl))) (bC b4 eE ag (vd 5))) (aa (vd 6) (aa (jJ (vd 3) (av hr d9 (aa (vd 0) (aa (fY T.len (aa (vd 3) ae)) ae)))) ae)))) ae)))))
 (af (sS 7 bp.nd (aA (aa aw (aa (jJ (dw (aW (b7 hr) (DE.pe (vd 1)) (DE.pe aw) (λ_ _=>rfl))) ag) (aa (eK T.tuple (aa (mV (pv 4)) ae)) (aa (aA ae) ae))))))
 (af (bZ (aB bw cU (av hr d9 (aa (vd 0) (aa ag ae))) ag (ax _))
 (ah (sS 7 bp.nd (aA (aa aw (aa (jJ (dw (aW (b7 hr) (DE.pe (vd 1)) (DE.pe aw) (λ_ _=>rfl))) ag) (aa (aA ae) (aa (eK T.tuple (aa (DN.de (nC ["_law_head"] [] (aI (mV (pv 4))) (λ_ _ _ _=>(gM 0 ["_law_head"])) (λ_ _ _ _=>bh)
 (λ_ _ _ _=>(bC kO nH (vd 0) (aA (aa (aA ae) ae)))))) ae)) ae)))))))
 aJ)
 (af (sS 8 bp.nd (av hr d9 (aa (vd 0) (aa (bC b4 eE (fY T.len (aa (vd 2) ae)) ag) ae))))
 (ah (aP (bC kO nH (bC kO nH (fo (vd 2) cQ (bQ (vd 8))) (aA (aa (vd 7) ae))) (fo (vd 2) (bQ (vd 8)) cQ))))))))))),λds R h=>?_⟩
 ·obtain⟨W,n,ps,rfl,_⟩:=h
  rfl
 ·obtain⟨W,n,ps,rfl,⟨cC,hkd,aL⟩,q⟩:=h
  have hsz:=bq
  have dA:ps.length<=5:=by
   have:=congrArg List.length hkd
   rw[Tr] at this
   have:=cC.kl
   omega
  have hsame:=q ps ⟨λh=>h,by omega⟩ aL
  refine⟨_,U,_,.inr U,_,_,U,U,_,U,?_⟩
  refine aR U (λ_=>lJ ⟨_,U,hsame⟩) λ_=>?_
  refine⟨_,U,_,U,⟨by decide,by decide⟩,λr r0 r1=>?_⟩
  refine⟨_,_,U,U,_,U,?_⟩
  refine aR U (λ_=>⟨_,U,hsame⟩) λ_=>?_
  refine⟨_,U,_,.inr U,?_⟩
  refine aH cm (λp=>D.str p.kd.name) _ (λp hp k hk=>⟨_,U,_,_,_,U,U,U,hk _ U⟩) ?_
  rw[TJ,show ps.map (λp=>D.str p.kd.name)=(ps.map λp=>p.kd.name).map D.str by rw[T9];rfl]
  have hnst:∀ x∈(ps.map λp=>p.kd.name)++gh,PyData.strOk x=true:=λx hx=>by
   rcases TY.mp hx with hx | hx
   ·obtain⟨p,hp,rfl⟩:=TR.mp hx
    exact (aL p hp).kd.nm.ok
   ·rw[TL.mp hx]
    decide+kernel
  have hnl:(ps.map λp=>p.kd.name).length=ps.length:=Tr _
  refine⟨_,_,U,U,by simp;omega,?_⟩
  rw[show (ps.map λp=>p.kd.name).map D.str++[D.str "number"]=((ps.map λp=>p.kd.name)++gh).map D.str by rw[Tx];rfl]
  have hnl2:((ps.map λp=>p.kd.name)++gh).length=ps.length+1:=by rw[Tt,hnl];rfl
  generalize (ps.map λp=>p.kd.name)++gh=nms at hnst hnl2
  refine⟨⟨U,U⟩,?_⟩
  refine⟨_,U,_,U,⟨by decide,by decide⟩,λr2 r20 r21=>?_⟩
  refine⟨_,U,⟨by omega,by omega⟩,?_⟩
  have hvl:=cC.vl
  have hhl:=cC.hl
  have hvn:W.vars.Nodup:=(Uk.mp cC.nd).2.1
  generalize FT:r2.toNat=n2
  have hn22:n2<=2:=by omega
  refine aV (λxs s=>∃ (as:List fB) (x5 x6:Sl),(x5.pl=true/\x6.pl=true)/\as.map fB.name=(W.vars.drop 12).take as.length/\(∀ a∈as,K4 a.ps/\PyData.strOk a.res=true)/\wA xs as.length n2/\s=⟨[.dat (.eW d),.dat (dZ W),.dat (.tup (ps.map cm)),.dat (.lst (nms.map .str)),.own 0,x5,x6,.no,.no],[some (.lst (as.map bP))]⟩) ?_ ?_ _ _ ⟨[],.no,.no,⟨U,U⟩,U,λ_ h=>(nomatch h),wA.init _,U⟩
  ·rintro s ⟨as,x5,x6,⟨h5,h6⟩,hnm,hps,hR,rfl⟩
   have hR:=hR.nil
   have fin:∀ (x4 x5 x6:Sl) (os:List (Option D)) (pk:PK),PF n pk->Ej (ya 8 (eS (fG d) (jb (yQ 0) (jb (xW (OG HAdd.hAdd) (jX C9 (jb (yQ 2) kI)) (Hd (D.int 1))) kI)))) (Bt (xW As (xW As (Cr (yQ 2) F3 (vN (yQ 8)) KI) (Et (jb (yQ 7) kI))) (Cr (yQ 2) (vN (yQ 8)) F3 KI))) { nx:=λ_=>R D.bD,rt:=R } ⟨[.dat (.eW d),.dat (dZ W),.dat (.tup (ps.map cm)),.dat (.lst (nms.map .str)),x4,x5,x6,.dat (cm pk),.no],os⟩:=λx4 x5 x6 os pk hpk=>by
    refine⟨_,U,_,U,_,.inr U,_,_,U,U,_,U,⟨by omega,by rw[Tr];omega⟩,λa a0 a1=>?_⟩
    rw[Tr] at a1
    refine⟨_,U,_,U,_,U,_,U,?_⟩
    refine⟨_,U,?_⟩
    refine⟨_,_,U,U,?_,?_⟩
    ·rw[vK a0 (by omega),Tr,UG]
     simp
     omega
    refine⟨_,U,_,U,_,U,_,U,?_⟩
    refine⟨_,_,U,U,?_,?_⟩
    ·rw[vK a0 (by omega),vB a0 (by omega)]
     simp
     omega
    rw[vK a0 (by omega),vB a0 (by omega)]
    have:=q (ps.take a.toNat++[pk]++ps.drop a.toNat) ⟨λ_=>by simp;omega,by simp;omega⟩ λp hp=>?_
    ·rw[Tx,Tx] at this
     exact this
    ·rcases TY.mp hp with hp | hp
     ·rcases TY.mp hp with hp | hp
      ·exact aL p (Uq hp)
      ·rw[TL.mp hp]
       exact hpk
     ·exact aL p (UI hp)
   obtain⟨v14,h14,e14⟩:=lE (f:=D.str) (xs:=W.vars) (r:=14) (by decide) (by omega)
   have hkdF:KN ⟨true,v14,[],as⟩:=by
    have hm:∀ a∈as,a.name∈W.vars:=λa ha=>by
     have:a.name∈as.map fB.name:=Ua ha
     rw[hnm] at this
     exact UI (Uq this)
    refine⟨cC.nm _ (Ub _ (Uw h14)),Uh _,by show as.length<=5;omega,List.nodup_nil,?_,λm hm=>(nomatch hm),λa ha=>⟨(cC.nm _ (Ub _ (hm a ha))).ok,hps a ha⟩⟩
    show (as.map fB.name).Nodup
    rw[hnm]
    exact hvn.sublist ((UD _ _).trans (List.drop_sublist _ _))
   refine⟨_,U,?_⟩
   refine g6 ⟨_,U,?_⟩
   refine⟨_,_,_,U,U,e14,?_⟩
   refine .inr ⟨_,_,U,U,?_⟩
   refine⟨_,.inl U,?_⟩
   refine⟨_,U,_,U,⟨by decide,by decide⟩,λr4 r40 r41=>?_⟩
   refine⟨⟨U,U,U⟩,_,U,?_⟩
   refine aR U (λ_=>?_) λ_=>?_
   rotate_left
   ·exact fin _ _ _ _ ⟨true,⟨true,v14,[],as⟩,[]⟩ ⟨hkdF,U,λ_ h=>(nomatch h)⟩
   refine⟨_,U,?_⟩
   refine g6 ⟨_,U,?_⟩
   refine⟨_,_,_,U,U,e14,?_⟩
   refine .inl ⟨_,U,?_⟩
   refine⟨_,.inl U,?_⟩
   refine aH bP (λa=>b5 (a,[])) _ (λa ha k hk=>?_) ?_
   ·refine⟨_,U,_,_,U,U,?_,hk _ U⟩
    simp
    omega
   refine⟨_,.inl U,?_⟩
   rw[TJ]
   have hpk:PF n ⟨false,⟨true,v14,[],as⟩,as.map λ_=>[]⟩:=⟨hkdF,Tr _,λrs hrs=>?_⟩
   ·have:=fin (.dat (.lst (as.map bP))) (je 0 (.lst (as.map bP)) x5) (je 0 (.lst (as.map bP)) x6) [none] _ hpk
    have e:cm ⟨false,⟨true,v14,[],as⟩,as.map λ_=>[]⟩=D.tup [.str "made",.str v14,.tup [],.tup (as.map λa=>b5 (a,[]))]:=by
     show D.tup [.str "made",.str v14,.tup [],.tup ((as.zip (as.map λ_=>[])).map b5)]=_
     rw[zip_map_self,T9]
     rfl
    rw[e] at this
    exact this
   ·obtain⟨_,_,rfl⟩:=TR.mp hrs
    exact⟨⟨Uh _,List.nodup_nil,λ_ h=>(nomatch h)⟩,λ_ h=>(nomatch h)⟩
  ·rintro x xs s N ⟨as,x5,x6,⟨h5,h6⟩,hnm,hps,hR,rfl⟩ hN hE_
   obtain⟨rfl,hj,hR2⟩:=hR.cons
   have e3:cutD (W.heads.map D.str) (some 3) none=(W.heads.drop 3).map D.str:=vB (i:=3) (by decide) (by omega)
   refine⟨_,U,_,U,?_⟩
   refine kf ⟨_,U,?_⟩
   refine⟨_,U,_,U,_,U,?_⟩
   refine⟨W.heads.drop 3,nms,by rw[<- e3],⟨by rw[UB];omega,by omega,by omega⟩,λprs hprs=>?_⟩
   refine⟨0,_,U,U,U,?_⟩
   refine⟨_,U,?_⟩
   obtain⟨vx,hvx,evx⟩:=lE (f:=D.str) (xs:=W.vars) (r:=12+(as.length:Int)) (by omega) (by omega)
   refine g6 ⟨_,U,?_⟩
   refine⟨_,U,_,_,U,U,?_⟩
   refine⟨_,_,_,U,U,evx,?_⟩
   refine⟨_,U,?_⟩
   refine⟨_,U,_,U,_,U,_,.inl U,_,U,⟨by rw[Tr];omega,by rw[Tr];omega⟩,λr3 r30 r31=>?_⟩
   obtain⟨rs,hrs,ers⟩:=iZ (f:=D.str) (xs:=nms) r30 (by simpa using r31)
   refine⟨_,_,_,U,U,ers,?_⟩
   refine⟨_,U,_,_,U,U,by rw[Tr];omega,?_⟩
   refine hN _ ⟨as++[⟨vx,prs,rs⟩],.dat (.int as.length),.dat (eF prs),⟨U,U⟩,?_,λa ha=>?_,by rw[Tt];exact hR2,by rw[Tx];rfl⟩
   ·refine lT hnm ?_
    rw[U7]
    rwa [show (12+(as.length:Int)).toNat=12+as.length by omega] at hvx
   ·rcases TY.mp ha with ha | ha
    ·exact hps a ha
    ·rw[TL.mp ha]
     refine⟨λx hx=>⟨?_,hnst _ (hprs.2.2 x hx)⟩,hnst _ hrs⟩
     have:x.1∈prs.map (·.1):=Ua hx
     rw[hprs.2.1] at this
     exact (cC.nm _ (Ui _ (UI (Uq this)))).ok
def OZ:VI:=λds R=>∃ t:Tm,(t.wf=true/\t.size<=100000)/\ds=[toD t]/\R (.tup (toDs t.kids))
theorem Jk(F:Own K mg fM)(T:Txt K mg):C4 P w K mg base bb fM 1 (cn K .no OZ):=by
 refine F.d (nos:=0) gL (λds R h=>?_) λf bN A outer s H E M hr=>⟨_,(af (sS 1 gL.nd (cO (vd 0) ag))
 (af (bZ (aB cL okIn (vd 1) (aA (aa aw (aa aw ae))) U)
 (ah (aP (aA ae)))
 aJ)
 (af (bZ (aB bw cU (vd 1) aw (ax _))
 (ah (aP (bC kO nH (aA (aa (cO (vd 0) ag) ae)) (cO (vd 0) ag))))
 aJ)
 (af (bZ (aB bw cU (vd 1) aw (ax _))
 (ah (aP (cO (vd 0) ag)))
 aJ)
 (af (bZ (aB bw cU (vd 1) aw (ax _))
 (ah (aP (fo (vd 0) (bQ ag) cQ)))
 aJ)
 (af (bZ (aB cL okIn (vd 1) (aA (aa aw (aa aw ae))) U)
 (ah (aP (fo (vd 0) (bQ ag) cQ)))
 aJ)
 (af (sS 2 gL.nd (eK T.tuple (aa (DN.de (nC ["_law_row"] [] (aI (cO (vd 0) (dc (d:=.int (-1)) gn U))) (λ_ _ _ _=>(gM 0 ["_law_row"])) (λ_ _ _ _=>bh)
 (λ_ _ _ _=>(cO (vd 0) ag)))) ae)))
 (ah (aP (rh (aB bw cU (vd 1) aw (ax _)) (vd 2) (bC kO nH (aA (aa (cO (vd 0) ag) ae)) (vd 2)))))))))))),λds R h=>?_⟩
 ·obtain⟨t,_,rfl,_⟩:=h
  rfl
 ·obtain⟨t,⟨hw,hs⟩,rfl,q⟩:=h
  obtain⟨f,ks⟩:=t
  obtain⟨ha,hk⟩:=gG hw
  have hl:ks.length < 100000:=TN uX hs
  replace q:R (.tup (toDs ks)):=q
  cases f with
  | nm x =>
   cases len0 (l:=ks) (by simpa [Fm.ar] using ha)
   trivial
   exact q
  | num x =>
   cases len0 (l:=ks) (by simpa [Fm.ar] using ha)
   trivial
   exact q
  | op x =>
   obtain⟨a,b,rfl⟩:=yL (l:=ks) (by simpa [Fm.ar] using ha)
   trivial
   exact q
  | wC =>
   obtain⟨a,b,c,rfl⟩:=LI (l:=ks) (by simpa [Fm.ar] using ha)
   trivial
   exact q
  | lt x =>
   obtain⟨a,b,rfl⟩:=yL (l:=ks) (by simpa [Fm.ar] using ha)
   trivial
   exact q
  | mk x =>
   trivial
   exact q
  | ask x =>
   obtain⟨a,r,rfl⟩:=lF (l:=ks) (by simpa [Fm.ar] using ha)
   trivial
   refine⟨?_,q⟩
   have:=bq
   have e:(toDs (a::r)).tail=toDs r:=rfl
   rw[e,toDs_len]
   simp at hl ⊢
   omega
  | ux x hd =>
   have Cb:ks.length=hd.length+1:=(rB ha).1
   obtain⟨a,r,rfl⟩:=lF (l:=ks) (by omega)
   have hr2:(toDs r).length=hd.length:=by rw[toDs_len];simpa using Cb
   trivial
   refine gU (f:=i6) (λy hy k hk=>?_) ?_
   ·obtain⟨a1,a2,a3,rfl⟩:=gd hr2 y hy
    trivial
    exact hk _ U
   ·rw[TJ,show (toDs (a::r)).tail=toDs r from U,gW hr2]
    trivial
    refine⟨?_,q⟩
    have:=bq
    rw[toDs_len]
    simp at hl ⊢
    omega
  | new x hd =>
   have hr2:(toDs ks).length=hd.length:=by rw[toDs_len];exact (zY ha).1
   trivial
   refine gU (f:=i6) (λy hy k hk=>?_) ?_
   ·obtain⟨a1,a2,a3,rfl⟩:=gd hr2 y hy
    trivial
    exact hk _ U
   ·rw[TJ,gW hr2]
    trivial
    exact q
theorem uF:∀ {ks:List Tm} {t:Tm},t∈ks->t∈hW ks
 | u::ks,t,h=>by
  show t∈u.pre++hW ks
  rcases TX.mp h with rfl | h
  ·refine Ui _ ?_
   rw[Ao]
   exact Tu
  ·exact Ub _ (uF h)
theorem Eg(t:Tm):1<=t.dep:=by
 obtain⟨f,ks⟩:=t
 exact VB (Uh _)
theorem zI{f:Fm}{ks:List Tm}:(Tm.node f ks).pre.any Tm.eu=((Tm.node f ks).eu||ks.any λt=>t.pre.any Tm.eu):=by
 show (Tm.node f ks::hW ks).any Tm.eu=_
 rw[Uz]
 congr 1
 induction ks with
 | nil=>rfl
 | cons t ks ih =>
  show (t.pre++hW ks).any Tm.eu=_
  rw[List.any_append,ih,Uz]
theorem xh(l:List Bool):qU (.bl true) (l.map V.bl)=l.any id:=by
 induction l with
 | nil=>rfl
 | cons b l ih =>
  rw[TC,Uz,<- ih]
  cases b<;>rfl
def Qe:Nat->VI
 | 0=>λ_ _=>False
 | n+1=>λds R=>∃ t:Tm,(t.wf=true/\t.size<=100000/\t.dep<=n+1)/\ds=[toD t]/\R (.bl (t.pre.any Tm.eu))
theorem ER(Qp:C4 P w K mg base bb fM 1 (cn K .no OZ))(Ig:Own K mg gx)(T:Txt K mg):∀ n,C4 P w K mg base bb gx (n+1) (cn K .no (Qe n))
 | 0=>Ig.c λ_ _ _=>lh
 | n+1=>by
  have OD:=ER Qp Ig T n
  refine Ig.c λfIi fdIi F_=>?_
  refine KQ (nos:=0) F_ sI (λds R h=>?_) λbN A outer s H E M hr=>⟨_,(ah (aP (NM (gw cL okIn (cO (vd 0) ag) (aA (aa aw (aa aw ae))) U) (Jj (gw cL okIn lU (DN.de (nC ["_law_one"] [] (aI (bo hr Qp (aa (vd 0) ae))) (λ_ _ _ _=>(gM 0 ["_law_one"])) (λ_ _ _ _=>bh)
 (λ_ _ _ _=>(bo hr OD (aa (vd 0) ae))))) U))))),λds R h=>?_⟩
  ·obtain⟨t,_,rfl,_⟩:=h
   rfl
  ·obtain⟨⟨f,ks⟩,⟨hw,hs,hd⟩,rfl,q⟩:=h
   obtain⟨rest,e⟩:=toD_word f ks
   rw[zI] at q
   have qM:qU (.str f.word) [.str "case",.str "new"]=(Tm.node f ks).eu:=by cases f<;>rfl
   refine⟨_,U,_,_,_,e,U,bR,_,.inr U,⟨U,U⟩,_,U,?_⟩
   refine aR (b':=(Tm.node f ks).eu) qM (λc=>?_) λc=>?_
   ·rw[c,Bool.true_or] at q
    exact q
   rw[c,Bool.false_or] at q
   refine⟨_,U,.node f ks,⟨hw,hs⟩,U,_,.inr U,?_⟩
   rw[show toDs (Tm.node f ks).kids=ks.map toD from toDs_map ks]
   have hkw:=sA ks (gG hw).2
   have hsz:(Tm.node f ks).size=cz ks+1:=rfl
   have hdp:(Tm.node f ks).dep=oo ks+1:=rfl
   refine aH toD (λt=>D.bl (t.pre.any Tm.eu)) _ (λt ht k hk=>?_) ?_
   ·obtain⟨h1,h2,h3⟩:=hkw t (uF ht)
    have hd0:=Eg t
    obtain⟨n',rfl⟩:∃ n',n=n'+1:=⟨n - 1,by omega⟩
    exact⟨_,U,t,⟨h1,by omega,by omega⟩,U,hk _ U⟩
   ·rw[TJ]
    refine⟨_,.inl U,⟨U,?_⟩,?_⟩
    ·rw[List.all_map]
     exact Uv.mpr λ_ _=>rfl
    ·have e2:(ks.map λt=>D.bl (t.pre.any Tm.eu)).map fv=(ks.map λt=>t.pre.any Tm.eu).map V.bl:=by rw[T9,T9];rfl
     have e3:=xh (ks.map λt=>t.pre.any Tm.eu)
     rw[List.any_map] at e3
     have e4:(if false=true then !qU (fv (.bl true)) ((ks.map λt=>D.bl (t.pre.any Tm.eu)).map fv) else qU (fv (.bl true)) ((ks.map λt=>D.bl (t.pre.any Tm.eu)).map fv))=ks.any λt=>t.pre.any Tm.eu:=by
      rw[e2]
      exact e3
     rw[e4]
     exact q
def vX:Option Nat->D
 | some r=>.int r
 | none=>.bD
def Qq:VI:=λds R=>∃ (n:Nat) (ps:List PK),ds=[.tup (ps.map cm)]/\(n<=26/\ps.length<=10/\∀ p∈ps,PF n p)/\R (vX (dm (jM ps)))
theorem Ay{u:Nat×PK×qA}{b:List (Nat×PK×qA)}:dm (u::b)=if wg u=true then some u.1 else dm b:=by
 unfold dm
 cases h:wg u with
 | true=>rw[Vz h];rfl
 | false=>rw[VA (by rw[h];decide)];rfl
theorem Kw(OD:C4 P w K mg base bb gx 28 (cn K .no (Qe 27)))(F:Own K mg fO)(T:Txt K mg):C4 P w K mg base bb fO 29 (cn K .no Qq):=by
 refine F.d (nos:=0) bJ (λds R h=>?_) λf bN A outer s H E M hr=>⟨_,(af (sS 1 bJ.nd ag)
 (af (sF (aI (vd 0)) (bI (m:=4) U (aq (gN 2 bJ.nd) (aq (gN 3 bJ.nd) (aq (gN 4 bJ.nd) (aq (gN 5 bJ.nd) bH)))))
 (af (sF (aI (vd 5)) (gN 6 bJ.nd)
 (af (sS 1 bJ.nd (bC b4 eE (vd 1) ag))
 (ah (bZ (aB cL okIn lU (DN.de (nC ["_law_name","_law_term_here"] [] (aI (cO (vd 6) (dc (d:=.int (-1)) gn U))) (λ_ _ _ _=>(bI (m:=2) U (aq (gM 0 ["_law_name","_law_term_here"]) (aq (gM 1 ["_law_name","_law_term_here"]) bH)))) (λ_ _ _ _=>bh)
 (λ_ _ _ _=>(bo hr OD (aa (vd 1) ae))))) U)
 (ah (aP (vd 1)))
 aJ))))
 (ah (sS 1 bJ.nd (bC b4 eE (vd 1) ag)))))
 (ah (aP jh)))),λds R h=>?_⟩
 ·obtain⟨n,ps,rfl,_⟩:=h
  rfl
 ·obtain⟨n,ps,rfl,⟨hn,hl,aL⟩,q⟩:=h
  refine⟨_,U,_,.inr U,?_⟩
  refine aV (λxs s=>∃ (td:List PK) (r:Nat) (x2 x3 x4 x5 x6:Sl),xs=td.map cm/\(∀ p∈td,p∈ps)/\dm ((sQ r td).flatMap Ep)=dm (jM ps)/\s=⟨[.dat (.tup (ps.map cm)),.dat (.int r),x2,x3,x4,x5,x6],[]⟩) ?_ ?_ _ _ ⟨ps,0,.no,.no,.no,.no,.no,U,λ_ h=>h,U,U⟩
  ·rintro s ⟨td,r,x2,x3,x4,x5,x6,hx,htd,hf,rfl⟩
   cases td with
   | cons a b=>cases hx
   | nil =>
    rw[<- hf] at q
    exact q
  ·rintro x xs s N ⟨td,r,x2,x3,x4,x5,x6,hx,htd,hf,rfl⟩ hN hE_
   cases td with
   | nil=>cases hx
   | cons p td =>
   injection hx with e1 e2
   subst e1 e2
   have hp:=aL p (htd p Tu)
   rw[sQ,Uy] at hf
   refine⟨_,U,U,_,_,U,_,_,U,_,_,U,_,_,U,U,?_⟩
   refine⟨_,U,_,.inr U,?_⟩
   rw[lY]
   refine aV (λxs s=>∃ (bs:List qA) (j:Nat) (x6:Sl),xs=bs.map Ab/\(∀ b∈bs,b∈rq p)/\j+bs.length=r+(c9 p).length/\dm (((bs.zipIdx (j+1)).map λb=>(b.2,p,b.1))++(sQ (r+1+(c9 p).length) td).flatMap Ep)=dm (jM ps)/\s=⟨[.dat (.tup (ps.map cm)),.dat (.int j),.dat (.str (bu p.asked)),.dat (.str p.kd.name),.dat (rE p),.dat (.tup (c9 p)),x6],[]⟩) ?_ ?_ _ _ ⟨rq p,r,x6,U,λ_ h=>h,by rw[lY,Tr],hf,?_⟩
   ·rintro s ⟨bs,j,x6,hx,hbs,hj,hf,rfl⟩
    cases bs with
    | cons a b=>cases hx
    | nil =>
     have hj:j=r+(c9 p).length:=by simpa using hj
     subst hj
     refine⟨_,U,_,_,U,U,?_⟩
     have ej:((r+(c9 p).length:Nat):Int)+1=((r+1+(c9 p).length:Nat):Int):=by omega
     rw[ej]
     exact hN _ ⟨td,r+1+(c9 p).length,_,_,_,_,_,U,λz hz=>htd z (Tv _ hz),hf,U⟩
   ·rintro x xs s N2 ⟨bs,j,x6,hx,hbs,hj,hf,rfl⟩ hN2 hE_2
    cases bs with
    | nil=>cases hx
    | cons b bs =>
    injection hx with e1 e2
    subst e1 e2
    have hb:=hbs b Tu
    have hq:=hp.rw _ (wm hb)
    have htl:∃ ds,Ab b=.tup ds/\jQ ds (-1)=some (kg (xw b)):=by
     cases b with
     | inl x=>exact⟨_,U,U⟩
     | inr x=>exact⟨_,U,U⟩
    obtain⟨ds,ed,ea⟩:=htl
    rw[List.zipIdx_cons,TC,List.cons_append,Ay] at hf
    refine⟨_,U,_,_,U,U,?_⟩
    refine⟨_,U,_,_,_,ed,U,ea,_,.inr U,?_⟩
    refine aH dH (λr=>D.bl (vA r)) _ (λr hr k hk=>?_) ?_
    ·obtain⟨_,a1,_,a3⟩:=hq.ok.ok r hr
     have a4:r.2.size<=12100:=(hq.sm r hr).2
     exact⟨_,U,U,_,_,U,_,_,U,U,_,U,r.2,⟨a1,by omega,TU a3 (TU hn (by decide))⟩,U,hk _ U⟩
    rw[TJ]
    refine⟨_,.inl U,⟨U,?_⟩,_,U,?_⟩
    ·rw[List.all_map]
     exact Uv.mpr λ_ _=>rfl
    have e2:((xw b).map λr=>D.bl (vA r)).map fv=((xw b).map vA).map V.bl:=by rw[T9,T9];rfl
    have e3:=xh ((xw b).map vA)
    rw[List.any_map] at e3
    refine aR (b':=wg (j+1,p,b)) (by rw[if_neg TF,e2];exact e3) (λc=>?_) λc=>?_
    ·have hf:some (j+1)=dm (jM ps):=(if_pos c).symm.trans hf
     rw[<- hf] at q
     exact⟨_,U,hE_2 _ (hE_ _ q)⟩
    ·refine hN2 _ ⟨bs,j+1,_,U,λz hz=>hbs z (List.mem_cons_of_mem _ hz),by simp at hj;omega,?_,U⟩
     rw[c] at hf
     exact hf
   ·rw[<- lY]
    rfl
def ji(ps:List PK)(ns:List Str):Bool:=ns.all λx=>decide (x∈ps.map λp=>p.kd.name)
theorem Bw{ps:List PK}{x:Str}:(B8 ps x=.bD)↔x∉ps.map λp=>p.kd.name:=by
 unfold B8
 cases h:ps.find? (λp=>decide (p.kd.name=x)) with
 | none =>
  refine⟨λ_ hx=>?_,λ_=>rfl⟩
  obtain⟨p,hp,e⟩:=TR.mp hx
  exact (List.find?_eq_none.mp h p hp) (decide_eq_true e)
 | some p =>
  refine⟨λe=>(by cases e),λhx=>absurd ?_ hx⟩
  exact TR.mpr ⟨p,List.mem_of_find?_eq_some h,of_decide_eq_true (List.find?_some (p:=λp:PK=>decide (p.kd.name=x)) h)⟩
def PZ(aK:Addr):List D->(D->Prop)->XD->Prop:=λds R RX=>∃ (ps:List PK) (b:Bool) (ns:List Str),ds=[.tup (ps.map cm),AM b (ns.map .str)]/\if ji ps ns=true then R .bD else RX aK []
theorem Lh(QN:C4 P w K mg base bb eY 1 (cn K .no Pp)){aK fK:Addr}{PV:FuncData}(nK:mg "NoKind"=some (.ref aK))(MK:Dy K aK fK)(GK:cw P w K mg base bb 1 fK PV ["self"] (He aK))(bK:Binds K PV ["self"] [])(F:Own K mg fJ)(T:Txt K mg):C4 P w K mg base (tH P w) fJ 3 (DH K (PZ aK)):=by
 refine F.c λf fd F=>?_
 refine fnX (nos:=0) F pF (λds R RX h=>?_) λbN A outer s H E M RX hr hX=>⟨_,(ah (bZ (om (iD (nG U) Kl U T.any (by decide+kernel) (aa (DN.de (nC ["name"] [0] (aI (vd 1)) (λ_ _ _ _=>(gM 0 ["name","program"])) (λ_ _ _ _=>bh)
 (λ_ _ _ _=>(gw vL Aj (bo hr QN (aa (vd 1) (aa (vd 0) ae))) jh (ax _))))) ae)))
 (ah (Af U qu hX MK GK (hr.mono (by decide)) U nK bK))
 aJ)),λds R h=>?_⟩
 ·obtain⟨ps,b,ns,rfl,_⟩:=h
  rfl
 ·obtain⟨ps,b,ns,rfl,q⟩:=h
  refine⟨_,U,_,vz b,?_⟩
  refine aH D.str (λx=>D.bl (!decide (x∈ps.map λp=>p.kd.name))) _ (λx hx k hk=>?_) ?_
  ·refine⟨_,U,_,U,ps,x,U,U,?_⟩
   have e:kh (B8 ps x)=!decide (x∈ps.map λp=>p.kd.name):=by
    by_cases hx:x∈ps.map λp=>p.kd.name
    ·rw[decide_eq_true hx]
     cases h:B8 ps x with
     | bD=>exact absurd hx (Bw.mp h)
     | _=>rfl
    ·rw[decide_eq_false hx,Bw.mpr hx]
     rfl
   rw[e]
   exact hk _ U
  refine⟨ns.map λx=>!decide (x∈ps.map λp=>p.kd.name),?_,?_⟩
  ·rw[TJ,T9]
   rfl
  ·have e:(ns.map λx=>!decide (x∈ps.map λp=>p.kd.name)).any id=!ji ps ns:=by
    unfold ji
    rw[List.any_map,List.all_eq_not_any_not]
    simp
   rw[e]
   refine⟨_,U,?_⟩
   cases h:ji ps ns with
   | true =>
    rw[h,if_pos U] at q
    exact nk U q
   | false =>
    rw[h,if_neg TF] at q
    exact jD U q
def Pr(aF:Addr):List D->(D->Prop)->XD->Prop:=λds R RX=>∃ (n:Nat) (ps:List PK),ds=[.tup (ps.map cm)]/\(ps.length<=10/\∀ p∈ps,PF n p)/\match dm (jM ps) with
 | none=>R .bD
 | some r=>RX aF [("row",.int (r:Nat))]
theorem Ln(Q9:C4 P w K mg base bb ek 3 (cn K .no Qa)){aF fF:Addr}{Qm:FuncData}(nF:mg "NotFlat"=some (.ref aF))(MF:Dy K aF fF)(GF:cw P w K mg base bb 1 fF Qm ["self","row"] (Hf aF))(bF:Binds K Qm ["self","row"] [])(F:Own K mg gp)(T:Txt K mg):C4 P w K mg base (tH P w) gp 4 (DH K (Pr aF)):=by
 refine F.c λf fd F=>?_
 refine fnX (nos:=0) F fN (λds R RX h=>?_) λbN A outer s H E M RX hr hX=>⟨_,(af (sS 1 fN.nd (bo hr Q9 (aa (vd 0) ae)))
 (ah (bZ (HY (vd 1))
 (af (mh (n:=1000) (jJ (vd 1) ag) (bI (m:=2) U (aq (gN 2 fN.nd) (aq (gN 3 fN.nd) bH))))
 (ah (zw U qu hX MF GF (hr.mono (by decide)) U nF bF (aa (cO (vd 2) ag) ae))))
 aJ))),λds R h=>?_⟩
 ·obtain⟨n,ps,rfl,_⟩:=h
  rfl
 ·obtain⟨n,ps,rfl,aL,q⟩:=h
  refine⟨_,U,n,ps,U,aL,λys hys=>?_⟩
  cases hf:dm (jM ps) with
  | none =>
   rw[hf] at q hys
   have hys:ys=[]:=hys
   subst hys
   exact⟨_,U,_,.inl U,nk U q⟩
  | some r =>
   rw[hf] at q hys
   obtain⟨i,d,rest,rfl⟩:=hys
   refine⟨_,U,_,.inl U,jD U ?_⟩
   exact⟨_,U,_,_,_,U,U,bR,_,U,U,_,_,U,_,_,U,U,_,U,_,_,_,U,U,bR,r,U,q⟩
def qJ(ns:List Str)(ps:List PK):List PK:=ps.map λp=>if p.kd.name∈ns then gm (!p.asked) p else p
def OU(aK aF:Addr):List D->(D->Prop)->XD->Prop:=λds R RX=>∃ (n:Nat) (ps:List PK) (b:Bool) (ns:List Str),ds=[.tup (ps.map cm),AM b (ns.map .str)]/\(ps.length<=10/\∀ p∈ps,PF n p)/\if ji ps ns=true then (match dm (jM ps) with
 | none=>R (.tup ((qJ ns ps).map cm))
 | some r=>RX aF [("row",.int (r:Nat))]) else RX aK []
theorem II{aK aF:Addr}(Rr:C4 P w K mg base (tH P w) fJ 3 (DH K (PZ aK)))(RU:C4 P w K mg base (tH P w) gp 4 (DH K (Pr aF)))(SM:C4 P w K mg base bb e8 3 (cn K .no Qj))(F:Own K mg kF)(T:Txt K mg):C4 P w K mg base (tH P w) kF 5 (DH K (OU aK aF)):=by
 obtain⟨fND,fdND,JND,Mv,mND,bND⟩:=id Rr
 obtain⟨fNF,fdNF,JNF,Mo,mNF,bNF⟩:=id RU
 refine F.c λf fd F=>?_
 refine fnX (nos:=0) F yw (λds R RX h=>?_) λbN A outer s H E M RX hr hX=>⟨_,(af (wZ (λ_ h=>qe h) hX (hr.mono (by decide)) U mND Mv.kp bND (aa (vd 0) (aa (vd 1) ae)) JND)
 (af (wZ (λ_ h=>qe h) hX (hr.mono (by decide)) U mNF Mo.kp bNF (aa (vd 0) ae) JNF)
 (ah (aP (eK T.tuple (aa (DN.de (nC ["kind"] [1] (aI (vd 0)) (λ_ _ _ _=>(gM 0 ["kind","kinds"])) (λ_ _ _ _=>bh)
 (λ_ _ _ _=>(rh (aB cL okIn (cO (vd 0) ag) (vd 1) U) (bo hr SM (aa (vd 0) ae)) (vd 0))))) ae)))))),λds R h=>?_⟩
 ·obtain⟨n,ps,b,ns,rfl,_⟩:=h
  rfl
 ·obtain⟨n,ps,b,ns,rfl,aL,q⟩:=h
  refine⟨_,U,_,U,ps,b,ns,U,?_⟩
  cases ha:ji ps ns with
  | false =>
   rw[ha,if_neg TF] at q
   rw[if_neg TF]
   exact q
  | true =>
   rw[ha,if_pos U] at q
   rw[if_pos U]
   refine⟨_,U,n,ps,U,aL,?_⟩
   cases hf:dm (jM ps) with
   | some r =>
    rw[hf] at q
    exact q
   | none =>
    rw[hf] at q
    refine⟨_,U,_,.inr U,?_⟩
    refine aH cm (λp=>cm (if p.kd.name∈ns then gm (!p.asked) p else p)) _ (λp hp k hk=>?_) ?_
    ·refine⟨_,U,_,_,_,U,U,U,_,U,?_⟩
     refine⟨_,vz b,⟨U,jI⟩,_,U,?_⟩
     refine aR (b':=decide (p.kd.name∈ns)) nv (λe=>?_) λe=>?_
     ·refine⟨_,U,n,p,U,aL.2 p hp,?_⟩
      have:=hk
      rw[if_pos (of_decide_eq_true e)] at this
      exact this _ U
     ·have:=hk
      rw[if_neg (of_decide_eq_false e)] at this
      exact⟨_,U,this _ U⟩
    refine⟨_,.inl U,?_⟩
    unfold qJ at q
    rw[T9] at q
    exact q
def Dp:Stmt->List Stmt
 | .Try _ (.ExceptHandler _ _ kG _::_) _ _ _=>kG
 | _=>[]
def handOf(s:Stmt):List Stmt:=Dp ((bc s).getD 1 (.Pass ⟨0,0,0,0⟩))
theorem Dj{X:Cx}{c:Ent}{e:Expr}:DE X c e (λ_ _=>False):=⟨λ_ _ _ _ _ _ ⟨_,_,_,_,_,h,_⟩=>h.elim⟩
structure Qd(K:Frag)(mg:Str->Option Value)(S a0 a1 a2 a3 a4 a5 a6 a7:Addr):Prop where
 ve:mg "ValueError"=none
 side:mg "SideError"=some (.ref S)
 n0:mg "NoText"=some (.ref a0)
 n1:mg "NoProgram"=some (.ref a1)
 n2:mg "NoTerm"=some (.ref a2)
 n3:mg "NoValue"=some (.ref a3)
 n4:mg "NotFlat"=some (.ref a4)
 n5:mg "NoKind"=some (.ref a5)
 n6:mg "NoEdit"=some (.ref a6)
 n7:mg "NoRow"=some (.ref a7)
 kt:∀ C,C=a4\/C=a5->Ir K C/\PySem.W.exmOne K (.ref C) (.ref S)=some true/\kitAny K (.ref C) ([a6,a1,a7,a2].map Value.ref)=some false/\kitAny K (.ref C) ([a0,a3].map Value.ref)=some false/\kitOne K (.ref C) (.ref a5)=some (decide (C=a5))/\kitOne K (.ref C) (.ref a4)=some (decide (C=a4))/\kitOne K (.ref C) (.type "ValueError")=some true
 r4:D8 K a4 "row"
 ne:a4≠a5
theorem Lq(a:Addr)(cv:V)(u:Value)(h1:RelV cv (.ref a))(h2:RelV cv u):u=.ref a:=by
 cases cv with
 | ref b=>cases (show Value.ref a=Value.ref b from h1);exact h2
 | bD=>exact nomatch (show Value.ref a=Value.none from h1)
 | bl b=>exact nomatch (show Value.ref a=Value.bool b from h1)
 | int b=>obtain⟨t,e⟩:=(show ∃ t,Value.ref a=Value.int b t from h1);exact nomatch e
 | str b=>obtain⟨t,e⟩:=(show ∃ t,Value.ref a=Value.str b t from h1);exact nomatch e
 | w8 b=>obtain⟨t,e⟩:=(show ∃ t,Value.ref a=Value.bytes b t from h1);exact nomatch e
 | Io b=>obtain⟨t,e⟩:=(show ∃ t,Value.ref a=Value.float b t from h1);exact nomatch e
 | ty n=>exact nomatch (show Value.ref a=Value.type n from h1)
theorem Gy(x:String)(cv:V)(u:Value)(h1:RelV cv (.type x))(h2:RelV cv u):u=.type x:=by
 cases cv with
 | ty b=>cases (show Value.type x=Value.type b from h1);exact h2
 | bD=>exact nomatch (show Value.type x=Value.none from h1)
 | bl b=>exact nomatch (show Value.type x=Value.bool b from h1)
 | int b=>obtain⟨t,e⟩:=(show ∃ t,Value.type x=Value.int b t from h1);exact nomatch e
 | str b=>obtain⟨t,e⟩:=(show ∃ t,Value.type x=Value.str b t from h1);exact nomatch e
 | w8 b=>obtain⟨t,e⟩:=(show ∃ t,Value.type x=Value.bytes b t from h1);exact nomatch e
 | Io b=>obtain⟨t,e⟩:=(show ∃ t,Value.type x=Value.float b t from h1);exact nomatch e
 | ref n=>exact nomatch (show Value.type x=Value.ref n from h1)
def toldD(ps:List PK)(ns:List Str):D:=if ji ps ns=true then (match dm (jM ps) with
 | none=>.tup [.str "told",.tup ((qJ ns ps).map cm)]
 | some r=>.tup [.str "not flat",.int (r:Nat),.bl false]) else .tup [.str "no kind"]
def PY:VI:=λds R=>∃ (n:Nat) (ps:List PK) (b:Bool) (ns:List Str),ds=[.tup (ps.map cm),AM b (ns.map .str)]/\(ps.length<=10/\∀ p∈ps,PF n p)/\R (toldD ps ns)
theorem IM{S a0 a1 a2 a3 a4 a5 a6 a7:Addr}(TE:Qd K mg S a0 a1 a2 a3 a4 a5 a6 a7)(Sy:C4 P w K mg base (tH P w) kF 5 (DH K (OU a5 a4)))(F:Own K mg ij)(T:Txt K mg):C4 P w K mg base bb ij 62 (cn K .no PY):=by
 obtain⟨fTU,fdTU,JTU,Mi,mTU,bTU⟩:=id Sy
 refine F.d (nos:=0) cB (λds R h=>?_) λf bN A outer s H E M hr=>⟨_,(af (sS 2 cB.nd (aA (aa aw ae)))
 (af (Ho (i:=2) U U cB.nd U (Or.inl U) aw (hr.mono (by decide)) U mTU Mi.kp bTU (aa (vd 0) (aa (vd 1) ae)) JTU (IX (i:=3) U TE.side cB.nd U U Ds Ie))
 (ah (aP (vd 2))))),λds R h=>?_⟩
 ·obtain⟨n,ps,b,ns,rfl,_⟩:=h
  rfl
 ·obtain⟨n,ps,b,ns,rfl,aL,q⟩:=h
  have hand:∀ (C:Addr) (fs:List (Str×V)) (HF:D) (D1:mN),C=a4\/C=a5->(C=a5/\fs=[]/\HF=.tup [.str "no kind"]\/C=a4/\∃ r:Int,fs=([("row",.int r)]:List (Str×V))/\HF=.tup [.str "not flat",.int r,.bl false]) ->
    (∀ x3 x4 x5,D1.nx ⟨[.dat (.tup (ps.map cm)),.dat (AM b (ns.map .str)),.dat HF,x3,x4,x5],[]⟩) ->
    Pt K ⟨.no,M,H⟩ (O7 K (.ref S) 3 (Dl (jl bb P w K mg base ["_law_program_here","_law_kinds","_law_answer","e","_law_others","_law_both"] "_law_told" (ai cG) f bN A outer s H E).sV (handOf cG)) IT) D1 ⟨[.dat (.tup (ps.map cm)),.dat (AM b (ns.map .str)),.dat (.tup [.str "none"]),.no,.no,.no],[]⟩ C fs:=by
   intro C fs HF D1 hC hcs hnx E' M1 M2 as O Hh H1 ea dd se gr L fa sT
   obtain⟨hT,hex,kA,kB,k5,k4,kV⟩:=TE.kt C hC
   have hD:=zq fa
   have hH:=sT
   refine⟨true,hex,lJ ?_⟩
   have fin:∀ trow:br,(∀ (ev:Value) (e:Expr),PE ((jl bb P w K mg base ["_law_program_here","_law_kinds","_law_answer","e","_law_others","_law_both"] "_law_told" (ai cG) f bN A outer s H E).sV.hand ev) e (Ai K (bB 3) "row")->DE ((jl bb P w K mg base ["_law_program_here","_law_kinds","_law_answer","e","_law_others","_law_both"] "_law_told" (ai cG) f bN A outer s H E).sV.hand ev) ⟨.no,M1,Hh⟩ e trow) ->
     (C=a5/\trow=(λ_ _=>False)/\HF=.tup [.str "no kind"]\/C=a4/\∃ r:Int,trow=Mu 3 ea (.int r)/\HF=.tup [.str "not flat",.int r,.bl false]) ->
     Dl (jl bb P w K mg base ["_law_program_here","_law_kinds","_law_answer","e","_law_others","_law_both"] "_law_told" (ai cG) f bN A outer s H E).sV (handOf cG) (Ni 3 E') (O.set 3 (some (.ref ea))) Hh:=by
    intro trow hrow' hcs
    have hs:∃ tb,(∀ ev:Value,vJ ((jl bb P w K mg base ["_law_program_here","_law_kinds","_law_answer","e","_law_others","_law_both"] "_law_told" (ai cG) f bN A outer s H E).sV.hand ev) ⟨.no,M1,Hh⟩ (handOf cG) tb)/\tb { nx:=λs'=>∃ x3 x4 x5,s'=⟨[.dat (.tup (ps.map cm)),.dat (AM b (ns.map .str)),.dat HF,x3,x4,x5],[]⟩,rt:=λ_=>False } ⟨[.dat (.tup (ps.map cm)),.dat (AM b (ns.map .str)),.dat (.tup [.str "none"]),.dat (.eW ea),.no,.no],[]⟩:=by
     refine⟨_,λev=>by
      have hrow:=λ{e:Expr}=>hrow' ev e
      exact (af (sS 4 cB.nd (DN.de (aN (aa (BV (cs:=[a6,a1,a7,a2]) (Nat.le_of_ble_eq_true U) hH hD hT kA (bT (pU U) U T.EE PyProof.Rows.boot_isinstance (aG (pv 3) (aG (wD (aG (eg (v:=.ref a6) U TE.n6 U) (aG (eg (v:=.ref a1) U TE.n1 U) (aG (eg (v:=.ref a7) U TE.n7 U) (aG (eg (v:=.ref a2) U TE.n2 U) bY))))) bY)))) (aa (BV (cs:=[a0,a3]) (Nat.le_of_ble_eq_true U) hH hD hT kB (bT (pU U) U T.EE PyProof.Rows.boot_isinstance (aG (pv 3) (aG (wD (aG (eg (v:=.ref a0) U TE.n0 U) (aG (eg (v:=.ref a3) U TE.n3 U) bY))) bY)))) ae)))))
 (af (sS 5 cB.nd (DN.de (aN (aa (uZ (c:=.ref a5) (cv:=.ref a5) U hH hD hT k5 (bT (jo U (Lq a5)) U T.EE PyProof.Rows.boot_isinstance (aG (pv 3) (aG (eg (v:=.ref a5) U TE.n5 U) bY)))) (aa (uZ (c:=.ref a4) (cv:=.ref a4) U hH hD hT k4 (bT (jo U (Lq a4)) U T.EE PyProof.Rows.boot_isinstance (aG (pv 3) (aG (eg (v:=.ref a4) U TE.n4 U) bY)))) ae)))))
 (af (sS 2 cB.nd (aA (aa aw (aa (uZ (c:=.type "ValueError") (cv:=.ty "ValueError") U hH hD hT kV (bT (jo U (Gy "ValueError")) U T.EE PyProof.Rows.boot_isinstance (aG (pv 3) (aG (nu (v:=.ty "ValueError") U TE.ve PyProof.Rows.Boot.«ValueError» rfl) bY)))) ae))))
 (af (bZ (DW.dt (ik (aB eC okIn lU (vd 4) U) (ik (om (uZ (c:=.type "ValueError") (cv:=.ty "ValueError") U hH hD hT kV (bT (jo U (Gy "ValueError")) U T.EE PyProof.Rows.boot_isinstance (aG (pv 3) (aG (nu (v:=.ty "ValueError") U TE.ve PyProof.Rows.Boot.«ValueError» rfl) bY))))) (iC (aB (oK (have z:=nB hr;z)) ud (vd 5) (DN.de (aN (aa lU (aa lU ae)))) (ax _))))))
 (ah (sS 2 cB.nd (aA (aa aw ae))))
 aJ)
 (ah (bZ (DW.dt (ik (aB eC okIn lU (vd 4) U) (ik (om (uZ (c:=.type "ValueError") (cv:=.ty "ValueError") U hH hD hT kV (bT (jo U (Gy "ValueError")) U T.EE PyProof.Rows.boot_isinstance (aG (pv 3) (aG (nu (v:=.ty "ValueError") U TE.ve PyProof.Rows.Boot.«ValueError» rfl) bY))))) (iC (aB (oK (have z:=nB hr;z)) ud (vd 5) (DN.de (aN (aa lU (aa lU ae)))) (ax _))))))
 (ah (sS 2 cB.nd (aA (aa aw (aa (hrow (wV U (pv 3) U)) (aa (iD zK Kj U T.EE PyProof.Rows.boot_isinstance (aa (hrow (wV U (pv 3) U)) (aa (dc (d:=.ty "bool") (nu (v:=.ty "bool") U T.bool (by decide+kernel) U) U) ae))) ae))))))
 aJ)))))),?_⟩
     rcases hcs with ⟨hc,ht,ha⟩ | ⟨hc,r,ht,ha⟩
     ·subst ht ha
      have e1:decide (C=a5)=true:=decide_eq_true hc
      have e2:decide (C=a4)=false:=decide_eq_false λz=>TE.ne (z.symm.trans hc)
      rw[e1,e2]
      refine⟨U,U,U,U,U,?_⟩
      refine⟨_,U,_,.inl U,⟨U,U⟩,_,U,jD U ⟨U,_,U,jD U ?_⟩⟩
      refine⟨_,U,⟨U,U,.inr (by decide)⟩,_,U,jD U ?_⟩
      refine⟨_,U,_,.inl U,⟨U,U⟩,_,U,jD U ⟨U,_,U,jD U ?_⟩⟩
      refine⟨_,U,⟨U,U,.inr (by decide)⟩,_,U,nk U ?_⟩
      exact⟨_,_,_,U⟩
     ·subst ht ha
      have e1:decide (C=a4)=true:=decide_eq_true hc
      have e2:decide (C=a5)=false:=decide_eq_false λz=>TE.ne (hc.symm.trans z)
      rw[e1,e2]
      refine⟨U,U,U,U,U,?_⟩
      refine⟨_,U,_,.inl U,⟨U,U⟩,_,U,jD U ⟨U,_,U,jD U ?_⟩⟩
      refine⟨_,U,⟨U,U,.inr (by decide)⟩,_,U,nk U ?_⟩
      refine⟨_,U,_,.inl U,⟨U,U⟩,_,U,jD U ⟨U,_,U,jD U ?_⟩⟩
      refine⟨_,U,⟨U,U,.inr (by decide)⟩,_,U,jD U ?_⟩
      exact⟨U,U,_,_,_,U,U,_,_,_,U⟩
    obtain⟨tb,h1,h2⟩:=hs
    unfold Dl
    refine⟨tS K ⟨.no,M1,Hh⟩ tb,λev=>(h1 ev).ps,M1,_,as,_,(L.down λk d e=>by cases e).Dx 3 (d:=.eW ea) U,h2,?_⟩
    ·refine⟨λs' pC M' O' H' ⟨x3,x4,x5,es⟩ L' G'=>?_,λ_ _ _ _ _ z=>z.elim,λ_ _ _ _ _ z=>z.elim,λ_ _ _ _ z=>z.elim,λ_ _ _ _ _ z=>z.elim,λ_ _ _ _ _ _ _ z=>z.elim⟩
     subst es
     exact se.nx _ pC M' _ H' (hnx .no x4 x5) ((L.up L').Jx 3) (gr.trans G')
   rcases hcs with ⟨hc,hf,ha⟩ | ⟨hc,r,hf,ha⟩
   ·exact fin _ (λ_ _ _=>Dj) (.inl ⟨hc,U,ha⟩)
   ·subst hf
    rcases fa with ⟨z,_⟩ | ⟨dx,hdx,hxf⟩
    ·cases z
    ·subst hdx
     exact fin _ (λ_ _ h=>F1 hH hxf hT.toExC (hc▸TE.r4) U h) (.inr ⟨hc,r,U,ha⟩)
  refine⟨_,U,_,U,n,ps,b,ns,U,aL,?_⟩
  unfold toldD at q
  cases ha:ji ps ns with
  | false =>
   rw[ha,if_neg TF] at q
   rw[if_neg TF]
   exact hand a5 [] _ _ (.inr U) (.inl ⟨U,U,U⟩) λx3 x4 x5=>⟨_,U,q⟩
  | true =>
   rw[ha,if_pos U] at q
   rw[if_pos U]
   cases hf:dm (jM ps) with
   | none =>
    rw[hf] at q
    exact⟨_,U,q⟩
   | some r =>
    rw[hf] at q
    exact hand a4 [("row",.int (r:Nat))] _ _ (.inl U) (.inr ⟨U,r,U,U⟩) λx3 x4 x5=>⟨_,U,q⟩
theorem rb:az ["_law_deal_here","_law_many","_law_number","_law_one","_law_other"] ["_law_deal_here","_law_many"] (ai oB):=gJ
theorem HC(F:Own K mg aY)(T:Txt K mg):C4 P w K mg base bb aY 1 cK.vi:=by
 refine F.c λf fd F=>?_
 refine cK.CD F rb λbN A outer s H E hu=>?_
 exact cM (tZ PassesOwn.never (PW.pt (pw_and (ix bw (aW hu (pv 0) dD (λ_ _=>rfl)) bX (ax _)) (pw_and1 (ix jW (bT cE U T.len UM (aG (aW hu (pv 0) dD (λ_ _=>rfl)) bY)) bX (ax _)))))
   (gI (jK hu (pv 0) dD (BM Vv UY UZ zv (aW hu (pv 0) dD (λ_ _=>rfl))) U)))
  (cM (f7 (i:=2) rb.nd U (Or.inl U) (aW hu (pv 0) dD (λ_ _=>rfl)))
  (cM (Em (ix jW (pv 2) bX (ax _)) (cM (jK hu (pv 0) dD (c8 dh (pv 2) (pv 1)) U) (gI (lA (c8 gK (pv 2) (pv 1))))) xx)
  (cM (f7 (i:=3) rb.nd U (Or.inl U) (c8 gK (c8 b4 (c8 kj (aW hu (pv 0) dD (λ_ _=>rfl)) bX) bX) bX))
  (cM (jK hu (pv 0) dD (c8 gK (c8 b4 (c8 kj (pv 3) bX) bX) bX) U)
  (cM (f7 (i:=4) rb.nd U (Or.inl U) (c8 gK (c8 kj (aW hu (pv 0) dD (λ_ _=>rfl)) (aW hu (pv 0) dD (λ_ _=>rfl))) bX))
  (gI (lA (c8 gK (c8 b4 (c8 kj (c8 gK (c8 kj (pv 3) (pv 3)) bX) bX) (pv 4)) (pv 1)))))))))
theorem n8:az ["_law_script","_law_base","_law_some_here","_law_number","_law_one"] ["_law_script","_law_base"] (ai oP):=gJ
theorem Qo:(["_law_one"]:List Str).Nodup:=by decide+kernel
theorem GG(F:Own K mg iE)(T:Txt K mg):C4 P w K mg base bb iE 1 (cK.vM K):=by
 refine F.c λf fd F=>?_
 refine cK.Av F n8 λbN A outer s H E=>?_
 exact cM (xj (ts:=["_law_one"]) (us:=[]) (i:=2) n8.nd U U ⟨U,U,U,U,U,U⟩ rfl (rQ (kX wL (pv 0) (rX (pv 1)) (rX bX))) (λ_ _ _ _=>cT (i:=0) Qo U (Or.inl U)) (λ_ _ _ _=>xp)
   (λ_ _ _ _=>bT (lP U) U T.max PyProof.Rows.boot_max (aG (pv 0) (aG (c8 gS bX (pv 0)) bY))))
  (cM (f7 (i:=3) n8.nd U (Or.inl U) (c8 b4 bX (pv 1)))
  (cM (B2 PassesOwn.never U (rQ (pv 2)) (cT (i:=4) n8.nd U (Or.inl U)) (gI (f7 (i:=3) n8.nd U (Or.inl U) (c8 gK (c8 b4 (c8 kj (pv 3) bX) (c8 gK (pv 4) bX)) bX))))
  (gI (lA (xR (kH dD (pv 3) (kH dD bX (kH dD (wq U U T.list U T.rev
   (xq (ts:=["_law_one"]) (us:=[]) ⟨U,U,U,U,U,U⟩ rfl (rQ (pv 2)) (λ_ _ _ _=>cT (i:=0) Qo U (Or.inl U)) (λ_ _ _ _=>xC (ix Eo (pv 0) (c8 Ht bX bX) (ax _))) (λ_ _ _ _=>pv 0))) wJ))) U U (by simp) (by decide))))))
theorem told_ok{n:Nat}{o:Bool}{ns:List Str}{ps:List PK}(h:∀ p∈ps,PF n p):∀ p∈told o ns ps,PF n p:=λp hp=>by
 obtain⟨x,hx,rfl⟩:=TR.mp hp
 by_cases e:x.kd.name∈ns
 ·rw[if_pos e]
  exact (h x hx).tell _
 ·rw[if_neg e]
  exact h x hx
theorem BA{ps:List PK}:qJ [] ps=ps:=by
 unfold qJ
 have:∀ p∈ps,(if p.kd.name∈([]:List Str) then gm (!p.asked) p else p)=p:=λp _=>if_neg (by simp)
 rw[U4 this]
 exact List.map_id' ps
theorem Ci{x:Str}{d:D}(h:fe d=true):fe (.tup [.str x,d])=true:=by
 show (true&&(fe d&&true))=true
 rw[h]
 rfl
theorem toldD_ok{n:Nat}{ps:List PK}{ns:List Str}(h:∀ p∈ps,PF n p)(hn:n<=26):(dz (toldD ps ns)=true/\cj (toldD ps ns)<=400)/\fe (toldD ps ns)=true:=by
 unfold toldD
 split
 ·split
  ·obtain⟨h1,h2⟩:=DV (told_ok (o:=true) (ns:=ns) h) hn
   refine⟨⟨?_,?_⟩,Ci qw⟩
   ·show (PyData.strOk "told"&&(dz (.tup ((told true ns ps).map cm))&&true))=true
    rw[h1]
    decide+kernel
   ·rw[aQ,ak,ak,aX,aO]
    have h2:cj (.tup ((qJ ns ps).map cm))<=200:=h2
    omega
  ·refine⟨⟨?_,by rw[aQ];simp only[ak,aX,aO];show max 0 (max 0 (max 0 0))+1<=400;decide⟩,U⟩
   show (PyData.strOk "not flat"&&(true&&(true&&true)))=true
   decide+kernel
 ·exact⟨⟨by decide+kernel,by rw[aQ,ak,aX,aO];decide⟩,U⟩
theorem toldD_no{ps:List PK}{ns:List Str}{x:Str}(h:x∈ns)(hx:x∉ps.map λp=>p.kd.name):toldD ps ns=.tup [.str "no kind"]:=by
 have e:ji ps ns=false:=by
  rw[<- Bool.not_eq_true]
  intro z
  exact hx (of_decide_eq_true (Uv.mp z x h))
 unfold toldD
 rw[e,if_neg TF]
theorem allIn_of{ps:List PK}{ns:List Str}(h:∀ x∈ns,x∈ps.map λp=>p.kd.name):ji ps ns=true:=Uv.mpr λx hx=>decide_eq_true (h x hx)
theorem Hw{f:Addr}{fd:FuncData}(F:sR K "law" "law" la f fd)(T:Txt K mg)(GL:C4 P w K mg base bb iE 1 (cK.vM K))(d9:∀ d l,C4 P w K mg base bb aY 1 (cn K (aU d l) (fG d)))(QO:∀ d l,C4 P w K mg base bb gE 4 (wz K (aU d l) (P8 d)))(Q8:∀ d l,C4 P w K mg base bb fb 76 (cn K (aU d l) (O5 d 23)))(Sj:∀ d l,C4 P w K mg base bb dO 3 (cn K (aU d l) (Qb d)))(RZ:∀ d l,C4 P w K mg base bb ig 2 (wz K (aU d l) (P4 d)))(Rg:C4 P w K mg base bb fR 3 (cn K .no O4))(Pb:C4 P w K mg base bb ij 62 (cn K .no PY))(SO:C4 P w K mg base bb fO 29 (cn K .no Qq))(Ox:C4 P w K mg base bb fX 1 (cn K .no Nh)):cw P w K mg base bb 126 f fd ["_law_script"] (wY K):=by
 obtain⟨fL,fdL,JL,FL,mL,bL⟩:=id GL
 obtain⟨fLT,fdLT,JLT,Mk,mLT,bLT⟩:=id Rg
 obtain⟨fTo,fdTo,JTo,IK,mTo,bTo⟩:=id Pb
 refine F.ok d3 (λvs H Q E h=>?_) (λbN A outer s H vs Q E hr h=>?_)
 ·obtain⟨a,ns,rfl,_⟩:=h
  rfl
 ·obtain⟨a,ns,rfl,hS,hlen,k⟩:=h
  have hrL:cb 1 _:=hr.mono (by decide)
  refine⟨_,(cM (f7 (i:=1) d3.nd U (Or.inl U) (gD JL hrL U mL FL.kp bL .nil mH (aG (pv 0) (aG bX bY)))) (Dd λd l M0 H0=>(af (sN 0 2 d3.nd (xS hr (QO d l) (aa (vd 1) (aa ag ae))))
 (af (qT (jK (b7 hr) (pv 2) (DE.pe aw) (DE.pe (gw jW mP (av hr (d9 d l) (aa (vd 1) (aa ag ae))) ag (ax _))) U))
 (af (sS 3 d3.nd (av hr (Q8 d l) (aa (vd 1) (aa (mV (pv 2)) (aa (jJ (DN.de (aN (aa ag (aa ag (aa ag ae))))) (av hr (d9 d l) (aa (vd 1) (aa ag ae)))) ae)))))
 (af (sS 3 d3.nd (av hr (Sj d l) (aa (vd 1) (aa (mV (pv 2)) (aa (vd 3) ae)))))
 (af (sS 4 d3.nd (bo hr SO (aa (vd 3) ae)))
 (af (iO (f7 (i:=5) d3.nd U (Or.inr U) (DE.pe (DN.de (nC ["_law_kind"] [] (aI (vd 3)) (λ_ _ _ _=>(gM 0 ["_law_kind"])) (λ_ _ _ _=>bh)
 (λ_ _ _ _=>(cO (vd 0) ag)))))))
 (af (sS 6 d3.nd (DN.de (aN (aa aw (aa aw (aa aw (aa (jJ (dw (aW (b7 hr) (DE.pe (vd 2)) (DE.pe aw) (λ_ _=>rfl))) ag) (aa (jJ (dw (aW (b7 hr) (DE.pe (vd 2)) (DE.pe aw) (λ_ _=>rfl))) ag) ae))))))))
 (af (sS 6 d3.nd (DN.de (fE dE dB (vd 6) (DN.de (nC ["_law_head"] [] (aI (cO (bo hr Ox (aa (cO (vd 3) ag) ae)) ag)) (λ_ _ _ _=>(gM 0 ["_law_head"])) (λ_ _ _ _=>bh)
 (λ_ _ _ _=>(cO (vd 0) ag)))))))
 (af (iO (mi (ic (i:=6) d3.nd U U (ts:=["_law_name"]) (us:=[5]) ⟨U,U,U,U,U,U⟩ rfl (aI (vd 6)) (λ_ _ _ _=>(gM 0 ["_law_name","_law_kinds"])) (λ_ _ _ _=>eX (aB eC okIn (vd 0) (vd 1) U))
 (λ_ _ _ _=>(vd 0)))))
 (af (sF (dG U T.range (aa ag ae)) (gN 7 d3.nd)
 (af (sN 1 8 d3.nd (xS hr (RZ d l) (aa (vd 1) (aa (vd 3) ae))))
 (af (sS 9 d3.nd (aA (aa aw (aa (vd 4) (aa lU ae)))))
 (af (bZ (aB vL Aj (vd 4) jh (ax _))
 (ah (sS 9 d3.nd (aA (aa aw (aa (Bp (hr.mono (by first | decide | omega)) U mLT Mk.kp bLT (vd 3) (pv 8) Ez JLT) ae)))))
 aJ)
 (af (bZ (aB (BK (ON hr)) Ny (xN (hr.mono (by first | decide | omega)) U mTo IK.kp bTo (vd 3) (pv 8) JTo) (vd 9) (ax _))
 (ah (aP lU))
 aJ)
 (af (rH (wt PySem.F.slot_list_insert PySem.F.type_list_insert yK LK (pv 8) (aa (av hr (d9 d l) (aa (vd 1) (aa (bC b4 eE (lW (bT cE U T.len UM (aG (pv 8) bY))) ag) ae))) (aa (jJ (vd 6) (av hr (d9 d l) (aa (vd 1) (aa (fY T.len (aa (vd 6) ae)) ae)))) ae))))
 (ah (bZ (aB (BK (ON hr)) Ny (xN (hr.mono (by first | decide | omega)) U mTo IK.kp bTo (vd 3) (pv 8) JTo) (aA (aa aw ae)) (ax _))
 (ah (aP lU))
 aJ))))))))
 (af (sS 9 d3.nd (jJ (DN.de (aN (aa (aA (aa aw (aa (vd 4) (aa lU ae)))) (aa (aA (aa aw (aa (vd 3) ae))) ae)))) (fj eP kc U T.int (by decide+kernel) (aa (gw vL Aj (vd 4) jh (ax _)) ae))))
 (ah (aP (gw (GR (ON hr)) Ny (bo hr Pb (aa (vd 3) (aa (aA ae) ae))) (vd 9) (ax _))))))))))))))))),?_⟩
  refine⟨_,U,a,ns,0,U,hS,hlen,by decide,by decide,λd l H1 hd hl D1 s1=>?_⟩
  refine Fw (n:=8) (nos:=2) D1 U U ?_ k
  refine⟨_,U,4,U,⟨by decide,by decide⟩,λws ks nq hwn hwm hks=>?_⟩
  refine⟨⟨U,U⟩,?_⟩
  refine⟨_,U,_,U,⟨by decide,by decide⟩,λr r0 r1=>?_⟩
  refine⟨_,_,U,U,0,U,_,U,?_⟩
  have escn:∀ b:Bool,D.qX (dY Hc (.inr "inner")) (dC Hc [.lst ((ff ws ks false).kinds.map lI),.lst ((ff ws ks false).vars.map .str),.bl (ff ws ks false).inner,.lst ((ff ws ks false).heads.map .str)] (.inr "inner") (.bl b))=dZ (ff ws ks b):=λb=>rfl
  refine .inl ⟨_,_,.inr "inner",U,U,by decide,?_⟩
  generalize hb:((λi j:Int=>decide (j < i)) r 0)=inn
  rw[escn]
  obtain⟨cC,hmk,_⟩:=hks.cC (inn:=inn) nq hwn hwm
  have hmk:∀ k∈(ff ws ks inn).kinds,k.bj≠[]:=hmk
  refine⟨_,U,.inr ⟨0,_,U,U,?_⟩⟩
  refine⟨_,U,_,U,⟨by decide,by decide⟩,λr2 r20 r21=>?_⟩
  have hrm:∃ m:Int,jQ [D.int 6,D.int 12,D.int 24] r2=some (.int m)/\0<=m/\m<=24:=by
   have:r2=0\/r2=1\/r2=2:=by omega
   rcases this with rfl | rfl | rfl
   ·exact⟨6,U,by decide,by decide⟩
   ·exact⟨12,U,by decide,by decide⟩
   ·exact⟨24,U,by decide,by decide⟩
  obtain⟨m,em,hm0,hm1⟩:=hrm
  refine⟨_,_,_,U,U,em,?_⟩
  refine⟨ff ws ks inn,m,U,⟨cC,hmk,hm0,by omega,hm1⟩,λps0 hkd hok0=>?_⟩
  refine⟨_,U,.inl ⟨_,U,_,U,ff ws ks inn,25,ps0,U,⟨cC,hkd,hok0⟩,λps dA aL=>?_⟩⟩
  refine⟨_,U,25,ps,U,⟨by decide,dA.2,aL⟩,?_⟩
  refine⟨_,U,_,.inr U,?_⟩
  refine aH cm (λp=>D.str p.kd.name) _ (λp hp k2 hk2=>⟨_,U,_,_,_,U,U,U,hk2 _ U⟩) ?_
  rw[TJ,show ps.map (λp=>D.str p.kd.name)=(ps.map λp=>p.kd.name).map D.str by rw[T9];rfl]
  obtain⟨v0,vr,ev⟩:∃ v0 vr,(ff ws ks inn).vars=v0::vr:=Ur λz=>by
   have z:ws.drop 30=[]:=z
   have:=congrArg List.length z
   rw[UB,nq] at this
   cases this
  obtain⟨h0,hr0,eh⟩:∃ h0 hr0,(ff ws ks inn).heads=h0::hr0:=Ur λz=>by
   have z:(ws.drop 24).take 6=[]:=z
   have:=congrArg List.length z
   rw[UG,UB,nq] at this
   cases this
  have hk0:0 < ps0.length:=by
   have e1:=congrArg List.length hkd
   rw[Tr] at e1
   obtain⟨ns',ML,AL,_,q1,_,_,_,q2,_⟩:=hks.ex
   have e2:(ff ws ks inn).kinds.length=ks.length:=rfl
   omega
  have hp0:=dA.1 hk0
  obtain⟨p0,pr,ep⟩:=Ur (US.mp hp0)
  refine⟨_,U,?_⟩
  refine g6 ⟨_,U,?_⟩
  refine⟨_,_,_,U,U,by rw[ev];exact bR,?_⟩
  refine⟨_,U,?_⟩
  refine kf ⟨_,U,?_⟩
  refine⟨_,_,_,U,U,by rw[eh];exact bR,?_⟩
  refine⟨_,U,_,U,_,_,_,U,U,by rw[ep];exact bR,?_⟩
  have hpf0:=aL p0 (by rw[ep];simp)
  refine⟨25,p0,U,hpf0,_,_,_,U,U,bR,_,.inr U,?_⟩
  refine aH bW (λm=>D.str m.name) _ (λm hm k2 hk2=>⟨_,U,_,_,_,U,U,bR,hk2 _ U⟩) ?_
  have hsz:=bq
  have hm5:=hpf0.kd.ml
  refine⟨_,_,U,U,by simp;omega,?_⟩
  have eoth:([.str "number",.str "zz",.str "kind",.str v0,.str h0]:List D)++([]++p0.kd.bj.map λm=>D.str m.name)=((["number","zz","kind",v0,h0]:List Str)++p0.kd.bj.map fZ.name).map D.str:=by
   rw[Tx,T9]
   rfl
  rw[eoth]
  generalize hosl:((["number","zz","kind",v0,h0]:List Str)++p0.kd.bj.map fZ.name)=ol
  refine⟨_,U,_,.inl U,?_⟩
  refine aZ D.str D.str (λx=>!decide (x∈ps.map λp=>p.kd.name)) _ (λx hx kk N g1 g2=>?_) ?_
  ·refine⟨_,U,_,U,_,.inl U,⟨U,jI⟩,_,U,?_⟩
   refine aR (b':=!decide (x∈ps.map λp=>p.kd.name)) (by rw[if_pos U,nv]) (λe=>⟨_,U,g1 e _ U⟩) λe=>g2 e _ U
  rw[TJ]
  have hnum:("number":Str)∉ps.map λp=>p.kd.name:=λz=>by
   obtain⟨p,hp,e⟩:=TR.mp z
   exact ((aL p hp).kd.nm.2.2.2.1) (by rw[e];decide)
  have hol:ol.length<=10:=by
   rw[<- hosl,Tt,Tr]
   simp
   omega
  generalize zc:ol.filter (λx=>!decide (x∈ps.map λp=>p.kd.name))=fl
  have hfl1:∀ x∈fl,x∉ps.map λp=>p.kd.name:=λx hx=>by
   rw[<- zc] at hx
   have:=(UJ.mp hx).2
   simpa using this
  have hfl2:0 < fl.length:=by
   rw[<- zc]
   refine List.length_pos_of_mem (a:=("number":Str)) (List.mem_filter.mpr ⟨by rw[<- hosl];simp,?_⟩)
   rw[decide_eq_false hnum]
   rfl
  have hfl3:fl.length<=10:=by
   rw[<- zc]
   exact TU (UL _ _) hol
  have eN:toldD ps []=[D.tup [.str "not flat",vX (dm (jM ps)),.bl false],.tup [.str "told",.tup (ps.map cm)]].getD (if kh (vX (dm (jM ps))) then 1 else 0) .bD:=by
   unfold toldD
   rw[show ji ps []=true from U,if_pos U,BA]
   cases dm (jM ps)<;>rfl
  refine⟨3,U,⟨by decide,by decide⟩,?_⟩
  refine aV (λxs s=>∃ (x7 x8 x9:Sl) (o:Option D),x7.pl=true/\(x8=.no\/x8=.own 1)/\x9.pl=true/\s=⟨[.no,.dat (.eW d),.dat (dZ (ff ws ks inn)),.dat (.tup (ps.map cm)),.dat (vX (dm (jM ps))),.dat (.lst ((ps.map λp=>p.kd.name).map .str)),.dat (.lst (fl.map .str)),x7,x8,x9],[none,o]⟩) ?_ ?_ _ _ ⟨.no,.no,.no,none,U,.inl U,U,U⟩
  ·rintro s ⟨x7,x8,x9,o,g7,g8,g9,rfl⟩
   have eA:jQ [D.tup [.str "not flat",vX (dm (jM ps)),.bl false],.tup [.str "told",.tup (ps.map cm)]] (if kh (vX (dm (jM ps)))=true then 1 else 0)=some (toldD ps []):=by
    rw[eN]
    cases dm (jM ps)<;>rfl
   refine⟨_,U,_,U,_,U,U,.inr ⟨_,U,_,_,_,U,U,eA,?_⟩⟩
   ·refine⟨_,U,25,ps,false,[],U,⟨dA.2,aL⟩,?_⟩
    obtain⟨⟨z1,z2⟩,_⟩:=toldD_ok (ns:=[]) aL (by decide)
    refine⟨_,U,⟨z1,z1,.inl z2⟩,?_⟩
    show D.bl (if false=true then !yb _ _ else yb _ _)=D.bl true
    rw[nQ]
    rfl
  ·rintro x xs s N ⟨x7,x8,x9,o,g7,g8,g9,rfl⟩ hN hE_
   refine⟨_,U,_,U,ps,U,dA.2,λns hnl hnin=>?_⟩
   refine⟨⟨U,show noRef 1 0 [x8,x9]=true by show noRef 1 2 [x9]=true;rw[cX g9];rfl⟩,?_⟩
   refine⟨_,U,?_⟩
   have uC:=allIn_of hnin
   obtain⟨⟨z1,z2⟩,z3⟩:=toldD_ok (ns:=ns) aL (by decide)
   have hor:dm (jM ps)=none\/∃ r,dm (jM ps)=some r:=by
    cases dm (jM ps)
    ·exact .inl U
    ·exact .inr ⟨_,U⟩
   refine' jn ?hrest λhrest=>?main
   case main =>
    refine⟨_,U,U,_,U,?_⟩
    rcases hor with e | ⟨r,e⟩
    ·refine jD (by rw[e];rfl) ?_
     refine⟨_,U,.inr ⟨1,_,U,U,25,ps,true,ns,true,U,⟨dA.2,aL⟩,qw,?_⟩⟩
     have ed:D.tup [.str "told",.tup ((told true ns ps).map cm)]=toldD ps ns:=by
      unfold toldD
      rw[uC,if_pos U,e]
      rfl
     dsimp only[kI,DS.set,List.set]
     rw[ed]
     exact hrest
    ·refine nk (by rw[e];rfl) ?_
     have ed:D.tup [.str "not flat",vX (dm (jM ps)),.bl false]=toldD ps ns:=by
      unfold toldD
      rw[uC,if_pos U,e]
      rfl
     dsimp only[kI,DS.set,List.set]
     rw[ed]
     exact hrest
   case hrest =>
    refine⟨_,U,.inr ⟨1,_,U,U,25,ps,true,ns,U,⟨dA.2,aL⟩,z3,?_⟩⟩
    refine⟨_,U,⟨z1,z1,.inl z2⟩,_,U,nk (by rw[nQ];rfl) ?_⟩
    refine⟨1,_,U,U,U,?_⟩
    refine⟨_,U,1,_,U,U,_,_,U,U,_,U,⟨by omega,by rw[Tr];omega⟩,λr r0 r1=>?_⟩
    rw[Tr] at r1
    refine⟨_,U,_,U,_,U,_,.inl U,_,U,⟨by rw[Tr];omega,by rw[Tr];omega⟩,λr2 r20 r21=>?_⟩
    rw[Tr] at r21
    obtain⟨z,hz,ez⟩:=xB (zs:=fl) r20 r21
    refine⟨_,_,_,U,U,ez,?_⟩
    refine⟨_,U,_,_,r.toNat,_,U,U,by omega,by rw[Tr];omega,by rw[Tr];omega,?_⟩
    have em:(ns.map D.str).take r.toNat++D.str z::(ns.map D.str).drop r.toNat=(ns.take r.toNat++z::ns.drop r.toNat).map D.str:=by
     rw[Tx,TC,List.map_take,List.map_drop]
    rw[em]
    have eno:=toldD_no (ps:=ps) (ns:=ns.take r.toNat++z::ns.drop r.toNat) (x:=z) (by simp) (hfl1 z hz)
    obtain⟨⟨y1,y2⟩,y3⟩:=toldD_ok (ns:=ns.take r.toNat++z::ns.drop r.toNat) aL (by decide)
    refine⟨_,U,.inr ⟨1,_,U,U,25,ps,true,_,U,⟨dA.2,aL⟩,y3,?_⟩⟩
    rw[eno] at y1 y2 ⊢
    refine⟨⟨y1,y1,.inl y2⟩,_,U,nk (by rw[nQ];rfl) ?_⟩
    exact hN _ ⟨_,_,_,_,U,.inr U,U,U⟩
structure Cl(K:Frag)(C:Addr)(up:List Value):Prop where
 mro:∃ cd,PySem.W.clsIn K C=some cd/\cd.mro=.ref C::up
 ty:typeIn K (.ref C)=some (.type "type")
theorem Cl.sub{K:Frag}{C:Addr}{up:List Value}(c:Cl K C up)(b:Value):PySem.W.subIn K (.ref C) b=some ((Value.ref C::up).contains b):=by
 obtain⟨cd,h1,h2⟩:=c.mro
 show PySem.W.mroIn K C b=_
 unfold PySem.W.mroIn
 rw[h1,Option.bind_some,h2,if_neg (by simp)]
theorem Cl.Jl{K:Frag}{C D:Addr}{up IA:List Value}(c:Cl K C up)(d:Cl K D IA):PySem.W.kitCls K (.ref C) (.ref D)=some ((Value.ref C::up).contains (.ref D)):=by
 obtain⟨cd,h1,h2⟩:=d.mro
 show (if ((PySem.W.clsIn K D).isSome&&typeIn K (.ref D) == some (.type "type"))=true then PySem.W.subIn K (.ref C) (.ref D) else none)=_
 rw[h1,d.ty,if_pos (by simp),c.sub]
theorem Cl.PD{K:Frag}{C D:Addr}{up IA:List Value}(c:Cl K C up)(d:Cl K D IA)(hb:(Value.ref D::IA).contains (.type "BaseException")=true):PySem.W.exmOne K (.ref C) (.ref D)=some ((Value.ref C::up).contains (.ref D)):=by
 unfold PySem.W.exmOne
 rw[d.sub,hb,if_pos (by simp),c.Jl d]
theorem Cl.Nk{K:Frag}{C D:Addr}{up IA:List Value}(c:Cl K C up)(d:Cl K D IA):kitOne K (.ref C) (.ref D)=some ((Value.ref C::up).contains (.ref D)):=by
 unfold kitOne
 by_cases h:(Value.ref C == Value.ref D)=true
 ·have e:C=D:=Value.ref.inj (beq_iff_eq.mp h)
  subst e
  rw[if_pos h]
  simp
 ·rw[if_neg h,c.Jl d]
theorem vP:PySem.W.kitMeta "ValueError"=true:=by decide+kernel
theorem Cl.Kf{K:Frag}{C:Addr}{up:List Value}(c:Cl K C up)(h:(Value.ref C::up).contains (.type "ValueError")=true):kitOne K (.ref C) (.type "ValueError")=some true:=by
 unfold kitOne
 rw[if_neg (by simp)]
 show (if PySem.W.kitMeta "ValueError"=true then PySem.W.subIn K (.ref C) (.type "ValueError") else none)=_
 rw[vP,if_pos U,c.sub,h]
theorem eG{l:List Addr}(h:l.Nodup){i j:Nat}{x y:Addr}(hi:l[i]?=some x)(hj:l[j]?=some y)(OR:i≠j):x≠y:=λe=>by
 subst e
 obtain⟨h1,e1⟩:=Tw.mp hi
 obtain⟨h2,e2⟩:=Tw.mp hj
 exact OR ((Ve h).mp (e1.trans e2.symm))
theorem KY{C S D:Addr}(h1:C≠D)(h2:S≠D):(Value.ref C::Value.ref S::jt).contains (.ref D)=false:=by
 simp[jt,Ne.symm h1,Ne.symm h2]
theorem isIn{C S:Addr}:(Value.ref C::Value.ref S::jt).contains (.ref C)=true:=by simp
theorem JU{C S:Addr}:(Value.ref C::Value.ref S::jt).contains (.ref S)=true:=by simp
theorem Jb{C S:Addr}:(Value.ref C::Value.ref S::jt).contains (.type "ValueError")=true:=by simp[jt]
theorem Fj{S:Addr}:(Value.ref S::jt).contains (.type "BaseException")=true:=by simp[jt]
theorem Ey{K:Frag}{C S:Addr}{nm q:Str}{N:Addr}{bs:List Value}{sn:List Str}{sub:List Value}{ab:Bool}{col:Option Bool}{dd:Option Addr}{k0 k1 k2 k3 k5:Option Value}(l:K.lookup C=some (excClassObj nm q C N bs (.ref S::jt) true sn sub ab col dd k0 k1 k2 k3 k5 "ValueError.__new__"))(t:typeIn K (.ref C)=some (.type "type")):Cl K C (.ref S::jt):=by
 refine⟨⟨{ name:=nm,bases:=bs,mro:=.ref C::.ref S::jt,ns:=N,qualname:=q,hasDict:=true,slotNames:=sn,subclasses:=sub,abstract:=ab,collection:=col,hasDel:=false },?_,U⟩,t⟩
 ·unfold PySem.W.clsIn
  rw[l]
abbrev i4:Stmt:=inClass (top 6) 0
theorem Q3:az ["self","row"] ["self","row"] (ai i4):=gJ
theorem Jw{S C f:Addr}{fd:FuncData}(F:sR K "__init__" "NotFlat.__init__" i4 f fd)(B:AX K S)(hS:mg "SideError"=some (.ref S))(x:ExC K C)(r:D8 K C "row"):cw P w K mg base bb 1 f fd ["self","row"] (Hf C):=by
 refine F.ok Q3 (λvs H Q E h=>?_) (λbN A outer s H vs Q E hr h=>?_)
 ·obtain⟨ea,y,rfl,_⟩:=h
  rfl
 ·obtain⟨ea,y,rfl,e,q⟩:=h
  refine⟨_,cM (nh (uG B U hS (aG (pv 0) (aG (pv 1) bY)))) (gI (Dc (pv 0) (pv 1) U)),?_⟩
  refine⟨_,U,_,U,ea,_,_,_,_,U,e,x,(by show 1<=1000;decide),?_⟩
  exact⟨_,U,_,U,ea,_,_,U,x,r,.inl ⟨e,λd h1 h2=>q d h1 h2⟩⟩
abbrev i5:Stmt:=inClass (top 7) 0
theorem QV:az ["self"] ["self"] (ai i5):=gJ
theorem Kb{S C f:Addr}{fd:FuncData}(F:sR K "__init__" "NoKind.__init__" i5 f fd)(B:AX K S)(hS:mg "SideError"=some (.ref S))(x:ExC K C):cw P w K mg base bb 1 f fd ["self"] (He C):=by
 refine F.ok QV (λvs H Q E h=>?_) (λbN A outer s H vs Q E hr h=>?_)
 ·obtain⟨ea,rfl,_⟩:=h
  rfl
 ·obtain⟨ea,rfl,e,q⟩:=h
  refine⟨_,gI (nh (uG B U hS (aG (pv 0) bY))),?_⟩
  exact⟨_,U,ea,_,_,_,_,U,e,x,by decide,q⟩
theorem wH{S C D:Addr}(c:Cl K C (.ref S::jt))(d:Cl K D (.ref S::jt))(h1:C≠D)(h2:S≠D):kitOne K (.ref C) (.ref D)=some false:=(c.Nk d).trans (congrArg some (KY h1 h2))
theorem kW{S C:Addr}(c:Cl K C (.ref S::jt)):∀ {ds:List Addr},(∀ d∈ds,Cl K d (.ref S::jt)/\C≠d/\S≠d)->kitAny K (.ref C) (ds.map Value.ref)=some false
 | [],_=>rfl
 | d::ds,h=>by
  obtain⟨h1,h2,h3⟩:=h d Tu
  show (match kitOne K (.ref C) (.ref d) with | some true=>some true | some false=>kitAny K (.ref C) (ds.map Value.ref) | none=>none)=_
  rw[wH c h1 h2 h3]
  exact kW c λx hx=>h x (Tv _ hx)
end
theorem all_mk{l:PySem.W.OpenLaw}{w:World}{K:Frag}{h:Heap}{mg:Str->Option Value}{fa at_ S MR MN a0 N0 a1 N1 a2 N2 a3 N3 a4 N4 a5 N5 a6 N6 a7 N7 f4 f5:Addr}(X:K.In h)(G:h.Ns mainGlobals mg)(QM:mg "law"=some (.ref fa)){Od JT RK QR SY SG Sm R5 EH Ra Q0 Rq QH S6 RJ dS dN:Option Addr}{NW QW QE KI Mx Ml:Array (Option Value)}{NK JI Ke JB Ft IZ Th QD Tj SU O3 RI QI RN Ro Rh P6 Rv cS cN:Value}{yD:Array Value}{nT:Nat}{Er:ClassData}{es:Array DictEntry}{ep:Nat}{S7 q0 QK q1 Sa q2 Nq q3 RE q4 Mg q5 Jv q6 R3 q7:Str}{RD MB RP Nv Sk NO Tb Na Q4 NA RC Oo Q6 OB Ru MX:List Value}{R1 QQ Sr SV SE So R9 Rb:List Str}{SI RM QJ S3 Sx R7 QY RH:Bool}{Nz OL NB Oq Nc M7 Oy Nf:Option Bool}{RF RY RO Rn QC R8 Rf Tg Tc SD SQ SH Rc S8 Sv SX Q2 Sz Rz SR Sb Q7 RQ Sg QL S5 RV R4 Td QP RW Rj Se Q5 Tf Rk QU Sw Sh Rt:Option Value}(OQ:Own K mg gB)(Ql:Own K mg gz)(Qh:Own K mg eY)(Qw:Own K mg gF)(Pn:Own K mg dq)(Qf:Own K mg df)(P9:Own K mg fH)(Ph:Own K mg eD)(OX:Own K mg mY)(OW:Own K mg iz)(P5:Own K mg ek)(Mv:Own K mg fJ)(Mo:Own K mg gp)(PQ:Own K mg jH)(O8:Own K mg e8)(Mi:Own K mg kF)(QA:Own K mg iE)(Pf:Own K mg aY)(P0:Own K mg gH)(Pe:Own K mg fi)(Qt:Own K mg gC)(P7:Own K mg d6)(ID:Own K mg iA)(Kp:Own K mg g0)(Ki:Own K mg jA)(HU:Own K mg iB)(GY:Own K mg ju)(Ih:Own K mg d4)(O2:Own K mg gE)(O6:Own K mg gy)(PU:Own K mg fb)(OV:Own K mg fX)(Pg:Own K mg dQ)(Mk:Own K mg fR)(Qx:Own K mg ig)(Qr:Own K mg fM)(Ig:Own K mg gx)(Po:Own K mg fO)(IK:Own K mg ij)(Qk:Own K mg dO)(Om:nsIn K mainGlobals "law"=some (some (.ref MN)))(OE:K.lookup MN=some ⟨NK,Od,.func (fnOf "law" "law" (eZ la) (bc la) (ai la) .none JI Ke JB JT Ft IZ),NW⟩)(OJ:codeIn K Ft "law"=true)(MA:keepIn K (.ref MN)=true)(z9:nsIn K mainGlobals "any"=some none)(wF:nsIn K mainGlobals "bool"=some none)(v5:nsIn K mainGlobals "dict"=some none)(ja:nsIn K mainGlobals "enumerate"=some none)(BC:nsIn K mainGlobals "int"=some none)(iy:nsIn K mainGlobals "isinstance"=some none)(AV:nsIn K mainGlobals "len"=some none)(vH:nsIn K mainGlobals "list"=some none)(zy:nsIn K mainGlobals "max"=some none)(Bq:nsIn K mainGlobals "min"=some none)(si:nsIn K mainGlobals "range"=some none)(j7:nsIn K mainGlobals "reversed"=some none)(sH:nsIn K mainGlobals "tuple"=some none)(Ar:nsIn K mainGlobals "zip"=some none)(BO:nsIn K mainGlobals "str"=some none)(ib:nsIn K mainGlobals "ValueError"=some none)(Ob:nsIn K mainGlobals "INNER_TABLES"=some (some (.ref at_)))(MZ:K.lookup at_=some ⟨.type "tuple",RJ,.seq yD nT,KI⟩)(Mj:Vals [.str "case",.str "new"] yD.toList)(aS:nsIn K mainGlobals "SideError"=some (some (.ref S)))(lS:K.lookup S=some ⟨cS,dS,.cls Er,Mx⟩)(mS:Er.mro=.ref S::jt)(eN:Er.ns=MR)(lN:K.lookup MR=some ⟨cN,dN,.dict es ep,Ml⟩)(sN:Gw es=true)(iN:nsIn K MR "__init__"=some none)(tS:typeIn K (.ref S)=some (.type "type"))(b1:specialIn K (.ref S) "__getattribute__"=some (some (.builtin "type.__getattribute__")))(b2:PySem.W.readsIn K S (.type "type")=true)(b3:PySem.W.findCls K (.ref S) (.type "type") "__init__"=some (.val (.builtin "ValueError.__init__")))(A0:nsIn K mainGlobals "NoText"=some (some (.ref a0)))(L0:K.lookup a0=some (excClassObj S7 q0 a0 N0 RD (.ref S::jt) true R1 MB SI Nz Sm RF RY RO Rn QC "ValueError.__new__"))(T0:typeIn K (.ref a0)=some (.type "type"))(A1:nsIn K mainGlobals "NoProgram"=some (some (.ref a1)))(L1:K.lookup a1=some (excClassObj QK q1 a1 N1 RP (.ref S::jt) true QQ Nv RM OL R5 R8 Rf Tg Tc SD "ValueError.__new__"))(T1:typeIn K (.ref a1)=some (.type "type"))(A2:nsIn K mainGlobals "NoTerm"=some (some (.ref a2)))(L2:K.lookup a2=some (excClassObj Sa q2 a2 N2 Sk (.ref S::jt) true Sr NO QJ NB EH SQ SH Rc S8 Sv "ValueError.__new__"))(T2:typeIn K (.ref a2)=some (.type "type"))(A3:nsIn K mainGlobals "NoValue"=some (some (.ref a3)))(L3:K.lookup a3=some (excClassObj Nq q3 a3 N3 Tb (.ref S::jt) true SV Na S3 Oq Ra SX Q2 Sz Rz SR "ValueError.__new__"))(T3:typeIn K (.ref a3)=some (.type "type"))(A4:nsIn K mainGlobals "NotFlat"=some (some (.ref a4)))(L4:K.lookup a4=some (excClassObj RE q4 a4 N4 Q4 (.ref S::jt) true SE NA Sx Nc Q0 Sb Q7 RQ Sg QL "ValueError.__new__"))(T4:typeIn K (.ref a4)=some (.type "type"))(Nd:findIn K (.ref a4) "__setattr__"=some (some (.builtin "object.__setattr__")))(Nj:findIn K (.ref a4) "__getattribute__"=some (some (.builtin "BaseException.__getattribute__")))(NQ:findIn K (.ref a4) "__getattr__"=some none)(MM:findIn K (.ref a4) "__class__"=some (some (.builtin "object.__class__")))(in4:findIn K (.ref a4) "__init__"=some (some (.ref f4)))(ME:typeIn K (.ref f4)=some (.type "function"))(NT:keepIn K (.ref a4)=true)(l4:K.lookup f4=some ⟨Th,RK,.func (fnOf "__init__" "NotFlat.__init__" (eZ i4) (bc i4) (ai i4) .none QD Tj SU QR O3 RI),QW⟩)(c4:codeIn K O3 "NotFlat.__init__"=true)(k4:keepIn K (.ref f4)=true)(A5:nsIn K mainGlobals "NoKind"=some (some (.ref a5)))(L5:K.lookup a5=some (excClassObj Mg q5 a5 N5 RC (.ref S::jt) true So Oo R7 M7 Rq S5 RV R4 Td QP "ValueError.__new__"))(T5:typeIn K (.ref a5)=some (.type "type"))(NG:findIn K (.ref a5) "__setattr__"=some (some (.builtin "object.__setattr__")))(Ov:findIn K (.ref a5) "__getattribute__"=some (some (.builtin "BaseException.__getattribute__")))(OI:findIn K (.ref a5) "__getattr__"=some none)(NV:findIn K (.ref a5) "__class__"=some (some (.builtin "object.__class__")))(Nl:findIn K (.ref a5) "__init__"=some (some (.ref f5)))(MJ:typeIn K (.ref f5)=some (.type "function"))(OA:keepIn K (.ref a5)=true)(l5:K.lookup f5=some ⟨QI,SY,.func (fnOf "__init__" "NoKind.__init__" (eZ i5) (bc i5) (ai i5) .none RN Ro Rh SG P6 Rv),QE⟩)(c5:codeIn K P6 "NoKind.__init__"=true)(k5:keepIn K (.ref f5)=true)(A6:nsIn K mainGlobals "NoEdit"=some (some (.ref a6)))(L6:K.lookup a6=some (excClassObj Jv q6 a6 N6 Q6 (.ref S::jt) true R9 OB QY Oy QH RW Rj Se Q5 Tf "ValueError.__new__"))(T6:typeIn K (.ref a6)=some (.type "type"))(A7:nsIn K mainGlobals "NoRow"=some (some (.ref a7)))(L7:K.lookup a7=some (excClassObj R3 q7 a7 N7 Ru (.ref S::jt) true Rb MX RH Nf S6 Rk QU Sw Sh Rt "ValueError.__new__"))(T7:typeIn K (.ref a7)=some (.type "type"))(r4:findIn K (.ref a4) "row"=some none)(nd:([S,a0,a1,a2,a3,a4,a5,a6,a7]:List Addr).Nodup) :
  ∃ fd:FuncData,(∀ (s:Shared) (v:Value),BindsTo s fd ⟨[v],[]⟩ [("_law_script",v)])/\∀ base:Heap,K.In base->base.Ns mainGlobals mg->cw l.prog w K mg base bb 126 fa fd ["_law_script"] (wY K):=by
 have e:=QM.symm.trans (UC X G Om)
 cases e
 subst eN
 have iNo:nsFind es "__init__"=none:=by
  unfold nsIn at iN
  rw[lN] at iN
  dsimp only at iN
  split at iN
  ·cases iN
  ·rename_i he
   unfold nsFind findBy
   rw[<- Array.find?_toList,he]
   rfl
 have xc4:ExC K a4:=⟨⟨_,_,_,S,_,_,_,_,_,_,_,_,_,_,_,_,_,_,_,_,_,_,_,_,L4,lS,lN,sN,iNo⟩,Nd,Nj,NQ⟩
 have xc5:ExC K a5:=⟨⟨_,_,_,S,_,_,_,_,_,_,_,_,_,_,_,_,_,_,_,_,_,_,_,_,L5,lS,lN,sN,iNo⟩,NG,Ov,OI⟩
 have cS':Cl K S jt:=⟨⟨Er,by unfold PySem.W.clsIn;rw[lS],mS⟩,tS⟩
 have cl0:=Ey L0 T0
 have cl1:=Ey L1 T1
 have cl2:=Ey L2 T2
 have cl3:=Ey L3 T3
 have cl4:=Ey L4 T4
 have cl5:=Ey L5 T5
 have cl6:=Ey L6 T6
 have cl7:=Ey L7 T7
 have hsz:yD.size<=sizeLine:=by
  have q:=Mj.length
  have q2:yD.toList.length=yD.size:=by simp
  have q3:([.str "case",.str "new"]:List V).length=2:=rfl
  have q4:(13:Nat)<=sizeLine:=by decide
  omega
 have T:Txt K mg:=⟨Ug X G z9,Ug X G wF,Ug X G v5,Ug X G ja,Ug X G BC,Ug X G iy,Ug X G AV,Ug X G vH,Ug X G zy,Ug X G Bq,Ug X G si,Ug X G j7,Ug X G sH,Ug X G Ar,Ug X G BO⟩
 have J:O1 K mg at_:=⟨UC X G Ob,λH=>.inr ⟨_,yD,nT,MZ,U,U,hsz,Mj⟩⟩
 have kt:∀ C,C=a4\/C=a5->Ir K C/\PySem.W.exmOne K (.ref C) (.ref S)=some true/\kitAny K (.ref C) ([a6,a1,a7,a2].map Value.ref)=some false/\kitAny K (.ref C) ([a0,a3].map Value.ref)=some false/\kitOne K (.ref C) (.ref a5)=some (decide (C=a5))/\kitOne K (.ref C) (.ref a4)=some (decide (C=a4))/\kitOne K (.ref C) (.type "ValueError")=some true:=by
  have n1:a4≠a5:=eG nd (i:=5) (j:=6) U U (by decide)
  intro C hC
  rcases hC with rfl | rfl
  ·refine⟨⟨xc4,MM⟩,(cl4.PD cS' Fj).trans (congrArg some JU),kW cl4 ?_,kW cl4 ?_,(wH cl4 cl5 n1 (eG nd (i:=0) (j:=6) U U (by decide))).trans (by rw[decide_eq_false n1]),((cl4.Nk cl4).trans (congrArg some isIn)).trans (by rw[decide_eq_true U]),cl4.Kf Jb⟩
   ·intro d hd
    simp only[List.mem_cons,List.not_mem_nil,or_false] at hd
    rcases hd with rfl | rfl | rfl | rfl
    ·exact⟨cl6,eG nd (i:=5) (j:=7) U U (by decide),eG nd (i:=0) (j:=7) U U (by decide)⟩
    ·exact⟨cl1,eG nd (i:=5) (j:=2) U U (by decide),eG nd (i:=0) (j:=2) U U (by decide)⟩
    ·exact⟨cl7,eG nd (i:=5) (j:=8) U U (by decide),eG nd (i:=0) (j:=8) U U (by decide)⟩
    ·exact⟨cl2,eG nd (i:=5) (j:=3) U U (by decide),eG nd (i:=0) (j:=3) U U (by decide)⟩
   ·intro d hd
    simp only[List.mem_cons,List.not_mem_nil,or_false] at hd
    rcases hd with rfl | rfl
    ·exact⟨cl0,eG nd (i:=5) (j:=1) U U (by decide),eG nd (i:=0) (j:=1) U U (by decide)⟩
    ·exact⟨cl3,eG nd (i:=5) (j:=4) U U (by decide),eG nd (i:=0) (j:=4) U U (by decide)⟩
  ·refine⟨⟨xc5,NV⟩,(cl5.PD cS' Fj).trans (congrArg some JU),kW cl5 ?_,kW cl5 ?_,((cl5.Nk cl5).trans (congrArg some isIn)).trans (by rw[decide_eq_true U]),(wH cl5 cl4 (Ne.symm n1) (eG nd (i:=0) (j:=5) U U (by decide))).trans (by rw[decide_eq_false (Ne.symm n1)]),cl5.Kf Jb⟩
   ·intro d hd
    simp only[List.mem_cons,List.not_mem_nil,or_false] at hd
    rcases hd with rfl | rfl | rfl | rfl
    ·exact⟨cl6,eG nd (i:=6) (j:=7) U U (by decide),eG nd (i:=0) (j:=7) U U (by decide)⟩
    ·exact⟨cl1,eG nd (i:=6) (j:=2) U U (by decide),eG nd (i:=0) (j:=2) U U (by decide)⟩
    ·exact⟨cl7,eG nd (i:=6) (j:=8) U U (by decide),eG nd (i:=0) (j:=8) U U (by decide)⟩
    ·exact⟨cl2,eG nd (i:=6) (j:=3) U U (by decide),eG nd (i:=0) (j:=3) U U (by decide)⟩
   ·intro d hd
    simp only[List.mem_cons,List.not_mem_nil,or_false] at hd
    rcases hd with rfl | rfl
    ·exact⟨cl0,eG nd (i:=6) (j:=1) U U (by decide),eG nd (i:=0) (j:=1) U U (by decide)⟩
    ·exact⟨cl3,eG nd (i:=6) (j:=4) U U (by decide),eG nd (i:=0) (j:=4) U U (by decide)⟩
 have TE:Qd K mg S a0 a1 a2 a3 a4 a5 a6 a7:=⟨Ug X G ib,UC X G aS,UC X G A0,UC X G A1,UC X G A2,UC X G A3,UC X G A4,UC X G A5,UC X G A6,UC X G A7,kt,⟨r4⟩,eG nd (i:=5) (j:=6) U U (by decide)⟩
 have FLa:=oG (st:=la) OE OJ MA
 have F4:=oG (st:=i4) l4 c4 k4
 have B4:=F4.binds (ps:=["self","row"]) λ_ _ _ _ _ _ us hl=>match us,hl with | [_,_],_=>rfl
 have M4:Dy K a4 f4:=⟨xc4,in4,ME,NT⟩
 have F5:=oG (st:=i5) l5 c5 k5
 have B5:=F5.binds (ps:=["self"]) λ_ _ _ _ _ _ us hl=>match us,hl with | [_],_=>rfl
 have M5:Dy K a5 f5:=⟨xc5,Nl,MJ,OA⟩
 refine⟨fnOf "law" "law" (eZ la) (bc la) (ai la) .none JI Ke JB JT Ft IZ,λs v=>.of_eq U,λbase _ _=>?_⟩
 have g4:=Jw (P:=l.prog) (w:=w) (base:=base) F4 ⟨b1,b2,b3⟩ TE.side xc4 TE.r4
 have g5:=Kb (P:=l.prog) (w:=w) (base:=base) F5 ⟨b1,b2,b3⟩ TE.side xc5
 have gMI:=Lk (P:=l.prog) (w:=w) (base:=base) OQ T
 have gAI:=IQ (P:=l.prog) (w:=w) (base:=base) Ql T
 have gTI:=Kx (P:=l.prog) (w:=w) (base:=base) Qw T
 have gKC:=JO (P:=l.prog) (w:=w) (base:=base) Qh T
 have gNK:=JY (P:=l.prog) (w:=w) (base:=base) Pn T
 have gNT:=Lm gNK Qf T
 have gCT:=JZ gTI P9 T
 have gTW:=KA (P:=l.prog) (w:=w) (base:=base) Ph T
 have gPA:=Jp OX T gTW
 have gIT:=KJ (P:=l.prog) (w:=w) (base:=base) OW T J
 have gIN:=Jo gNT gPA gIT P5 T
 have gND:=Lh gKC TE.n5 M5 g5 B5 Mv T
 have gNF:=Ln gIN TE.n4 M4 g4 B4 Mo T
 have gRO:=Jn (P:=l.prog) (w:=w) (base:=base) PQ T
 have gTK:=Kk gCT gMI gAI gRO O8 T
 have gTU:=II gND gNF gTK Mi T
 have gGr:=IW (P:=l.prog) (w:=w) (base:=base) OV T
 have gTF:=Jt gGr Pg T
 have gLT:=Jz gTF Mk T
 have gDr:=λd l'=>(HC (P:=l.prog) (w:=w) (base:=base) Pf T).imp λ_ _=>Ck (d:=d) (l:=l')
 have gWo:=λd l'=>BH (gDr d l') P0 T
 have gPa:=λd l'=>Js (gDr d l') Pe T
 have gHe:=λd l'=>IU (gDr d l') (gPa d l') Qt T
 have gSc:=λd l'=>LU (gWo d l') (gHe d l') O2 T
 have gBo:=λd l'=>JG (gDr d l') P7 T
 have gLe:=λd l'=>EU (gDr d l') ID T 2
 have gTe:=λd l'=>En (gDr d l') (gBo d l') (gLe d l') Kp Ki HU GY Ih T 24
 have gCs:=λd l'=>Ll (gDr d l') (gTe d l') O6 T (by decide)
 have gPr:=λd l'=>Ls (gDr d l') (gCs d l') PU T (by decide)
 have gSm:=λd l'=>Jm (gDr d l') Qx T
 have gWB:=λd l'=>JQ (gDr d l') (gPa d l') Qk T
 have gWi:=Jk (P:=l.prog) (w:=w) (base:=base) Qr T
 have gIi:=ER gWi Ig T 27
 have gRw:=Kw gIi Po T
 have gTo:=IM TE gTU IK T
 exact Hw FLa T (GG QA T) gDr gSc gPr gWB gSm gLT gTo gRw gGr
theorem walk{l:PySem.W.OpenLaw}{q:Program}{loose:List Str}{XP:(Str->Option Value)->Heap->Prop}{YP:World->Heap->Prop}{d:DefRec}{K:Params->Frag}(hn:l.most=some 63)(Ju:d.params.defaults=[])(hY:∀ (w:World) (h:Heap),YP w h->(K w.params).In h)(F:∀ (w:World) (mg:Str->Option Value) (fa:Addr) (h:Heap),(K w.params).In h->h.Ns mainGlobals mg->mg d.name=some (.ref fa) ->
   ∃ fd:FuncData,(∀ (s:Shared) (u:Value),BindsTo s fd ⟨[u],[]⟩ [("_law_script",u)])/\∀ base:Heap,(K w.params).In base->base.Ns mainGlobals mg->cw l.prog w (K w.params) mg base bb 126 fa fd ["_law_script"] (wY (K w.params))) :
  PySem.W.WalkO q loose XP YP l.row.toRowW d [] (λf vs=>PySem.call f vs) :=
 L2.Dk (n:=63) (k:=126) (x:="_law_script") (CX:=λ_=>bb) (sp:=λw=>wY (K w.params)) hn (by decide) Ju ⟨U,by decide,by decide⟩ hY F (λ_ _ a ns hl _ hS=>⟨a,ns,U,hS,hl,λ_=>rfl⟩) λ_ _ _ _ _ z=>z
end Nr
end
namespace PySem.W.Fast
def tw16813174057600306074:=()
def tw5553565626925901942:=()
def tw12471850120782104639:=()
def tw12019596108708042030:=()
def tw6923682404675056050:=()
def tw5420913870664155087:=()
def tw16847567224936176556:=()
def tw13623624237174080815:=()
def tw14947665401301172086:=()
def tw4718393714184831183:=()
def tw3987374870686271509:=()
def tw2004926182820136597:=()
def tw17324657658090778365:=()
def tw5431046197129557699:=()
def tw6666925021450289656:=()
def tw2605145159806138074:=()
def tw15218200410925102727:=()
def tw11687492001362654422:=()
def tw5771611235302428375:=()
def tw13332264677000465839:=()
def tw6576774635779067581:=()
def tw11455893811388393894:=()
def tw17870632123578796207:=()
def tw9817411035254004745:=()
def tw5944159015082638495:=()
def tw9806445175820268662:=()
def tw18208393978986264892:=()
def tw14513958755953397003:=()
def tw14072749001435528649:=()
def tw1349073692665696265:=()
def tw6017030159083413827:=()
def tw8336940683006621689:=()
def tw11580372344065181618:=()
def tw18288123311585285194:=()
def tw1610938141129926113:=()
def tw11183032339597760782:=()
def tw13046913199229207384:=()
def tw18079199491292344259:=()
def tw2469307709602034929:=()
def tw3209642302473967737:=()
def tw5878296664097992114:=()
def tw12737834769476333350:=()
def tw2859665287137875206:=()
def tw9685510847741748923:=()
def tw3843563826467410577:=()
def tw8082101650953552773:=()
def tw11751389669375448303:=()
def tw6028576804390685883:=()
def tw1008094793340647303:=()
def tw8982364079535329826:=()
def tw15792410766249439037:=()
def tw12523369015774853951:=()
def tw8635488576893233212:=()
def tw7548840557554516383:=()
def tw5402874874324748529:=()
def tw17527679224681067765:=()
def tw13811531895245766484:=()
def tw13901099338994757044:=()
def tw11627992582191520952:=()
def tw11835774965580338431:=()
def tw6900275254853186607:=()
def tw15662288648442447774:=()
def tw8503774842491942382:=()
def tw17221353989958999628:=()
def tw16613685589402671883:=()
def tw5152707724172587430:=()
def tw14808861830035244552:=()
def tw17160333713483733629:=()
def tw8843179990798002635:=()
def tw7206630630947883038:=()
def tw10641126805096375199:=()
def tw5748763404393628028:=()
def tw5376698206873893664:=()
def tw2303635291469674603:=()
def tw15778462829683722179:=()
def tw7456687387072546191:=()
def tw2612885795877709753:=()
def tw2313825857749544670:=()
def tw15620906967265560815:=()
def tw5162983115268629621:=()
def tw18313659975792659062:=()
def tw10721848090712945626:=()
def tw16388503787533487427:=()
def tw5074979932533168306:=()
def tw3087180329680781882:=()
def tw619498106259969229:=()
def tw3713724444884216143:=()
def tw1471748797271450088:=()
def tw6406445237079730337:=()
def tw18114534338973976003:=()
def tw12745839040267546127:=()
def tw9824578837780909742:=()
def tw2106628063363110351:=()
def tw9923669931477297824:=()
def tw9718934361783342213:=()
def tw13308464823834490688:=()
def tw12600173120739377152:=()
def tw14605470692635307214:=()
def tw14273318829766043337:=()
def tw13734001865667144574:=()
def tw3189213592632283111:=()
def tw2675693586580413416:=()
def tw5017526843147293717:=()
def tw11712852052402060716:=()
def tw8711393066043926302:=()
def tw11949424337937642525:=()
def tw15069403470689534326:=()
def tw17965972738168295998:=()
def tw2461723330364796782:=()
def tw7737414882928053694:=()
def tw11708425863772926627:=()
def tw2003577375245365263:=()
def tw4435946042174243926:=()
def tw11044671755126885083:=()
def tw1243509321787005225:=()
def tw15534484017094157880:=()
def tw5342405828988746949:=()
def tw12987783766630529898:=()
def tw1736343929673221794:=()
def tw1698446262854158106:=()
def tw4136346247641738239:=()
def tw7382858763380456716:=()
def tw11240935094808129954:=()
def tw12065926475300450183:=()
def tw18179929527718218245:=()
def tw1211982213321846875:=()
def tw8201128975186626390:=()
def tw7913661946835923036:=()
def tw12238379550366144800:=()
def tw3318956921425364267:=()
def tw15739802626813772935:=()
def tw16890402512803620010:=()
def tw32130892818772974:=()
def tw3392776904331950563:=()
def tw7754158667850589734:=()
def tw17001835214877313954:=()
def tw10676782814983780940:=()
def tw15225591907139507095:=()
def tw1066296952736566894:=()
def tw1251211436054451449:=()
def tw9125567806302922937:=()
def tw10515448324567215300:=()
def tw3904856535495420804:=()
def tw2837566336788232232:=()
def tw9301293112692994121:=()
def tw11844714519326006056:=()
def tw16496575365903506246:=()
def tw11681065000008074202:=()
def tw15832560575351453527:=()
def tw7341781641866425852:=()
def tw16491403605179389136:=()
def tw6533219972794689021:=()
def tw12381400091067916079:=()
def tw13876993917931778334:=()
def tw14417891372472820135:=()
def tw786605657619525110:=()
def tw4507973764298358903:=()
def tw8071849542427796381:=()
def tw10329200717540510367:=()
def tw15999567988547598257:=()
def tw10285830462122773107:=()
def tw8188848695615977816:=()
def tw13495847108970423626:=()
def tw5466349212103203206:=()
def tw12359162473465213802:=()
def tw9238094237146117487:=()
def tw6250794392926137225:=()
def tw15403644439133080543:=()
def tw17428387984355958450:=()
def tw628982931480226265:=()
def tw11451342276023157825:=()
def tw2179200148219847752:=()
def tw10344967092769126423:=()
def tw4211548052586186900:=()
def tw18129550872618839193:=()
def tw16766568720212035254:=()
def tw16968504514815671347:=()
def tw13999815826973766422:=()
def tw15486550890149185693:=()
def tw13153217231730105475:=()
def tw8366766524829090377:=()
def tw16349739863400251897:=()
def tw7845794810009196204:=()
def tw14064548730794645802:=()
def tw9545711966600382265:=()
def tw14334356254780022010:=()
def tw9688929199227901045:=()
def tw5850544122248521025:=()
def tw10778069645683375769:=()
def tw14407885880269187069:=()
def tw11085531556207102541:=()
def tw2232961286101817135:=()
def tw10447114181780666511:=()
def tw13084278536383761351:=()
def tw14518923961641691657:=()
def tw7219338190104048184:=()
def tw16121622456116875194:=()
def tw6208924339599463087:=()
def tw4048806255186793033:=()
def tw14181630912274251724:=()
def tw10311320132134624173:=()
def tw14403916716180771785:=()
def tw15540019597692846634:=()
def tw487923202070864067:=()
def tw3372606406165666367:=()
def tw1318590807821184595:=()
def tw6427789437873494747:=()
def tw6541179993107661558:=()
def tw18393520385768736303:=()
def tw11060016530221277265:=()
def tw15101010863555615021:=()
def tw13286217877385976548:=()
def tw1608060819447975520:=()
def tw17606590622613878041:=()
def tw8376582281495784488:=()
def tw7336369023721125103:=()
def tw12395807585752862204:=()
def tw14855508634261793284:=()
def tw9614652834036059225:=()
end PySem.W.Fast
open PySem PySem.W PyProof.Rows
set_option maxRecDepth 100000 in
set_option maxHeartbeats 0 in
theorem PySem.Challenge.cw_sideturn_k36_turning_refused_holds : PySem.Challenge.rw_sideturn_k36_turning_refused.Holds := by
 w_on;o_law;k_head;(case hw=>w_witness2)
 k_fill
 refine Nr.walk (l:=PySem.Challenge.rw_sideturn_k36_turning_refused) U U (λw h Y=>PySem.W.kIn_of Y) ?F
 case F =>
  intro w mg fa h KX G hmg
  refine' Nr.all_mk KX G hmg ?OQ ?Ql ?Qh ?Qw ?Pn ?Qf ?P9 ?Ph ?OX ?OW ?P5 ?Mv ?Mo ?PQ ?O8 ?Mi ?QA ?Pf ?P0 ?Pe ?Qt ?P7 ?ID ?Kp ?Ki ?HU ?GY ?Ih ?O2 ?O6 ?PU ?OV ?Pg ?Mk ?Qx ?Qr ?Ig ?Po ?IK ?Qk ?Om ?OE ?OJ ?MA ?z9 ?wF ?v5 ?ja ?BC ?iy ?AV ?vH ?zy ?Bq ?si ?j7 ?sH ?Ar ?BO ?ib ?Ob ?MZ ?Mj ?aS ?lS ?mS ?eN ?lN ?sN ?iN ?tS ?b1 ?b2 ?b3 ?A0 ?L0 ?T0 ?A1 ?L1 ?T1 ?A2 ?L2 ?T2 ?A3 ?L3 ?T3 ?A4 ?L4 ?T4 ?Nd ?Nj ?NQ ?MM ?in4 ?ME ?NT ?l4 ?c4 ?k4 ?A5 ?L5 ?T5 ?NG ?Ov ?OI ?NV ?Nl ?MJ ?OA ?l5 ?c5 ?k5 ?A6 ?L6 ?T6 ?A7 ?L7 ?T7 ?r4 ?nd
  all_goals try (refine' DL.FX KX G ?a ?l ?c ?k ?b;(case a=>k_is);(case l=>k_is);(case c=>k_is);(case k=>k_is);(case b=>intro _ _ _ _ _ _ us hl;rcases us with _ | ⟨_,_ | ⟨_,_ | ⟨_,_ | ⟨_,_ | ⟨_,_ | ⟨_,_⟩⟩⟩⟩⟩⟩<;>first | rfl | cases hl))
  (case Om=>k_is)
  (case OE=>k_is)
  (case OJ=>k_is)
  (case MA=>k_is)
  (case z9=>k_is)
  (case wF=>k_is)
  (case v5=>k_is)
  (case ja=>k_is)
  (case BC=>k_is)
  (case iy=>k_is)
  (case AV=>k_is)
  (case vH=>k_is)
  (case zy=>k_is)
  (case Bq=>k_is)
  (case si=>k_is)
  (case j7=>k_is)
  (case sH=>k_is)
  (case Ar=>k_is)
  (case BO=>k_is)
  (case ib=>k_is)
  (case Ob=>k_is)
  (case MZ=>k_is)
  (case Mj=>(repeat (first | exact .nil | refine .cons ⟨_,U⟩ ?_)))
  (case aS=>k_is)
  (case lS=>k_is)
  (case mS=>rfl)
  (case eN=>rfl)
  (case lN=>k_is)
  (case sN=>rfl)
  (case iN=>k_is)
  (case tS=>k_is)
  (case b1=>k_is)
  (case b2=>k_is)
  (case b3=>k_is)
  (case A0=>k_is)
  (case L0=>k_is)
  (case T0=>k_is)
  (case A1=>k_is)
  (case L1=>k_is)
  (case T1=>k_is)
  (case A2=>k_is)
  (case L2=>k_is)
  (case T2=>k_is)
  (case A3=>k_is)
  (case L3=>k_is)
  (case T3=>k_is)
  (case A4=>k_is)
  (case L4=>k_is)
  (case T4=>k_is)
  (case Nd=>k_is)
  (case Nj=>k_is)
  (case NQ=>k_is)
  (case MM=>k_is)
  (case in4=>k_is)
  (case ME=>k_is)
  (case NT=>k_is)
  (case l4=>k_is)
  (case c4=>k_is)
  (case k4=>k_is)
  (case A5=>k_is)
  (case L5=>k_is)
  (case T5=>k_is)
  (case NG=>k_is)
  (case Ov=>k_is)
  (case OI=>k_is)
  (case NV=>k_is)
  (case Nl=>k_is)
  (case MJ=>k_is)
  (case OA=>k_is)
  (case l5=>k_is)
  (case c5=>k_is)
  (case k5=>k_is)
  (case A6=>k_is)
  (case L6=>k_is)
  (case T6=>k_is)
  (case A7=>k_is)
  (case L7=>k_is)
  (case T7=>k_is)
  (case r4=>k_is)
  (case nd=>decide+kernel)
