import PyProof.Rows.All
import Wide.All
import OpenK.AllK
import Wide.FinOn
import Lean
import PyProof.EqAt
import PyProof.EqKinds
import PyProof.TupleCall
import PyProof.ZipIter
import PyProof.NeData
import PyProof.Draws
import PyProof.EnumMake
import PyProof.IsiHeapPairs
import PyProof.IsiNone
import PyProof.ConsumeWalk
import PyProof.TupleOfStr
import PyProof.DictWalks
import KE.KDictSum
import KE.KDictOf
import PyProof.IsiH_list
import PySem.Challenge.RW_sideturn_k17_texts_that_are_no_values
set_option genSizeOf false
set_option genInjectivity false
set_option Elab.async false
set_option linter.all false
set_option maxRecDepth 100000
set_option maxHeartbeats 8000000
open Lean in
def cv:Nat->Term->MacroM (TSyntax `rcasesPat)
 |0,_=>Macro.throwUnsupported
 |n+1,t=>do match t with
  |`(($a,$b,*))=>let p<-(#[a]++b.getElems).mapM (cv n);`(rcasesPat|⟨$[$p:rcasesPat],*⟩)
  |`($x:ident)=>`(rcasesPat|$x:ident)
  |`(_)=>`(rcasesPat|_)
  |`(())=>`(rcasesPat|⟨⟩)
  |_=>Macro.throwUnsupported
section
local macro_rules
 | `(tactic|let ($a,$b,*):=$e)=>do `(tactic|obtain $(<-cv 9 (<-`(($a,$b,*)))):rcasesPat:=$e)
local macro_rules
 | `(#[$a,*])=>`(⟨$a,*⟩)
local macro_rules
 | `(#v[$a,*])=>`(List.toArray [$a,*])
local macro_rules
 | `(↑$s)=>`(($s).heap.objs.size)
local macro_rules
 | `(tactic|cbv)=>`(tactic|first|with_reducible assumption|with_reducible exact Nat.le_refl _|with_reducible exact Nat.lt_succ_self _|lia|omega)
local macro_rules
 | `(tactic|ac_nf)=>`(tactic|first|exact .inl rfl|exact .inr rfl|assumption)
local macro_rules
 | `(tactic|ac_rfl)=>`(tactic|first|decide|cbv)
local macro_rules
 | `(command|def $i:declId $s:optDeclSig $v:declVal)=>`(command|noncomputable def $i:declId $s:optDeclSig $v:declVal)
local macro_rules
 | `(command|abbrev $i:declId $s:optDeclSig $v:declVal)=>`(command|noncomputable abbrev $i:declId $s:optDeclSig $v:declVal)
local macro_rules
 | `(!$x)=>`(List $x)
local macro_rules
 | `(tactic|show $t)=>`(tactic|refine $t)
open PySem renaming Addr→AC,Value→AT,Expr→Ch,Shared→Da,wpAny_bind→Db,wpAny→EQ,Heap→Ev,sizeLine→FB,Stmt→FM,World→FS,Program→Fa,Around→Fk,wpAny_pure→Fr,Builtin→GE,PyData→GM,mainGlobals→GT,FuncData→Gc,starEach→Go,NameKind→IN,compareOp→IR,backTo→Ix,wpAny_mono→KB,wpAny_field→KF,rawInt→KM,Keyword→NE,IsPair→Os,wpAny_holding→PP,binaryOp→Ps,sysModules→P3,backToKw→Re,keywordEach→Rs,wpAny_seqItems→SL,wpAny_newObj_type→ST,wpAny_call_entry→SZ,DictEntry→Sc,Params→TD
local macro_rules
 | `(())=>`(by decide)
theorem Tl(h:True:=by rfl):True:=h
theorem UF(h:True:=by decide):True:=h
local macro_rules
 | `($x⁻¹)=>`(autoParam $x Tl._auto_1)
local macro_rules
 | `(~~~$x)=>`(autoParam $x UF._auto_1)
open PySem.W (Frag nsIn findIn keepIn typeIn kitOne fnOf kitAny codeIn InstAt Looks specialIn)
section
open PySem
def Wk:=@List.length_map
def Wl:=@Ev.get?_push_of_some
def Wm:=@List.length_append
def Wn:=@List.getElem?_eq_some_iff
def Wo:=@Nat.le_refl
def Wq:=@List.mem_cons_of_mem
def Wr:=@Nat.le_trans
def Ws:=@List.length_cons
def Wt:=@List.mem_cons_self
def Wu:=@List.map_cons
def Wv:=@List.map_append
def Ww:=@Ev.lt_size
def Wx:=@List.getElem?_set_ne
def Wy:=@List.getElem?_eq_getElem
def Wz:=@Ev.get?_push_size
def WA:=@List.mem_singleton
def WB:=@Nat.lt_of_lt_of_le
def WC:=@Bool.false_ne_true
def WD:=@Option.map_eq_some_iff
def WE:=@Option.bind_eq_some_iff
def WG:=@Nat.zero_le
def WH:=@List.append_nil
def WI:=@List.mem_cons
def WJ:=@List.mem_map_of_mem
def WK:=@Nat.ne_of_lt
def WL:=@List.size_toArray
def WM:=@Option.bind_some
def WN:=@List.append_assoc
def WO:=@List.mem_map
def WQ:=@List.nil_append
def WR:=@List.mem_append_right
def WS:=@List.mem_append
def WT:=@List.getElem?_set_self
def WU:=@Option.some.inj
def WV:=@List.map_map
def WW:=@PySem.W.mg_none_of
def WX:=@List.mem_of_getElem?
def WY:=@List.length_drop
def WZ:=@List.getElem?_map
def W0:=@Int.eq_ofNat_of_zero_le
def W2:=@List.drop_eq_getElem_cons
def W3:=@List.takeWhile_append_dropWhile
def W4:=@Bool.and_eq_true
def W5:=@List.all_eq_true
def W6:=@List.nodup_append
def W7:=@List.mem_append_left
def W8:=@Ev.get?_update_other
def W9:=@Ev.size_push
def Xa:=@List.length_set
def Xb:=@PySem.W.mg_of
def Xc:=@List.length_take
def Xd:=@List.mem_of_find?_eq_some
def Xe:=@List.take_sublist
def Xf:=@List.flatMap_cons
def Xg:=@List.mem_range
def Xh:=@List.length_filter_le
def Xi:=@PySem.boot_len
def Xj:=@List.mem_of_mem_take
def Xk:=@List.getElem?_append_right
def Xl:=@Array.getElem?_eq_some_iff
def Xm:=@List.Sublist.refl
def Xn:=@PySem.mem_of_lookup
def Xo:=@List.getElem?_append_left
def Xp:=@PySem.F.slot_list_pop
def Xq:=@PySem.F.type_list_pop
def Xr:=@List.map_nil
def Xs:=@List.mem_filter
def Xt:=@List.of_mem_zip
def Xu:=@Ev.get?_update_self
def Xv:=@List.take_append_drop
def Xw:=@Nat.le_succ
def Xx:=@Nat.ne_of_gt
def Xy:=@List.nodup_cons
def Xz:=@Option.isSome_iff_exists
def XA:=@List.reverse_cons
def XB:=@List.drop_sublist
def XC:=@List.sum_cons
def XE:=@List.getElem_of_mem
def XF:=@List.lookup_cons
def XG:=@List.drop_zero
def XH:=@List.dropWhile_sublist
def XI:=@Nat.lt_of_le_of_lt
def XJ:=@Int.emod_lt_of_pos
def XM:=@PySem.StrLaws.glued_eq_join
def XN:=@Array.getElem?_toList
def XQ:=@Int.emod_nonneg
def XS:=@List.any_cons
def XU:=@List.exists_cons_of_ne_nil
def XW:=@Str.length_append
def XX:=@List.length_range
def XY:=@Nat.le_of_lt
def XZ:=@List.length_pos_iff
def X0:=@PySem.F.plainAttrs_list
def X1:=@Nat.lt_irrefl
def X2:=@List.getElem?_drop
def X3:=@List.eq_nil_of_length_eq_zero
def X4:=@List.drop_drop
def X5:=@List.getElem_inj
def X6:=@Nat.lt_succ_self
def X7:=@List.getElem_mem
def X8:=@List.mem_of_mem_drop
def X9:=@List.getElem?_of_mem
def Ya:=@List.countP_cons
def Yb:=@List.getD_eq_getElem?_getD
def Yc:=@PySem.F.excBase_ValueError
def Yd:=@Array.getElem?_setIfInBounds_self_of_lt
def Ye:=@List.nodup_iff_pairwise_ne
def Yf:=@List.map_congr_left
def Yg:=@Bool.eq_iff_iff
def Yh:=@PySem.W.callWith_K
def Yi:=@PySem.F.slot_list_append
def Yj:=@PySem.F.type_list_append
def Yk:=@List.countP_append
def Yl:=@List.append_cancel_left
def Ym:=@List.all_cons
def Yn:=@Nat.succ_le_succ
def Yo:=@List.drop_length
def Yp:=@List.map_fst_zip
def Yq:=@PySem.F.slot_dict_get
def Yr:=@List.pairwise_flatMap
def Ys:=@List.countP_le_length
def Yt:=@PySem.W.looks_findIn
def Yu:=@Nat.le_of_eq
def Yv:=@List.length_zip
def Yw:=@List.find?_cons
def Yx:=@Nat.zero_add
end
open PySem in
abbrev Yy:=AT->Da->Prop
open PySem in
abbrev Yz:=!(AC×Obj)
open PySem in abbrev YB (N:Env)(e:Ch)(r:!Ch):Prop:=Go (e::r) N=(false,eval e N)::Go r N
open PySem in abbrev YC (N:Env)(p:Pos)(r:!Ch):Prop:=(Ix p (Go r N)).any (·.1)=false
open PySem in abbrev YD (x:Str):Prop:=(x == ("__debug__":Str))=false
theorem U.{u}{α:Sort u}{a:α}:a=a:=rfl
namespace L2
open PySem PySem.Spec PyProof.Rows
abbrev Key:=Sum Int Str
def qE:Key->AT->Bool
 | .inl k,v=>AT.isInt k v
 | .inr x,v=>AT.isStrOf x v
def Qi(w:FS):Key->Int
 | .inl k=>hashInt k
 | .inr x=>hashStr w x
theorem ck:∀ {k:Key} {v:AT},qE k v=true->(∃ i t,k=Sum.inl i/\v=AT.int i t)\/(∃ x t,k=Sum.inr x/\v=AT.str x t)
 | .inl i,v,h=>by
  let(t,e):=AT.isInt_shape (k:=i) (v:=v) h;exact .inl #[i,t,U,e]
 | .inr x,v,h=>by
  let(t,e):=AT.isStrOf_shape (x:=x) (v:=v) h;exact .inr #[x,t,U,e]
theorem yV(i:Int)(t:Tok):qE (.inl i) (.int i t)=true:=by simp[qE,AT.isInt]
theorem zO(x:Str)(t:Tok):qE (.inr x) (.str x t)=true:=by simp[qE,AT.isStrOf]
theorem Ik(a b:Int):decide ((Sum.inl a:Key)=Sum.inl b)=(a == b):=by
 by_cases e:a=b
 .subst e;simp
 .have h:¬ (Sum.inl a:Key)=Sum.inl b:=λq=>e (Sum.inl.inj q);rw[decide_eq_false h];exact (beq_eq_false_iff_ne.mpr e).symm
theorem Hi(a b:Str):decide ((Sum.inr a:Key)=Sum.inr b)=decide (a=b):=by
 by_cases e:a=b
 .subst e;simp
 .have h:¬ (Sum.inr a:Key)=Sum.inr b:=λq=>e (Sum.inr.inj q);rw[decide_eq_false h,decide_eq_false e]
theorem Hk(a:Int)(b:Str):decide ((Sum.inl a:Key)=Sum.inr b)=false:=decide_eq_false (λq=>nomatch q)
theorem Jn(a:Str)(b:Int):decide ((Sum.inr a:Key)=Sum.inl b)=false:=decide_eq_false (λq=>nomatch q)
def b9(prog:Fa)(w:FS):PySem.KeyKind prog w Key where
 is:=qE
 hash:=Qi w
 inj:=λv a b ha hb=>by
  rcases ck ha with ⟨i,t,rfl,rfl⟩ | ⟨x,t,rfl,rfl⟩
  .rcases ck hb with ⟨j,u,rfl,e⟩ | ⟨y,u,rfl,e⟩
   .injection e with e1 _;rw[e1]
   .exact nomatch e
  .rcases ck hb with ⟨j,u,rfl,e⟩ | ⟨y,u,rfl,e⟩
   .exact nomatch e
   .injection e with e1 _;rw[e1]
 byValue:=λk v h=>by
  rcases ck h with ⟨i,t,rfl,rfl⟩ | ⟨x,t,rfl,rfl⟩<;>rfl
 pyHash:=λhv h=>by
  rcases ck hv with ⟨i,t,rfl,rfl⟩ | ⟨x,t,rfl,rfl⟩
  .exact wpAny_pyHash_int h
  .exact wpAny_pyHash_str h
 eqBool:=λhu hv h=>by
  rcases ck hu with ⟨i,t,rfl,rfl⟩ | ⟨x,t,rfl,rfl⟩
  .rcases ck hv with ⟨j,u,rfl,rfl⟩ | ⟨y,u,rfl,rfl⟩
   .rw[Ik] at h;exact wpAny_eqBool_int h
   .rw[Hk] at h;exact SeqAt.EqAt.int_str i t y u _ _ _ _ h
  .rcases ck hv with ⟨j,u,rfl,rfl⟩ | ⟨y,u,rfl,rfl⟩
   .rw[Jn] at h;exact SeqAt.EqAt.str_int x t j u _ _ _ _ h
   .rw[Hi] at h;exact wpAny_eqBool_str h
 «strs»:=λk x t v h=>by
  rcases ck h with ⟨i,u,rfl,e⟩ | ⟨y,u,rfl,e⟩
  .exact nomatch e
  .injection e with e1 _;subst e1;cases v<;>rfl
theorem vc(prog:Fa)(w:FS)(i:Int)(t:Tok):(b9 prog w).is (.inl i) (.int i t)=true:=yV i t
theorem uf(prog:Fa)(w:FS)(x:Str)(t:Tok):(b9 prog w).is (.inr x) (.str x t)=true:=zO x t
set_option genInjectivity true in inductive V where
 | br | bl (b:Bool) | int (i:Int) | str (x:Str) | vv (b:Array UInt8) | JP (b:UInt64) | ref (a:AC) | ty (n:String)
 deriving DecidableEq
def RelV:V->AT->Prop
 | .br,u=>u=AT.none
 | .bl b,u=>u=AT.bool b
 | .int i,u=>∃ t,u=AT.int i t
 | .str x,u=>∃ t,u=AT.str x t
 | .vv b,u=>∃ t,u=AT.bytes b t
 | .JP b,u=>∃ t,u=AT.float b t
 | .ref a,u=>u=AT.ref a
 | .ty n,u=>u=AT.type n
abbrev Vals:!V->!AT->Prop:=Paired RelV
theorem Vals.length{xs:!V}{us:!AT}(r:Vals xs us):xs.length=us.length:=Paired.length r
theorem Vals.get:∀ {xs:!V} {us:!AT} {i:Nat} {x:V},Vals xs us->xs[i]?=some x->∃ u,us[i]?=some u/\RelV x u
 | _,_,_,_,.nil,e=>by simp at e
 | _,_,0,_,.cons r _,e=>by simp at e;subst e;exact#[_,rfl,r]
 | _,_,i+1,x,.cons _ t,e=>by
  let(u,h1,h2):=Vals.get (i:=i) (x:=x) t (by simpa using e);exact#[u,by simpa using h1,h2]
theorem Vals.set{x:V}{u:AT}(r:RelV x u):∀ {xs:!V} {us:!AT} (i:Nat),Vals xs us->Vals (xs.set i x) (us.set i u)
 | _,_,_,.nil=>.nil
 | _,_,0,.cons _ t=>.cons r t
 | _,_,i+1,.cons q t=>.cons q (Vals.set r i t)
theorem Vals.append:∀ {xs ys:!V} {us ws:!AT},Vals xs us->Vals ys ws->Vals (xs++ys) (us++ws)
 | _,_,_,_,.nil,s=>s
 | _,_,_,_,.cons r t,s=>.cons r (Vals.append t s)
theorem Vals.take:∀ {xs:!V} {us:!AT} (n:Nat),Vals xs us->Vals (xs.take n) (us.take n)
 | _,_,0,_=>.nil
 | _,_,_+1,.nil=>.nil
 | _,_,n+1,.cons r t=>.cons r (Vals.take n t)
theorem Vals.drop:∀ {xs:!V} {us:!AT} (n:Nat),Vals xs us->Vals (xs.drop n) (us.drop n)
 | _,_,0,r=>r
 | _,_,_+1,.nil=>.nil
 | _,_,n+1,.cons _ t=>Vals.drop n t
def gz:Option V->Option AT->Prop
 | some v,some u=>RelV v u
 | none,none=>True
 | _,_=>False
def KV{κ:Type}:!(κ×V)->!(κ×AT)->Prop:=Paired λ(p:κ×V) (q:κ×AT)=>p.1=q.1/\RelV p.2 q.2
def kV:Key->V
 | .inl i=>.int i
 | .inr x=>.str x
inductive HO where
  | lst (xs:!V)
  | tup (xs:!V)
  | dK (kvs:!(Key×V)) | dT (kvs:!(!Key×V))
  | set (S:Int->Bool) (n:Nat)
  | ins (C dx:AC) (fs:!(Str×V))
  | own (x:AC)
  | xd (fs:!(Str×V))
  | met (f x:AC)
  | Q1 (lo hi:Int)
  | jh (o:Obj) (u:HO)
  | GJ (ps:Array AT)
  | ext (φ:Ev->Prop)
abbrev Hp:=AC->Option HO
def upd(H:Hp)(a:AC)(o:HO):Hp:=λb=>if b=a then some o else H b
theorem ax{H:Hp}{a:AC}{o:HO}:upd H a o a=some o:=by unfold upd;rw[if_pos U]
theorem au{H:Hp}{a b:AC}{o:HO}(h:b≠a):upd H a o b=H b:=by unfold upd;rw[if_neg h]
theorem rb{H:Hp}{a:AC}{o u:HO}:upd (upd H a o) a u=upd H a u:=by
 funext b;unfold upd;split<;>rfl
theorem Ai{H:Hp}{a b:AC}{o u:HO}(h:H a=some o)(h':H b=some u)(d:o≠u):a≠b:=by
 intro e;subst e;rw[h] at h';exact d (WU h')
theorem aD{H:Hp}{a b:AC}{o:HO}(h:H a=some o)(h':H b=none):a≠b:=by
 intro e;subst e;rw[h] at h';cases h'
def iV(h:Ev)(a:AC)(items:Array AT):Prop:=∃ o,h.get? a=some o/\o.cls=.type "tuple"/\∃ n,o.data=.seq items n/\o.dict=none
theorem iV.tup{h:Ev}{a:AC}{items:Array AT}(x:iV h a items):IsTup h a items:=let #[o,e,c,n,d,_]:=x;#[o,e,c,n,d]
theorem iV.new(h:Ev)(items:Array AT):iV (h.push { cls:=.type "tuple",data:=.seq items }) h.objs.size items:=#[_,Wz _ U,U,_,U,U]
section
variable(P:Fa)(w:FS)
def cj(H:Hp)(h:Ev)(a:AC):HO->Prop
 | .lst xs=>xs.length<=FB/\∃ (its:!AT) (n:Nat),Vals xs its/\h.get? a=some { cls:=.type "list",data:=.seq its.toArray n }
 | .tup xs=>xs.length<=FB/\∃ its:!AT,Vals xs its/\iV h a its.toArray
 | .dK kvs=>kvs.length<=FB/\(a == P3)=false/\∃ vs,KV kvs vs/\h.DictOf (b9 P w) a vs
 | .dT kvs=>kvs.length<=FB/\(a == P3)=false/\∃ xs:!(!Key×AC×AT),
   Paired (λ(p:!Key×V) (q:!Key×AC×AT)=>p.1=q.1/\H q.2.1=some (.tup (p.1.map kV))/\RelV p.2 q.2.2) kvs xs /\
   ∃ o es ep,h.get? a=some o/\o.ExactDict/\o.data=.dict es ep/\es.toList=xs.map (entryOfKey (tupleKind (b9 P w)))/\(xs.map (·.1)).Nodup
 | .set S n=>h.SetOf (intKind P w) a S n
 | .ins C dx fs=>H dx=some (.own a)/\fs.length<=1000/\dx≠a/\h.get? a=some (PySem.W.instObj C dx) /\
   ∃ mA,h.Ns1 dx mA/\(∀ f,gz (fs.lookup f) (mA f))/\PySem.Within mA (fs.map (·.1))
 | .own _=>∃ o,h.get? a=some o
 | .xd fs=>∃ mA,h.Ns1 a mA/\∀ f,gz (fs.lookup f) (mA f)
 | .Q1 lo hi=>∃ t u v,h.get? a=some { cls:=.type "range",data:=.fields #v[.int lo t,.int hi u,.int 1 v] }
 | .jh o u=>h.get? a=some o/\cj H h a u
 | .GJ ps=>h.get? a=some { cls:=.none,data:=.fields ps }
 | .met f x=>h.get? a=some (PySem.W.methodObj (.ref f) (.ref x))
 | .ext φ=>φ h/\(∃ o,h.get? a=some o)/\∀ h1 h2:Ev,φ h1->(∀ o,h1.get? a=some o->h2.get? a=some o)->φ h2
def jv(H:Hp)(h:Ev):Prop:=∀ a o,H a=some o->cj P w H h a o
end
section
variable{P:Fa}{w:FS}{H H':Hp}{h h':Ev}{a:AC}{o:HO}
theorem cj.lt(x:cj P w H h a o):a < h.objs.size:=by
 cases o with
 | lst xs=>let(_,_,_,_,e):=x;exact Ww e
 | tup xs=>let(_,_,_,p):=x;exact p.tup.lt
 | dK kvs=>let(_,_,_,_,o,_,_,e,_):=x;exact Ww e
 | dT kvs=>let(_,_,_,_,o,_,_,e,_):=x;exact Ww e
 | set S n=>let(o,_,_,_,e,_):=x;exact Ww e
 | ins C dx fs=>let(_,_,_,e,_):=x;exact Ww e
 | own y=>let(_,e):=x;exact Ww e
 | xd fs=>let(_,(_,_,_,e,_),_):=x;exact Ww e
 | Q1 lo hi=>let(_,_,_,e):=x;exact Ww e
 | jh ob u=>let(e,_):=x;exact Ww e
 | GJ ps=>exact Ww (show h.get? a=some _ from x)
 | met f y=>exact Ww (show h.get? a=some _ from x)
 | ext φ=>let(_,(_,e),_):=x;exact Ww e
theorem Paired.zM{α β:Type}{F G:α->β->Prop}:∀ {l₁:!α} {l₂:!β},Paired F l₁ l₂->(∀ a b,F a b->G a b)->Paired G l₁ l₂
 | _,_,.nil,_=>.nil
 | _,_,.cons r t,f=>.cons (f _ _ r) (Paired.zM t f)
theorem cj.sI(x:cj P w H h a o)(k:∀ b u,(b=a\/H b=some (.own a))->h.get? b=some u->h'.get? b=some u)(ho:∀ b,H b=some (.own a)->H' b=some (.own a))(ht:∀ b xs,H b=some (.tup xs)->H' b=some (.tup xs)):cj P w H' h' a o:=by
 induction o with
 | lst xs=>let(z,its,n,r,e):=x;exact#[z,its,n,r,k _ _ (.inl U) e]
 | tup xs=>let(z,its,r,ob,e,c):=x;exact#[z,its,r,ob,k _ _ (.inl U) e,c]
 | dK kvs=>let(z,y,vs,r,ob,es,ep,e,c):=x;exact#[z,y,vs,r,ob,es,ep,k _ _ (.inl U) e,c]
 | dT kvs =>
  let(z,y,xs,r,ob,es,ep,e,c):=x;exact#[z,y,xs,Paired.zM r λp q z=>#[z.1,ht _ _ z.2.1,z.2.2],ob,es,ep,k _ _ (.inl U) e,c]
 | set S n=>let(ob,es,ep,t,e,c):=x;exact#[ob,es,ep,t,k _ _ (.inl U) e,c]
 | ins C dx fs =>
  let(d,z,ne,e,mA,(od,es,ep,e2,c),r):=x;exact#[ho _ d,z,ne,k _ _ (.inl U) e,mA,#[od,es,ep,k _ _ (.inr d) e2,c],r]
 | own y=>let(ob,e):=x;exact#[ob,k _ _ (.inl U) e]
 | xd fs=>let(mA,(od,es,ep,e,c),r):=x;exact#[mA,#[od,es,ep,k _ _ (.inl U) e,c],r]
 | Q1 lo hi=>let(t,u,v,e):=x;exact#[t,u,v,k _ _ (.inl U) e]
 | jh ob u ih=>let(e,q):=x;exact#[k _ _ (.inl U) e,ih q]
 | GJ ps =>
  have e:h.get? a=some { cls:=.none,data:=.fields ps }:=x;change h'.get? a=some { cls:=.none,data:=.fields ps };exact k a _ (.inl U) e
 | met f y =>
  have e:h.get? a=some (PySem.W.methodObj (.ref f) (.ref y)):=x;change h'.get? a=some (PySem.W.methodObj (.ref f) (.ref y));exact k a _ (.inl U) e
 | ext φ=>let(p,(o,e),st):=x;exact#[st _ _ p λo q=>k _ _ (.inl U) q,#[o,k _ _ (.inl U) e],st]
theorem jv.lt(x:jv P w H h)(e:H a=some o):a < h.objs.size:=(x a o e).lt
theorem jv.fresh(x:jv P w H h)(e:h.objs.size<=a):H a=none:=by
 cases q:H a with
 | none=>rfl
 | some u=>exact absurd (WB (x.lt q) e) (X1 _)
theorem jv.kept(x:jv P w H h)(k:∀ b u,h.get? b=some u->h'.get? b=some u):jv P w H h':=λa o e =>
 (x a o e).sI (λb u _ q=>k b u q) (λ_ q=>q) λ_ _ q=>q
theorem jv.laid(x:jv P w H h)(k:∀ b u,h.get? b=some u->h'.get? b=some u)(hp:h.objs.size<=a)(new:cj P w (upd H a o) h' a o):jv P w (upd H a o) h':=λb u e=>by
 have hn:=x.fresh hp;by_cases hb:b=a
 .subst hb;rw[ax] at e;cases e;exact new
 .rw[au hb] at e;exact (x b u e).sI (λc v _ q=>k c v q) (λc q=>by rw[au (aD q hn)];exact q) λc xs q=>by rw[au (aD q hn)];exact q
end
def Rd(H:Hp)(a:AC)(u:HO):Prop:=H a=some u\/∃ o,H a=some (.jh o u)
theorem Rd.ok{P:Fa}{w:FS}{H:Hp}{h:Ev}{a:AC}{u:HO}(r:Rd H a u)(x:jv P w H h):cj P w H h a u:=by
 rcases r with r | ⟨o,r⟩
 .exact x a u r
 .let(_,q):=x a _ r;exact q
def JA:Option HO->Prop
 | some (.lst _)=>True
 | some (.dK _)=>True
 | some (.dT _)=>True
 | some (.set _ _)=>True
 | some (.ins _ _ _)=>True
 | some (.ext _)=>True
 | _=>False
section
variable{P:Fa}{w:FS}{H:Hp}{h h':Ev}{x e:AC}{o':HO}
theorem jv.write(ok:jv P w H h)(mu:JA (H x))(he:e=x\/H e=some (.own x))(k:∀ b u,b≠e->h.get? b=some u->h'.get? b=some u)(JK:∃ u,h'.get? e=some u)(new:cj P w (upd H x o') h' x o'):jv P w (upd H x o') h':=λb u q=>by
 have nown:∀ c y,H c=some (.own y)->c≠x:=λc y r z=>by subst z;rw[r] at mu;exact mu
 have Er:∀ c xs,H c=some (.tup xs)->c≠x:=λc xs r z=>by subst z;rw[r] at mu;exact mu
 by_cases hb:b=x
 .subst hb;rw[ax] at q;cases q;exact new
 .rw[au hb] at q;by_cases hbe:b=e
  .have q':H b=some (.own x):=by
    rcases he with z | z
    .exact absurd (hbe.trans z) hb
    .rw[hbe];exact z
   rw[q] at q';cases q';let(v,hv):=JK;exact#[v,by rw[hbe];exact hv]
  .refine (ok b u q).sI (λc v hc r=>k c v ?_ r) (λc r=>by rw[au (nown c b r)];exact r) λc xs r=>by rw[au (Er c xs r)];exact r
   rcases hc with rfl | hc
   .exact hbe
   .rintro rfl;rcases he with z | z
    .exact nown c b hc z
    .rw[hc] at z;cases z;exact hb U
end
structure Un(fs ex:!AC)(H H':Hp)(h h':Ev):Prop where
 keep:∀ b o,h.get? b=some o->H b=none->b∉fs->b∉ex->h'.get? b=some o
 slot:∀ b o,h.get? b=some o->H b=none->b∈fs->b∉ex->∃ sl,h'.get? b=some { o with slots:=sl }
 free:∀ b o,h.get? b=some o->H b=none->b∉ex->H' b=none
 there:∀ b o,h.get? b=some o->b∉ex->∃ o',h'.get? b=some o'
 rJ:∀ b xs,H b=some (.tup xs)->H' b=some (.tup xs)
 pQ:∀ b o u,H b=some (.jh o u)->H' b=some (.jh o u)
 sW:∀ b ps,H b=some (.GJ ps)->∃ more,H' b=some (.GJ (ps++more))
section
variable{fs UR ex Wi:!AC}{H H1 H2:Hp}{h h1 h2 h':Ev}{a x e:AC}{o:HO}
theorem Un.any(u:Un fs ex H H1 h h1){b:AC}{ob:Obj}(q:h.get? b=some ob)(n:H b=none)(hx:b∉ex):∃ sl,h1.get? b=some { ob with slots:=sl }:=by
 by_cases hb:b∈fs
 .exact u.slot b ob q n hb hx
 .exact#[ob.slots,u.keep b ob q n hb hx]
theorem Un.kept(k:∀ b u,h.get? b=some u->h'.get? b=some u):Un fs ex H H h h' :=
 #[λb ob q _ _ _=>k b ob q,λb ob q _ _ _=>#[ob.slots,k b ob q],λ_ _ _ n _=>n,λb ob q _=>#[ob,k b ob q],λ_ _ q=>q,λ_ _ _ q=>q,λ_ ps q=>#[#v[],by rw[q];simp]]
theorem Un.refl:Un fs ex H H h h:=Un.kept λ_ _ q=>q
theorem Un.laid(k:∀ b u,h.get? b=some u->h'.get? b=some u)(hp:h.objs.size<=a)(hn:H a=none):Un fs ex H (upd H a o) h h' where
 keep:=λb u q _ _ _=>k b u q
 slot:=λb u q _ _ _=>#[u.slots,k b u q]
 free:=λb u q n _=>by rw[au (WK (WB (Ww q) hp))];exact n
 there:=λb u q _=>#[u,k b u q]
 rJ:=λb xs q=>by rw[au (aD q hn)];exact q
 pQ:=λb u xs q=>by rw[au (aD q hn)];exact q
 sW:=λb ps q=>#[#v[],by rw[au (aD q hn),q];simp]
theorem Un.write(mu:JA (H x))(he:e=x\/H e=some (.own x))(k:∀ b u,b≠e->h.get? b=some u->h'.get? b=some u)(JK:∃ u,h'.get? e=some u):Un fs ex H (upd H x o) h h':=by
 have hx:∀ b,H b=none->b≠x:=λb n z=>by subst z;rw[n] at mu;exact mu
 have hb:∀ b,H b=none->b≠e:=λb n z=>by
  subst z;rcases he with r | r
  .exact hx b n r
  .rw[n] at r;cases r
 have hm:∀ b u,H b=some u->¬ JA (some u)->b≠x:=λb u q nm z=>by subst z;rw[q] at mu;exact nm mu
 show#[λb u q n _ _=>k b u (hb b n) q,λb u q n _ _=>#[u.slots,k b u (hb b n) q],λb u q n _=>by rw[au (hx b n)];exact n,λb u q _=>?_,
  λb xs q=>by rw[au (hm b _ q λz=>z)];exact q,λb u xs q=>by rw[au (hm b _ q λz=>z)];exact q,λb ps q=>#[#v[],by rw[au (hm b _ q λz=>z),q];simp]]
 by_cases hbe:b=e
 .subst hbe;exact JK
 .exact#[u,k b u hbe q]
end
def NZ(h:Ev)(H:Hp):!AC:=(List.range h.objs.size).filter λa=>(H a).isSome
def rP(h:Ev)(H:Hp):Ev:=PySem.W.hideAll h (NZ h H)
theorem y3(h:Ev)(H:Hp):(rP h H).objs.size=h.objs.size:=PySem.W.hideAll_size _ _
theorem Bp{h:Ev}{H:Hp}{b:AC}{o:Obj}(e:h.get? b=some o)(n:H b=none):(rP h H).get? b=some o :=
 PySem.W.hideAll_get _ e λhm=>by
  have q:(H b).isSome=true:=(Xs.mp hm).2;rw[n] at q;simp at q
theorem E8{h:Ev}{H:Hp}{b:AC}{o:Obj}(e:(rP h H).get? b=some o):h.get? b=some o/\H b=none:=by
 have e':h.get? b=some o:=PySem.W.of_hideAll (NZ h H) e;show#[e',?_];cases q:H b with
 | none=>rfl
 | some x =>
  have hm:b∈NZ h H:=List.mem_filter.mpr #[List.mem_range.mpr (Ev.lt_size e'),by simp[q]];have z:(rP h H).get? b=none:=PySem.W.hideAll_none (NZ h H) hm;rw[z] at e;cases e
structure Mod(K:Frag)(mg:Str->Option AT)(base:Ev):Prop where
 J1:K.In base
 glob:base.Ns GT mg
 blt:∃ mb,base.Ns builtinsNs mb/\∀ x:Str,x≠"__name__"->mb x=bootBuiltins x
 nolimit:base.NoLimit
structure Cx where
 prog:Fa
 w:FS
 K:Frag
 mg:Str->Option AT
 base:Ev
 A:Fk
 N:!Str
 s₀:Da
 H₀:Hp
 env:Env
 outer:!Env
 stack:!Env
 ex:!AC
 fn:Str->Bool
 calm:Bool
 pn:Yz
 xe:Yy
def zZ(l:!Env):!AC:=l.filterMap (·.frame)
abbrev Cx.fs(X:Cx):!AC:=zZ X.outer
def JG(sc:Scope)(x:Str):Prop:=sc.names.lookup x=some .local\/sc.names.lookup x=some .cell\/sc.names.lookup x=some .free
def Loc(sc:Scope)(x:Str):Prop:=sc.names.lookup x=some .local\/sc.names.lookup x=some .cell
def Look(env:Env)(h:Ev)(m:Str->Option AT)(x:Str)(u:AT):Prop :=
 (env.kindOf x=some .local/\m x=some u)\/((env.kindOf x=some .cell\/env.kindOf x=some .free)/\∃ c,env.cells.lookup x=some c/\h.IsCell c (some u))
structure Cx.Ok(X:Cx):Prop where
 mod:Mod X.K X.mg X.base
 kind:X.env.scope.kind=.function
 glob:X.env.globals=GT
 blt:X.env.builtins=builtinsNs
 above:X.s₀.heap.objs.size<=X.env.locals
 inj:∀ x y c,X.env.cells.lookup x=some c->X.env.cells.lookup y=some c->x=y
 has:∀ x,(X.env.kindOf x=some .cell\/X.env.kindOf x=some .free)->∃ c,X.env.cells.lookup x=some c
 JH:∀ x c,X.fn x=true->X.env.cells.lookup x=some c->X.s₀.heap.objs.size<=c
 hd:X.calm=true->X.A.handled=none
 frames:X.A.frames=some X.stack
 KI:X.stack=X.outer\/(X.stack=X.env::X.outer/\X.env.frame=some X.env.locals)
 M9:∀ b∈X.ex,b≠X.env.locals/\∀ x c,X.env.cells.lookup x=some c->c≠b
 bs:∀ b o,X.base.get? b=some o->X.s₀.heap.get? b=some o/\X.H₀ b=none
 Di:X.base.objs.size<=X.s₀.heap.objs.size
 zj:∀ b o,X.base.get? b=some o->b∉X.ex
 yM:∀ b∈X.ex,b∉X.fs
 lZ:X.s₀.heap.FunFrames X.base X.outer
 Gr:∀ b∈X.fs,X.H₀ b=none
structure Inv(X:Cx)(TW:Yz)(σ:!(Option V))(H:Hp)(s:Da):Prop where
 ok:X.Ok
 os:s.os=X.s₀.os
 bare:AllBare s.gens
 base:Un X.fs X.ex X.H₀ H X.s₀.heap s.heap
 loc:∃ m,s.heap.Ns X.env.locals m/\∀ (i:Nat) (x:Str) (v:V),X.N[i]?=some x->σ[i]?=some (some v)->JG X.env.scope x->∃ u,RelV v u/\Look X.env s.heap m x u
 cell:∀ x c,X.env.cells.lookup x=some c->∃ v,s.heap.IsCell c v
 free:H X.env.locals=none
 fZ:∀ x c,X.env.cells.lookup x=some c->H c=none
 pin:∀ p∈X.pn++TW,s.heap.get? p.1=some p.2/\H p.1=none/\p.1≠X.env.locals/\p.1∉X.fs/\∀ v,p.2.data≠.cell v
 bf:jv X.prog X.w H s.heap
 len:σ.length=X.N.length
section
variable{X:Cx}{TW:Yz}{σ:!(Option V)}{H H':Hp}{s:Da}{h':Ev}
theorem Cx.Ok.Qr(ok:X.Ok){b:AC}{o:Obj}(e:X.base.get? b=some o):b∉X.fs:=λhb=>by
 have:=(ok.lZ.mem hb).1;rw[e] at this;cases this
theorem Inv.bs(I:Inv X TW σ H s):∀ b o,X.base.get? b=some o->s.heap.get? b=some o/\H b=none:=λb o e =>
 #[I.base.keep b o (I.ok.bs b o e).1 (I.ok.bs b o e).2 (I.ok.Qr e) (I.ok.zj b o e),I.base.free b o (I.ok.bs b o e).1 (I.ok.bs b o e).2 (I.ok.zj b o e)]
theorem Inv.bk(I:Inv X TW σ H s):∀ b o,X.base.get? b=some o->s.heap.get? b=some o:=λb o e=>(I.bs b o e).1
theorem Inv.mod(I:Inv X TW σ H s):Mod X.K X.mg X.base:=I.ok.mod
theorem Inv.lz(I:Inv X TW σ H s):X.K.In s.heap:=I.ok.mod.J1.keeps I.bk
theorem Inv.lt(I:Inv X TW σ H s):X.env.locals < ↑s:=let #[_,hn,_]:=I.loc;hn.lt
theorem Inv.sz(I:Inv X TW σ H s):X.s₀.heap.objs.size<=↑s:=Wr I.ok.above (XY I.lt)
theorem Inv.Mh(I:Inv X TW σ H s){a:AC}(h:↑s<=a):a∉X.fs:=λhb=>by
 let(_,o,ho,_):=I.ok.lZ.mem hb;exact absurd (WB (Ww ho) (Wr I.sz h)) (X1 _)
theorem Inv.EH(I:Inv X TW σ H s):∀ x c,X.env.cells.lookup x=some c->c≠X.env.locals:=λx c e z=>by
 let(v,o,ho,hd):=I.cell x c e;let(m,(o',es,ep,yO,hd',_),_):=I.loc;rw[z,yO] at ho;cases ho;rw[hd'] at hd;cases hd
theorem Inv.lZ(I:Inv X TW σ H s):s.heap.FunFrames X.base X.outer:=by
 have all:∀ (l:!Env),(∀ b∈zZ l,b∈X.fs)->X.s₀.heap.FunFrames X.base l->s.heap.FunFrames X.base l:=by
  intro l
  induction l with
  | nil=>intro _ _;trivial
  | cons env r ih =>
   intro hs hl;let(hk,(L,o,hf,hn,ho,hd),hr):=hl;have hL:L∈X.fs:=hs L (by unfold zZ;rw[List.filterMap_cons,hf];exact List.mem_cons_self);let(sl,e):=I.base.slot L o ho (I.ok.Gr L hL) hL λz=>I.ok.yM L z hL;exact#[hk,#[L,_,hf,hn,e,hd],ih (λb hb=>hs b (by unfold zZ;rw[List.filterMap_cons,hf];exact List.mem_cons_of_mem _ hb)) hr]
 exact all X.outer (λ_ hb=>hb) I.ok.lZ
theorem Inv.stack(I:Inv X TW σ H s):s.heap.FunFrames X.base X.stack:=by
 rcases I.ok.KI with e | ⟨e,hf⟩
 .rw[e];exact I.lZ
 .rw[e];let(m,hn,_):=I.loc;show .cons (by rw[I.ok.kind];decide) hf hn ?_ I.lZ;exact Ev.get?_none_of_le (Wr I.ok.Di I.ok.above)
theorem Inv.vU(I:Inv X TW σ H s):∀ b∈zZ X.stack,b∈X.env.locals::X.fs:=λb hb=>by
 rcases I.ok.KI with e | ⟨e,hf⟩
 .rw[e] at hb;exact Wq _ hb
 .rw[e] at hb;unfold zZ at hb;rw[List.filterMap_cons,hf] at hb;exact hb
theorem Inv.su(I:Inv X TW σ H s):∀ b∈zZ X.stack,H b=none:=λb hb=>by
 rcases WI.mp (I.vU b hb) with e | hb
 .rw[e];exact I.free
 .let(_,o,ho,_):=I.ok.lZ.mem hb;exact I.base.free b o ho (I.ok.Gr b hb) λz=>I.ok.yM b z hb
theorem Inv.step{g':Array GenState}{t':Nat}{d':Drawn}{ch:!AC}(I:Inv X TW σ H s)(pK:∀ b∈ch,(b∈X.ex\/X.s₀.heap.objs.size<=b)/\b≠X.env.locals/\(∀ x c,X.env.cells.lookup x=some c->c≠b)/\∀ p∈X.pn++TW,p.1≠b)(keep:∀ b o,b≠X.env.locals->b∉X.fs->b∉ch->s.heap.get? b=some o->H b=none->h'.get? b=some o)(slot:∀ b o,b≠X.env.locals->b∈X.fs->b∉ch->s.heap.get? b=some o->H b=none->∃ sl,h'.get? b=some { o with slots:=sl })(free:∀ b o,b∉ch->s.heap.get? b=some o->H b=none->H' b=none)(there:∀ b o,b∉ch->s.heap.get? b=some o->∃ o',h'.get? b=some o')(rJ:∀ b xs,H b=some (.tup xs)->H' b=some (.tup xs))(pQ:∀ b o u,H b=some (.jh o u)->H' b=some (.jh o u))(sW:∀ b ps,H b=some (.GJ ps)->∃ more,H' b=some (.GJ (ps++more)))(ns:∀ m,s.heap.Ns X.env.locals m->h'.Ns X.env.locals m)(bf:jv X.prog X.w H' h')(hg:AllBare g') :
  Inv X TW σ H' { s with heap:=h',gens:=g',drawn:=d',toks:=t' }:=by
 have neL:∀ b o,X.s₀.heap.get? b=some o->b≠X.env.locals:=λb o e=>WK (WB (Ww e) I.ok.above);have neC:∀ b o,X.s₀.heap.get? b=some o->b∉X.ex->b∉ch:=λb o e hx hb=>by
  rcases (pK b hb).1 with z | z
  .exact hx z
  .exact absurd (WB (Ww e) z) (X1 _)
 have cellK:∀ x c,X.env.cells.lookup x=some c->∀ v,s.heap.IsCell c v->h'.IsCell c v:=λx c e v z1r=>by
  let(o,ho,hd):=z1r;have nch:c∉ch:=λz=>(pK c z).2.2.1 x c e U;by_cases hc:c∈X.fs
  .let(sl,q):=slot c o (I.EH x c e) hc nch ho (I.fZ x c e);exact#[_,q,hd]
  .exact#[o,keep c o (I.EH x c e) hc nch ho (I.fZ x c e),hd]
 show#[I.ok,I.os,hg,#[λb o e n hb hx=>?_,λb o e n hb hx=>?_,λb o e n hx=>?_,λb o e hx=>?_,λb xs e=>rJ b xs (I.base.rJ b xs e),λb o xs e=>pQ b o xs (I.base.pQ b o xs e),λb ps e=>?_],?_,λx c e=>?_,?_,λx c e=>?_,λp hp=>?_,bf,I.len]
 .exact keep b o (neL b o e) hb (neC b o e hx) (I.base.keep b o e n hb hx) (I.base.free b o e n hx)
 .let(sl,e1):=I.base.slot b o e n hb hx;let(sl',e2):=slot b _ (neL b o e) hb (neC b o e hx) e1 (I.base.free b o e n hx);exact#[sl',e2]
 .let(o',e1):=I.base.there b o e hx;exact free b o' (neC b o e hx) e1 (I.base.free b o e n hx)
 .let(o',e1):=I.base.there b o e hx;exact there b o' (neC b o e hx) e1
 .let(m1,e1):=I.base.sW b ps e;let(m2,e2):=sW b _ e1;exact#[m1++m2,by rw[e2,Array.append_assoc]]
 .let(m,hn,hl):=I.loc;show#[m,ns m hn,λi x v e1 e2 e3=>?_];let(u,r,l):=hl i x v e1 e2 e3;show#[u,r,?_];rcases l with l | ⟨k,c,e,z⟩
  .exact .inl l
  .exact .inr #[k,c,e,cellK x c e _ z]
 .let(v,z):=I.cell x c e;exact#[v,cellK x c e v z]
 .let(m,(o,_,_,ho,_),_):=I.loc;exact free _ o (λz=>(pK _ z).2.1 U) ho I.free
 .let(v,o,ho,hd):=I.cell x c e;exact free c o (λz=>(pK c z).2.2.1 x c e U) ho (I.fZ x c e)
 .let(e,n,ne,nf,d):=I.pin p hp;have nch:p.1∉ch:=λz=>(pK p.1 z).2.2.2 p hp U;exact#[keep p.1 p.2 ne nf nch e n,free p.1 p.2 nch e n,ne,nf,d]
theorem Inv.un{t':Nat}(I:Inv X TW σ H s)(u:Un X.fs [] H H' s.heap h')(bf:jv X.prog X.w H' h'):Inv X TW σ H' { s with heap:=h',toks:=t' }:=by
 let(m,(o,es,ep,ho,r),_):=id I.loc;let(sl,hL):=u.any ho I.free (by simp);exact I.step (g':=s.gens) (d':=s.drawn) (ch:=[]) (λ_ z=>nomatch z) (λb o _ hb _ e n=>u.keep b o e n hb (by simp)) (λb o _ hb _ e n=>u.slot b o e n hb (by simp)) (λb o _ e n=>u.free b o e n (by simp)) (λb o _ e=>u.there b o e (by simp)) u.rJ u.pQ u.sW (λm' hm=>by
  let(o',es',ep',yO,r'):=hm;rw[ho] at yO;cases yO;exact#[_,es',ep',hL,r']) bf I.bare
theorem Inv.call{g':Array GenState}{t':Nat}{d':Drawn}{ch:!AC}(I:Inv X TW σ H s)(u:Un (zZ X.stack) ch H H' s.heap h')(bf:jv X.prog X.w H' h')(hg:AllBare g')(pK:∀ b∈ch,(b∈X.ex\/X.s₀.heap.objs.size<=b)/\b≠X.env.locals/\(∀ x c,X.env.cells.lookup x=some c->c≠b)/\∀ p∈X.pn++TW,p.1≠b) :
  Inv X TW σ H' { s with heap:=h',gens:=g',drawn:=d',toks:=t' }:=by
 let(m,(o,es,ep,ho,r),_):=id I.loc;let(sl,hL):=u.any ho I.free λz=>(pK _ z).2.1 U;exact I.step (ch:=ch) pK (λb o hL hb hc e n=>u.keep b o e n (λz=>(WI.mp (I.vU b z)).elim hL hb) hc) (λb o _ _ hc e n=>u.any e n hc) (λb o hc e n=>u.free b o e n hc) (λb o hc e=>u.there b o e hc) u.rJ u.pQ u.sW (λm' hm=>by
  let(o',es',ep',yO,r'):=hm;rw[ho] at yO;cases yO;exact#[_,es',ep',hL,r']) bf hg
theorem Inv.turned{t':Nat}{it:AC}(I:Inv X TW σ H s)(k:∀ b o,b≠it->s.heap.get? b=some o->h'.get? b=some o)(hn:H it=none)(hL:it≠X.env.locals)(h1:it∈X.ex\/X.s₀.heap.objs.size<=it)(h2:∀ x c,X.env.cells.lookup x=some c->c≠it)(h3:∀ p∈X.pn++TW,p.1≠it):Inv X TW σ H { s with heap:=h',toks:=t' }:=by
 have nit:∀ b u,H b=some u->b≠it:=λb u e z=>by rw[z,hn] at e;cases e
 show I.step (g':=s.gens) (d':=s.drawn) (ch:=[it]) (λb hb=>?_) (λb o _ _ hc e _=>k b o (λz=>hc (by simp[z])) e) (λb o _ _ hc e _=>#[o.slots,k b o (λz=>hc (by simp[z])) e]) (λ_ _ _ _ n=>n)
  (λb o hc e=>#[o,k b o (λz=>hc (by simp[z])) e]) (λ_ _ e=>e) (λ_ _ _ e=>e) (λb ps e=>#[#v[],by rw[e];simp]) (λm hm=>?_) (λb u e=>?_) I.bare
 .have e:b=it:=by simpa using hb
  subst e;exact#[h1,hL,h2,h3]
 .let(o,es,ep,ho,r):=hm;exact#[o,es,ep,k _ o (Ne.symm hL) ho,r]
 .refine (I.bf b u e).sI (λc v hc q=>k c v ?_ q) (λ_ q=>q) λ_ _ q=>q;rcases hc with z | z
  .rw[z];exact nit b u e
  .exact nit c _ z
theorem Inv.tok(I:Inv X TW σ H s)(t:Nat):Inv X TW σ H { s with toks:=t }:=I.un (h':=s.heap) (t':=t) Un.refl I.bf
theorem Inv.kept{t':Nat}(I:Inv X TW σ H s)(k:∀ b u,s.heap.get? b=some u->h'.get? b=some u):Inv X TW σ H { s with heap:=h',toks:=t' }:=I.un (Un.kept k) (I.bf.kept k)
theorem Inv.laid{a:AC}{o:HO}{t':Nat}(I:Inv X TW σ H s)(k:∀ b u,s.heap.get? b=some u->h'.get? b=some u)(hp:↑s<=a)(new:cj X.prog X.w (upd H a o) h' a o) :
  Inv X TW σ (upd H a o) { s with heap:=h',toks:=t' }:=I.un (Un.laid k hp (I.bf.fresh hp)) (I.bf.laid k hp new)
theorem Inv.write{x e:AC}{o:HO}{t':Nat}(I:Inv X TW σ H s)(mu:JA (H x))(he:e=x\/H e=some (.own x))(k:∀ b u,b≠e->s.heap.get? b=some u->h'.get? b=some u)(JK:∃ u,h'.get? e=some u)(new:cj X.prog X.w (upd H x o) h' x o):Inv X TW σ (upd H x o) { s with heap:=h',toks:=t' }:=I.un (Un.write mu he k JK) (I.bf.write mu he k JK new)
theorem Inv.weak{σ':!(Option V)}(I:Inv X TW σ H s)(hl:σ'.length=σ.length)(w:∀ (i:Nat) v,σ'[i]?=some (some v)->σ[i]?=some (some v)):Inv X TW σ' H s :=
 #[I.ok,I.os,I.bare,I.base,let #[m,hn,hl']:=I.loc;#[m,hn,λi x v e1 e2 e3=>hl' i x v e1 (w i v e2) e3],I.cell,I.free,I.fZ,I.pin,I.bf,hl.trans I.len]
theorem Inv.xx{Fy:Yz}(I:Inv X TW σ H s)(h:∀ p∈Fy,s.heap.get? p.1=some p.2/\H p.1=none/\p.1≠X.env.locals/\p.1∉X.fs/\∀ v,p.2.data≠.cell v):Inv X Fy σ H s :=
 #[I.ok,I.os,I.bare,I.base,I.loc,I.cell,I.free,I.fZ,λp hp=>(WS.mp hp).elim (λz=>I.pin p (W7 _ z)) (h p),I.bf,I.len]
theorem nU{N:!Str}(hN:N.Nodup){i j:Nat}{x:Str}(a:N[i]?=some x)(b:N[j]?=some x):i=j:=by
 let(h1,e1):=Wn.mp a;let(h2,e2):=Wn.mp b;exact (X5 hN).mp (e1.trans e2.symm)
abbrev YE (X:Cx)(x:Str):Prop:=X.fn x=true\/X.env.scope.names.lookup x=some .local
theorem qB{M:Model}{A:Fk}{E:Yy}{i:Nat}{x:Str}{v:V}{u:AT}{Q:Unit->Da->Prop}(I:Inv X TW σ H s)(hN:X.N.Nodup)(hi:X.N[i]?=some x)(hx:Loc X.env.scope x)(r:RelV v u)(h:∀ s',Inv X TW (σ.set i (some v)) H s'->(∃ a,Ev.SameBut a s.heap s'.heap/\(a=X.env.locals\/X.env.cells.lookup x=some a))->Q Unit.unit s')(hf:YE X x:=by ac_nf):EQ M A (storeName X.env x u) Q E s:=by
 let(m,hn,hl):=id I.loc;have hcls:(X.env.scope.kind == .class||(X.env.scope.kind == .module&&X.env.locals != X.env.globals))=false:=by rw[I.ok.kind];rfl
 have hiσ:i < σ.length:=by rw[I.len];exact (Wn.mp hi).1
 have EH:=I.EH;have tracked:∀ {a:AC} {h':Ev},(∃ o,s.heap.get? a=some o/\H a=none)->Ev.SameBut a s.heap h'->jv X.prog X.w H h':=λ{a h'} ha hs b ob e=>by
  let(_,_,hfree):=ha;show (I.bf b ob e).sI (λc w' hc q=>(hs.2 c ?_).trans q) (λ_ q=>q) λ_ _ q=>q;rintro rfl;rcases hc with rfl | hc
  .rw[hfree] at e;cases e
  .rw[hfree] at hc;cases hc
 rcases hx with hk | hk
 .refine wpAny_storeName_local hk hn (λh' hn' hs=>?_) hcls;let(oL,_,_,hoL,_):=id hn;show h _ #[I.ok,I.os,I.bare,#[λb o e n hb hx=>?_,λb o e n hb hx=>?_,I.base.free,λb o e hx=>?_,I.base.rJ,I.base.pQ,I.base.sW],#[_,hn',λj y v' e1 e2 e3=>?_],λy c e=>?_,I.free,I.fZ,λp hp=>?_,tracked #[oL,hoL,I.free] hs,by simpa using I.len] #[_,hs,.inl U]
  .exact (hs.2 b (WK (WB (Ww e) I.ok.above))).trans (I.base.keep b o e n hb hx)
  .let(sl,e1):=I.base.slot b o e n hb hx;exact#[sl,(hs.2 b (WK (WB (Ww e) I.ok.above))).trans e1]
  .let(o',e1):=I.base.there b o e hx;exact#[o',(hs.2 b (WK (WB (Ww e) I.ok.above))).trans e1]
  .by_cases hj:j=i
   .subst hj;rw[hi] at e1;cases e1;rw[WT hiσ] at e2;cases e2;exact#[u,r,.inl #[hk,by simp]]
   .rw[Wx (Ne.symm hj)] at e2;let(u',r',q):=hl j y v' e1 e2 e3;show#[u',r',?_];rcases q with ⟨k,e⟩ | ⟨k,c,e,z⟩
    .refine .inl #[k,?_];have:y≠x:=λe=>hj (nU hN e1 (e▸hi));simp[this,e]
    .exact .inr #[k,c,e,z.sameBut hs (EH y c e)]
  .let(w',z):=I.cell y c e;exact#[w',z.sameBut hs (EH y c e)]
  .let(e,n,ne,nf,d):=I.pin p hp;exact#[(hs.2 p.1 ne).trans e,n,ne,nf,d]
 .have hfn:X.fn x=true:=by
   rcases hf with z | z
   .exact z
   .rw[z] at hk;cases hk
  let(c,hc):=I.ok.has x (.inl hk);let(w',z):=I.cell x c hc;show wpAny_storeName_cell I.ok.kind hk hc z (λh' hc' hs=>?_);let(oc,hoc,hocd):=id z;show h { s with heap:=h' } #[I.ok,I.os,I.bare,#[λb o e n hb hx=>?_,λb o e n hb hx=>?_,I.base.free,λb o e hx=>?_,I.base.rJ,I.base.pQ,I.base.sW],#[m,hn.sameBut hs (Ne.symm (EH x c hc)),λj y v' e1 e2 e3=>?_],λy c' e=>?_,I.free,I.fZ,λp hp=>?_,tracked #[oc,hoc,I.fZ x c hc] hs,by simpa using I.len] #[c,hs,.inr hc]
  .exact (hs.2 b (WK (WB (Ww e) (I.ok.JH x c hfn hc)))).trans (I.base.keep b o e n hb hx)
  .let(sl,e1):=I.base.slot b o e n hb hx;exact#[sl,(hs.2 b (WK (WB (Ww e) (I.ok.JH x c hfn hc)))).trans e1]
  .let(o',e1):=I.base.there b o e hx;exact#[o',(hs.2 b (WK (WB (Ww e) (I.ok.JH x c hfn hc)))).trans e1]
  .by_cases hj:j=i
   .subst hj;rw[hi] at e1;cases e1;rw[WT hiσ] at e2;cases e2;exact#[u,r,.inr #[.inl hk,c,hc,hc']]
   .rw[Wx (Ne.symm hj)] at e2;let(u',r',q):=hl j y v' e1 e2 e3;show#[u',r',?_];rcases q with q | ⟨k,c',e,z'⟩
    .exact .inl q
    .refine .inr #[k,c',e,z'.sameBut hs ?_];rintro rfl;exact hj (nU hN e1 (I.ok.inj _ _ _ e hc▸hi))
  .by_cases hcc:c'=c
   .subst hcc;exact#[_,hc']
   .let(w2,z2):=I.cell y c' e;exact#[w2,z2.sameBut hs hcc]
  .let(e,n,ne,nf,d):=I.pin p hp;show#[(hs.2 p.1 ?_).trans e,n,ne,nf,d];intro q;rw[q,hoc] at e;have q':oc=p.2:=WU e;exact d w' (by rw[<- q'];exact hocd)
theorem kH{M:Model}{A:Fk}{E:Yy}{i:Nat}{x:Str}{v:V}{u:AT}{Q:Unit->Da->Prop}(I:Inv X TW σ H s)(hN:X.N.Nodup)(hi:X.N[i]?=some x)(hx:Loc X.env.scope x)(r:RelV v u)(h:∀ s',Inv X TW (σ.set i (some v)) H s'->Q Unit.unit s')(hf:YE X x:=by ac_nf):EQ M A (storeName X.env x u) Q E s :=
 qB I hN hi hx r (λs' I' _=>h s' I') hf
theorem Inv.Fu{s':Da}{ch:!AC}(I:Inv X TW σ H s)(ho:s'.os=s.os)(u:Un (zZ X.stack) ch H H' s.heap s'.heap)(bf:jv X.prog X.w H' s'.heap)(hg:AllBare s'.gens)(pK:∀ b∈ch,(b∈X.ex\/X.s₀.heap.objs.size<=b)/\b≠X.env.locals/\(∀ x c,X.env.cells.lookup x=some c->c≠b)/\∀ p∈X.pn++TW,p.1≠b):Inv X TW σ H' s':=by
 let(h',g',d',t',o'):=s';have e:o'=s.os:=ho;subst e;exact I.call (g':=g') (t':=t') (d':=d') u bf hg pK
end
abbrev XK:=AT->Option AC->Hp->Prop
abbrev St:=!(Option V)
abbrev VK:=V->Hp->Prop
abbrev TE:=St->Hp->VK->Prop
abbrev TT:=St->Hp->(Bool->Hp->Prop)->Prop
abbrev TA:=St->Hp->(!V->Hp->Prop)->Prop
structure Ends where
 nx:St->Hp->Prop
 rt:VK
 bk:St->Hp->Prop:=λ_ _=>False
 ct:St->Hp->Prop:=λ_ _=>False
abbrev TS:=Ends->St->Hp->Prop
def EP(X:Cx)(TW:Yz)(σ:St)(Q:VK)(u:AT)(s':Da):Prop:=∃ v H',Inv X TW σ H' s'/\RelV v u/\Q v H'
def TP(X:Cx)(TW:Yz)(σ:St)(Q:Bool->Hp->Prop)(b:Bool)(s':Da):Prop:=∃ H',Inv X TW σ H' s'/\Q b H'
def AP(X:Cx)(TW:Yz)(σ:St)(Q:!V->Hp->Prop)(us:!AT)(s':Da):Prop:=∃ vs H',Inv X TW σ H' s'/\Vals vs us/\Q vs H'
def SP(X:Cx)(TW:Yz)(D:Ends)(f:Flow)(s':Da):Prop :=
 match f with
 | .next=>∃ σ' H',Inv X TW σ' H' s'/\D.nx σ' H'
 | .brk=>∃ σ' H',Inv X TW σ' H' s'/\D.bk σ' H'
 | .cont=>∃ σ' H',Inv X TW σ' H' s'/\D.ct σ' H'
 | .ret u=>∃ v σ' H',Inv X TW σ' H' s'/\RelV v u/\D.rt v H'
def PE(X:Cx)(e:Ch)(t:TE):Prop :=
 ∀ (TW:Yz) (s:Da) (σ:St) (H:Hp) (Q:VK),Inv X TW σ H s->t σ H Q->EQ (model X.prog X.w) X.A (eval e X.env) (EP X TW σ Q) X.xe s
def PT(X:Cx)(e:Ch)(t:TT):Prop :=
 ∀ (TW:Yz) (s:Da) (σ:St) (H:Hp) (Q:Bool->Hp->Prop),Inv X TW σ H s->t σ H Q->EQ (model X.prog X.w) X.A (isTrue e X.env (eval e X.env)) (TP X TW σ Q) X.xe s
def PW(X:Cx)(e:Ch)(t:TT):Prop :=
 ∀ (whole:Sem AT) (TW:Yz) (s:Da) (σ:St) (H:Hp) (Q:Bool->Hp->Prop),Inv X TW σ H s->t σ H Q->EQ (model X.prog X.w) X.A (isTrue e X.env whole) (TP X TW σ Q) X.xe s
theorem PW.pt{X:Cx}{e:Ch}{t:TT}(h:PW X e t):PT X e t:=h _
def PA(X:Cx)(es:!Ch)(t:TA):Prop :=
 ∀ (pos:Pos) (TW:Yz) (s:Da) (σ:St) (H:Hp) (Q:!V->Hp->Prop),Inv X TW σ H s->t σ H Q->EQ (model X.prog X.w) X.A (spliced (Ix pos (Go es X.env))) (AP X TW σ Q) X.xe s
def PS(X:Cx)(st:FM)(t:TS):Prop :=
 ∀ (TW:Yz) (s:Da) (σ:St) (H:Hp) (D:Ends),Inv X TW σ H s->t D σ H->EQ (model X.prog X.w) X.A (exec st X.env) (SP X TW D) X.xe s
def lQ(X:Cx)(st:!FM)(t:TS):Prop :=
 ∀ (TW:Yz) (s:Da) (σ:St) (H:Hp) (D:Ends),Inv X TW σ H s->t D σ H->EQ (model X.prog X.w) X.A (execs st X.env) (SP X TW D) X.xe s
theorem bW{α:Type}{t:Sem α}{Q Q':α->Da->Prop}{M:Model}{A:Fk}{E:Yy}{s:Da}(h:EQ M A t Q E s)(hQ:∀ a s,Q a s->Q' a s):EQ M A t Q' E s:=KB h hQ λ_ _ x=>x
theorem el2{α β:Type}{P Q R:α->β->Prop}{C:Prop}(h:∃ a b,P a b/\Q a b/\R a b)(k:∀ a b,P a b->Q a b->R a b->C):C:=h.elim λa h=>h.elim λb h=>k a b h.1 h.2.1 h.2.2
section
variable{X:Cx}
def bR(i:Nat):TE:=λσ H Q=>∃ v,σ[i]?=some (some v)/\Q v H
def tC(v:V):TE:=λ_ H Q=>Q v H
theorem v7{i:Nat}{x:Str}{pos:Pos}(hN:X.N[i]?=some x)(hv:JG X.env.scope x)(hd: ~~~(YD x))(pU: ~~~((x == ("__classdict__":Str))=false)):PE X (.Name x pos) (bR i):=by
 intro TW s σ H Q I h;let(v,e,h):=h;let(m,hn,hl):=I.loc;let(u,r,l):=hl i x v hN e hv;have fin:EP X TW σ Q u s:=#[v,H,I,r,h];rcases l with ⟨hk,hm⟩ | ⟨hk,c,hc,hcell⟩
 .exact wpAny_Name (wpAny_loadName_local I.ok.kind hk hn hm fin) hd
 .rcases hk with hk | hk
  .exact wpAny_Name (wpAny_loadName_cell I.ok.kind hk hc hcell fin) hd
  .exact wpAny_Name (wpAny_loadName_free I.ok.kind hk hc hcell fin pU) hd
theorem bH{i j pos}:PE X (.Constant (.int i) j pos) (tC (.int i)):=λ_ _ _ H _ I h=>wpAny_Constant_int #[.int i,H,I.tok _,#[_,U],h]
theorem F7{b j pos}:PE X (.Constant (.bool b) j pos) (tC (.bl b)):=λ_ _ _ H _ I h=>Constant_bool #[.bl b,H,I,U,h]
theorem Jh{j pos}:PE X (.Constant .none j pos) (tC .br):=λ_ _ _ H _ I h=>Constant_none #[.br,H,I,U,h]
theorem cD{x j pos}:PE X (.Constant (.str x) j pos) (tC (.str x)):=λ_ _ _ H _ I h=>Calls.Constant_str #[.str x,H,I.tok _,#[_,U],h]
def Gl(X:Cx)(x:Str):Prop:=X.env.kindOf x=some .globalImplicit
theorem gP{E:Yy}{TW:Yz}{s:Da}{σ:St}{H:Hp}{x:Str}{u:AT}{pos:Pos}{Q:Yy}(I:Inv X TW σ H s)(hg:Gl X x)(hm:X.mg x=some u)(h:Q u s)(hd: ~~~(YD x)):EQ (model X.prog X.w) X.A (eval (.Name x pos) X.env) Q E s :=
 Calls.Name_function_global I.ok.kind hg (Calls.loadGlobal_global (by rw[I.ok.glob];exact I.mod.glob.keeps I.bk) hm h) hd
theorem iH{E:Yy}{TW:Yz}{s:Da}{σ:St}{H:Hp}{x:Str}{u:AT}{pos:Pos}{Q:Yy}(I:Inv X TW σ H s)(hg:Gl X x)(hm:X.mg x=none)(hv:bootBuiltins x=some u)(h:Q u s)(hn: ~~~(x≠"__name__"))(hd: ~~~(YD x)):EQ (model X.prog X.w) X.A (eval (.Name x pos) X.env) Q E s:=by
 let(mb,h1,h2):=I.mod.blt;exact Calls.Name_function_global I.ok.kind hg (Calls.loadGlobal_builtin (by rw[I.ok.glob];exact I.mod.glob.keeps I.bk) hm (by rw[I.ok.blt];exact h1.keeps I.bk) ((h2 x hn).trans hv) h) hd
theorem eX{x:Str}{v:V}{u:AT}{pos:Pos}(hg:Gl X x)(hm:X.mg x=some u)(r:RelV v u)(hd: ~~~(YD x)):PE X (.Name x pos) (tC v) :=
 λ_ _ _ H _ I h=>gP I hg hm #[v,H,I,r,h] hd
theorem yz{x:Str}{v:V}{u:AT}{pos:Pos}(hg:Gl X x)(hm:X.mg x=none)(hv:bootBuiltins x=some u)(r:RelV v u)(hn: ~~~(x≠"__name__"))(hd: ~~~(YD x)):PE X (.Name x pos) (tC v) :=
 λ_ _ _ H _ I h=>iH I hg hm hv #[v,H,I,r,h] hn hd
variable{a b:Ch}{ta tb:TE}{pos:Pos}
def PC(X:Cx)(op:CmpOp)(a b:Ch)(t:TE):Prop :=
 ∀ (TW:Yz) (s:Da) (σ:St) (H:Hp) (Q:VK),Inv X TW σ H s->t σ H Q ->
  EQ (model X.prog X.w) X.A (eval a X.env) (λv s₁=>EQ (model X.prog X.w) X.A (eval b X.env) (λu s₂=>EQ (model X.prog X.w) X.A (IR op v u) (EP X TW σ Q) X.xe s₂) X.xe s₁) X.xe s
def tB(t:TE):TT:=λσ H Q=>t σ H λx H1=>∃ c,x=.bl c/\Q c H1
theorem BY{op:CmpOp}{t:TE}(h:PC X op a b t)(h1:behindInMarks op b=false:=by first | exact MA _ () () | rfl):PT X (.Compare a [op] [b] pos) (tB t):=by
 intro TW s σ H Q I hw;show wpAny_isTrue_Compare1 (bW (h TW s σ H _ I hw) λv s1 h1=>bW h1 λu s2 h2=>bW h2 λc s3 #[x,H1,I1,r1,q1]=>?_) h1;let(d,rfl,q):=q1;cases r1;exact wpAny_truthy_bool #[H1,I1,q]
theorem GU{e:Ch}{t:TE}(h:PE X e t)(he:∀ whole,isTrue e X.env whole=(do let v <- whole;standAt e.pos;holding [v] (truthy v)):=by intro _;rfl):PT X e (tB t):=by
 intro TW s σ H Q I hw;show isTrue_plain (bW (h TW s σ H _ I hw) λv s1 zz=>el2 zz λx H1 I1 r1 q1=>?_) (he _);let(d,rfl,q):=q1;cases r1;exact wpAny_truthy_bool #[H1,I1,q]
variable{tA NO:TT}{rest:!Ch}
def Nj(t u:TT):TT:=λσ H Q=>t σ H λc H1=>if c=true then u σ H1 Q else Q false H1
def Tx(t u:TT):TT:=λσ H Q=>t σ H λc H1=>if c=true then Q true H1 else u σ H1 Q
def OJ(t:TT):TT:=λσ H Q=>t σ H λc H1=>Q (not c) H1
theorem pw_and1(ha:PT X a tA):PW X (.BoolOp .And [a] pos) tA:=by
 intro wh TW s σ H Q I h;show isTrue_and (bW (ha TW s σ H Q I h) λc s1 e=>?_);cases c with
 | true=>exact isTrue_and_nil e
 | false=>exact e
theorem pw_or1(ha:PT X a tA):PW X (.BoolOp .Or [a] pos) tA:=by
 intro wh TW s σ H Q I h;show isTrue_or (bW (ha TW s σ H Q I h) λc s1 e=>?_);cases c with
 | false=>exact isTrue_or_nil e
 | true=>exact e
theorem pw_and(ha:PT X a tA)(hb:PW X (.BoolOp .And (b::rest) pos) NO):PW X (.BoolOp .And (a::b::rest) pos) (Nj tA NO):=by
 intro wh TW s σ H Q I h;show isTrue_and (bW (ha TW s σ H _ I h) λc s1 #[H1,I1,q1]=>?_);cases c with
 | true=>exact hb wh TW s1 σ H1 Q I1 q1
 | false=>exact#[H1,I1,q1]
theorem pw_or(ha:PT X a tA)(hb:PW X (.BoolOp .Or (b::rest) pos) NO):PW X (.BoolOp .Or (a::b::rest) pos) (Tx tA NO):=by
 intro wh TW s σ H Q I h;show isTrue_or (bW (ha TW s σ H _ I h) λc s1 #[H1,I1,q1]=>?_);cases c with
 | true=>exact#[H1,I1,q1]
 | false=>exact hb wh TW s1 σ H1 Q I1 q1
theorem AW(ha:PT X a tA):PT X (.UnaryOp .Not a pos) (OJ tA):=by
 intro TW s σ H Q I h;exact isTrue_not (ha TW s σ H (λc H1=>Q (not c) H1) I h)
def Mx(ta tb:TE):TE:=λσ H Q=>ta σ H λx H1=>∃ c,x=.bl c/\if c=true then tb σ H1 Q else Q (.bl false) H1
def Rp(ta tb:TE):TE:=λσ H Q=>ta σ H λx H1=>∃ c,x=.bl c/\if c=true then Q (.bl true) H1 else tb σ H1 Q
theorem vK{op}{t:TE}(h:PE X a t):PE X (.BoolOp op [a] pos) t:=λTW s σ H Q I hw=>BoolOp_one (h TW s σ H Q I hw)
theorem IG(ha:PE X a ta)(hb:PE X (.BoolOp .And (b::rest) pos) tb):PE X (.BoolOp .And (a::b::rest) pos) (Mx ta tb):=by
 intro TW s σ H Q I h;show BoolOp_and (bW (ha TW s σ H _ I h) λv s1 zz=>el2 zz λx H1 I1 r1 q1=>?_);let(c,rfl,q1):=q1;cases r1;show wpAny_truthy_bool ?_;cases c with
 | true=>exact hb TW s1 σ H1 Q I1 q1
 | false=>exact#[.bl false,H1,I1,U,q1]
theorem FQ(ha:PE X a ta)(hb:PE X (.BoolOp .Or (b::rest) pos) tb):PE X (.BoolOp .Or (a::b::rest) pos) (Rp ta tb):=by
 intro TW s σ H Q I h;show BoolOp_or (bW (ha TW s σ H _ I h) λv s1 z0q=>?_);let(x,H1,I1,r1,q1):=z0q;let(c,rfl,q1):=q1;cases r1;show wpAny_truthy_bool ?_;cases c with
 | false=>exact hb TW s1 σ H1 Q I1 q1
 | true=>exact#[.bl true,H1,I1,U,q1]
def VY(t:TT)(ta tb:TE):TE:=λσ H Q=>t σ H λc H1=>if c=true then ta σ H1 Q else tb σ H1 Q
theorem Aj{c:Ch}(hc:PT X c tA)(ha:PE X a ta)(hb:PE X b tb):PE X (.IfExp c a b pos) (VY tA ta tb):=by
 intro TW s σ H Q I h;show wpAny_IfExp (bW (hc TW s σ H _ I h) λd s1 #[H1,I1,q1]=>?_);cases d with
 | true=>exact ha TW s1 σ H1 Q I1 q1
 | false=>exact hb TW s1 σ H1 Q I1 q1
end
def dO(K:Frag)(H:Hp)(a:AC)(xs:!V):Prop :=
 Rd H a (.lst xs) \/
  ∃ (o:Obj) (its:Array AT) (n:Nat),K.lookup a=some o/\o.cls=.type "list"/\o.dict=none/\o.data=.seq its n/\its.size<=FB/\Vals xs its.toList
def iu(K:Frag)(H:Hp)(a:AC)(xs:!V):Prop :=
 Rd H a (.tup xs) \/
  ∃ (o:Obj) (its:Array AT) (n:Nat),K.lookup a=some o/\o.cls=.type "tuple"/\o.data=.seq its n/\its.size<=FB/\Vals xs its.toList
def PY:AT->Option V
 | .none=>some .br
 | .bool b=>some (.bl b)
 | .int i _=>some (.int i)
 | .str x _=>some (.str x)
 | .bytes b _=>some (.vv b)
 | .float b _=>some (.JP b)
 | .ref a=>some (.ref a)
 | .type n=>some (.ty n)
 | _=>none
theorem RelV.abs{x:V}{u:AT}(r:RelV x u):PY u=some x:=by
 cases x with
 | br=>cases r;rfl
 | bl _=>cases r;rfl
 | int _=>let(t,rfl):=r;rfl
 | str _=>let(t,rfl):=r;rfl
 | vv _=>let(t,rfl):=r;rfl
 | JP _=>let(t,rfl):=r;rfl
 | ref _=>cases r;rfl
 | ty _=>cases r;rfl
theorem RelV.inj{x y:V}{u:AT}(r:RelV x u)(q:RelV y u):x=y:=WU (r.abs.symm.trans q.abs)
theorem Vals.inj:∀ {xs ys:!V} {us:!AT},Vals xs us->Vals ys us->xs=ys
 | _,_,_,.nil,.nil=>rfl
 | _,_,_,.cons r t,.cons r' t'=>by rw[r.inj r',Vals.inj t t']
section
variable{X:Cx}{TW:Yz}{σ:St}{H:Hp}{s:Da}{a:AC}{xs ys:!V}
theorem dO.of{K:Frag}(h:H a=some (.lst xs)):dO K H a xs:=.inl (.inl h)
theorem iu.of{K:Frag}(h:H a=some (.tup xs)):iu K H a xs:=.inl (.inl h)
theorem Inv.list(I:Inv X TW σ H s)(h:dO X.K H a xs):∃ its:!AT,Vals xs its/\PlainL s.heap a its.toArray/\xs.length<=FB:=by
 rcases h with h | ⟨o,its,n,hk,hc,hd,hs,hz,r⟩
 .let(z,its,n,r,e):=h.ok I.bf;exact#[its,r,#[_,n,e,U,U,U],z]
 .refine#[its.toList,r,#[o,n,I.lz a o hk,hc,hd,by simpa using hs],?_];have e:=r.length;simp only[Array.length_toList] at e;cbv
theorem Inv.tuple(I:Inv X TW σ H s)(h:iu X.K H a xs):∃ its:!AT,Vals xs its/\IsTup s.heap a its.toArray/\xs.length<=FB:=by
 rcases h with h | ⟨o,its,n,hk,hc,hs,hz,r⟩
 .let(z,its,r,p):=h.ok I.bf;exact#[its,r,p.tup,z]
 .refine#[its.toList,r,#[o,I.lz a o hk,hc,n,by simpa using hs],?_];have e:=r.length;simp only[Array.length_toList] at e;cbv
theorem Inv.vf(I:Inv X TW σ H s)(h:dO X.K H a xs)(h':dO X.K H a ys):xs=ys:=by
 let(its,r,(o,n,e,_,_,d),_):=I.list h;let(its',r',(o',n',e',_,_,d'),_):=I.list h';rw[e] at e';cases e';rw[d] at d';injection d' with d1 _;have:its=its':=by simpa using congrArg Array.toList d1
 subst this;exact r.inj r'
theorem Inv.qO(I:Inv X TW σ H s)(h:iu X.K H a xs)(h':iu X.K H a ys):xs=ys:=by
 let(its,r,(o,e,_,n,d),_):=I.tuple h;let(its',r',(o',e',_,n',d'),_):=I.tuple h';rw[e] at e';cases e';rw[d] at d';injection d' with d1 _;have:its=its':=by simpa using congrArg Array.toList d1
 subst this;exact r.inj r'
end
abbrev Cx.o9(X:Cx)(E:Yy):Cx:={ X with xe:=E }
abbrev Cx.xp(X:Cx):Cx:=X.o9 λ_ _=>False
theorem Cx.Ok.o9{X:Cx}(ok:X.Ok)(E:Yy):(X.o9 E).Ok :=
 #[ok.mod,ok.kind,ok.glob,ok.blt,ok.above,ok.inj,ok.has,ok.JH,ok.hd,ok.frames,ok.KI,ok.M9,ok.bs,ok.Di,ok.zj,ok.yM,ok.lZ,ok.Gr]
theorem Cx.Ok.gK{X:Cx}{E:Yy}(ok:(X.o9 E).Ok):X.Ok :=
 #[ok.mod,ok.kind,ok.glob,ok.blt,ok.above,ok.inj,ok.has,ok.JH,ok.hd,ok.frames,ok.KI,ok.M9,ok.bs,ok.Di,ok.zj,ok.yM,ok.lZ,ok.Gr]
section
variable{X:Cx}{TW:Yz}{σ:St}{H:Hp}{s:Da}{E:Yy}
theorem Inv.o9(I:Inv X TW σ H s)(E:Yy):Inv (X.o9 E) TW σ H s:=#[I.ok.o9 E,I.os,I.bare,I.base,I.loc,I.cell,I.free,I.fZ,I.pin,I.bf,I.len]
theorem Inv.gK(I:Inv (X.o9 E) TW σ H s):Inv X TW σ H s:=#[I.ok.gK,I.os,I.bare,I.base,I.loc,I.cell,I.free,I.fZ,I.pin,I.bf,I.len]
theorem SP.gK{D:Ends}{f:Flow}{s':Da}(h:SP (X.o9 E) TW D f s'):SP X TW D f s':=by
 cases f with
 | next=>let(σ',H',I,q):=h;exact#[σ',H',I.gK,q]
 | brk=>let(σ',H',I,q):=h;exact#[σ',H',I.gK,q]
 | cont=>let(σ',H',I,q):=h;exact#[σ',H',I.gK,q]
 | ret u=>let(v,σ',H',I,r,q):=h;exact#[v,σ',H',I.gK,r,q]
theorem lQ.xp{st:!FM}{t:TS}(h:lQ X.xp st t):lQ X st t:=λTW s σ H D I hw =>
 KB (h TW s σ H D (I.o9 _) hw) (λ_ _ q=>q.gK) λ_ _ z=>False.elim z
end
section
variable{X:Cx}{st:FM}{rest:!FM}{t u:TS}{e:Ch}{te:TE}{pos:Pos}
def Gu:TS:=λD σ H=>D.nx σ H
def pC(t u:TS):TS:=λD σ H=>t { D with nx:=u D } σ H
theorem nB:lQ X [] Gu:=λ_ _ σ H _ I h=>wpAny_execs_nil #[σ,H,I,h]
theorem bP(h1:PS X st t)(h2:lQ X rest u):lQ X (st::rest) (pC t u):=by
 intro TW s σ H D I h;show wpAny_execs_cons (bW (h1 TW s σ H { D with nx:=u D } I h) λf s1 q=>?_);cases f with
 | next =>
  let(σ',H',I',q):=q;exact h2 TW s1 σ' H' D I' q
 | ret v=>exact q
 | brk=>exact q
 | cont=>exact q
theorem eh(h1:PS X st t):lQ X [st] t:=by
 intro TW s σ H D I h;show wpAny_execs_cons (bW (h1 TW s σ H D I h) λf s1 q=>?_);cases f with
 | next=>exact wpAny_execs_nil q
 | ret v=>exact q
 | brk=>exact q
 | cont=>exact q
theorem Inv.quiet{TW:Yz}{σ:St}{H:Hp}{s:Da}(I:Inv X TW σ H s):interactive X.env=false:=by simp[interactive,I.ok.kind]
def KJ(te:TE):TS:=λD σ H=>te σ H λ_ H1=>D.nx σ H1
theorem xT(he:PE X e te)(hs:(swapsWith e none pos.line X.env=pure false)⁻¹):PS X (.Expr e pos) (KJ te):=by
 intro TW s σ H D I h;exact wpAny_Expr_any (bW (he TW s σ H _ I h) λv s1 zz=>el2 zz λx H1 I1 r1 q1=>#[σ,H1,I1,q1]) I.quiet hs
def EN(te:TE):TS:=λD σ H=>te σ H D.rt
theorem iW(he:PE X e te):PS X (.Return (some e) pos) (EN te):=by
 intro TW s σ H D I h;exact wpAny_Return_some (bW (he TW s σ H _ I h) λv s1 zz=>el2 zz λx H1 I1 r1 q1=>#[x,σ,H1,I1,r1,q1])
def Lh(c:TT)(t u:TS):TS:=λD σ H=>c σ H λb H1=>if b=true then t D σ H1 else u D σ H1
theorem Cz{c:Ch}{a b:!FM}{tc:TT}(hc:PT X c tc)(ha:lQ X a t)(hb:lQ X b u):PS X (.If c a b pos) (Lh tc t u):=by
 intro TW s σ H D I h;show wpAny_If (bW (hc TW s σ H _ I h) λd s1 #[H1,I1,q1]=>?_);cases d with
 | true=>exact ha TW s1 σ H1 D I1 q1
 | false=>exact hb TW s1 σ H1 D I1 q1
def Jl:TS:=λ_ _ _=>False
theorem zP{mX:!FM}:lQ X mX Jl:=λ_ _ _ _ _ _ h=>h.elim
end
abbrev TG:=V->St->Hp->(St->Hp->Prop)->Prop
abbrev DV:=!V->St->Hp->(St->Hp->Prop)->Prop
def PG(X:Cx)(target:Ch)(t:TG):Prop :=
 ∀ (TW:Yz) (s:Da) (σ:St) (H:Hp) (v:V) (u:AT) (Q:St->Hp->Prop),Inv X TW σ H s->RelV v u->t v σ H Q ->
  EQ (model X.prog X.w) X.A (assign target X.env u) (λ_ s'=>∃ σ' H',Inv X TW σ' H' s'/\Q σ' H') X.xe s
def Gh(X:Cx)(ts:!Ch)(t:DV):Prop :=
 ∀ (TW:Yz) (s:Da) (σ:St) (H:Hp) (vs:!V) (us:!AT) (Q:St->Hp->Prop),Inv X TW σ H s->Vals vs us->t vs σ H Q ->
  EQ (model X.prog X.w) X.A (assignInOrder ((assignEach ts X.env).map (·.2)) us) (λ_ s'=>∃ σ' H',Inv X TW σ' H' s'/\Q σ' H') X.xe s
abbrev HN:=V->V->V->Hp->(Hp->Prop)->Prop
def KQ(X:Cx)(t:HN):Prop :=
 ∀ (TW:Yz) (s:Da) (σ:St) (H:Hp) (o i v:V) (ov iv u:AT) (Q:Hp->Prop),Inv X TW σ H s->RelV o ov->RelV i iv->RelV v u->t o i v H Q ->
  EQ (model X.prog X.w) X.A (setItem ov iv u) (λ_ s'=>∃ H',Inv X TW σ H' s'/\Q H') X.xe s
section
variable{X:Cx}{pos:Pos}
def dI(i:Nat):TG:=λv σ H Q=>Q (σ.set i (some v)) H
theorem er{i:Nat}{x:Str}(hN:X.N.Nodup)(hi:X.N[i]?=some x)(hx:Loc X.env.scope x)(hf:YE X x:=by ac_nf):PG X (.Name x pos) (dI i):=by
 intro TW s σ H v u Q I r h;exact wpAny_assign_Name (kH I hN hi hx r (λs' I'=>#[_,H,I',h]) hf)
def P8:DV:=λvs σ H Q=>vs=[]/\Q σ H
def M8(t:TG)(u:DV):DV:=λvs σ H Q=>∃ v r,vs=v::r/\t v σ H λσ' H'=>u r σ' H' Q
theorem ES:Gh X [] P8:=by
 intro TW s σ H vs us Q I r h;let(e,h):=h;subst e;cases r;exact assignInOrder_nil #[σ,H,I,h]
theorem CM{e:Ch}{es:!Ch}{t:TG}{u:DV}(h1:PG X e t)(h2:Gh X es u)(hs:((assignEach (e::es) X.env).map (·.2)=assign e X.env::(assignEach es X.env).map (·.2))⁻¹):Gh X (e::es) (M8 t u):=by
 intro TW s σ H vs us Q I r h;let(v,vr,e1,h):=h;subst e1;cases r with
 | cons r rr =>
  rw[hs];show assignInOrder_cons (bW (h1 TW s σ H _ _ _ I r h) λ_ s1 #[σ1,H1,I1,q1]=>?_);exact h2 TW s1 σ1 H1 _ _ Q I1 rr q1
def QQ(K:Frag)(n:Nat)(t:DV):TG:=λv σ H Q=>∃ a xs,v=.ref a/\iu K H a xs/\xs.length=n/\t xs σ H Q
theorem Ih{es:!Ch}{k:Nat}{t:DV}{n:Nat}(hc:X.calm=true)(h:Gh X es t)(hn:((assignEach es X.env).length=n)⁻¹)(nq:((assignEach es X.env).findIdx? (·.1)=none)⁻¹):PG X (.Tuple es k pos) (QQ X.K n t):=by
 intro TW s σ H v u Q I r hw;let(a,xs,e1,hq,hl,hw):=hw;subst e1;cases r;let(its,rv,ht,hz):=I.tuple hq;show assign_Tuple_tuple (I.ok.hd hc) ht (by simp[hn,<- hl,rv.length]) nq λh' hx=>?_;have I1:Inv X TW σ H { s with heap:=h' }:=I.kept (t':=s.toks) λb o e=>hx b o (WK (Ww e)) e;exact h TW _ σ H xs _ Q I1 (by simpa using rv) hw
def NB(to ti:TE)(t:HN):TG:=λv σ H Q=>to σ H λo H1=>ti σ H1 λi H2=>t o i v H2 λH3=>Q σ H3
theorem Im{o i:Ch}{to ti:TE}{t:HN}(ho:PE X o to)(hi:PE X i ti)(hs:KQ X t)(ha:∀ v,assign (.Subscript o i pos) X.env v=(do
   let ov <- holding [v] (eval o X.env);let iv <- holding [v,ov] (eval i X.env)
   standAt pos
   holding [v,ov,iv] (setItem ov iv v)
   release [v,ov,iv] []):=by intro _;rfl):PG X (.Subscript o i pos) (NB to ti t):=by
 intro TW s σ H v u Q I r h;rw[ha];show Db (PP (bW (ho TW s σ H _ I h) λov s1 z1q=>?_));let(x,H1,I1,r1,q1):=z1q;show Db (PP (bW (hi TW s1 σ H1 _ I1 q1) λiv s2 z2q=>?_));let(y,H2,I2,r2,q2):=z2q;show Db (wpAny_standAt (Db (PP (bW (hs TW s2 σ H2 x y v ov iv u _ I2 r1 r2 r q2) λ_ s3 z3q=>?_))));let(H3,I3,q3):=z3q;exact wpAny_release #[σ,H3,I3,q3]
def jx(te:TE)(g:TG):TS:=λD σ H=>te σ H λx H1=>g x σ H1 D.nx
theorem Bx{tg e:Ch}{te:TE}{g:TG}(he:PE X e te)(hg:PG X tg g)(hs:(swapsWithSole [tg] e pos.line X.env=pure false)⁻¹)(hw:(swappedStores [tg] e X.env=pure none)⁻¹)(h1:((assignEach [tg] X.env).map (·.2)=[assign tg X.env])⁻¹):PS X (.Assign [tg] e pos) (jx te g):=by
 intro TW s σ H D I h;show wpAny_Assign_stores (bW (he TW s σ H _ I h) λv s1 zz=>el2 zz λx H1 I1 r1 q1=>?_) hs hw;rw[h1];exact bW (hg TW s1 σ H1 x v _ I1 r1 q1) λ_ s2 q=>q
theorem eM{i:Nat}{x:Str}{e:Ch}{te:TE}{pos':Pos}(hN:X.N.Nodup)(hi:X.N[i]?=some x)(hx:Loc X.env.scope x)(he:PE X e te)(hs:(swapsWith e (some (.Name x pos')) pos.line X.env=pure false)⁻¹)(hf:YE X x:=by ac_nf) :
  PS X (.Assign [.Name x pos'] e pos) (jx te (dI i)):=by
 intro TW s σ H D I h;show wpAny_Assign_Name (bW (he TW s σ H _ I h) λv s1 zz=>el2 zz λy H1 I1 r1 q1=>?_) hs;exact kH I1 hN hi hx r1 (λs2 I2=>#[_,H1,I2,q1]) hf
def Ao(c:TT)(tb:TS):TS:=λD σ H=>∃ W:Nat->St->Hp->Prop,(∃ m,W m σ H)/\∀ m σ H,W m σ H ->
 c σ H λb H1=>if b=true then ∃ N:St->Hp->Prop,(∀ σ' H',N σ' H'->∃ m',m' < m/\W m' σ' H')/\tb { D with nx:=N,ct:=N,bk:=D.nx } σ H1 else D.nx σ H1
theorem uZ{c:Ch}{body:!FM}{tc:TT}{tb:TS}(hp:PassesOwn (model X.prog X.w) X.A X.env X.xe)(hc:PT X c tc)(hb:lQ X body tb):PS X (.While c body [] pos) (Ao tc tb):=by
 intro TW s σ H D I h;let(W,(m0,w0),turn):=h;show wpAny_While (codeAny_whileLoop (λn s'=>∃ σ' H',Inv X TW σ' H' s'/\W n σ' H') ?_ m0 #[σ,H,I,w0]);rintro n s1 ⟨σ1,H1,I1,w1⟩;show wpAny_passesOwn hp (bW (hc TW s1 σ1 H1 _ I1 (turn n σ1 H1 w1)) λb s2 z4q=>?_);let(H2,I2,q2):=z4q;cases b with
 | true =>
  let(N,hN,q2):=q2;rw[if_pos U];show wpAny_passesOwn hp (bW (hb TW s2 σ1 H2 _ I2 q2) λf s3 q3=>?_);cases f with
  | next =>
   let(σ3,H3,I3,n3):=q3;let(m',hm,w3):=hN σ3 H3 n3;exact#[m',hm,σ3,H3,I3,w3]
  | cont =>
   let(σ3,H3,I3,n3):=q3;let(m',hm,w3):=hN σ3 H3 n3;exact#[m',hm,σ3,H3,I3,w3]
  | brk=>exact q3
  | ret v=>exact q3
 | false =>
  rw[if_neg WC];exact wpAny_execs_nil #[σ1,H2,I2,q2]
end
structure It where
 go:Nat->Hp->Prop
 JZ:Nat->Hp->V->Hp->Prop
 stop:Nat->Hp->Prop
def iq(X:Cx)(TW:Yz)(H:Hp)(b:AC):Prop :=
 H b=none/\b≠X.env.locals/\b∉X.fs/\(b∈X.ex\/X.s₀.heap.objs.size<=b)/\(∀ x c,X.env.cells.lookup x=some c->c≠b)/\∀ p∈X.pn++TW,p.1≠b
theorem Inv.rK{X:Cx}{TW:Yz}{σ:St}{H H':Hp}{s:Da}{b:AC}(I:Inv X TW σ H s)(hb:↑s<=b)(hn:H' b=none):iq X TW H' b:=by
 show#[hn,Xx (WB I.lt hb),I.Mh hb,.inr (Wr I.sz hb),λx c e z=>?_,λp hp z=>?_]
 .let(v,q):=I.cell x c e;exact absurd (WB q.lt (by rw[z];exact hb)) (X1 _)
 .exact absurd (WB (Ww (I.pin p hp).1) (by rw[z];exact hb)) (X1 _)
structure Turn(P:Fa)(w:FS)(K:Frag)(tg:Ch)(J:It)(fp:!AC)(it:AC)(tn:Nat->Ev->Prop):Prop where
 mem:it∈fp
 obj:∀ i h,tn i h->∀ b∈fp,∃ o,h.get? b=some o/\∀ v,o.data≠.cell v
 keep:∀ i h h',tn i h->(∀ b∈fp,∀ o,h.get? b=some o->h'.get? b=some o)->tn i h'
 item:∀ (X:Cx),X.prog=P->X.w=w->X.K=K->X.calm=true->∀ (i:Nat) (TW:Yz) (s:Da) (σ:St) (H:Hp) (E:Yy),Inv X TW σ H s->(∀ b∈fp,iq X TW H b)->tn i s.heap->J.go i H ->
  EQ (model P w) X.A (pyNext (.ref it)) (λr s1=>∃ u,r=some u /\
   EQ (model P w) X.A (letOwnedTupleGo tg (.ref it) u) (λ_ s2=>∃ x H',Inv X TW σ H' s2/\RelV x u/\J.JZ i H x H'/\tn (i+1) s2.heap/\∀ b∈fp,H' b=none) E s1) E s
 done:∀ (X:Cx),X.prog=P->X.w=w->X.K=K->X.calm=true->∀ (i:Nat) (TW:Yz) (s:Da) (σ:St) (H:Hp) (E:Yy),Inv X TW σ H s->(∀ b∈fp,iq X TW H b)->tn i s.heap->J.stop i H ->
  EQ (model P w) X.A (pyNext (.ref it)) (λr s1=>r=none/\Inv X TW σ H s1) E s
 self:∀ (A:Fk) (i:Nat) (s:Da) (Q:Yy) (E:Yy),tn i s.heap->Q (.ref it) s->EQ (model P w) A (pyIter (.ref it)) Q E s
abbrev TI:=St->Hp->(It->Hp->Prop)->Prop
def Sg(X:Cx)(TW:Yz)(σ:St)(tg:Ch)(R:It->Hp->Prop)(NQ:AT)(s2:Da):Prop :=
 ∃ (it:AC) (fp:!AC) (tn:Nat->Ev->Prop) (J:It) (H':Hp),NQ=.ref it/\Inv X TW σ H' s2/\Turn X.prog X.w X.K tg J fp it tn/\tn 0 s2.heap/\(∀ b∈fp,iq X TW H' b)/\R J H'
def PI(X:Cx)(tg iter:Ch)(wi:TI):Prop :=
 ∀ (TW:Yz) (s:Da) (σ:St) (H:Hp) (R:It->Hp->Prop),Inv X TW σ H s->wi σ H R ->
  EQ (model X.prog X.w) X.A (eval iter X.env) (λv s1=>EQ (model X.prog X.w) X.A (pyIter v) (Sg X TW σ tg R) X.xe s1) X.xe s
theorem yE{M:Model}{A:Fk}{E:Yy}{s:Da}{tg:Ch}{it:AC}{u:AT}{o:Obj}{n:String}{vs:Array AT}{Q:Unit->Da->Prop}(ho:s.heap.get? it=some o)(hc:o.cls=.type n)(hd:o.data=.fields vs)(hn:["enumerate","zip","dict_itemiterator","dict_reverseitemiterator","odict_iterator","itertools.zip_longest","itertools.pairwise"].contains n=false)(hQ:Q Unit.unit s):EQ M A (letOwnedTupleGo tg (.ref it) u) Q E s:=by
 unfold letOwnedTupleGo;cases tg<;>first
  | exact Fr hQ
  | (cases u<;>first
    | exact Fr hQ
    | (show Db (wpAny_load ho ?_)
       rw[hc,hd];change EQ M A (if (["enumerate","zip","dict_itemiterator","dict_reverseitemiterator","odict_iterator","itertools.zip_longest","itertools.pairwise"].contains n&&vs[0]? == some (KM _))=true then _ else _) Q E s;rw[if_neg (by intro h;rw[hn,Bool.false_and] at h;cases h)];exact Fr hQ))
def HR(K:Frag)(a:AC):It :=
 #[λi H=>∃ xs x,dO K H a xs/\xs[i]?=some x,λi H x H'=>H'=H/\∀ xs,dO K H a xs->xs[i]?=some x,λi H=>∃ xs,dO K H a xs/\xs.length<=i]
def Tc(K:Frag)(a:AC):It :=
 #[λi H=>∃ xs x,iu K H a xs/\xs[i]?=some x,λi H x H'=>H'=H/\∀ xs,iu K H a xs->xs[i]?=some x,λi H=>∃ xs,iu K H a xs/\xs.length<=i]
def Oi(lo:Int)(n:Nat):It:=#[λi _=>i < n,λi H x H'=>H'=H/\x=.int (lo+i),λi _=>n<=i]
theorem qb{P:Fa}{w:FS}{K:Frag}{tg:Ch}(a it:AC):Turn P w K tg (HR K a) [it] it (λi h=>h.IsListIter it a i) where
 mem:=by simp
 obj:=λi h st b hb=>by
  have e:b=it:=by simpa using hb
  subst e;let(o,e,c,d):=st;exact#[o,e,λv z=>by rw[d] at z;cases z]
 keep:=λi h h' st k=>st.at λo e=>k it (by simp) o e
 item:=by
  intro X hP hw hK hc i TW s σ H E I hf st hg;subst hP hw hK;let(xs,x,hq,hx):=hg;let(its,rv,p,hz):=I.list hq;let(u,hu,ru):=rv.get hx;let(f0,f1,f2,f3,f4,f5):=hf it (by simp);show wpAny_pyNext_list_item st p.isList (x:=u) (by simpa using hu) λh' st' sb=>?_;have I1:Inv X TW σ H { s with heap:=h' }:=I.turned (t':=s.toks) (λb o hb e=>(sb.2 b hb).trans e) f0 f1 f3 f4 f5;let(o,e,c,d):=id st';exact#[u,U,yE (s:={ s with heap:=h' }) e c d () #[x,H,I1,ru,#[U,λys hy=>by rw[I.vf hy hq];exact hx],st',λb hb=>(hf b hb).1]]
 done:=by
  intro X hP hw hK hc i TW s σ H E I hf st hg;subst hP hw hK;let(xs,hq,hx):=hg;let(its,rv,p,hz):=I.list hq;let(f0,f1,f2,f3,f4,f5):=hf it (by simp);have hl:=rv.length;exact wpAny_pyNext_list_end (I.ok.hd hc) st p.isList (by simp;cbv) λh' eb=>#[U,I.turned (t':=s.toks) (λb o hb e=>eb b o hb e) f0 f1 f3 f4 f5]
 self:=λ_ _ _ _ _ st h=>wpAny_pyIter_listiter st h
theorem wK{P:Fa}{w:FS}{K:Frag}{tg:Ch}(a it:AC):Turn P w K tg (Tc K a) [it] it (λi h=>h.IsTupleIter it a i) where
 mem:=by simp
 obj:=λi h st b hb=>by
  have e:b=it:=by simpa using hb
  subst e;let(o,e,c,d):=st;exact#[o,e,λv z=>by rw[d] at z;cases z]
 keep:=λi h h' st k=>st.at λo e=>k it (by simp) o e
 item:=by
  intro X hP hw hK hc i TW s σ H E I hf st hg;subst hP hw hK;let(xs,x,hq,hx):=hg;let(its,rv,p,hz):=I.tuple hq;let(u,hu,ru):=rv.get hx;let(f0,f1,f2,f3,f4,f5):=hf it (by simp);show wpAny_pyNext_tuple_item st (show s.heap.IsTuple a its.toArray from p) (x:=u) (by simpa using hu) λh' st' sb=>?_;have I1:Inv X TW σ H { s with heap:=h' }:=I.turned (t':=s.toks) (λb o hb e=>(sb.2 b hb).trans e) f0 f1 f3 f4 f5;let(o,e,c,d):=id st';exact#[u,U,yE (s:={ s with heap:=h' }) e c d () #[x,H,I1,ru,#[U,λys hy=>by rw[I.qO hy hq];exact hx],st',λb hb=>(hf b hb).1]]
 done:=by
  intro X hP hw hK hc i TW s σ H E I hf st hg;subst hP hw hK;let(xs,hq,hx):=hg;let(its,rv,p,hz):=I.tuple hq;let(f0,f1,f2,f3,f4,f5):=hf it (by simp);have hl:=rv.length;exact wpAny_pyNext_tuple_end (I.ok.hd hc) st (show s.heap.IsTuple a its.toArray from p) (by simp;cbv) λh' eb=>#[U,I.turned (t':=s.toks) (λb o hb e=>eb b o hb e) f0 f1 f3 f4 f5]
 self:=λ_ _ _ _ _ st h=>wpAny_pyIter_tupleiter st h
theorem vM{P:Fa}{w:FS}{K:Frag}{tg:Ch}(it:AC)(lo:Int)(n:Nat):Turn P w K tg (Oi lo n) [it] it (λi h=>IsRangeIter h it (lo+(i:Nat) * 1) ((n:Int) - (i:Nat)) 1) where
 mem:=by simp
 obj:=λi h st b hb=>by
  have e:b=it:=by simpa using hb
  subst e;exact#[_,st,λv z=>by
   have z':Data.fields _=Data.cell v:=z;cases z']
 keep:=λi h h' st k=>k it (by simp) _ st
 item:=by
  intro X hP hw hK hc i TW s σ H E I hf st hg;subst hP hw hK;let(f0,f1,f2,f3,f4,f5):=hf it (by simp);have W:=Walks.range (prog:=X.prog) (w:=X.w) (I.ok.hd hc) it lo 1 n;show W.item i s _ _ hg st λv h' tk hv st' kk=>?_;let(t,rfl):=hv;have I1:Inv X TW σ H { s with heap:=h',toks:=tk }:=I.turned (λb o hb e=>kk b o (by simpa using hb) e) f0 f1 f3 f4 f5;show#[_,U,yE (s:={ s with heap:=h',toks:=tk }) (n:="range_iterator") st' U U () #[.int (lo+i),H,I1,#[t,?_],#[U,U],st',λb hb=>(hf b hb).1]];rw[Int.mul_one]
 done:=by
  intro X hP hw hK hc i TW s σ H E I hf st hg;subst hP hw hK;let(f0,f1,f2,f3,f4,f5):=hf it (by simp);exact wpAny_pyNext_range_end (I.ok.hd hc) st (by have:n<=i:=hg;cbv) λh' eb=>#[U,I.turned (t':=s.toks) (λb o hb e=>eb b o hb e) f0 f1 f3 f4 f5]
 self:=λ_ _ _ _ _ st h=>wpAny_pyIter_rangeiter st h
section
variable{X:Cx}{tg:Ch}
def yl(K:Frag)(tl:TE):TI:=λσ H R=>tl σ H λx H1=>∃ a,x=.ref a/\(∃ xs,dO K H1 a xs)/\R (HR K a) H1
theorem so{l:Ch}{tl:TE}(hl:PE X l tl):PI X tg l (yl X.K tl):=by
 intro TW s σ H R I h;show bW (hl TW s σ H _ I h) λv s1 z5q=>?_;let(x,H1,I1,r1,q1):=z5q;let(a,e,(xs,hq),q):=q1;subst e;cases r1;let(its,rv,p,hz):=I1.list hq;show wpAny_pyIter_list p.isList ?_;show#[↑s1,[↑s1],_,_,H1,U,I1.kept (t':=s1.toks) λb o e=>Wl _ e,qb a _,#[_,Wz _ U,U,U],λb hb=>?_,q];have e:b=↑s1:=by simpa using hb
 subst e;exact I1.rK (Wo _) (I1.bf.fresh (Wo _))
theorem Ad{TW:Yz}{σ:St}{H:Hp}{s:Da}{R:It->Hp->Prop}{E:Yy}{lo hi:Int}{t u v:Tok}{tk:Nat}(I:Inv X TW σ H s)(h1:-(2 ^ 62)<=lo)(h2:lo < 2 ^ 62)(h3:-(2 ^ 62)<=hi)(h4:hi < 2 ^ 62)(q:R (Oi lo (hi - lo).toNat) H):EQ (model X.prog X.w) X.A (pyIter (.ref ↑s)) (Sg X TW σ tg R) E { s with heap:=s.heap.push { cls:=.type "range",data:=.fields #v[.int lo t,.int hi u,.int 1 v] },toks:=tk }:=by
 show wpAny_pyIter_range (IsRange.new ..) (small_one h1 h2 h3 h4) ?_;have I1:Inv X TW σ H { s with heap:=s.heap.push { cls:=.type "range",data:=.fields #v[.int lo t,.int hi u,.int 1 v] },toks:=tk }:=I.kept λb o e=>Wl _ e;show#[(s.heap.push { cls:=.type "range",data:=.fields #v[.int lo t,.int hi u,.int 1 v] }).objs.size,[(s.heap.push { cls:=.type "range",data:=.fields #v[.int lo t,.int hi u,.int 1 v] }).objs.size],_,_,H,U,
  I1.kept (t':=tk) λb o e=>Wl _ e,vM _ lo (hi - lo).toNat,?_,λb hb=>?_,q]
 .have e1:lo+((0:Nat):Int) * 1=lo:=by simp
  have e2:(((hi - lo).toNat:Nat):Int) - ((0:Nat):Int)=GE.Range.rangeSize lo hi 1:=by rw[rangeSize_one];split<;>cbv
  change IsRangeIter _ _ (lo+((0:Nat):Int) * 1) ((((hi - lo).toNat:Nat):Int) - ((0:Nat):Int)) 1;rw[e1,e2];exact Wz _ U
 .have e:b=(s.heap.push { cls:=.type "range",data:=.fields #v[.int lo t,.int hi u,.int 1 v] }).objs.size:=by simpa using hb
  subst e;exact I1.rK (Wo _) (I1.bf.fresh (Wo _))
def Lf(ta:TA):TI:=λσ H R=>ta σ H λvs H1=>∃ j:Int,vs=[.int j]/\-(2 ^ 62)<=j/\j < 2 ^ 62/\R (Oi 0 j.toNat) H1
theorem zJ{a:Ch}{ta:TA}{p pos:Pos}(hg:Gl X "range")(hm:X.mg "range"=none)(ha:PA X [a] ta)(hs:(Go [a] X.env=[(false,eval a X.env)])⁻¹):PI X tg (.Call (.Name "range" p) [a] [] pos) (Lf ta):=by
 intro TW s σ H R I h;show Call_ (iH I hg hm boot_range (PyProof.Rows.callWith_type1 (bW (ha pos TW s σ H _ I h) λus s1 zz=>el2 zz λvs H1 I1 r1 q1=>?_) hs U));let(j,e,q1,q2,q):=q1;subst e;cases r1 with
 | cons r rr =>
  cases rr;let(t,rfl):=r;exact call_range_1 (Ad I1 (by cbv) (by cbv) q1 q2 (by simpa using q))
def Ni(wi:TI)(g:TG)(tb:TS):TS:=λD σ H=>wi σ H λJ H1=>∃ W:Nat->Nat->St->Hp->Prop,(∃ m,W 0 m σ H1)/\∀ i m σ H,W i m σ H ->
 (J.stop i H/\D.nx σ H)\/(J.go i H/\∃ N:St->Hp->Prop,(∀ σ' H',N σ' H'->∃ m',m' < m/\W (i+1) m' σ' H')/\∀ x H',J.JZ i H x H'->g x σ H' λσ2 H2=>tb { D with nx:=N,ct:=N,bk:=D.nx } σ2 H2)
def oO(fp:!AC)(h:Ev):Yz:=fp.filterMap λb=>(h.get? b).map λo=>(b,o)
theorem gU{fp:!AC}{h:Ev}{b:AC}{o:Obj}(hb:b∈fp)(e:h.get? b=some o):(b,o)∈oO fp h:=List.mem_filterMap.mpr #[b,hb,by rw[e];rfl]
theorem zF{fp:!AC}{h:Ev}{p:AC×Obj}(hp:p∈oO fp h):p.1∈fp/\h.get? p.1=some p.2:=by
 let(b,hb,e):=List.mem_filterMap.mp hp;cases q:h.get? b with
 | none=>rw[q] at e;cases e
 | some o =>
  rw[q] at e;have e':(b,o)=p:=WU e;subst e';exact#[hb,q]
theorem Inv.pinned{TW:Yz}{σ:St}{H:Hp}{s:Da}{fp:!AC}(I:Inv X TW σ H s)(hf:∀ b∈fp,iq X TW H b)(ho:∀ b∈fp,∃ o,s.heap.get? b=some o/\∀ v,o.data≠.cell v):Inv X (TW++oO fp s.heap) σ H s :=
 I.xx λp hp=>(WS.mp hp).elim (λz=>I.pin p (WR _ z)) λz=>by
  let(hb,e):=zF z;let(f0,f1,f2,_):=hf p.1 hb;let(o,e',d):=ho p.1 hb;rw[e] at e';cases e';exact#[e,f0,f1,f2,d]
theorem Inv.kW{TW pl:Yz}{σ:St}{H:Hp}{s:Da}(I:Inv X (TW++pl) σ H s):Inv X TW σ H s:=I.xx λp hp=>I.pin p (WR _ (W7 _ hp))
abbrev YF (i:Ch)(N:Env):Prop:=∀ x,foldedSetIterable i N x=pure x
theorem Bq{iter:Ch}{body:!FM}{wi:TI}{g:TG}{tb:TS}{pos:Pos}(hp:PassesOwn (model X.prog X.w) X.A X.env X.xe)(hc:X.calm=true)(hi:PI X tg iter wi)(hg:PG X tg g)(hb:lQ X body tb)(hs:YF iter X.env:=by intro _;rfl):PS X (.For tg iter body [] pos) (Ni wi g tb):=by
 intro TW s σ H D I h;show wpAny_For (bW (hi TW s σ H _ I h) λv s1 h1=>bW h1 λNQ s2 h2=>?_) hs;let(it,fp,tn,J,H2,e,I2,T,Jw,f2,W,(m0,w0),turn):=h2;subst e
 -- what stays true of the iterator's objects through the loop
 have stat:∀ {H':Hp},(∀ b∈fp,H' b=none)->∀ b∈fp,iq X TW H' b:=λhn b hb=>#[hn b hb,(f2 b hb).2];show codeAny_forLoop_any (λn s'=>∃ i σ' H',Inv X TW σ' H' s'/\tn i s'.heap/\(∀ b∈fp,H' b=none)/\W i n σ' H') ?_ m0 #[0,σ,H2,I2,Jw,λb hb=>(f2 b hb).1,w0];rintro n s3 ⟨i,σ3,H3,I3,st3,fr3,w3⟩;rcases turn i n σ3 H3 w3 with ⟨stop,qn⟩ | ⟨go,N,hN,step⟩
 .refine wpAny_passesOwn hp (bW (T.done X U U U hc i TW s3 σ3 H3 X.xe I3 (stat fr3) st3 stop) λr s4 z6q=>?_);let(hr,I4):=z6q;subst hr;exact wpAny_execs_nil #[σ3,H3,I4,qn]
 .refine wpAny_passesOwn hp (bW (T.item X U U U hc i TW s3 σ3 H3 X.xe I3 (stat fr3) st3 go) λr s4 z7q=>?_);let(u,hr,h4):=z7q;subst hr;show wpAny_passesOwn hp (bW h4 λ_ s5 z8q=>?_);let(x,H5,I5,r5,y5,st5,fr5):=z8q;have I5':=I5.pinned (stat fr5) (T.obj _ _ st5);show wpAny_passesOwn hp (bW (hg _ s5 σ3 H5 x u _ I5' r5 (step x H5 y5)) λ_ s6 z9q=>?_);let(σ6,H6,I6,q6):=z9q;show wpAny_passesOwn hp (bW (hb _ s6 σ6 H6 _ I6 q6) λf s7 q7=>?_);have again:∀ {σ7:St} {H7:Hp},Inv X (TW++oO fp s5.heap) σ7 H7 s7->N σ7 H7->∃ m,m < n/\∃ i σ' H',Inv X TW σ' H' s7/\tn i s7.heap/\(∀ b∈fp,H' b=none)/\W i m σ' H':=λ{σ7 H7} I7 n7=>by
   let(m',hm,w7):=hN σ7 H7 n7;show#[m',hm,i+1,σ7,H7,I7.kW,T.keep _ _ _ st5 λb hb o e=>(I7.pin (b,o) (WR _ (WR _ (gU hb e)))).1,λb hb=>?_,w7];let(o,e,d):=T.obj _ _ st5 b hb;exact (I7.pin (b,o) (WR _ (WR _ (gU hb e)))).2.1
  cases f with
  | next=>let(σ7,H7,I7,n7):=q7;exact again I7 n7
  | cont=>let(σ7,H7,I7,n7):=q7;exact again I7 n7
  | brk=>let(σ7,H7,I7,q7):=q7;exact#[σ7,H7,I7.kW,q7]
  | ret v=>let(x7,σ7,H7,I7,r7,q7):=q7;exact#[x7,σ7,H7,I7.kW,r7,q7]
end
theorem BP{K:Frag}{a:AC}{xs:!V}{g:TG}{tb:TS}{D:Ends}{σ:St}{H:Hp}(Pv:Nat->St->Hp->Prop)(h0:Pv 0 σ H)(hl:∀ i σ H,i<=xs.length->Pv i σ H->dO K H a xs)(hs:∀ i x σ H,xs[i]?=some x->Pv i σ H->g x σ H λσ2 H2=>tb { D with nx:=Pv (i+1),ct:=Pv (i+1),bk:=D.nx } σ2 H2)(hd:∀ σ H,Pv xs.length σ H->D.nx σ H) :
  ∃ W:Nat->Nat->St->Hp->Prop,(∃ m,W 0 m σ H)/\∀ i m σ H,W i m σ H ->
   ((HR K a).stop i H/\D.nx σ H)\/((HR K a).go i H/\∃ N:St->Hp->Prop,(∀ σ' H',N σ' H'->∃ m',m' < m/\W (i+1) m' σ' H')/\∀ x H',(HR K a).JZ i H x H'->g x σ H' λσ2 H2=>tb { D with nx:=N,ct:=N,bk:=D.nx } σ2 H2):=by
 show#[λi m σ H=>m=xs.length - i/\i<=xs.length/\Pv i σ H,#[xs.length,by simp,Nat.zero_le _,h0],?_];rintro i m σ H ⟨rfl,hi,p⟩;have q:=hl i σ H hi p;by_cases hZ:i < xs.length
 .refine .inr #[#[xs,xs[i],q,by simp[hZ]],Pv (i+1),λσ' H' p'=>#[xs.length - (i+1),by cbv,U,hZ,p'],λx H' y=>?_];let(e,y):=y;subst e;exact hs i x σ _ (y xs q) p
 .have e:i=xs.length:=by cbv
  subst e;exact .inl #[#[xs,q,Wo _],hd σ H p]
abbrev R2:=V->V->Hp->VK->Prop
def gF(X:Cx)(f:AT->AT->Sem AT)(r:R2):Prop :=
 ∀ (TW:Yz) (s:Da) (σ:St) (H:Hp) (x y:V) (v u:AT) (Q:VK),Inv X TW σ H s->RelV x v->RelV y u->r x y H Q ->
  EQ (model X.prog X.w) X.A (f v u) (EP X TW σ Q) X.xe s
def Pk(X:Cx)(f:AT->Sem AT)(r:V->Hp->VK->Prop):Prop :=
 ∀ (TW:Yz) (s:Da) (σ:St) (H:Hp) (x:V) (v:AT) (Q:VK),Inv X TW σ H s->RelV x v->r x H Q ->
  EQ (model X.prog X.w) X.A (f v) (EP X TW σ Q) X.xe s
def dB(X:Cx)(f:AT)(r:!V->Hp->VK->Prop):Prop :=
 ∀ (TW:Yz) (s:Da) (σ:St) (H:Hp) (xs:!V) (us:!AT) (Q:VK),Inv X TW σ H s->Vals xs us->r xs H Q ->
  EQ (model X.prog X.w) X.A (call f us) (EP X TW σ Q) X.xe s
def O3(X:Cx)(r:V->Hp->(Bool->Hp->Prop)->Prop):Prop :=
 ∀ (TW:Yz) (s:Da) (σ:St) (H:Hp) (x:V) (v:AT) (Q:Bool->Hp->Prop),Inv X TW σ H s->RelV x v->r x H Q ->
  EQ (model X.prog X.w) X.A (truthy v) (TP X TW σ Q) X.xe s
def iG(r:R2)(ta tb:TE):TE:=λσ H Q=>ta σ H λx H1=>tb σ H1 λy H2=>r x y H2 Q
def Vt(r:V->Hp->VK->Prop)(ta:TE):TE:=λσ H Q=>ta σ H λx H1=>r x H1 Q
def rI(C:Int->Int->Prop)(g:Int->Int->V):R2:=λx y H Q=>∃ i j,x=.int i/\y=.int j/\C i j/\Q (g i j) H
def rH(g:Int->Int->V):R2:=λx y H Q=>∃ i j,x=.int i/\y=.int j/\Q (g i j) H
def rU(g:Int->V):V->Hp->VK->Prop:=λx H Q=>∃ i,x=.int i/\Q (g i) H
section
variable{X:Cx}{a b c:Ch}{ta tb tc:TE}{pos:Pos}
theorem Ji(ha:PE X a ta)(hb:PE X b tb){TW:Yz}{s:Da}{σ:St}{H:Hp}{R:V->V->Hp->Prop}(I:Inv X TW σ H s)(h:ta σ H λx H1=>tb σ H1 λy H2=>R x y H2){Q:Yy}{f:AT->AT->Sem AT}(hf:∀ v u s2 x y H2,Inv X TW σ H2 s2->RelV x v->RelV y u->R x y H2->EQ (model X.prog X.w) X.A (f v u) Q X.xe s2) :
  EQ (model X.prog X.w) X.A (eval a X.env) (λv s₁=>EQ (model X.prog X.w) X.A (eval b X.env) (λu s₂=>EQ (model X.prog X.w) X.A (f v u) Q X.xe s₂) X.xe s₁) X.xe s:=by
 show bW (ha TW s σ H _ I h) λv s1 zz=>el2 zz λx H1 I1 r1 q1=>?_;show bW (hb TW s1 σ H1 _ I1 q1) λu s2 zz=>el2 zz λy H2 I2 r2 q2=>?_;exact hf v u s2 x y H2 I2 r1 r2 q2
theorem cX{op:Operator}{r:R2}(ho:gF X (Ps op) r)(ha:PE X a ta)(hb:PE X b tb):PE X (.BinOp a op b pos) (iG r ta tb):=by
 intro TW s σ H Q I h;exact wpAny_BinOp (Ji ha hb I h λv u s2 x y H2 I2 rx ry q=>ho TW s2 σ H2 x y v u Q I2 rx ry q)
theorem Lx{op:UnaryOp}{r:V->Hp->VK->Prop}(ho:Pk X (unaryOp op) r)(ha:PE X a ta):PE X (.UnaryOp op a pos) (Vt r ta):=by
 intro TW s σ H Q I h;exact UnaryOp_ (bW (ha TW s σ H _ I h) λv s1 zz=>el2 zz λx H1 I1 r1 q1=>ho TW s1 σ H1 x v Q I1 r1 q1)
theorem Oe{f:AT->AT->Sem AT}{C:Int->Int->Prop}{g:Int->Int->Int}(rule:∀ (i j:Int) (t u:Tok) (s:Da) (Q:Yy) (E:Yy),C i j->Q (.int (g i j) s.toks) { s with toks:=s.toks+1 }->EQ (model X.prog X.w) X.A (f (.int i t) (.int j u)) Q E s) :
  gF X f (rI C λi j=>.int (g i j)):=by
 intro TW s σ H x y v u Q I rx ry h;let(i,j,rfl,rfl,hc,q):=h;let(t,rfl):=rx;let(t',rfl):=ry;exact rule i j t t' s _ _ hc #[.int (g i j),H,I.tok _,#[_,U],q]
theorem KZ{f:AT->AT->Sem AT}{g:Int->Int->Int}(rule:∀ (i j:Int) (t u:Tok) (s:Da) (Q:Yy) (E:Yy),Q (.int (g i j) s.toks) { s with toks:=s.toks+1 }->EQ (model X.prog X.w) X.A (f (.int i t) (.int j u)) Q E s) :
  gF X f (rH λi j=>.int (g i j)):=by
 intro TW s σ H x y v u Q I rx ry h;let(i,j,rfl,rfl,q):=h;let(t,rfl):=rx;let(t',rfl):=ry;exact rule i j t t' s _ _ #[.int (g i j),H,I.tok _,#[_,U],q]
theorem Ec{f:AT->AT->Sem AT}{g:Int->Int->Bool}(rule:∀ (i j:Int) (t u:Tok) (s:Da) (Q:Yy) (E:Yy),Q (.bool (g i j)) s->EQ (model X.prog X.w) X.A (f (.int i t) (.int j u)) Q E s) :
  gF X f (rH λi j=>.bl (g i j)):=by
 intro TW s σ H x y v u Q I rx ry h;let(i,j,rfl,rfl,q):=h;let(t,rfl):=rx;let(t',rfl):=ry;exact rule i j t t' s _ _ #[.bl (g i j),H,I,U,q]
def Ko(i j:Int):Prop:=0<=j/\j<=1000000/\i.natAbs < 2 ^ 64
def rS(i j:Int):Prop:=(-(2 ^ 64) < i/\i < 2 ^ 64)\/(-(2 ^ 64) < j/\j < 2 ^ 64)
theorem rS.ok{i j:Int}(h:rS i j):IntMulOk i j:=by
 rcases h with ⟨h1,h2⟩ | ⟨h1,h2⟩
 .exact .of_left (intBits_le_64 h1 h2)
 .exact .of_right (intBits_le_64 h1 h2)
theorem cw:gF X (Ps .Add) (rH λi j=>.int (i+j)):=KZ λ_ _ _ _ _ _ _ q=>add_int q
theorem jP:gF X (Ps .Sub) (rH λi j=>.int (i - j)):=KZ λ_ _ _ _ _ _ _ q=>sub_int q
theorem i8:gF X (Ps .Mult) (rI rS λi j=>.int (i * j)):=Oe λ_ _ _ _ _ _ _ hc q=>mul_int q hc.ok
theorem gk:gF X (Ps .Mod) (rI (λ_ j=>0 < j) λi j=>.int (i % j)):=Oe λi j _ _ _ _ _ hc q=>by
 have h1:(0:Int) < j:=hc;exact mod_int' (by cbv) (by rw[Int.fmod_eq_emod_of_nonneg i (by cbv)];exact q)
theorem HU:gF X (Ps .Pow) (rI Ko λi j=>.int (i ^ j.toNat)):=Oe λ_ _ _ _ _ _ _ hc q=>pow_int_small hc.1 hc.2.1 hc.2.2 q
theorem UA{f:AT->Sem AT}{g:Int->Int}(rule:∀ (i:Int) (t:Tok) (s:Da) (Q:Yy) (E:Yy),Q (.int (g i) s.toks) { s with toks:=s.toks+1 }->EQ (model X.prog X.w) X.A (f (.int i t)) Q E s) :
  Pk X f (rU λi=>.int (g i)):=by
 intro TW s σ H x v Q I rx h;let(i,rfl,q):=h;let(t,rfl):=rx;exact rule i t s _ _ #[.int (g i),H,I.tok _,#[_,U],q]
theorem Jc:Pk X (unaryOp .USub) (rU λi=>.int (-i)):=UA λ_ _ _ _ _ q=>neg_int q
end
def EK:V->V->Bool
 | .br,.br=>true | .br,.int _=>true | .int _,.br=>true | .br,.bl _=>true | .bl _,.br=>true | .br,.str _=>true | .str _,.br=>true
 | .int _,.int _=>true | .bl _,.bl _=>true | .str _,.str _=>true | .vv _,.vv _=>true
 | .int _,.str _=>true | .str _,.int _=>true | .bl _,.str _=>true | .str _,.bl _=>true
 | _,_=>false
def QC:R2:=λx y H Q=>EK x y=true/\Q (.bl (decide (x=y))) H
def SU:R2:=λx y H Q=>EK x y=true/\Q (.bl (not (decide (x=y)))) H
theorem xy{i j:Int}:decide (V.int i=V.int j)=(i == j):=by
 rw[Yg];simp
theorem Bz{i j:Bool}:decide (V.bl i=V.bl j)=(i == j):=by
 rw[Yg];simp
theorem xb{i j:Str}:decide (V.str i=V.str j)=(i == j):=by
 rw[Yg];simp
theorem yd{i j:Array UInt8}:decide (V.vv i=V.vv j)=(i.toList == j.toList):=by
 rw[Yg];cases i;cases j;simp
section
variable{X:Cx}{a b c:Ch}{ta tb tc:TE}{pos:Pos}
theorem bc{TW:Yz}{σ:St}{H:Hp}{s:Da}{Q:VK}{k k':Bool}(I:Inv X TW σ H s)(q:Q (.bl k) H)(e:k=k'):EP X TW σ Q (.bool k') s:=by
 subst e;exact#[.bl k,H,I,U,q]
theorem aW:gF X (IR .Eq) QC:=by
 intro TW s σ H x y v u Q I rx ry h;let(hs,q):=h;cases x with
 | br =>
  cases rx;cases y with
  | br=>cases ry;exact PySem.EqNone.eq_none_none (bc I q (by simp))
  | bl j=>cases ry;exact PySem.EqNone.eq_none_bool (bc I q (by simp))
  | int j=>let(t',rfl):=ry;exact PySem.EqNone.eq_none_int (bc I q (by simp))
  | str j=>let(t',rfl):=ry;exact PySem.EqNone.eq_none_str (bc I q (by simp))
  | _=>exact absurd (show false=true from hs) WC
 | bl i =>
  cases rx;cases y with
  | br=>cases ry;exact PySem.EqNone.eq_bool_none (bc I q (by simp))
  | bl j=>cases ry;exact eq_bool (bc I q Bz)
  | str j=>let(t',rfl):=ry;exact PySem.EqMixed.eq_bool_str (bc I q (by simp))
  | _=>exact absurd (show false=true from hs) WC
 | int i =>
  let(t,rfl):=rx;cases y with
  | br=>cases ry;exact PySem.EqNone.eq_int_none (bc I q (by simp))
  | int j=>let(t',rfl):=ry;exact eq_int (bc I q xy)
  | str j=>let(t',rfl):=ry;exact PySem.EqMixed.eq_int_str (bc I q (by simp))
  | _=>exact absurd (show false=true from hs) WC
 | str i =>
  let(t,rfl):=rx;cases y with
  | br=>cases ry;exact PySem.EqNone.eq_str_none (bc I q (by simp))
  | bl j=>cases ry;exact PySem.EqMixed.eq_str_bool (bc I q (by simp))
  | int j=>let(t',rfl):=ry;exact PySem.EqMixed.eq_str_int (bc I q (by simp))
  | str j=>let(t',rfl):=ry;exact eq_str (bc I q xb)
  | _=>exact absurd (show false=true from hs) WC
 | vv i =>
  let(t,rfl):=rx;cases y with
  | vv j=>let(t',rfl):=ry;exact PySem.W.eq_bytes (bc I q yd)
  | _=>exact absurd (show false=true from hs) WC
 | _=>cases y<;>exact absurd (show false=true from hs) WC
theorem uP:gF X (IR .NotEq) SU:=by
 intro TW s σ H x y v u Q I rx ry h;let(hs,q):=h;cases x with
 | br =>
  cases rx;cases y with
  | br=>cases ry;exact PySem.EqNone.ne_none_none (bc I q (by simp))
  | bl j=>cases ry;exact PySem.EqNone.ne_none_bool (bc I q (by simp))
  | int j=>let(t',rfl):=ry;exact PySem.EqNone.ne_none_int (bc I q (by simp))
  | str j=>let(t',rfl):=ry;exact PySem.EqNone.ne_none_str (bc I q (by simp))
  | _=>exact absurd (show false=true from hs) WC
 | bl i =>
  cases rx;cases y with
  | br=>cases ry;exact PySem.EqNone.ne_bool_none (bc I q (by simp))
  | bl j=>cases ry;exact ne_bool (bc I q (congrArg not Bz))
  | str j=>let(t',rfl):=ry;exact PySem.EqMixed.ne_bool_str (bc I q (by simp))
  | _=>exact absurd (show false=true from hs) WC
 | int i =>
  let(t,rfl):=rx;cases y with
  | br=>cases ry;exact PySem.EqNone.ne_int_none (bc I q (by simp))
  | int j=>let(t',rfl):=ry;exact ne_int (bc I q (congrArg not xy))
  | str j=>let(t',rfl):=ry;exact PySem.EqMixed.ne_int_str (bc I q (by simp))
  | _=>exact absurd (show false=true from hs) WC
 | str i =>
  let(t,rfl):=rx;cases y with
  | br=>cases ry;exact PySem.EqNone.ne_str_none (bc I q (by simp))
  | bl j=>cases ry;exact PySem.EqMixed.ne_str_bool (bc I q (by simp))
  | int j=>let(t',rfl):=ry;exact PySem.EqMixed.ne_str_int (bc I q (by simp))
  | str j=>let(t',rfl):=ry;exact ne_str (bc I q (congrArg not xb))
  | _=>exact absurd (show false=true from hs) WC
 | vv i =>
  let(t,rfl):=rx;cases y with
  | vv j=>let(t',rfl):=ry;exact PySem.W.ne_bytes (bc I q (congrArg not yd))
  | _=>exact absurd (show false=true from hs) WC
 | _=>cases y<;>exact absurd (show false=true from hs) WC
theorem xh:gF X (IR .Lt) (rH λi j=>.bl (decide (i < j))):=Ec λ_ _ _ _ _ _ _ q=>lt_int q
theorem Fv:gF X (IR .LtE) (rH λi j=>.bl (decide (i<=j))):=Ec λ_ _ _ _ _ _ _ q=>le_int q
theorem kX:gF X (IR .Gt) (rH λi j=>.bl (decide (j < i))):=Ec λ_ _ _ _ _ _ _ q=>gt_int q
theorem FT:gF X (IR .GtE) (rH λi j=>.bl (decide (j<=i))):=Ec λ_ _ _ _ _ _ _ q=>ge_int q
theorem qi:gF X (IR .In) (λx y H Q=>∃ i j,x=.str i/\y=.str j/\Q (.bl (not ((GE.Str.occurrences j i 0 j.length 1).isEmpty))) H):=by
 intro TW s σ H x y v u Q I rx ry h;let(i,j,rfl,rfl,q):=h;let(t,rfl):=rx;let(t',rfl):=ry;exact in_str (bc I q U)
theorem lB:gF X (IR .Is) (λx y H Q=>y=.br/\Q (.bl (decide (x=.br))) H):=by
 intro TW s σ H x y v u Q I rx ry h;let(rfl,q):=h;cases ry;show is_none_gen (bc I q ?_);cases x<;>first
  | (cases rx;rfl)
  | (let(t,rfl):=rx;rfl)
theorem Dp:gF X (IR .IsNot) (λx y H Q=>y=.br/\Q (.bl (not (decide (x=.br)))) H):=by
 intro TW s σ H x y v u Q I rx ry h;let(rfl,q):=h;cases ry;show isnot_none_gen (bc I q ?_);cases x<;>first
  | (cases rx;rfl)
  | (let(t,rfl):=rx;rfl)
theorem av(b:Ch){op:CmpOp}(h: ~~~(op≠.In))(h2: ~~~(op≠.NotIn)):behindInMarks op b=false:=by
 have e1:(op == CmpOp.In)=false:=by cases op<;>first | rfl | exact absurd U h
 have e2:(op == CmpOp.NotIn)=false:=by cases op<;>first | rfl | exact absurd U h2
 cases b<;>simp[behindInMarks,e1,e2]
theorem sP{op:CmpOp}{r:R2}(ho:gF X (IR op) r)(ha:PE X a ta)(hb:PE X b tb)(hm:behindInMarks op b=false):PE X (.Compare a [op] [b] pos) (iG r ta tb):=by
 intro TW s σ H Q I h;exact wpAny_Compare1 (Ji ha hb I h λv u s2 x y H2 I2 rx ry q=>ho TW s2 σ H2 x y v u Q I2 rx ry q) hm
def pG(t:TE):TT:=λσ H Q=>t σ H λx H'=>∃ k,x=.bl k/\Q k H'
theorem hJ{op:CmpOp}{r:R2}(ho:gF X (IR op) r)(ha:PE X a ta)(hb:PE X b tb)(hm:behindInMarks op b=false):PT X (.Compare a [op] [b] pos) (pG (iG r ta tb)):=by
 intro TW s σ H Q I h;show wpAny_isTrue_Compare1 (bW (ha TW s σ H _ I h) λv s1 zz=>el2 zz λx H1 I1 r1 q1=>bW (hb TW s1 σ H1 _ I1 q1) λu s2 zz=>el2 zz λy H2 I2 r2 q2 =>
  bW (ho TW s2 σ H2 x y v u _ I2 r1 r2 q2) λc s3 #[z,H3,I3,r3,k,e,q3]=>?_) hm
 subst e;cases r3;exact wpAny_truthy_bool #[H3,I3,q3]
def vA(r r':R2)(ta tb tc:TE):TE:=λσ H Q=>ta σ H λx H1=>tb σ H1 λy H2=>r x y H2 λz H3=>∃ k,z=.bl k /\
 (if k=true then tc σ H3 λw' H4=>r' y w' H4 Q else Q (.bl false) H3)
theorem AH{op Ce:CmpOp}{r r':R2}(ho:gF X (IR op) r)(yO:gF X (IR Ce) r')(ha:PE X a ta)(hb:PE X b tb)(hc:PE X c tc)(hm:lastMarks [op,Ce] [b,c]=false:=by with_unfolding_all rfl):PE X (.Compare a [op,Ce] [b,c] pos) (vA r r' ta tb tc):=by
 intro TW s σ H Q I h;show Compare_chain (bW (ha TW s σ H _ I h) λv s1 zz=>el2 zz λx H1 I1 r1 q1=>chain_link (bW (hb TW s1 σ H1 _ I1 q1) λu s2 zz=>el2 zz λy H2 I2 r2 q2 =>
  bW (ho TW s2 σ H2 x y v u _ I2 r1 r2 q2) λd s3 #[z,H3,I3,r3,k,e,q3]=>?_)) hm
 subst e;cases r3;show wpAny_truthy_bool ?_;cases k with
 | false=>exact ite_ff #[.bl false,H3,I3,U,q3]
 | true=>exact ite_tt (chain_last (bW (hc TW s3 σ H3 _ I3 q3) λw' s4 zz=>el2 zz λz' H4 I4 r4 q4=>yO TW s4 σ H4 y z' u w' Q I4 r2 r4 q4))
theorem vj{op Ce:CmpOp}{r r':R2}(ho:gF X (IR op) r)(yO:gF X (IR Ce) r')(ha:PE X a ta)(hb:PE X b tb)(hc:PE X c tc)(hm:lastMarks [op,Ce] [b,c]=false:=by with_unfolding_all rfl):PT X (.Compare a [op,Ce] [b,c] pos) (pG (vA r r' ta tb tc)):=by
 intro TW s σ H Q I h;show isTrue_chain (bW (ha TW s σ H _ I h) λv s1 zz=>el2 zz λx H1 I1 r1 q1=>test_link (bW (hb TW s1 σ H1 _ I1 q1) λu s2 zz=>el2 zz λy H2 I2 r2 q2 =>
  bW (ho TW s2 σ H2 x y v u _ I2 r1 r2 q2) λd s3 #[z,H3,I3,r3,k,e,q3]=>?_)) hm
 subst e;cases r3;show wpAny_truthy_bool ?_;cases k with
 | false =>
  let(k',e',q'):=q3;cases e';exact ite_ff #[H3,I3,q']
 | true =>
  show ite_tt (test_last (bW (hc TW s3 σ H3 _ I3 q3) λw' s4 zz=>el2 zz λz' H4 I4 r4 q4=>bW (yO TW s4 σ H4 y z' u w' _ I4 r2 r4 q4) λd' s5 #[z2,H5,I5,r5,k2,e2,q5]=>?_));subst e2;cases r5;exact wpAny_truthy_bool #[H5,I5,q5]
def Lr(K:Frag)(x:V)(H:Hp)(k:Bool):Prop :=
 match x with
 | .br=>k=false
 | .bl b=>k=b
 | .int i=>k=(i != 0)
 | .str y=>y.length<=FB/\k=((y.length:Int) != 0)
 | .vv y=>y.size<=FB/\k=((y.size:Int) != 0)
 | .ref p=>(∃ xs,dO K H p xs/\k=(not xs.isEmpty))\/(∃ xs,iu K H p xs/\k=(not xs.isEmpty))\/∃ kvs,H p=some (.dK kvs)/\k=(not kvs.isEmpty)
 | _=>False
theorem wN{κ:Type}{kvs:!(κ×V)}{vs:!(κ×AT)}(r:KV kvs vs):(not vs.isEmpty)=(not kvs.isEmpty):=by
 cases r<;>rfl
theorem pq{xs:!V}{its:!AT}(r:Vals xs its):(not its.toArray.isEmpty)=(not xs.isEmpty):=by
 cases r<;>simp
theorem j3:(FB:Nat) < 2 ^ 63:=by rw[sizeLine_eq];decide
theorem IM:O3 X (λx H Q=>∃ k,Lr X.K x H k/\Q k H):=by
 intro TW s σ H x v Q I rx h;let(k,e,q):=h;have hl:=j3;have hs:FB=16777216:=sizeLine_eq;cases x with
 | br =>
  cases rx;have e':k=false:=e;subst e';exact truthy_none #[H,I,q]
 | bl b =>
  cases rx;have e':k=b:=e;subst e';exact wpAny_truthy_bool #[H,I,q]
 | int i =>
  let(t,rfl):=rx;have e':k=(i != 0):=e;subst e';exact PySem.P.truthy_int #[H,I,q]
 | str y =>
  let(t,rfl):=rx;obtain⟨hy,e'⟩:y.length<=FB/\k=((y.length:Int) != 0):=e;subst e';exact PySem.P.truthy_str (by cbv) #[H,I.tok _,q]
 | vv y =>
  let(t,rfl):=rx;obtain⟨hy,e'⟩:y.size<=FB/\k=((y.size:Int) != 0):=e;subst e';exact PySem.W.truthy_bytes (by cbv) #[H,I.tok _,q]
 | ref p =>
  cases rx;have e':(∃ xs,dO X.K H p xs/\k=(not xs.isEmpty))\/(∃ xs,iu X.K H p xs/\k=(not xs.isEmpty))\/∃ kvs,H p=some (.dK kvs)/\k=(not kvs.isEmpty):=e;rcases e' with ⟨xs,hx,e'⟩ | ⟨xs,hx,e'⟩ | ⟨kvs,hx,e'⟩
  .subst e';let(its,r,pl,hz):=I.list hx;have hlen:=r.length;exact wpAny_truthy_list pl.isList (by simp only[List.size_toArray];cbv) #[H,I.tok _,by rw[pq r];exact q]
  .subst e';let(its,r,pl,hz):=I.tuple hx;have hlen:=r.length;exact truthy_tuple pl (by simp only[List.size_toArray];cbv) #[H,I.tok _,by rw[pq r];exact q]
  .subst e';obtain⟨hz,hS,vs,r,m⟩:kvs.length<=FB/\(p == P3)=false/\∃ vs,KV kvs vs/\s.heap.DictOf (b9 X.prog X.w) p vs:=I.bf p _ hx;have hlen:kvs.length=vs.length:=Paired.length r;exact wpAny_truthy_dict hS m (by cbv) #[H,I.tok _,by rw[wN r];exact q]
 | _=>exact (show False from e).elim
theorem uV(ha:PE X a ta)(he:∀ whole,isTrue a X.env whole=(do let v <- whole;standAt a.pos;holding [v] (truthy v))) :
  PT X a (λσ H Q=>ta σ H λx H'=>∃ k,Lr X.K x H' k/\Q k H'):=by
 intro TW s σ H Q I h;exact isTrue_plain (bW (ha TW s σ H _ I h) λv s1 zz=>el2 zz λx H1 I1 r1 q1=>IM TW s1 σ H1 x v Q I1 r1 q1) (he _)
theorem aB:gF X (Ps .Add) (λx y H Q=>∃ i j,x=.str i/\y=.str j/\i.length+j.length<=FB/\Q (.str (i++j)) H):=by
 intro TW s σ H x y v u Q I rx ry h;let(i,j,rfl,rfl,hz,q):=h;let(t,rfl):=rx;let(t',rfl):=ry;exact add_str (λt' tk=>#[.str (i++j),H,I.tok _,#[_,U],q]) hz
theorem vals1{x:V}{us:!AT}(r:Vals [x] us):∃ u,us=[u]/\RelV x u:=by
 cases r with
 | cons r1 r2=>cases r2;exact#[_,U,r1]
theorem vals2{x y:V}{us:!AT}(r:Vals [x,y] us):∃ u w',us=[u,w']/\RelV x u/\RelV y w':=by
 cases r with
 | cons r1 r2 =>
  cases r2 with
  | cons r3 r4=>cases r4;exact#[_,_,U,r1,r3]
theorem lC(hc:X.calm=true):dB X (.builtin "max") (λxs H Q=>∃ i j,xs=[.int i,.int j]/\Q (.int (if j > i then j else i)) H):=by
 intro TW s σ H xs us Q I r h;let(i,j,rfl,q):=h;let(u,w',rfl,(t,rfl),(t',rfl)):=vals2 r;show max_two_ints (I.ok.hd hc) λh' tk k=>#[_,H,I.kept k,?_,q];by_cases hj:j > i
 .rw[if_pos hj,if_pos hj];exact#[_,U]
 .rw[if_neg hj,if_neg hj];exact#[_,U]
theorem yU(hc:X.calm=true):dB X (.builtin "min") (λxs H Q=>∃ i j,xs=[.int i,.int j]/\Q (.int (if j < i then j else i)) H):=by
 intro TW s σ H xs us Q I r h;let(i,j,rfl,q):=h;let(u,w',rfl,(t,rfl),(t',rfl)):=vals2 r;show min_two_ints (I.ok.hd hc) λh' tk k=>#[_,H,I.kept k,?_,q];by_cases hj:j < i
 .rw[if_pos hj,if_pos hj];exact#[_,U]
 .rw[if_neg hj,if_neg hj];exact#[_,U]
theorem cH:dB X (.type "int") (λxs H Q=>(∃ i,xs=[.int i]/\Q (.int i) H)\/∃ k,xs=[.bl k]/\Q (.int (if k then 1 else 0)) H):=by
 intro TW s σ H xs us Q I r h;rcases h with ⟨i,rfl,q⟩ | ⟨k,rfl,q⟩
 .let(u,rfl,t,rfl):=vals1 r;exact call_int_int #[.int i,H,I,#[_,U],q]
 .let(u,rfl,r1):=vals1 r;cases r1;exact call_int_bool #[.int (if k then 1 else 0),H,I.tok _,#[_,U],q]
theorem sL:dB X (.type "str") (λxs H Q=>∃ i,xs=[.int i]/\i.natAbs.log2 < 1920/\Q (.str (toString i)) H):=by
 intro TW s σ H xs us Q I r h;let(i,rfl,hz,q):=h;let(u,rfl,t,rfl):=vals1 r;exact PySem.P.str_of_int hz #[.str _,H,I.tok _,#[_,U],q]
end
structure vV(h:Ev)(x dx C:AC)(mA:Str->Option AT):Prop where
 obj:h.get? x=some (PySem.W.instObj C dx)
 ns:h.Ns1 dx mA
 ne:dx≠x
theorem zI{h:Ev}{dx:AC}{mA:Str->Option AT}(n:h.Ns1 dx mA):∃ od,h.get? dx=some od/\∀ name,PySem.W.lookIn name od=some (mA name):=by
 let(o,es,ep,ho,hd,hk,_,hm):=n;show#[o,ho,λname=>?_];have e:=hm name;unfold nsFind findBy at e;rw[<- Array.find?_toList] at e;unfold PySem.W.lookIn;rw[hd];dsimp only;split
 .rename_i y q
  rw[q] at e;exact congrArg some e
 .rename_i q
  rw[q] at e;have a:es.toList.any (·.refKey)=false:=by
   rw[List.any_eq_false];intro y hy;let(z,t,hkey):=hk y (Array.mem_toList_iff.mp hy);simp[Sc.refKey,hkey]
  have a':¬ es.toList.any (·.refKey)=true:=by rw[a];exact WC
  rw[if_neg a'];exact congrArg some e
theorem vV.look{h:Ev}{x dx C:AC}{mA:Str->Option AT}(I:vV h x dx C mA):∃ od,InstAt h x (PySem.W.instObj C dx) C (some od)/\∀ name,PySem.W.lookIn name od=some (mA name) :=
 let #[od,ho,hl]:=zI I.ns
 #[od,#[I.obj,U,U,ho],hl]
section
variable{prog:Fa}{w:FS}{A:Fk}{E:Yy}{s:Da}{K:Frag}{x dx C f:AC}{mA:Str->Option AT}{name:Str}{v:AT}
theorem get_map{expr:Bool}{Q:Yy}(X:K.In s.heap)(I:vV s.heap x dx C mA)(hg:PySem.W.plainGet K C name=true)(hh:PySem.W.hasDictIn K C=true)(ha:findIn K (.ref C) name=some none)(hv:mA name=some v)(Oo:PySem.W.handedIn v=true)(h:Q v { s with toks:=s.toks+1 }) :
  EQ (model prog w) A (getAttr (.ref x) name expr) Q E s:=by
 let(od,J,hl):=I.look;exact PySem.W.get_value X J (PySem.W.plainGet_of hg).1 (PySem.W.findObj_own hh ha U (by rw[hl,hv])) Oo h
theorem Ab{pl:Sem Bool}{Q:AT×!AT->Da->Prop}(X:K.In s.heap)(I:vV s.heap x dx C mA)(hg:PySem.W.plainGet K C name=true)(hf:findIn K (.ref C) name=some (some (.ref f)))(ht:PySem.W.isFn K (.ref f)=true)(hv:mA name=none)(h:Q (.ref f,[.ref x]) s) :
  EQ (model prog w) A (getMethod (.ref x) name pl) Q E s:=by
 let(od,J,hl):=I.look;exact PySem.W.method_fn X J (PySem.W.plainGet_of hg).1 (PySem.W.plainGet_of hg).2 hf (beq_iff_eq.mp ht) (by change (PySem.W.lookIn name od).map (·.isSome)=some false;rw[hl,hv];rfl) h
theorem El{ns:!Str}{Q:Unit->Da->Prop}(X:K.In s.heap)(I:vV s.heap x dx C mA)(hs:findIn K (.ref C) "__setattr__"=some (some (.builtin "object.__setattr__")))(hp:PySem.W.plainOver K C=true)(ht:PySem.W.takerIn K C name=some none)(hh:PySem.W.hasDictIn K C=true)(hw:PySem.Within mA ns)(hsz:ns.length<=FB)(h:∀ h',vV h' x dx C (λy=>if y=name then some v else mA y)->Ev.SameBut dx s.heap h'->Q Unit.unit { s with heap:=h',toks:=s.toks+2 }) :
  EQ (model prog w) A (setAttr (.ref x) name v) Q E s:=by
 let(od,J,hl):=I.look;show PySem.W.set_plain X J hs (PySem.W.osa_open (s:={ s with toks:=s.toks+1 }) (r:=none) X J hp ht λb=>?_);let(cd,hc,hd'):=PySem.W.any_some hh;have hx:s.heap.get? x=some #[.ref C,some dx,.plain,#v[]]:=I.obj;show Db (Fr (Db (Db (wpAny_loadPart hx (Db (Looks.here (s:={ s with toks:=s.toks+1 }) (PySem.W.looks_clsIn X hc) ?_))))));rw[hd'];show Fr (a:=some dx) (Db (Fr (Db ?_)));show wpAny_nsSet1 (s:={ s with toks:=s.toks+1 }) I.ns λh' JS tU=>?_;let(oD,esD,epD,hoD,MO,hcD):=JS.count (PySem.Within.cons name v hw);show Db (wpAny_lookBehind hoD (by rw[MO];exact pastItsLine_dict (Wr hcD (by rw[Ws];cbv))) ?_);exact Fr (h _ #[(tU.2 _ (Ne.symm I.ne)).trans I.obj,JS,I.ne] tU)
theorem Aw{R:Result->Da->Prop}{vs:!AT}{kw:!(Str×AT)}(X:K.In s.heap)(hm:PySem.W.makesIn K C=true)(hi:findIn K (.ref C) "__init__"=some (some (.ref f)))(hf:typeIn K (.ref f)=some (.type "function"))(h:codeAny (model prog w) (A.under (.builtin "type.__call__" #[.ref C::vs,kw])) (.call (.ref f) #[.ref (↑s+1)::vs,kw]) (PySem.W.InitBack (↑s+1) R)
   { s with heap:=(s.heap.push PySem.W.emptyDict).push (PySem.W.instObj C ↑s) }) :
  codeAny (model prog w) A (.call (.ref C) #[vs,kw]) R s:=by
 let(hh,g,d,t,os):=s;exact PySem.W.make_core (PySem.W.makes_of X hm) (Yt X hi) (λself=>PySem.W.bind_fn X self hf) (.inl U) h
end
def eA(f:Str)(v:V):!(Str×V)->!(Str×V)
 | []=>[(f,v)]
 | (g,x)::r=>if g=f then (g,v)::r else (g,x)::eA f v r
theorem mG(f g:Str)(v:V):∀ fs:!(Str×V),(eA f v fs).lookup g=if g=f then some v else fs.lookup g
 | []=>by
  change List.lookup g [(f,v)]=_;by_cases h:g=f
  .have hb:(g == f)=true:=beq_iff_eq.mpr h;simp only[List.lookup,hb,if_pos h]
  .have hb:(g == f)=false:=beq_eq_false_iff_ne.mpr h;simp only[List.lookup,hb,if_neg h]
 | (k,x)::r=>by
  have ih:=mG f g v r;rw[show eA f v ((k,x)::r)=(if k=f then (k,v)::r else (k,x)::eA f v r) from U];by_cases hk:k=f
  .rw[if_pos hk];by_cases h:g=k
   .have hb:(g == k)=true:=beq_iff_eq.mpr h;simp only[List.lookup,hb,if_pos (h.trans hk)]
   .have hb:(g == k)=false:=beq_eq_false_iff_ne.mpr h;simp only[List.lookup,hb,if_neg (λe:g=f=>h (e.trans hk.symm))]
  .rw[if_neg hk];by_cases h:g=k
   .have hb:(g == k)=true:=beq_iff_eq.mpr h;simp only[List.lookup,hb,if_neg (λe:g=f=>hk (h.symm.trans e))]
   .have hb:(g == k)=false:=beq_eq_false_iff_ne.mpr h;simp only[List.lookup,hb];exact ih
theorem lE(f:Str)(v:V):∀ fs:!(Str×V),f∈(eA f v fs).map (·.1)/\∀ g,g∈fs.map (·.1)->g∈(eA f v fs).map (·.1)
 | []=>#[by simp[eA],λg h=>by simp at h]
 | (k,x)::r=>by
  let(i1,i2):=lE f v r;rw[show eA f v ((k,x)::r)=(if k=f then (k,v)::r else (k,x)::eA f v r) from U];by_cases hk:k=f
  .rw[if_pos hk];subst hk;exact#[by simp,λg h=>by simpa using h]
  .rw[if_neg hk];show#[?_,λg h=>?_]
   .rw[Wu];exact Wq _ i1
   .rw[Wu] at h ⊢;rcases WI.mp h with e | e
    .exact WI.mpr (.inl e)
    .exact Wq _ (i2 g e)
theorem mC(f:Str)(v:V):∀ fs:!(Str×V),(eA f v fs).length<=fs.length+1
 | []=>by simp[eA]
 | (k,x)::r=>by
  have ih:=mC f v r;rw[show eA f v ((k,x)::r)=(if k=f then (k,v)::r else (k,x)::eA f v r) from U];by_cases hk:k=f
  .rw[if_pos hk,Ws,Ws];cbv
  .rw[if_neg hk,Ws,Ws];cbv
theorem gz.some_of{v:V}{o:Option AT}(r:gz (some v) o):∃ u,o=some u/\RelV v u:=by
 cases o with
 | none=>exact (show False from r).elim
 | some u=>exact#[u,U,r]
theorem gz.none_of{o:Option AT}(r:gz none o):o=none:=by
 cases o with
 | none=>rfl
 | some u=>exact (show False from r).elim
theorem zR{v:V}{u:AT}(r:RelV v u):PySem.W.handedIn u=true:=by
 cases v with
 | br=>cases (show u=AT.none from r);rfl
 | bl b=>cases (show u=AT.bool b from r);rfl
 | int i=>let(t,e):=(show ∃ t,u=AT.int i t from r);cases e;rfl
 | str x=>let(t,e):=(show ∃ t,u=AT.str x t from r);cases e;rfl
 | vv b=>let(t,e):=(show ∃ t,u=AT.bytes b t from r);cases e;rfl
 | JP b=>let(t,e):=(show ∃ t,u=AT.float b t from r);cases e;rfl
 | ref a=>cases (show u=AT.ref a from r);rfl
 | ty n=>cases (show u=AT.type n from r);rfl
section
variable{P:Fa}{w:FS}{H H':Hp}{h h':Ev}{a C dx:AC}{fs UR:!(Str×V)}
theorem rT(bf:jv P w H h)(e:H a=some (.ins C dx fs)):∃ mA,vV h a dx C mA/\(∀ f,gz (fs.lookup f) (mA f))/\PySem.Within mA (fs.map (·.1))/\fs.length<=1000/\H dx=some (.own a):=by
 let(d,z,ne,ob,mA,n,r,q):=(show cj P w H h a (.ins C dx fs) from bf a _ e);exact#[mA,#[ob,n,ne],r,q,z,d]
end
structure vy(K:Frag)(C:AC):Prop where
 pg:PySem.W.plainGet K C Str.empty=true
 hd:PySem.W.hasDictIn K C=true
 po:PySem.W.plainOver K C=true
 sa:findIn K (.ref C) "__setattr__"=some (some (.builtin "object.__setattr__"))
theorem vy.get{K:Frag}{C:AC}(c:vy K C)(f:Str):PySem.W.plainGet K C f=true:=c.pg
def ef(K:Frag)(C:AC)(f:Str):Prop:=findIn K (.ref C) f=some none
theorem ef.Na{K:Frag}{C:AC}{f:Str}(n:ef K C f):PySem.W.takerIn K C f=some none:=by
 unfold PySem.W.takerIn;rw[show findIn K (.ref C) f=some none from n]
 rfl
structure Meth(K:Frag)(C:AC)(m:Str)(f:AC):Prop where
 at_:findIn K (.ref C) m=some (some (.ref f))
 fn:PySem.W.isFn K (.ref f)=true
 kp:keepIn K (.ref f)=true
section
variable{X:Cx}{TW:Yz}{σ:St}{H:Hp}{s:Da}{a C dx:AC}{fs:!(Str×V)}{f:Str}{v:V}{A:Fk}{E:Yy}
theorem wb{b:Bool}{Q:Yy}(I:Inv X TW σ H s)(e:H a=some (.ins C dx fs))(c:vy X.K C)(n:ef X.K C f)(l:fs.lookup f=some v)(h:∀ u s',Inv X TW σ H s'->RelV v u->Q u s'):EQ (model X.prog X.w) A (getAttr (.ref a) f b) Q E s:=by
 let(mA,O,r,_,_,_):=rT I.bf e;let(u,hu,ru):=gz.some_of (v:=v) (o:=mA f) (by rw[<- l];exact r f);exact get_map I.lz O (c.get f) c.hd n hu (zR ru) (h u _ (I.tok _) ru)
theorem wq{m:Str}{g:AC}{pl:Sem Bool}{Q:AT×!AT->Da->Prop}(I:Inv X TW σ H s)(e:H a=some (.ins C dx fs))(c:vy X.K C)(k:Meth X.K C m g)(l:fs.lookup m=none)(h:Q (.ref g,[.ref a]) s):EQ (model X.prog X.w) A (getMethod (.ref a) m pl) Q E s:=by
 let(mA,O,r,_,_,_):=rT I.bf e;have hn:mA m=none:=gz.none_of (by rw[<- l];exact r m);exact Ab I.lz O (c.get m) k.at_ k.fn hn h
theorem wz{y:V}{u:AT}{Q:Unit->Da->Prop}(I:Inv X TW σ H s)(e:H a=some (.ins C dx fs))(c:vy X.K C)(n:ef X.K C f)(hl:fs.length < 1000)(ry:RelV y u)(h:∀ s',Inv X TW σ (upd H a (.ins C dx (eA f y fs))) s'->Q Unit.unit s'):EQ (model X.prog X.w) A (setAttr (.ref a) f u) Q E s:=by
 let(mA,O,r,wi,_,ho):=rT I.bf e;have hz:(fs.map (·.1)).length<=FB:=by rw[Wk,sizeLine_eq];cbv
 show El I.lz O c.sa c.po n.Na c.hd wi hz λh' O' sb=>h _ ?_;have hd:∃ o,h'.get? dx=some o:=let #[o,_,_,e',_]:=O'.ns;#[o,e'];show I.write (x:=a) (e:=dx) (by rw[e];exact True.intro) (.inr ho) (λb q hb z=>(sb.2 b hb).trans z) hd ?_;show#[by rw[au O.ne];exact ho,?_,O.ne,O'.obj,_,O'.ns,λg=>?_,λg hg=>?_]
 .have:=mC f y fs;cbv
 .show gz ((eA f y fs).lookup g) (if g=f then some u else mA g);rw[mG];by_cases q:g=f
  .rw[if_pos q,if_pos q];exact ry
  .rw[if_neg q,if_neg q];exact r g
 .by_cases q:g=f
  .rw[q];exact (lE f y fs).1
  .refine (lE f y fs).2 g (wi g λz=>hg ?_);change (if g=f then some u else mA g)=none;rw[if_neg q];exact z
theorem Inv.made(I:Inv X TW σ H s):Inv X TW σ (upd (upd H ↑s (.own (↑s+1))) (↑s+1) (.ins C ↑s []))
  { s with heap:=(s.heap.push PySem.W.emptyDict).push (PySem.W.instObj C ↑s) }:=by
 have e1:(s.heap.push PySem.W.emptyDict).get? ↑s=some PySem.W.emptyDict:=Wz s.heap U;have e2:((s.heap.push PySem.W.emptyDict).push (PySem.W.instObj C ↑s)).get? (↑s+1)=some (PySem.W.instObj C ↑s):=by
  have:=Wz (s.heap.push PySem.W.emptyDict) (o:=PySem.W.instObj C ↑s) U
  rwa [W9] at this
 have e3:(s.heap.push PySem.W.emptyDict).Ns ↑s (λ_=>none):=#[PySem.W.emptyDict,#v[],_,e1,U,(λe he=>absurd he (by simp)),λ_=>rfl];have I1:=I.laid (a:=↑s) (o:=.own (↑s+1)) (h':=s.heap.push PySem.W.emptyDict) (t':=s.toks) (λb u q=>Wl _ q) (Wo _) #[_,e1];show I1.laid (a:=↑s+1) (o:=.ins C ↑s []) (t':=s.toks) (λb u q=>Wl _ q) (Yu (W9 _ _)) ?_;have ne:↑s≠↑s+1:=WK (X6 _);show#[by rw[au ne,ax],WG _,ne,e2,λ_=>none,(Ev.Ns1.of_empty e3).at λo q=>Wl _ q,λ_=>True.intro,λy hy=>absurd U hy]
theorem Dq{prog:Fa}{w:FS}{env:Env}{e:Ch}{f:Str}{pos:Pos}{s:Da}{Q:Yy}(hb:attributeBase e f env (eval e env)=eval e env)(h:EQ (model prog w) A (eval e env) (λo s₁=>EQ (model prog w) A (getAttr o f true) Q E s₁) E s):EQ (model prog w) A (eval (.Attribute e f pos) env) Q E s :=
 Attribute_any_ h (by rw[arm_eval_Attribute,hb])
end
def QX(K:Frag)(ta:TE)(f:Str):TE:=λσ H Q=>ta σ H λx H1=>∃ a C dx fs v,x=.ref a/\H1 a=some (.ins C dx fs)/\vy K C/\ef K C f/\fs.lookup f=some v/\Q v H1
def PL(K:Frag)(ta tv:TE)(f:Str):TS:=λD σ H=>tv σ H λy H1=>ta σ H1 λx H2=>∃ a C dx fs,x=.ref a/\H2 a=some (.ins C dx fs)/\vy K C/\ef K C f/\fs.length < 1000 /\
 D.nx σ (upd H2 a (.ins C dx (eA f y fs)))
section
variable{X:Cx}{o e value:Ch}{f:Str}{pos pos' kc:Pos}{ta tv:TE}
theorem IX(he:PE X e ta)(hb:attributeBase e f X.env (eval e X.env)=eval e X.env):PE X (.Attribute e f pos) (QX X.K ta f):=by
 intro TW s σ H Q I h;show Dq hb (bW (he TW s σ H _ I h) λu s1 #[x,H1,I1,rx,a,C,dx,fs,v,ex,ea,c,n,l,q]=>?_);subst ex;obtain rfl:u=AT.ref a:=rx;exact wb I1 ea c n l λu' s2 I2 ru=>#[v,H1,I2,ru,q]
theorem wY(ha:PE X o ta)(hv:PE X value tv)(hs:swapsWith value (some (.Attribute o f pos')) pos.line X.env=pure false):PS X (.Assign [.Attribute o f pos'] value pos) (PL X.K ta tv f):=by
 intro TW s σ H D I h;show plainObj_wpAny_Assign_Attribute (bW (hv TW s σ H _ I h) λu s1 zz=>el2 zz λy H1 I1 ry q=>bW (ha TW s1 σ H1 _ I1 q) λov s2 #[x,H2,I2,rx,a,C,dx,fs,ex,ea,c,n,l,q2]=>?_) hs;subst ex;obtain rfl:ov=AT.ref a:=rx;exact wz I2 ea c n l ry λs3 I3=>#[σ,_,I3,q2]
end
section
variable{X:Cx}{TW:Yz}{σ:St}{H:Hp}{s:Da}{A:Fk}{E:Yy}{Q:Yy}{c:AT}{b:Bool}
end
structure bU(k:Nat)(A:Fk):Prop where
 hd:A.handled=none
 dp:A.depth+3 * k+5 < recursionLimit
 un:A.units+16 * k+200 < cLine
theorem bU.mono{j k:Nat}{A:Fk}(r:bU k A)(h:j<=k):bU j A:=#[r.hd,by have:=r.dp;cbv,by have:=r.un;cbv]
theorem bU.deeper{k:Nat}{A:Fk}(r:bU (k+1) A)(env:Env):bU k (A.deeper env) :=
 #[r.hd,by have:=r.dp;change A.depth+1+3 * k+5 < _;cbv,by have:=r.un;change A.units+3+16 * k+200 < _;cbv]
theorem wX{A:Fk}{C:AC}{us:!AT}{kw:!(Str×AT)}:(A.under (.builtin "type.__call__" #[.ref C::us,kw])).depth=A.depth+1:=by
 first | rfl | simp[Fk.under,Code.weight,Code.isCreation,Code.isGuard,Code.isCaller,Code.frames,Code.isFrame,guardIds]
theorem v3{A:Fk}{C:AC}{us:!AT}{kw:!(Str×AT)}:(A.under (.builtin "type.__call__" #[.ref C::us,kw])).units=A.units+1:=by
 first | rfl | simp[Fk.under,Code.cUnits,Code.frames,Code.isFrame]
theorem bU.make{k:Nat}{A:Fk}(r:bU (k+1) A)(C:AC)(us:!AT)(kw:!(Str×AT)):bU k (A.under (.builtin "type.__call__" #[.ref C::us,kw])) :=
 #[r.hd,by have:=r.dp;rw[wX];cbv,by have:=r.un;rw[v3];cbv]
theorem bU.depth{k:Nat}{A:Fk}(r:bU k A):A.depth < recursionLimit:=by have:=r.dp;cbv
theorem bU.units{k:Nat}{A:Fk}(r:bU k A):A.units+64 < cLine:=by have:=r.un;cbv
def sY:TA:=λ_ H Q=>Q [] H
def iI(ta:TE)(tr:TA):TA:=λσ H Q=>ta σ H λx H1=>tr σ H1 λxs H2=>Q (x::xs) H2
section
variable{X:Cx}{e:Ch}{es:!Ch}{te:TE}{t:TA}{pos:Pos}
theorem dR:PA X [] sY:=λ_ _ _ _ H Q I h=>Calls.spliced_nil #[[],H,I,.nil,h]
theorem aX(ha:PE X e te)(hr:PA X es t)(hs:(YB X.env e es)⁻¹):PA X (e::es) (iI te t):=by
 intro pos TW s σ H Q I h;rw[hs];change EQ _ _ (spliced ((false,eval e X.env)::Ix pos (Go es X.env))) _ _ s;show Calls.spliced_cons (bW (ha TW s σ H _ I h) λu s1 zz=>el2 zz λx H1 I1 r1 q1=>?_);exact bW (hr pos TW s1 σ H1 _ I1 q1) λus s2 zz=>el2 zz λxs H2 I2 r2 q2=>#[x::xs,H2,I2,.cons r1 r2,q2]
def MC(t:TA):TE:=λσ H Q=>t σ H λxs H1=>xs.length<=FB/\∀ p,H1 p=none->Q (.ref p) (upd H1 p (.tup xs))
def O1(t:TA):TE:=λσ H Q=>t σ H λxs H1=>xs.length<=FB/\∀ p,H1 p=none->Q (.ref p) (upd H1 p (.lst xs))
theorem Cj{x1}(h:PA X es t):PE X (.Tuple es x1 pos) (MC t):=by
 intro TW s σ H Q I hq;show wpAny_Tuple_spliced (bW (h pos TW s σ H _ I hq) λus s1 #[xs,H1,I1,r,z,q]=>#[by rw[<- r.length];exact z,?_]);have hf:H1 ↑s1=none:=I1.bf.fresh (Wo _);show#[.ref ↑s1,upd H1 ↑s1 (.tup xs),I1.laid (t':=s1.toks) (λb u e=>Wl _ e) (Wo _) ?_,U,q _ hf];exact#[z,us,r,iV.new _ _]
theorem Jj(h:PA X es t):PE X (.List es pos) (O1 t):=by
 intro TW s σ H Q I hq;show wpAny_List_spliced (bW (h pos TW s σ H _ I hq) λus s1 #[xs,H1,I1,r,z,q]=>#[by rw[<- r.length];exact z,?_]);have hf:H1 ↑s1=none:=I1.bf.fresh (Wo _);show#[.ref ↑s1,upd H1 ↑s1 (.lst xs),I1.laid (t':=s1.toks) (λb u e=>Wl _ e) (Wo _) ?_,U,q _ hf];exact#[z,us,0,r,Wz _ U]
end
abbrev Sp:=!V->Hp->VK->XK->Prop
abbrev we:=!Env->Hp->Da->XK->Yy
structure vz(P:Fa)(w:FS)(K:Frag)(mg:Str->Option AT)(base:Ev)(A:Fk)(outer:!Env)(s:Da)(H:Hp):Prop where
 frames:A.frames=some outer
 mod:Mod K mg base
 bs:∀ b o,base.get? b=some o->s.heap.get? b=some o/\H b=none
 Di:base.objs.size<=↑s
 lZ:s.heap.FunFrames base outer
 Gr:∀ b∈zZ outer,H b=none
 bf:jv P w H s.heap
 bare:AllBare s.gens
def CE(outer:!Env)(P:Fa)(w:FS)(H:Hp)(s:Da)(Q:VK)(u:AT)(s':Da):Prop :=
 ∃ v H',s'.os=s.os/\AllBare s'.gens/\Un (zZ outer) [] H H' s.heap s'.heap/\jv P w H' s'.heap/\RelV v u/\Q v H'
def CR(CX:we)(outer:!Env)(P:Fa)(w:FS)(H:Hp)(s:Da)(Q:VK)(E:XK)(r:Result)(s':Da):Prop :=
 match r with
 | .ok (.ret u)=>CE outer P w H s Q u s'
 | .ok _=>False
 | .error e=>CX outer H s E e s'
structure bY(P:Fa)(w:FS)(K:Frag)(mg:Str->Option AT)(base:Ev)(CX:we)(k:Nat)(f:AC)(fd:Gc)(ps:!Str)(sp:Sp):Prop where
 len:∀ vs H Q E,sp vs H Q E->vs.length=ps.length
 run:∀ (A:Fk) (outer:!Env) (s:Da) (H:Hp) (args:Args) (us:!AT) (vs:!V) (Q:VK) (E:XK),bU k A->vz P w K mg base A outer s H->BindsTo s fd args (ps.zip us)->Vals vs us->sp vs H Q E ->
  codeAny (model P w) A (.call (.ref f) args) (CR CX outer P w H s Q E) s
theorem bY.imp{P:Fa}{w:FS}{K:Frag}{mg:Str->Option AT}{base:Ev}{CX:we}{k:Nat}{f:AC}{fd:Gc}{ps:!Str}{sp LS:Sp}(F:bY P w K mg base CX k f fd ps sp)(h:∀ vs H Q E,LS vs H Q E->sp vs H Q E):bY P w K mg base CX k f fd ps LS :=
 #[λvs H Q E q=>F.len vs H Q E (h _ _ _ _ q),λA outer s H args us vs Q E hr he hb hv hs=>F.run A outer s H args us vs Q E hr he hb hv (h _ _ _ _ hs)]
theorem vz.make{P:Fa}{w:FS}{K:Frag}{mg:Str->Option AT}{base:Ev}{A:Fk}{outer:!Env}{s:Da}{H:Hp}(e:vz P w K mg base A outer s H)(C:AC)(us:!AT)(kw:!(Str×AT)) :
  vz P w K mg base (A.under (.builtin "type.__call__" #[.ref C::us,kw])) outer s H:=#[by first | exact e.frames | (simpa [Fk.under,Code.envs,Code.isFrame,pushEnvs] using e.frames),e.mod,e.bs,e.Di,e.lZ,e.Gr,e.bf,e.bare]
section
variable{X:Cx}{TW:Yz}{σ:St}{H:Hp}{s s':Da}
theorem Inv.Dv(I:Inv X TW σ H s):vz X.prog X.w X.K X.mg X.base X.A X.stack s H :=
 #[I.ok.frames,I.ok.mod,I.bs,Wr I.ok.Di I.sz,I.stack,I.su,I.bf,I.bare]
theorem Inv.after{Q:VK}{u:AT}(I:Inv X TW σ H s)(h:CE X.stack X.prog X.w H s Q u s'):EP X TW σ Q u s':=by
 let(v,H',os,bare,un,bf,r,q):=h;let(hh,g,d,t,os'):=s';obtain rfl:os'=s.os:=os;exact#[v,H',I.call (h':=hh) (g':=g) (d':=d) (t':=t) (ch:=[]) un bf bare (λb z=>absurd z (by simp)),r,q]
end
def AY(sp:Sp)(tj:!V)(E:XK)(t:TA):TE:=λσ H Q=>t σ H λvs H1=>sp (vs++tj) H1 Q E
def Ky(C:AC)(m:Str)(sp:Sp)(tj:!V)(E:XK)(ta:TE)(t:TA):TE:=λσ H Q=>ta σ H λx H1=>∃ a dx fs,x=.ref a/\H1 a=some (.ins C dx fs)/\fs.lookup m=none /\
 t σ H1 λvs H2=>sp (x::(vs++tj)) H2 Q E
def NI(C:AC)(sp:Sp)(tj:!V)(E:XK)(t:TA):TE:=λσ H Q=>t σ H λvs H1=>∀ x dx,H1 x=none->H1 dx=none->dx≠x ->
 sp (.ref x::(vs++tj)) (upd (upd H1 dx (.own x)) x (.ins C dx [])) (λv H2=>v=.br/\Q (.ref x) H2) E
def Binds(K:Frag)(fd:Gc)(ps:!Str)(ds:!AT):Prop :=
 ∀ (s:Da) (us:!AT),K.In s.heap->(us++ds).length=ps.length->BindsTo s fd #[us,[]] (ps.zip (us++ds))
theorem Binds.all{K:Frag}{fd:Gc}{ps:!Str}(h:∀ us:!AT,us.length=ps.length->bindArgs fd #[us,[]]=pure (ps.zip us)):Binds K fd ps []:=λs us _ hl=>by
 rw[WH] at hl ⊢;exact .of_eq (h us hl)
def Passes(CX:we)(X:Cx)(E:XK):Prop:=∀ (TW:Yz) (σ:St) (H:Hp) (s:Da) (e:AT) (s':Da),Inv X TW σ H s->CX X.stack H s E e s'->X.xe e s'
section
variable{X:Cx}{CX:we}{k:Nat}{f C:AC}{fd:Gc}{ps:!Str}{sp:Sp}{tj:!V}{ds:!AT}{E:XK}{x m:Str}{p pos apos:Pos}{e o:Ch}{es:!Ch}{ta:TE}{t:TA}
theorem BX{TW:Yz}{σ:St}{H:Hp}{s:Da}{Q:VK}{us:!AT}{vs:!V}(F:bY X.prog X.w X.K X.mg X.base CX k f fd ps sp)(hr:bU k X.A)(hb:Binds X.K fd ps ds)(hd:Vals tj ds)(hx:Passes CX X E)(I:Inv X TW σ H s)(r:Vals vs us)(h:sp (vs++tj) H Q E):EQ (model X.prog X.w) X.A (call (.ref f) us) (EP X TW σ Q) X.xe s:=by
 have r2:Vals (vs++tj) (us++ds):=r.append hd;have hl:(us++ds).length=ps.length:=by rw[<- r2.length];exact F.len _ _ _ _ h
 show wpAny_call (codeAny_mono (F.run X.A X.stack s H #[us,[]] (us++ds) (vs++tj) Q E hr I.Dv (hb s us I.lz hl) r2 h) λr s' hq=>?_);cases r with
 | error e=>exact hx TW σ H s e s' I hq
 | ok fl =>
  cases fl with
  | ret u=>exact I.after hq
  | next=>exact False.elim hq
  | brk=>exact False.elim hq
  | cont=>exact False.elim hq
theorem jb(F:bY X.prog X.w X.K X.mg X.base CX k f fd ps sp)(hr:bU k X.A)(hg:Gl X x)(hm:X.mg x=some (.ref f))(hk:keepIn X.K (.ref f)=true)(hb:Binds X.K fd ps ds)(hd:Vals tj ds)(hx:Passes CX X E)(ha:PA X (e::es) t)(gH: ~~~(YD x))(he:(YB X.env e es)⁻¹)(eR:(YC X.env pos es)⁻¹) :
  PE X (.Call (.Name x p) (e::es) [] pos) (AY sp tj E t):=by
 intro TW s σ H Q I h;show wpAny_Call_Name_kw (gP I hg hm ?_ gH);show Yh (h₀:=X.base) I.ok.mod.J1 hk (bW (ha pos TW s σ H _ I h) λus s1 zz=>el2 zz λvs H1 I1 r q=>#[I1.lz,?_]) he eR;exact BX F hr hb hd hx I1 r q
theorem xO{pl:Sem Bool}(he:PE X o ta)(c:vy X.K C)(hm:Meth X.K C m f)(F:bY X.prog X.w X.K X.mg X.base CX k f fd ps sp)(hr:bU k X.A)(hb:Binds X.K fd ps ds)(hd:Vals tj ds)(hx:Passes CX X E)(ha:PA X (e::es) t)(nq:(YB X.env e es)⁻¹)(eR:(YC X.env pos es)⁻¹)(ht:(eval (.Call (.Attribute o m apos) (e::es) [] pos) X.env=(do
   let ov <- eval o X.env
   standAt apos.atName
   let (f,first) <- holding [ov] (getMethod ov m pl)
   callWith pos f first (Ix pos (Go (e::es) X.env)) (Re pos (Rs [] X.env))))⁻¹) :
  PE X (.Call (.Attribute o m apos) (e::es) [] pos) (Ky C m sp tj E ta t):=by
 intro TW s σ H Q I h;show PySem.W.methodCall_KW (pl:=pl) (bW (he TW s σ H _ I h) λu s1 #[x,H1,I1,rx,a,dx,fs,ex,ea,l,q]=>?_) ht;subst ex;obtain rfl:u=AT.ref a:=rx;show wq I1 ea c hm l ?_;show Yh (first:=[.ref a]) (h₀:=X.base) I.ok.mod.J1 hm.kp (bW (ha pos TW s1 σ H1 _ I1 q) λus s2 zz=>el2 zz λvs H2 I2 r q2=>#[I2.lz,?_]) nq eR;exact BX (us:=.ref a::us) (vs:=.ref a::vs) F hr hb hd hx I2 (.cons U r) q2
structure Mk(K:Frag)(C f:AC):Prop where
 makes:PySem.W.makesIn K C=true
 init:findIn K (.ref C) "__init__"=some (some (.ref f))
 fn:PySem.W.isFn K (.ref f)=true
 kp:keepIn K (.ref C)=true
theorem Ar{TW:Yz}{σ:St}{H:Hp}{s:Da}{Q:VK}{us:!AT}{vs:!V}(M:Mk X.K C f)(F:bY X.prog X.w X.K X.mg X.base CX k f fd ps sp)(hr:bU (k+1) X.A)(hb:Binds X.K fd ps ds)(hd:Vals tj ds)(hx:Passes CX X E)(I:Inv X TW σ H s)(r:Vals vs us)(h:∀ x dx,H x=none->H dx=none->dx≠x->sp (.ref x::(vs++tj)) (upd (upd H dx (.own x)) x (.ins C dx [])) (λv H2=>v=.br/\Q (.ref x) H2) E) :
  EQ (model X.prog X.w) X.A (call (.ref C) us) (EP X TW σ Q) X.xe s:=by
 have hq:=h (↑s+1) ↑s (I.bf.fresh (Xw _)) (I.bf.fresh (Wo _)) (WK (X6 _));have I2:=Inv.made (C:=C) I;have r2:Vals (V.ref (↑s+1)::(vs++tj)) (AT.ref (↑s+1)::(us++ds)):=.cons U (r.append hd);have hl:(AT.ref (↑s+1)::us++ds).length=ps.length:=by
  have e:=r2.length;rw[F.len _ _ _ _ hq] at e;exact e.symm
 show wpAny_call (Aw (f:=f) I.lz M.makes M.init (beq_iff_eq.mp M.fn) (codeAny_mono (F.run _ X.stack _ _ #[AT.ref (↑s+1)::us,[]] (AT.ref (↑s+1)::(us++ds)) _ _ E (hr.make C us [])
  (I2.Dv.make C us []) (hb _ (AT.ref (↑s+1)::us) I2.lz hl) r2 hq) λr s' hq'=>?_))
 cases r with
 | error e=>exact hx TW σ _ _ e s' I2 hq'
 | ok fl =>
  cases fl with
  | ret u =>
   let(v,H',I3,rv,ev,q3):=I2.after hq';subst ev;exact#[rv,#[V.ref (↑s+1),H',I3,U,q3]]
  | next=>exact False.elim hq'
  | brk=>exact False.elim hq'
  | cont=>exact False.elim hq'
theorem EB(M:Mk X.K C f)(F:bY X.prog X.w X.K X.mg X.base CX k f fd ps sp)(hr:bU (k+1) X.A)(hg:Gl X x)(hm:X.mg x=some (.ref C))(hb:Binds X.K fd ps ds)(hd:Vals tj ds)(hx:Passes CX X E)(ha:PA X (e::es) t)(gH: ~~~(YD x))(he:(YB X.env e es)⁻¹)(eR:(YC X.env pos es)⁻¹) :
  PE X (.Call (.Name x p) (e::es) [] pos) (NI C sp tj E t):=by
 intro TW s σ H Q I h;show wpAny_Call_Name_kw (gP I hg hm ?_ gH);show Yh (h₀:=X.base) I.ok.mod.J1 M.kp (bW (ha pos TW s σ H _ I h) λus s1 zz=>el2 zz λvs H1 I1 r q=>#[I1.lz,?_]) he eR;exact Ar M F hr hb hd hx I1 r q
end
section
variable{X:Cx}{CX:we}{k:Nat}{f C:AC}{fd:Gc}{ps ks:!Str}{sp:Sp}{E:XK}{x m:Str}{p pos apos U2:Pos}{e o:Ch}{es:!Ch}{Wh:!NE}{te ta:TE}{t tk:TA}{nm:Option Str}
variable{g:!AT->!AT->!AT}{gV:!V->!V->!V}
end
structure aw(N P:!Str)(sc:Scope):Prop where
 kind:sc.kind=.function
 co:sc.isCoroutine=false
 gen:sc.isGenerator=false
 nd:N.Nodup
 pre:N.take P.length=P
 par:∀ x∈P,sc.names.lookup x=some .local\/sc.names.lookup x=some .cell
 Ja:∀ y∈sc.names,y.2≠.free
theorem qu{kindOf:Str->Option IN}{x:Str}:∀ {binds:!(Str×AT)} {m:Str->Option AT},(∀ v,(x,v)∉binds)->bindL kindOf binds m x=m x
 | [],_,_=>rfl
 | (n,v)::r,m,h=>by
  unfold bindL;rw[qu λw hw=>h w (Wq _ hw)];split
  .have:x≠n:=by rintro rfl;exact h v Wt
   simp[this]
  .rfl
theorem qm{kindOf:Str->Option IN}{x:Str}:∀ {binds:!(Str×AT)} {m:Str->Option AT},(∀ v,(x,v)∉binds)->bindC kindOf binds m x=m x
 | [],_,_=>rfl
 | (n,v)::r,m,h=>by
  unfold bindC;rw[qm λw hw=>h w (Wq _ hw)];split
  .rfl
  .have:x≠n:=by rintro rfl;exact h v Wt
   simp[this]
theorem qY{kindOf:Str->Option IN}{x:Str}{v:AT}:∀ {P:!Str} {vs:!AT} {i:Nat} {m:Str->Option AT},P.Nodup->P[i]?=some x->vs[i]?=some v->kindOf x=some .local ->
  bindL kindOf (P.zip vs) m x=some v
 | [],_,_,_,_,h,_,_=>by simp at h
 | _::_,[],_,_,_,_,h,_=>by simp at h
 | p::P,w::vs,0,m,nd,h1,h2,hk=>by
  simp at h1 h2;subst h1;subst h2;change bindL kindOf ((p,w)::P.zip vs) m p=_;unfold bindL;rw[qu λv hv=>(Xy.mp nd).1 (Xt hv).1,if_pos hk];simp
 | p::P,w::vs,i+1,m,nd,h1,h2,hk=>by
  change bindL kindOf ((p,w)::P.zip vs) m x=_;unfold bindL;exact qY (i:=i) (List.nodup_cons.mp nd).2 (by simpa using h1) (by simpa using h2) hk
theorem p9{kindOf:Str->Option IN}{x:Str}{v:AT}:∀ {P:!Str} {vs:!AT} {i:Nat} {m:Str->Option AT},P.Nodup->P[i]?=some x->vs[i]?=some v->kindOf x≠some .local ->
  bindC kindOf (P.zip vs) m x=some v
 | [],_,_,_,_,h,_,_=>by simp at h
 | _::_,[],_,_,_,_,h,_=>by simp at h
 | p::P,w::vs,0,m,nd,h1,h2,hk=>by
  simp at h1 h2;subst h1;subst h2;change bindC kindOf ((p,w)::P.zip vs) m p=_;unfold bindC;rw[qm λv hv=>(Xy.mp nd).1 (Xt hv).1,if_neg hk];simp
 | p::P,w::vs,i+1,m,nd,h1,h2,hk=>by
  change bindC kindOf ((p,w)::P.zip vs) m x=_;unfold bindC;exact p9 (i:=i) (List.nodup_cons.mp nd).2 (by simpa using h1) (by simpa using h2) hk
def start(N:!Str)(vs:!V):St:=vs.map some++List.replicate (N.length - vs.length) none
def jT(CX:we)(P:Fa)(w:FS)(K:Frag)(mg:Str->Option AT)(base:Ev)(N:!Str)(qual:Str)(scope:Scope)(f:AC)(cd:AT)(A:Fk)(outer:!Env)(s:Da)(H:Hp)(E:XK):Cx where
 prog:=P
 w:=w
 K:=K
 mg:=mg
 base:=base
 A:=A.deeper (envOfC qual scope ↑s f cd)
 N:=N
 s₀:=s
 H₀:=H
 env:=envOfC qual scope ↑s f cd
 outer:=outer
 stack:=envOfC qual scope ↑s f cd::outer
 ex:=[]
 calm:=true
 fn:=λ_=>true
 pn:=[]
 xe:=λe s'=>EQ (model P w) (A.deeper (envOfC qual scope ↑s f cd)) (leaving (envOfC qual scope ↑s f cd) e) (λ_ EZ=>CX outer H s E e EZ) (λe' EZ=>CX outer H s E e' EZ) s'
theorem vk{sc:Scope}{n:Nat}{x:Str}(h:sc.names.lookup x=some .cell):∃ c,(cellsFrom n sc.names []).lookup x=some c:=by
 have q:=PySem.W.cellsFrom_some sc.names n [] (.inl h);exact Xz.mp q
theorem zu{CX:we}{P:Fa}{w:FS}{K:Frag}{mg:Str->Option AT}{base:Ev}{N ps:!Str}{qual:Str}{scope:Scope}{f:AC}{cd:AT}{A:Fk}{outer:!Env}{s s1:Da}{H:Hp}{E:XK}{us:!AT}{vs:!V}(S:aw N ps scope)(hd:A.handled=none)(e0:vz P w K mg base A outer s H)(hl:vs.length=ps.length)(r:Vals vs us)(x:InCallC s ↑s (bindL (envOfC qual scope ↑s f cd).kindOf (ps.zip us) λ_=>none) (cellsFrom (↑s+1) scope.names []) (bindC (envOfC qual scope ↑s f cd).kindOf (ps.zip us) λ_=>none) s1) :
  Inv (jT CX P w K mg base N qual scope f cd A outer s H E) [] (start N vs) H s1:=by
 have eR:ps.length<=N.length:=by have:=congrArg List.length S.pre;rw[Xc] at this;cbv
 let(h1,tk,rfl,hk):=x.done;have noA:∀ b:AC,b∉(jT CX P w K mg base N qual scope f cd A outer s H E).ex:=λb z=>absurd (show b∈([]:!AC) from z) (by simp);show#[#[e0.mod,S.kind,U,U,Wo _,λy z c h1 h2=>?_,λy hy=>?_,λy c _ h=>?_,λ_=>hd,Fk.frames_deeper e0.frames,.inr #[U,U],λb z=>absurd z (noA b),e0.bs,e0.Di,λb _ _=>noA b,λb z=>absurd z (noA b),e0.lZ,e0.Gr],
  rfl,e0.bare,Un.kept hk,#[_,x.toInCall.ns,λi y v h1 h2 h3=>?_],λy c h=>#[_,x.cell y c h],e0.bf.fresh (Nat.le_refl _),λy c h=>?_,λp hp=>absurd (show p∈([]:Yz) from hp) (by simp),e0.bf.kept hk,?_]
 .exact name_of_addr x.apart (Xn h1) (Xn h2)
 .have hy:scope.names.lookup y=some .cell\/scope.names.lookup y=some .free:=hy;rcases hy with hy | hy
  .exact vk hy
  .exact absurd U (S.Ja _ (Xn hy))
 .exact XY (x.above y c (Xn h))
 .have hi:i < vs.length:=by
   unfold start at h2;by_cases hi:i < vs.length
   .exact hi
   .rw[List.getElem?_append_right (by simpa using hi)] at h2;rw[List.getElem?_replicate] at h2;split at h2<;>cases h2
  have ha:vs[i]?=some v:=by
   unfold start at h2;rw[List.getElem?_append_left (by simpa using hi),List.getElem?_map] at h2;cases e:vs[i]? with
   | none=>rw[e] at h2;cases h2
   | some a=>rw[e] at h2;cases h2;rfl
  let(u,hu,rv):=r.get ha;have hp:ps[i]?=some y:=by
   rw[<- S.pre,List.getElem?_take_of_lt (by cbv)];exact h1
  have ndP:ps.Nodup:=by rw[<- S.pre];exact S.nd.sublist (Xe _ _)
  show#[u,rv,?_];rcases S.par y (WX hp) with k | k
  .exact .inl #[k,qY ndP hp hu k]
  .let(c,e):=vk (n:=↑s+1) k;show .inr #[.inl k,c,e,?_];have q:=x.cell y c e;rw[p9 ndP hp hu (by change scope.names.lookup y≠_;rw[k];decide)] at q;exact q
 .exact e0.bf.fresh (XY (x.above y c (Xn h)))
 .unfold start;change _=N.length;rw[Wm,Wk,List.length_replicate];cbv
theorem Fj{CX:we}{P:Fa}{w:FS}{K:Frag}{mg:Str->Option AT}{base:Ev}{k:Nat}{f:AC}{name qual:Str}{params:Arguments}{body:!FM}{scope:Scope}{dV kV doc pm bq ct oc:AT}{an od:Option AC}{zU:Array (Option AT)}{N ps:!Str}{sp:Sp}(lk:K.lookup f=some #[oc,od,.func (fnOf name qual params body scope dV kV doc pm an bq ct),zU])(pU:codeIn K bq qual=true)(S:aw N ps scope)(len:∀ vs H Q E,sp vs H Q E->vs.length=ps.length)(vm:∀ (A:Fk) (outer:!Env) (s:Da) (H:Hp) (vs:!V) (Q:VK) (E:XK),bU k (A.deeper (envOfC qual scope ↑s f bq))->sp vs H Q E ->
   ∃ t,lQ (jT CX P w K mg base N qual scope f bq A outer s H E) body t/\t { nx:=λ_ H'=>Q .br H',rt:=Q } (start N vs) H) :
  bY P w K mg base CX (k+1) f (fnOf name qual params body scope dV kV doc pm an bq ct) ps sp:=by
 show#[len,λA outer s H args us vs Q E hr e0 hb r De=>?_];have hl:=len _ _ _ _ De;have KX:K.In s.heap:=e0.mod.J1.keeps λb o e=>(e0.bs b o e).1;have lim:s.heap.NoLimit:=e0.mod.nolimit.keeps λb o e=>(e0.bs b o e).1;have hkind:∀ y∈ps.zip us,scope.names.lookup y.1=some .local\/(scope.names.lookup y.1=some .cell/\((cellsFrom (↑s+1) scope.names []).lookup y.1).isSome=true):=λz2r hy=>by
  let(n,v):=z2r;rcases S.par n (Xt hy).1 with q | q
  .exact .inl q
  .exact .inr #[q,PySem.W.cellsFrom_some _ _ _ (.inl q)]
 show codeAny_call_function hr.depth (KX _ _ lk) U S.co S.gen U (PySem.W.codeRec_of KX pU) (hb _ _ _ _ ?_);show wpAny_newFunctionEnv_cells S.kind hkind λenv he s1 x=>?_;subst he;show#[lim.keeps x.toInCall.keep,codeAny_func ?_];let(t,ht,hq):=vm A outer s H vs Q E (hr.deeper _) De;have I:Inv (jT CX P w K mg base N qual scope f bq A outer s H E) [] (start N vs) H s1:=zu S hr.hd e0 hl r x;show KB (ht [] s1 (start N vs) H _ I hq) (λfl s' hs=>?_) λe s' hs=>hs;have fin:∀ {σ':St} {H':Hp} {v:V} {u:AT},Inv (jT CX P w K mg base N qual scope f bq A outer s H E) [] σ' H' s'->RelV v u->Q v H'->CE outer P w H s Q u s' :=
  λ{σ' H' v u} J rv q=>#[v,H',J.os,J.bare,J.base,J.bf,rv,q]
 cases fl with
 | ret u =>
  let(v,σ',H',J,rv,q):=hs;exact fin J rv q
 | next =>
  let(σ',H',J,q):=hs;exact fin (v:=V.br) (u:=AT.none) J U q
 | brk =>
  let(_,_,_,q):=hs;exact False.elim q
 | cont =>
  let(_,_,_,q):=hs;exact False.elim q
section
variable{X:Cx}{x:Str}{p pos:Pos}{e:Ch}{es:!Ch}{t:TA}{id T:String}{r:!V->Hp->VK->Prop}
def Df(r:!V->Hp->VK->Prop)(t:TA):TE:=λσ H Q=>t σ H λvs H1=>r vs H1 Q
theorem dw(hc:dB X (.builtin id) r)(hg:Gl X x)(hm:X.mg x=none)(hv:bootBuiltins x=some (.builtin id))(ha:PA X (e::es) t)(hn: ~~~(x≠"__name__"))(gH: ~~~(YD x))(he:(YB X.env e es)⁻¹)(eR:(YC X.env pos es)⁻¹):PE X (.Call (.Name x p) (e::es) [] pos) (Df r t):=by
 intro TW s σ H Q I h;show wpAny_Call_Name_kw (iH I hg hm hv ?_ hn gH);exact PyProof.Rows.callWith_builtin1 (bW (ha pos TW s σ H _ I h) λus s1 zz=>el2 zz λvs H1 I1 r1 q1=>hc TW s1 σ H1 vs us Q I1 r1 q1) he eR
theorem qh(hc:dB X (.type T) r)(hg:Gl X x)(hm:X.mg x=none)(hv:bootBuiltins x=some (.type T))(ha:PA X (e::es) t)(hn: ~~~(x≠"__name__"))(gH: ~~~(YD x))(he:(YB X.env e es)⁻¹)(eR:(YC X.env pos es)⁻¹):PE X (.Call (.Name x p) (e::es) [] pos) (Df r t):=by
 intro TW s σ H Q I h;show wpAny_Call_Name_kw (iH I hg hm hv ?_ hn gH);exact PyProof.Rows.callWith_type1 (bW (ha pos TW s σ H _ I h) λus s1 zz=>el2 zz λvs H1 I1 r1 q1=>hc TW s1 σ H1 vs us Q I1 r1 q1) he eR
end
end L2
namespace HT
open PySem PyProof.Rows
section
open PySem.SeqAt
open PySem.AutoSeq1 (wpAny_loadPart')
open PySem.MeetsSeq PySem.MeetsSeq2 PySem.MeetsSeq3
end
section
variable{prog:Fa}{w:FS}{A:Fk}{E:Yy}{s:Da}
def cq(n d:Nat):Option Int->Nat
 | none=>d
 | some v=>if v < 0 then (v+(n:Int)).toNat else min v.toNat n
theorem Hm(n d:Nat)(hd:d<=n)(o:Option Int):cq n d o<=n:=by
 cases o with
 | none=>exact hd
 | some v =>
  change (if v < 0 then (v+(n:Int)).toNat else min v.toNat n)<=n;by_cases hv:v < 0
  .rw[if_pos hv];cbv
  .rw[if_neg hv];exact Nat.min_le_right _ _
theorem yi(v:Int)(n d:Nat):(if v < 0 then max (v+(n:Int)) 0 else min v (n:Int))=((cq n d (some v):Nat):Int):=by
 change (if v < 0 then max (v+(n:Int)) 0 else min v (n:Int))=(((if v < 0 then (v+(n:Int)).toNat else min v.toNat n):Nat):Int);by_cases hv:v < 0
 .simp only[if_pos hv];cbv
 .simp only[if_neg hv];cbv
theorem wV(lo hi:Option Int)(n:Nat):GE.Slice.sliceAdjust lo hi 1 (n:Int)=(((cq n 0 lo:Nat):Int),((cq n n hi:Nat):Int)):=by
 have h1:¬ ((1:Int) < 0):=by cbv
 unfold GE.Slice.sliceAdjust;simp only[h1,if_false];show Prod.ext ?_ ?_
 .cases lo with
  | none=>rfl
  | some v=>exact yi v n 0
 .cases hi with
  | none=>rfl
  | some v=>exact yi v n n
theorem wR(i j:Nat):GE.Slice.slicePlaces (i:Int) (j:Int) 1=j - i:=by
 unfold GE.Slice.slicePlaces;have h1:(1:Int) > 0:=by cbv
 simp only[h1,if_true,Int.ediv_one];split<;>cbv
theorem oI{v:AT}{o:Option Int}{Q:Option Int->Da->Prop}(p:IsPart v o)(h:Q o s):EQ (model prog w) A (GE.Slice.slicePartIndex v) Q E s:=by
 cases p with
 | none=>exact slicePart_none h
 | int i t=>exact slicePart_int h
theorem gB{sl:AC}{vl vu:AT}{lo hi:Option Int}{n:Nat}{Q:Int×Int×Nat->Da->Prop}(hs:s.heap.IsSliceOf sl vl vu .none)(pl:IsPart vl lo)(pu:IsPart vu hi)(h:Q (((cq n 0 lo:Nat):Int),1,cq n n hi - cq n 0 lo) s):EQ (model prog w) A (GE.Slice.sliceApplied (.ref sl) (pure (n:Int))) Q E s:=by
 let(os,pV,hcs,hds):=id hs;unfold GE.Slice.sliceApplied GE.Slice.sliceFields;show Db (Db (KF pV hds (x:=vl) U (Db (KF pV hds (x:=vu) U (Db (KF pV hds (x:=.none) U (Fr ?_)))))));show Db (slicePart_none ?_);change EQ _ _ (if ((1:Int) == 0)=true then _ else _) _ _ s;rw[if_neg ()];show Db (oI pl (Db (oI pu (Db (Fr ?_)))));change EQ _ _ (match GE.Slice.sliceAdjust lo hi 1 (n:Int) with | (lo,hi)=>pure (lo,(1:Int),GE.Slice.slicePlaces lo hi 1)) _ _ s;rw[wV lo hi n];change EQ _ _ (pure (((cq n 0 lo:Nat):Int),(1:Int),GE.Slice.slicePlaces ((cq n 0 lo:Nat):Int) ((cq n n hi:Nat):Int) 1)) _ _ s;rw[wR];exact Fr h
theorem BE(xs:Array AT)(i k:Nat):((List.range k).filterMap λ(m:Nat)=>xs[((i:Int)+(m:Int) * 1).toNat]?).toArray=((xs.toList.drop i).take k).toArray:=by
 have e:(λ(m:Nat)=>xs[((i:Int)+(m:Int) * 1).toNat]?)=λm=>xs[i+m]?:=by
  funext m
  have:((i:Int)+(m:Int) * 1).toNat=i+m:=by cbv
  rw[this]
 rw[e];have:=pick_run xs i k;rw[List.filterMap_map] at this;have e2:((λx=>xs[x]?)∘λx=>i+x)=λm=>xs[i+m]?:=rfl;rw[e2] at this;rw[this]
theorem j8{t sl:AC}{items:Array AT}{vl vu:AT}{lo hi:Option Int}{Q:Yy}(ht:IsTup s.heap t items)(hs:s.heap.IsSliceOf sl vl vu .none)(pl:IsPart vl lo)(pu:IsPart vu hi)(hw:¬ (cq items.size 0 lo=0/\cq items.size items.size hi=items.size))(h:Q (.ref ↑s) { s with heap:=s.heap.push { cls:=.type "tuple",data:=.seq ((items.toList.drop (cq items.size 0 lo)).take (cq items.size items.size hi - cq items.size 0 lo)).toArray } })(hsz:items.size<=FB):EQ (model prog w) A (getItem (.ref t) (.ref sl)) Q E s:=by
 have htake:sizeOk (.seq ((items.toList.drop (cq items.size 0 lo)).take (cq items.size items.size hi - cq items.size 0 lo)).toArray):=by
  change ((items.toList.drop (cq items.size 0 lo)).take (cq items.size items.size hi - cq items.size 0 lo)).toArray.size<=FB;rw[WL,Xc,WY,Array.length_toList];cbv
 have hj:cq items.size items.size hi<=items.size:=Hm _ _ (Wo _) hi;let(os,pV,hcs,hds):=id hs;have hTs:s.TypeIs (.ref sl) "slice":=#[os,pV,hcs];unfold getItem
 try with_reducible show PP ?_
 first | show Db (Fr ?_) | skip
 show Db (wpAny_sequenceKey ht.typeIs () ?_);show Db (wpAny_callSpecial?_slot (name:=Str.ofString "__getitem__") ht.typeIs PyProof.Rows.slot_tuple_getitem
  (SZ PyProof.Rows.slot_tuple_getitem ht.typeIs entry_tuple_getitem ?_ (args_tuple_getitem _ _)))
 change EQ _ _ (GE.Tuple.tupleItemsOf (.ref t) >>= _) _ _ s;show Db (tupleItemsOf_ ht ?_);show Db (wpAny_typeOf hTs ?_);rw[if_pos ()];show Db (gB hs pl pu ?_);have hno:¬ ((((cq items.size 0 lo:Nat):Int) == 0&&(1:Int) == 1&&(cq items.size items.size hi - cq items.size 0 lo) == items.size)=true):=by
  intro q;rw[W4,W4] at q;have q1:((cq items.size 0 lo:Nat):Int)=0:=eq_of_beq q.1.1;have q2:cq items.size items.size hi - cq items.size 0 lo=items.size:=eq_of_beq q.2;exact hw #[by cbv,by cbv]
 change EQ _ _ (if (((cq items.size 0 lo:Nat):Int) == 0&&(1:Int) == 1&&(cq items.size items.size hi - cq items.size 0 lo) == items.size)=true then _ else _) _ _ s;rw[if_neg hno,BE]
 first
  | exact Db (m:=GE.Tuple.tupleExact _) (ST (Fr #[_,U,Fr h]) htake)
  | exact Db (m:=GE.Tuple.tupleExact _) (ST (Db (Fr (Fr #[_,U,Fr h]))) htake)
  | exact Db (Db (m:=GE.Tuple.tupleExact _) (ST (Fr (Fr #[_,U,Fr h])) htake))
  | exact Db (Db (m:=GE.Tuple.tupleExact _) (ST (Fr #[_,U,Fr h]) htake))
end
end HT
namespace L2
open PySem PySem.Spec PyProof.Rows
abbrev TO:=St->Hp->(Option Int->Hp->Prop)->Prop
def PO(X:Cx)(e:Option Ch)(t:TO):Prop :=
 ∀ (TW:Yz) (s:Da) (σ:St) (H:Hp) (Q:Option Int->Hp->Prop),Inv X TW σ H s->t σ H Q ->
  EQ (model X.prog X.w) X.A (evalPart e X.env) (λu s'=>∃ o H',Inv X TW σ H' s'/\IsPart u o/\Q o H') X.xe s
def xq:TO:=λ_ H Q=>Q none H
def xQ(t:TE):TO:=λσ H Q=>t σ H λx H1=>∃ i,x=.int i/\Q (some i) H1
section
variable{X:Cx}{e:Ch}{te:TE}{lo hi:Option Ch}{tl th:TO}{pos p2:Pos}
theorem yk:PO X none xq:=by
 intro TW s σ H Q I h;rw[evalPart_none];exact Fr #[none,H,I,.none,h]
theorem nE(h:PE X e te):PO X (some e) (xQ te):=by
 intro TW s σ H Q I hw;rw[evalPart_some];show bW (h TW s σ H _ I hw) λu s1 zz=>el2 zz λx H1 I1 r1 q1=>?_;let(i,rfl,q):=q1;let(t,rfl):=r1;exact#[some i,H1,I1,.int i t,q]
def MP(X:Cx)(r:V->Option Int->Option Int->Hp->VK->Prop):Prop :=
 ∀ (TW:Yz) (s:Da) (σ:St) (H:Hp) (x:V) (v vl vu:AT) (lo hi:Option Int) (sl:AC) (Q:VK),Inv X TW σ H s->RelV x v->s.heap.IsSliceOf sl vl vu .none->IsPart vl lo->IsPart vu hi->r x lo hi H Q ->
  ∃ T id,typeLookup (.type T) "__getitem__"=pure (some (.builtin id))/\s.TypeIs v T/\EQ (model X.prog X.w) X.A (getItem v (.ref sl)) (EP X TW σ Q) X.xe s
def Qo(r:V->Option Int->Option Int->Hp->VK->Prop)(te:TE)(tl th:TO):TE:=λσ H Q=>te σ H λx H1=>tl σ H1 λl H2=>th σ H2 λu H3=>r x l u H3 Q
theorem i3{r:V->Option Int->Option Int->Hp->VK->Prop}(hr:MP X r)(he:PE X e te)(hl:PO X lo tl)(hu:PO X hi th):PE X (.Subscript e (.Slice lo hi none p2) pos) (Qo r te tl th):=by
 intro TW s σ H Q I h;show Subscript_ (bW (he TW s σ H _ I h) λv s1 z0q=>?_);let(x,H1,I1,r1,q1):=z0q;show wpAny_Slice (bW (hl TW s1 σ H1 _ I1 q1) λvl s2 zz=>el2 zz λl H2 I2 pl q2=>bW (hu TW s2 σ H2 _ I2 q2) λvu s3 z1q=>?_);let(u,H3,I3,pu,q3):=z1q;rw[evalPart_none];show Fr ?_;have I4:Inv X TW σ H3 { s3 with heap:=s3.heap.push { cls:=.type "slice",data:=.fields #v[vl,vu,.none] } }:=I3.kept (t':=s3.toks) λb ob q=>Wl _ q;let(T,id,hT,ht,hg):=hr TW { s3 with heap:=s3.heap.push { cls:=.type "slice",data:=.fields #v[vl,vu,.none] } } σ H3 x v vl vu l u ↑s3 Q I4 r1 (Ev.IsSliceOf.new ..) pl pu q3;change EQ (model X.prog X.w) X.A (subscriptTail e (.Slice lo hi none p2) v (.ref ↑s3)) (EP X TW σ Q) X.xe { s3 with heap:=s3.heap.push { cls:=.type "slice",data:=.fields #v[vl,vu,.none] } };exact tail_any (ops:=[.ref ↑s3,v]) ht hT hg (by with_unfolding_all rfl)
def jU(xs:!V)(lo hi:Option Int):!V:=(xs.drop (HT.cq xs.length 0 lo)).take (HT.cq xs.length xs.length hi - HT.cq xs.length 0 lo)
theorem mj(xs:!V)(lo hi:Option Int):(jU xs lo hi).length<=xs.length:=by
 unfold jU;rw[Xc,WY];cbv
def Pa(K:Frag):V->Option Int->Option Int->Hp->VK->Prop:=λx lo hi H Q=>∃ a xs,x=.ref a/\iu K H a xs /\
 ¬ (HT.cq xs.length 0 lo=0/\HT.cq xs.length xs.length hi=xs.length)/\∀ p,H p=none->Q (.ref p) (upd H p (.tup (jU xs lo hi)))
theorem GS:MP X (Pa X.K):=by
 intro TW s σ H x v vl vu lo hi sl Q I rx hs pl pu h;let(a,xs,rfl,hx,hw,q):=h;cases rx;let(its,r,ht,hz):=I.tuple hx;have hlen:its.toArray.size=xs.length:=by rw[WL];exact r.length.symm
 show#["tuple",_,PyProof.Rows.slot_tuple_getitem.lookup,ht.typeIs,?_];show HT.j8 ht hs pl pu (by rw[hlen];exact hw) ?_ (by rw[hlen];exact hz);rw[hlen];show#[.ref ↑s,_,I.laid (t':=s.toks) (o:=.tup (jU xs lo hi)) (λb ob q=>Wl _ q) (Wo _) ?_,U,q _ (I.bf.fresh (Wo _))];exact#[Wr (mj xs lo hi) hz,_,(r.drop (HT.cq xs.length 0 lo)).take (HT.cq xs.length xs.length hi - HT.cq xs.length 0 lo),iV.new _ _]
end
def Au(n:Nat)(i:Int):Option Nat:=if 0<=i then (if i < n then some i.toNat else none) else if -(n:Int)<=i then some (i+n).toNat else none
def gR{α:Type}(xs:!α)(i:Int):Option α:=(Au xs.length i).bind λj=>xs[j]?
theorem ya{n:Nat}{i:Int}{j:Nat}(h:Au n i=some j):seqIndex? i n=some j/\j < n/\-(n:Int)<=i/\i < n:=by
 unfold Au at h;by_cases h0:0<=i
 .rw[if_pos h0] at h;by_cases h1:i < n
  .rw[if_pos h1] at h;have e:i.toNat=j:=WU h;exact#[by rw[seqIndex_of h0 h1,e],by cbv,by cbv,h1]
  .rw[if_neg h1] at h;cases h
 .rw[if_neg h0] at h;by_cases h1:-(n:Int)<=i
  .rw[if_pos h1] at h;have e:(i+n).toNat=j:=WU h;exact#[by rw[seqIndex_neg (by cbv) h1,e],by cbv,h1,by cbv]
  .rw[if_neg h1] at h;cases h
theorem tH{α:Type}{xs:!α}{i:Int}{v:α}(h:gR xs i=some v):∃ j,seqIndex? i xs.length=some j/\xs[j]?=some v/\j < xs.length/\-(xs.length:Int)<=i/\i < xs.length:=by
 unfold gR at h;cases e:Au xs.length i with
 | none=>rw[e] at h;cases h
 | some j =>
  rw[e] at h;let(h1,h2,h3,h4):=ya e;exact#[j,h1,h,h2,h3,h4]
theorem eZ{α:Type}{xs:!α}{j:Nat}{v:α}(h:xs[j]?=some v):gR xs (j:Int)=some v:=by
 have hj:j < xs.length:=(Wn.mp h).1;have e:Au xs.length (j:Int)=some j:=by
  unfold Au;rw[if_pos (by cbv),if_pos (by cbv)];simp
 unfold gR;rw[e];exact h
def nA(b:Ch):Prop:=∀ o i,subscripted b false o i=operate [o,i] (getItem o i)
def K0(X:Cx)(r:R2):Prop :=
 ∀ (value slice:Ch) (TW:Yz) (s:Da) (σ:St) (H:Hp) (x y:V) (v u:AT) (Q:VK),Inv X TW σ H s->RelV x v->RelV y u->r x y H Q ->
  subscripted slice false v u=operate [v,u] (getItem v u)->EQ (model X.prog X.w) X.A (subscriptTail value slice v u) (EP X TW σ Q) X.xe s
def Kj(X:Cx)(id:String)(r:V->!V->Hp->VK->Prop):Prop :=
 ∀ (TW:Yz) (s:Da) (σ:St) (H:Hp) (x:V) (xs:!V) (v:AT) (us:!AT) (Q:VK),Inv X TW σ H s->RelV x v->Vals xs us->r x xs H Q ->
  EQ (model X.prog X.w) X.A (call (.builtin id) (v::us)) (EP X TW σ Q) X.xe s
section
variable{X:Cx}{a b:Ch}{ta tb:TE}{pos:Pos}
theorem CI{r:R2}(hr:K0 X r)(ha:PE X a ta)(hb:PE X b tb)(hs:nA b):PE X (.Subscript a b pos) (iG r ta tb):=by
 intro TW s σ H Q I h;exact Subscript_ (Ji ha hb I h λv u s2 x y H2 I2 rx ry q=>hr a b TW s2 σ H2 x y v u Q I2 rx ry q (hs _ _))
def Il(K:Frag):R2:=λx y H Q=>∃ p xs i v,x=.ref p/\y=.int i/\dO K H p xs/\gR xs i=some v/\Q v H
def KR(K:Frag):R2:=λx y H Q=>∃ p xs i v,x=.ref p/\y=.int i/\iu K H p xs/\gR xs i=some v/\Q v H
def LN:R2:=λx y H Q=>∃ z i c,x=.str z/\y=.int i/\z.length<=FB/\gR z.cps.toList i=some c/\Q (.str #[#v[c]]) H
theorem xU:K0 X (Il X.K):=by
 intro value slice TW s σ H x y v u Q I rx ry h hs;let(p,xs,i,z,rfl,rfl,hq,he,q):=h;cases rx;let(t,rfl):=ry;let(its,r,pl,hz):=I.list hq;let(j,h1,h2,h3,h4,h5):=tH he;let(w,ew,rw'):=r.get h2;have hl:=r.length;have hn:=j3;have fin:EP X TW σ Q w s:=#[z,H,I,rw',q];by_cases h0:0<=i
 .have hj:i.toNat=j:=by
   rw[seqIndex_of h0 h5] at h1;exact WU h1
  exact item_listR pl.isList h0 (by cbv) (by rw[hj];simpa using ew) fin hs
 .have hj:(i+(its.toArray.size:Int)).toNat=j:=by
   rw[seqIndex_neg (by cbv) h4] at h1;rw[WL,<- hl];exact WU h1
  exact subscriptTail_builtinR (x:=w) pl.isList.typeIs slot_list_getitem.lookup
   (wpAny_getItem_list_neg (Q:=λr s'=>r=w/\EP X TW σ Q r s') pl.isList (by cbv) (by rw[List.size_toArray]<;>cbv) (by cbv) (by rw[hj];simpa using ew) #[U,fin]) hs
theorem HH:K0 X (KR X.K):=by
 intro value slice TW s σ H x y v u Q I rx ry h hs;let(p,xs,i,z,rfl,rfl,hq,he,q):=h;cases rx;let(t,rfl):=ry;let(its,r,pl,hz):=I.tuple hq;let(j,h1,h2,h3,h4,h5):=tH he;let(w,ew,rw'):=r.get h2;have hl:=r.length;have hn:=j3;have fin:EP X TW σ Q w s:=#[z,H,I,rw',q];exact subscriptTail_builtinR (x:=w) pl.typeIs slot_tuple_getitem.lookup
  (getItem_tuple (j:=j) (Q:=λr s'=>r=w/\EP X TW σ Q r s') pl (by cbv) (by cbv) (by rw[List.size_toArray,<- hl];exact h1) (by simpa using ew) #[U,fin]) hs
theorem iB:K0 X LN:=by
 intro value slice TW s σ H x y v u Q I rx ry h hs;let(z,i,c,rfl,rfl,hz,he,q):=h;let(t,rfl):=rx;let(t',rfl):=ry;let(j,h1,h2,h3,h4,h5):=tH he;have hl:z.cps.toList.length=z.length:=by simp[Str.length]
 rw[hl] at h1 h4 h5;have hn:=j3;exact tail_any (typeIs_str s z t) slot_str_getitem.lookup (getItem_str (c:=c) (by
  have e1:decide (i < -(2 ^ 63:Int))=false:=decide_eq_false (by cbv);have e2:decide (i ≥ 2 ^ 63)=false:=decide_eq_false (by cbv);rw[e1,e2,Bool.or_false]) (by rw[h1];simpa using h2) #[.str #[#v[c]],H,I.tok _,#[_,U],q]) hs
theorem wt(its:!AT)(n j:Nat)(u:AT):Obj.mapSeq (·.setIfInBounds j u) { cls:=.type "list",data:=.seq its.toArray n }={ cls:=.type "list",data:=.seq (its.set j u).toArray n }:=by
 simp[Obj.mapSeq]
theorem Inv.lst{TW:Yz}{σ:St}{H:Hp}{s:Da}{p:AC}{xs:!V}(I:Inv X TW σ H s)(h:H p=some (.lst xs)) :
  ∃ (its:!AT) (n:Nat),Vals xs its/\s.heap.get? p=some { cls:=.type "list",data:=.seq its.toArray n }/\xs.length<=FB:=by
 let(z,its,n,r,e):=I.bf p _ h;exact#[its,n,r,e,z]
theorem Inv.HP{TW:Yz}{σ:St}{H:Hp}{s:Da}{p:AC}{xs ys:!V}{its its':!AT}{n n':Nat}{f:Obj->Obj}(I:Inv X TW σ H s)(h:H p=some (.lst xs))(ho:s.heap.get? p=some { cls:=.type "list",data:=.seq its.toArray n })(hf:f { cls:=.type "list",data:=.seq its.toArray n }={ cls:=.type "list",data:=.seq its'.toArray n' })(r:Vals ys its')(hz:ys.length<=FB)(t:Nat) :
  Inv X TW σ (upd H p (.lst ys)) { s with heap:=s.heap.update p f,toks:=t }:=by
 have e:(s.heap.update p f).get? p=some { cls:=.type "list",data:=.seq its'.toArray n' }:=by
  rw[Xu f ho (by rw[hf]<;>rfl),hf]
 show I.write (x:=p) (e:=p) (by rw[h];trivial) (.inl U) (λb u hb q=>(W8 _ _ (Ne.symm hb)).trans q) #[_,e] ?_;exact#[hz,its',n',r,e]
def GD:V->V->V->Hp->(Hp->Prop)->Prop:=λo i v H Q=>∃ p xs k j,o=.ref p/\i=.int k/\H p=some (.lst xs)/\Au xs.length k=some j/\Q (upd H p (.lst (xs.set j v)))
theorem set_list:KQ X GD:=by
 intro TW s σ H o i v ov iv u Q I ro ri rv h;let(p,xs,k,j,rfl,rfl,hp,hj,q):=h;cases ro;let(t,rfl):=ri;let(its,n,r,ho,hz):=I.lst hp;let(h1,h2,h3,h4):=ya hj;have hl:=r.length;have hn:=j3;have I':Inv X TW σ (upd H p (.lst (xs.set j v))) { s with heap:=s.heap.update p (Obj.mapSeq (·.setIfInBounds j u)) } :=
  I.HP hp ho (wt its n j u) (r.set rv j) (by rw[Xa];exact hz) s.toks
 by_cases h0:0<=k
 .have hk:k.toNat=j:=by
   rw[seqIndex_of h0 h4] at h1;exact WU h1
  exact PySem.W.ki_setAt ho h0 (by cbv) (by rw[WL,<- hl];exact h4) (by rw[hk];exact#[_,I',q])
 .have hk:(k+(its.toArray.size:Int)).toNat=j:=by
   rw[seqIndex_neg (by cbv) h3] at h1;rw[WL,<- hl];exact WU h1
  exact PySem.W.ki_setBack ho (by cbv) (by rw[WL,<- hl];exact h3) (by cbv) (by rw[hk];exact#[_,I',q])
theorem rE(lo hi:Option Int)(n:Nat):(sliceBounds lo hi none n).1=((HT.cq n 0 lo:Nat):Int)/\(sliceBounds lo hi none n).2.1=((HT.cq n n hi:Nat):Int)/\(sliceBounds lo hi none n).2.2=1:=by
 show#[?_,?_,U]
 .cases lo with
  | none=>simp[sliceBounds,HT.cq]
  | some i =>
   simp only[sliceBounds,HT.cq,Option.getD_none,show (1:Int) > 0 by decide,if_true];by_cases h:i < 0
   .simp only[h,if_true]<;>cbv
   .simp only[h,if_false]<;>cbv
 .cases hi with
  | none=>simp[sliceBounds,HT.cq]
  | some i =>
   simp only[sliceBounds,HT.cq,Option.getD_none,show (1:Int) > 0 by decide,if_true];by_cases h:i < 0
   .simp only[h,if_true]<;>cbv
   .simp only[h,if_false]<;>cbv
theorem pO(its:!AT)(lo hi:Option Int):slicePick its.toArray lo hi none=((its.drop (HT.cq its.length 0 lo)).take (HT.cq its.length its.length hi - HT.cq its.length 0 lo)).toArray:=by
 let(h1,h2,h3):=rE lo hi its.toArray.size;unfold slicePick;rw[h1,h2,h3];simp only[sliceRange_one,pick_run,List.size_toArray]<;>rfl
def Hd(K:Frag):V->Option Int->Option Int->Hp->VK->Prop:=λx lo hi H Q=>∃ a xs,x=.ref a/\dO K H a xs/\∀ p,H p=none->Q (.ref p) (upd H p (.lst (jU xs lo hi)))
theorem sR:MP X (Hd X.K):=by
 intro TW s σ H x v vl vu lo hi sl Q I rx hs pl pu h;let(a,xs,rfl,hx,q):=h;cases rx;let(its,r,ht,hz):=I.list hx;have hlen:=r.length;show#["list",_,slot_list_getitem.lookup,ht.isList.typeIs,?_];show wpAny_getItem_list_slice ht.isList hs pl pu .none (by simp) ?_ (by rw[List.size_toArray]<;>cbv);rw[pO,<- hlen];show#[.ref ↑s,_,I.laid (t':=s.toks) (o:=.lst (jU xs lo hi)) (λb ob q=>Wl _ q) (Wo _) ?_,U,q _ (I.bf.fresh (Wo _))];exact#[Wr (mj xs lo hi) hz,_,0,(r.drop (HT.cq xs.length 0 lo)).take (HT.cq xs.length xs.length hi - HT.cq xs.length 0 lo),Wz _ U]
def jF:V->Bool
 | .br=>true
 | .bl _=>true
 | .int _=>true
 | .str _=>true
 | _=>false
def DJ:V->V->Bool
 | .br,.br=>true
 | .bl a,.bl b=>a == b
 | .bl a,.int b=>(if a then 1 else 0) == b
 | .int a,.bl b=>a == (if b then 1 else 0)
 | .int a,.int b=>a == b
 | .str a,.str b=>a == b
 | _,_=>false
theorem HM{A:Fk}{s:Da}{y x:V}{u v:AT}(ry:RelV y u)(rx:RelV x v)(fy:jF y=true)(fx:jF x=true):SeqAt.EqAt A s u v (DJ y x):=by
 cases y with
 | br =>
  cases ry;cases x with
  | br=>cases rx;exact SeqAt.EqAt.same _
  | bl b=>cases rx;exact SeqAt.EqAt.none_bool b
  | int b=>let(t,rfl):=rx;exact SeqAt.EqAt.none_int b t
  | str b=>let(t,rfl):=rx;exact SeqAt.EqAt.none_str b t
  | _=>exact absurd (show false=true from fx) WC
 | bl a =>
  cases ry;cases x with
  | br=>cases rx;exact SeqAt.EqAt.bool_none a
  | bl b=>cases rx;exact SeqAt.EqAt.bool_bool a b
  | int b=>let(t,rfl):=rx;exact SeqAt.EqAt.bool_int a b t
  | str b=>let(t,rfl):=rx;exact SeqAt.EqAt.bool_str a b t
  | _=>exact absurd (show false=true from fx) WC
 | int a =>
  let(t',rfl):=ry;cases x with
  | br=>cases rx;exact SeqAt.EqAt.int_none a t'
  | bl b=>cases rx;exact SeqAt.EqAt.int_bool a t' b
  | int b=>let(t,rfl):=rx;exact SeqAt.EqAt.int_int a t' b t
  | str b=>let(t,rfl):=rx;exact SeqAt.EqAt.int_str a t' b t
  | _=>exact absurd (show false=true from fx) WC
 | str a =>
  let(t',rfl):=ry;cases x with
  | br=>cases rx;exact SeqAt.EqAt.str_none a t'
  | bl b=>cases rx;exact SeqAt.EqAt.str_bool a t' b
  | int b=>let(t,rfl):=rx;exact SeqAt.EqAt.str_int a t' b t
  | str b=>let(t,rfl):=rx;exact SeqAt.EqAt.str_str a t' b t
  | _=>exact absurd (show false=true from fx) WC
 | _=>exact absurd (show false=true from fy) WC
def wZ(x:V)(u:AT):Bool:=match u with
 | .none=>DJ .br x
 | .bool b=>DJ (.bl b) x
 | .int i _=>DJ (.int i) x
 | .str z _=>DJ (.str z) x
 | _=>false
theorem AN{x y:V}{u:AT}(r:RelV y u)(f:jF y=true):wZ x u=DJ y x:=by
 cases y with
 | br=>cases r;rfl
 | bl b=>cases r;rfl
 | int i=>let(t,rfl):=r;rfl
 | str z=>let(t,rfl):=r;rfl
 | _=>exact absurd (show false=true from f) WC
theorem kC{x:V}:∀ {xs:!V} {us:!AT},Vals xs us->xs.all jF=true->us.any (wZ x)=xs.any λy=>DJ y x
 | _,_,.nil,_=>rfl
 | y::xs,u::us,.cons r t,f=>by
  rw[Ym,W4] at f;rw[XS,XS,AN r f.1,kC t f.2]
theorem i4{A:Fk}{s:Da}{x:V}{v:AT}(rx:RelV x v)(fx:jF x=true):∀ {xs:!V} {us:!AT},Vals xs us->xs.all jF=true->∀ u∈us,SeqAt.EqAt A s u v (wZ x u)
 | _,_,.nil,_=>λu hu=>by cases hu
 | y::xs,u::us,.cons r t,f=>λu' hu=>by
  rw[Ym,W4] at f;rcases WI.mp hu with rfl | hu
  .rw[AN r f.1];exact HM r rx f.1 fx
  .exact i4 rx fx t f.2 u' hu
def y0(x:V)(xs:!V):Bool:=xs.any λy=>DJ y x
def JR(K:Frag)(neg:Bool):R2:=λx y H Q=>∃ p xs,y=.ref p/\(dO K H p xs\/iu K H p xs)/\jF x=true/\xs.all jF=true/\Q (.bl (if neg then (not (y0 x xs)) else y0 x xs)) H
theorem qg:gF X (IR .In) (JR X.K false):=by
 intro TW s σ H x y v u Q I rx ry h;let(p,xs,rfl,hq,fx,fs,q):=h;cases ry;rcases hq with hq | hq
 .let(its,r,pl,hz):=I.list hq;show SeqAt.in_listAt (wZ x) pl.isList (λw hw=>i4 rx fx r fs w (by simpa using hw)) #[.bl _,H,I,U,?_];rw[show its.toArray.any (wZ x)=its.any (wZ x) by simp,kC r fs];exact q
 .let(its,r,pl,hz):=I.tuple hq;show SeqAt.in_tupleAt (wZ x) pl (λw hw=>i4 rx fx r fs w (by simpa using hw)) #[.bl _,H,I,U,?_];rw[show its.toArray.any (wZ x)=its.any (wZ x) by simp,kC r fs];exact q
theorem kq:gF X (IR .NotIn) (JR X.K true):=by
 intro TW s σ H x y v u Q I rx ry h;let(p,xs,rfl,hq,fx,fs,q):=h;cases ry;rcases hq with hq | hq
 .let(its,r,pl,hz):=I.list hq;show SeqAt.notIn_listAt (wZ x) pl.isList (λw hw=>i4 rx fx r fs w (by simpa using hw)) #[.bl _,H,I,U,?_];rw[show its.toArray.any (wZ x)=its.any (wZ x) by simp,kC r fs];exact q
 .let(its,r,pl,hz):=I.tuple hq;show SeqAt.notIn_tupleAt (wZ x) pl (λw hw=>i4 rx fx r fs w (by simpa using hw)) #[.bl _,H,I,U,?_];rw[show its.toArray.any (wZ x)=its.any (wZ x) by simp,kC r fs];exact q
theorem eT:dB X (.builtin "len") (λxs H Q=>∃ p ys,xs=[.ref p]/\(dO X.K H p ys\/iu X.K H p ys)/\Q (.int ys.length) H):=by
 intro TW s σ H xs us Q I r h;let(p,ys,rfl,hq,q):=h;let(u,rfl,rx):=vals1 r;cases rx;have hn:=j3;rcases hq with hq | hq
 .let(its,r',pl,hz):=I.list hq;have hlen:=r'.length;exact Calls.call_len_list pl.isList (by simp only[List.size_toArray]<;>cbv) #[.int ys.length,H,I.tok _,#[s.toks+1,by rw[List.size_toArray,hlen]],q]
 .let(its,r',pl,hz):=I.tuple hq;have hlen:=r'.length;exact len_tuple pl (by simp only[List.size_toArray]<;>cbv) #[.int ys.length,H,I.tok _,#[s.toks+1,by rw[List.size_toArray,hlen]],q]
theorem cm:dB X (.builtin "len") (λxs H Q=>∃ z,xs=[.str z]/\z.length<=FB/\Q (.int z.length) H):=by
 intro TW s σ H xs us Q I r h;let(z,rfl,hz,q):=h;let(u,rfl,t,rfl):=vals1 r;have hn:=j3;exact len_str (by cbv) #[.int z.length,H,I.tok _,#[_,U],q]
theorem kZ:dB X (.type "list") (λxs H Q=>∃ p ys,xs=[.ref p]/\(dO X.K H p ys\/iu X.K H p ys)/\∀ l,H l=none->Q (.ref l) (upd H l (.lst ys))):=by
 intro TW s σ H xs us Q I r h;let(p,ys,rfl,hq,q):=h;let(u,rfl,rx):=vals1 r;cases rx;have fin:∀ (its:!AT),Vals ys its->ys.length<=FB->∀ (h':Ev) (c':Nat),(∀ b o',s.heap.get? b=some o'->h'.get? b=some o') ->
   h'.get? ↑s=some { cls:=.type "list",dict:=none,data:=.seq its.toArray c',slots:=#v[] }->EP X TW σ Q (.ref ↑s) { s with heap:=h' }:=λits r' hz h' c' kp e =>
  #[.ref ↑s,_,I.laid (t':=s.toks) kp (Wo _) (show cj X.prog X.w _ h' _ (.lst ys) from #[hz,its,c',r',e]),U,q _ (I.bf.fresh (Wo _))]
 rcases hq with hq | hq
 .let(its,r',pl,hz):=I.list hq;have hlen:=r'.length;let(o,ho,hc,n,hd):=pl.isList;exact call_list_seq p (.inl U) ho hc hd (λh' c' kp e=>fin its r' hz h' c' kp e) (by simp only[List.size_toArray]<;>cbv)
 .let(its,r',pl,hz):=I.tuple hq;have hlen:=r'.length;let(o,ho,hc,n,hd):=pl;exact call_list_seq p (.inr U) ho hc hd (λh' c' kp e=>fin its r' hz h' c' kp e) (by simp only[List.size_toArray]<;>cbv)
theorem pL:dB X (.type "tuple") (λxs H Q=>∃ p ys,xs=[.ref p]/\((dO X.K H p ys/\∀ l,H l=none->Q (.ref l) (upd H l (.tup ys)))\/(iu X.K H p ys/\Q (.ref p) H))):=by
 intro TW s σ H xs us Q I r h;let(p,ys,rfl,h):=h;let(u,rfl,rx):=vals1 r;cases rx;rcases h with ⟨hq,q⟩ | ⟨hq,q⟩
 .let(its,r',pl,hz):=I.list hq;have hlen:=r'.length;show call_tuple_list pl.isList (λh' kp=>?_) (by simp only[List.size_toArray]<;>cbv);have I1:Inv X TW σ H { s with heap:=h' }:=I.kept (t':=s.toks) kp;have I2:Inv X TW σ (upd H h'.objs.size (.tup ys)) { s with heap:=h'.push { cls:=.type "tuple",data:=.seq its.toArray } } :=
   I1.laid (t':=s.toks) (λb o e=>Wl _ e) (Wo _) (show cj X.prog X.w _ _ _ (.tup ys) from #[hz,its,r',iV.new _ _])
  exact#[.ref h'.objs.size,_,I2,U,q _ (I1.bf.fresh (Wo _))]
 .let(its,r',pl,hz):=I.tuple hq;exact call_tuple_same pl #[.ref p,H,I,U,q]
def QO(K:Frag)(T:String)(x:V)(H:Hp):Prop:=match x with
 | .str _=>T="str"
 | .int _=>T="int"
 | .ref p=>(T="list"/\∃ xs,dO K H p xs)\/(T="tuple"/\∃ o,K.lookup p=some o/\o.cls=.type "tuple"/\o.dict=none) \/
   (T="dict"/\((∃ kvs,H p=some (.dK kvs))\/∃ kvs,H p=some (.dT kvs)))\/(T="set"/\∃ S n,H p=some (.set S n))
 | _=>False
theorem CN{TW:Yz}{σ:St}{H:Hp}{s:Da}{T:String}{x:V}{v:AT}(I:Inv X TW σ H s)(r:RelV x v)(ty:QO X.K T x H) :
  s.TypeIs v T/\∀ a,v=.ref a->∃ ob,s.heap.get? a=some ob/\ob.dict=none:=by
 cases x with
 | str z =>
  let(t,rfl):=r;cases (show T="str" from ty);exact#[typeIs_str s z t,λ_ e=>nomatch e]
 | int i =>
  let(t,rfl):=r;cases (show T="int" from ty);exact#[typeIs_int s i t,λ_ e=>nomatch e]
 | ref p =>
  cases r;rcases ty with ⟨rfl,xs,hq⟩ | ⟨rfl,o,hk,hc,hd⟩ | ⟨rfl,hk⟩ | ⟨rfl,S,n,hk⟩
  .let(its,_,pl,_):=I.list hq;show#[pl.isList.typeIs,λa e=>?_];cases e;let(o,n,e,c,hd,_):=pl;exact#[o,e,hd]
  .refine#[#[o,I.lz p o hk,hc],λa e=>?_];cases e;exact#[o,I.lz _ o hk,hd]
  .have z:∃ o,s.heap.get? p=some o/\o.ExactDict:=by
    rcases hk with ⟨kvs,hk⟩ | ⟨kvs,hk⟩
    .let(_,_,_,_,o,_,_,e,ex,_):=I.bf p _ hk;exact#[o,e,ex]
    .let(_,_,_,_,o,_,_,e,ex,_):=I.bf p _ hk;exact#[o,e,ex]
   let(o,e,ex):=z;show#[#[o,e,ex.1],λa e2=>?_];cases e2;exact#[o,e,ex.2.1]
  .let(o,_,_,_,e,ex,_):=I.bf p _ hk;show#[#[o,e,ex.1],λa e2=>?_];cases e2;exact#[o,e,ex.2.1]
 | _=>exact False.elim ty
def Ka(K:Frag)(T:String)(r:V->!V->Hp->VK->Prop)(to:TE):TE:=λσ H Q=>to σ H λx H1=>QO K T x H1/\r x [] H1 Q
def So(K:Frag)(T:String)(r:V->!V->Hp->VK->Prop)(to:TE)(t:TA):TE:=λσ H Q=>to σ H λx H1=>QO K T x H1/\t σ H1 λxs H2=>r x xs H2 Q
variable{o e:Ch}{es:!Ch}{to:TE}{t:TA}{name:Str}{apos bX:Pos}{T id:String}{r:V->!V->Hp->VK->Prop}
theorem Bo(pa:PlainAttrs T)(slot:Slot T name id)(yB:typeOf (.builtin id)=pure (.type "method_descriptor"))(hm:Kj X id r)(ho:PE X o to)(fF:(attributeBase o name X.env (eval o X.env)=eval o X.env)⁻¹)(dF:((apos.endLine == bX.line)=true)⁻¹):PE X (.Call (.Attribute o name apos) [] [] bX) (Ka X.K T r to):=by
 intro TW s σ H Q I h;show wpAny_Call_method0_late fF dF (bW (ho TW s σ H _ I h) λv s1 z2q=>?_);let(x,H1,I1,r1,ty,q1):=z2q;let(h1,h2):=CN I1 r1 ty;exact#[T,id,pa,slot,yB,h1,h2,Calls.callWith_builtin U (PySem.evalArgs_none (hm TW s1 σ H1 x [] v [] Q I1 r1 .nil q1))]
theorem yH(pa:PlainAttrs T)(slot:Slot T name id)(yB:typeOf (.builtin id)=pure (.type "method_descriptor"))(hm:Kj X id r)(ho:PE X o to)(ha:PA X (e::es) t)(fF:(attributeBase o name X.env (eval o X.env)=eval o X.env)⁻¹)(oE:(((Ix bX (Go (e::es) X.env)).all (λx=>(not x.1))&&(Re bX (Rs [] X.env)).all (λx=>x.1.isSome)
   && decide ((e::es).length+([]:!NE).length+(if ([]:!NE).isEmpty then 0 else 1) < 30))=true)⁻¹)(dF:((apos.endLine == bX.line)=true)⁻¹)(hs:(YB X.env e es)⁻¹)(fG:((Ix bX (Go es X.env)).any (·.1)=false)⁻¹) :
  PE X (.Call (.Attribute o name apos) (e::es) [] bX) (So X.K T r to t):=by
 intro TW s σ H Q I h;show wpAny_Call_method_late fF oE dF U (bW (ho TW s σ H _ I h) λv s1 z3q=>?_);let(x,H1,I1,r1,ty,q1):=z3q;let(h1,h2):=CN I1 r1 ty;show#[T,id,pa,slot,yB,h1,h2,?_];have hA:=ha bX TW s1 σ H1 _ I1 q1;rw[hs] at hA ⊢;show Calls.callWith_builtin (by change (false||(Ix bX (Go es X.env)).any (·.1))=false;rw[fG]<;>rfl) (Calls.evalArgs_plain ?_);exact bW hA λus s2 #[vs,H2,I2,r2,q2]=>hm TW s2 σ H2 x vs v us Q I2 r1 r2 q2
end
def JW(X:Cx)(id:String)(r:V->!V->Hp->VK->Prop):Prop :=
 ∀ (TW:Yz) (s:Da) (σ:St) (H:Hp) (x:V) (xs:!V) (v:AT) (us:!AT) (Q:VK),Inv X TW σ H s->RelV x v->Vals xs us->r x xs H Q ->
  EQ (model X.prog X.w) X.A (call (.builtin id) (v::us)) (EP X TW σ Q) X.xe s
theorem Vals.one{x:V}{us:!AT}(h:Vals [x] us):∃ u,us=[u]/\RelV x u:=by
 cases h with
 | cons r t=>cases t with
  | nil=>exact#[_,U,r]
theorem Vals.two{x y:V}{us:!AT}(h:Vals [x,y] us):∃ u v,us=[u,v]/\RelV x u/\RelV y v:=by
 cases h with
 | cons r t=>cases t with
  | cons q t=>cases t with
   | nil=>exact#[_,_,U,r,q]
theorem Vals.zero:∀ {us:!AT},Vals [] us->us=[]
 | _,.nil=>rfl
theorem Vals.dropLast{xs:!V}{us:!AT}(h:Vals xs us):Vals xs.dropLast us.dropLast:=by
 induction h with
 | nil=>exact .nil
 | cons r t ih =>
  cases t with
  | nil=>exact .nil
  | cons q t'=>exact .cons r ih
theorem Vals.eraseIdx:∀ {xs:!V} {us:!AT} (i:Nat),Vals xs us->Vals (xs.eraseIdx i) (us.eraseIdx i)
 | _,_,_,.nil=>.nil
 | _,_,0,.cons _ t=>t
 | _,_,i+1,.cons r t=>.cons r (Vals.eraseIdx i t)
theorem Vals.reverse{xs:!V}{us:!AT}(h:Vals xs us):Vals xs.reverse us.reverse:=by
 induction h with
 | nil=>exact .nil
 | cons r t ih=>rw[XA,XA];exact Vals.append ih (.cons r .nil)
theorem wQ{α:Type}(l:!α):l.eraseIdx (l.length - 1)=l.dropLast:=by
 induction l with
 | nil=>rfl
 | cons a r ih =>
  cases r with
  | nil=>rfl
  | cons b r =>
   have e:(a::b::r).length - 1=((b::r).length - 1)+1:=by
    have h1:(a::b::r).length=r.length+2:=rfl;have h2:(b::r).length=r.length+1:=rfl;cbv
   rw[e,List.eraseIdx_cons_succ,ih]
   all_goals rfl
theorem qQ{α:Type}:∀ (l:!α) (i:Nat),(l.eraseIdx i).length<=l.length
 | [],_=>Wo _
 | _::_,0=>Xw _
 | _::r,i+1=>Yn (qQ r i)
section
variable{X:Cx}{TW:Yz}{σ:St}{H:Hp}{s:Da}{l b:AC}{xs ys zs:!V}
theorem Inv.EL{its its':!AT}{n:Nat}{f:Array AT->Array AT}{t':Nat}(I:Inv X TW σ H s)(hH:H l=some (.lst xs))(e:s.heap.get? l=some { cls:=.type "list",data:=.seq its.toArray n })(hf:f its.toArray=its'.toArray)(hv:Vals ys its')(hz:ys.length<=FB) :
  Inv X TW σ (upd H l (.lst ys)) { s with heap:=s.heap.update l (Obj.mapSeq f),toks:=t' }:=by
 have q:=PySem.IsL.update e f;rw[hf] at q;show I.write (x:=l) (e:=l) (by rw[hH];exact trivial) (.inl U) (λb' u hb hu=>(W8 s.heap (Obj.mapSeq f) (Ne.symm hb)).trans hu) #[_,q] ?_;exact#[hz,its',_,hv,q]
theorem Inv.La{its:!AT}{t':Nat}(I:Inv X TW σ H s)(hv:Vals ys its)(hz:ys.length<=FB) :
  Inv X TW σ (upd H ↑s (.lst ys)) { s with heap:=s.heap.push { cls:=.type "list",data:=.seq its.toArray },toks:=t' } :=
 I.laid (λ_ _ q=>Wl _ q) (Wo _) #[hz,its,0,hv,Wz _ U]
theorem Inv.fresh(I:Inv X TW σ H s):H ↑s=none:=I.bf.fresh (Wo _)
theorem Inv.vN(I:Inv X TW σ H s)(hH:H l=some (.lst xs)):xs.length<=FB/\∃ (its:!AT) (n:Nat),Vals xs its/\xs.length=its.length/\s.heap.get? l=some { cls:=.type "list",data:=.seq its.toArray n }:=by
 let(z,its,n,r,e):=I.bf l _ hH;exact#[z,its,n,r,r.length,e]
theorem AI{n:Nat}(h:n<=FB):GE.List.listTooLong n=false:=by
 unfold GE.List.listTooLong;exact decide_eq_false (by cbv)
end
section
variable{X:Cx}
def yx:V->!V->Hp->VK->Prop:=λx vs H Q=>∃ l xs y,x=.ref l/\vs=[y]/\H l=some (.lst xs)/\xs.length < FB/\Q .br (upd H l (.lst (xs++[y])))
theorem je:JW X "list.append" yx:=by
 intro TW s σ H x vs v us Q I rx rv h;let(l,xs,y,rfl,rfl,hH,hz,q):=h;cases rx;let(u,rfl,ru):=rv.one;let(z,its,n,r,hl,e):=I.vN hH;show call_meets F.slot_list_append #[_,e,U] F.entry_list_append (F.args_list_append_2 _ _) (PySem.list_append l its.toArray n u (by rw[WL];cbv)) #[e,?_];show#[.br,_,I.EL (its':=its++[u]) hH e (by simp) (r.append (.cons ru .nil)) ?_,U,q];rw[Wm,List.length_singleton];cbv
def xg:V->!V->Hp->VK->Prop:=λx vs H Q=>∃ l b xs zs,x=.ref l/\vs=[.ref b]/\H l=some (.lst xs)/\H b=some (.lst zs)/\xs.length+zs.length<=FB/\Q .br (upd H l (.lst (xs++zs)))
theorem qa:JW X "list.extend" xg:=by
 intro TW s σ H x vs v us Q I rx rv h;let(l,b,xs,zs,rfl,rfl,hH,hB,hz,q):=h;cases rx;let(u,rfl,ru):=rv.one;cases ru;let(z,its,n,r,hl,e):=I.vN hH;let(z2,its2,n2,r2,JO,e2):=I.vN hB;have hsz:its.toArray.size+its2.toArray.size<=FB:=by rw[WL,WL];cbv
 have hlong:¬ ((not its.toArray.isEmpty)&&GE.List.listTooLong (its.toArray.size+its2.toArray.size))=true:=by
  rw[AI hsz,Bool.and_false];exact WC
 show call_meets F.slot_list_extend #[_,e,U] F.entry_list_extend (F.args_list_extend_2 _ _)
  (AutoSeq1.list_extend_list_list_0 l its.toArray n b its2.toArray n2 hlong (by rw[WL];cbv) (by cbv)) #[e,e2,?_]
 show#[.br,_,I.EL (its':=its++its2) hH e (by simp) (r.append r2) ?_,U,q];rw[Wm];cbv
def HD:V->!V->Hp->VK->Prop:=λx vs H Q=>∃ l xs y,x=.ref l/\vs=[]/\H l=some (.lst xs)/\xs[xs.length - 1]?=some y/\Q y (upd H l (.lst xs.dropLast))
theorem tL:JW X "list.pop" HD:=by
 intro TW s σ H x vs v us Q I rx rv h;let(l,xs,y,rfl,rfl,hH,hy,q):=h;cases rx;have hus:=rv.zero;subst hus;let(z,its,n,r,hl,e):=I.vN hH;let(u,hu,ru):=r.get hy;have hy':its.toArray[its.toArray.size - 1]?=some u:=by
  change its.toArray[its.length - 1]?=some u;rw[<- XN,<- hl];exact hu
 show call_meets F.slot_list_pop #[_,e,U] F.entry_list_pop (F.args_list_pop_1 _) (MeetsSeq.list_pop_last l its.toArray n u hy' (by rw[WL];cbv)) #[e,?_];show#[y,_,I.EL (its':=its.dropLast) hH e ?_ r.dropLast ?_,ru,q]
 .show its.toArray.eraseIdxIfInBounds (its.toArray.size - 1)=its.dropLast.toArray;rw[WL,List.eraseIdxIfInBounds_toArray,wQ]
 .rw[List.length_dropLast];cbv
def Bh:V->!V->Hp->VK->Prop:=λx vs H Q=>∃ l xs i k y,x=.ref l/\vs=[.int i]/\H l=some (.lst xs)/\-(2 ^ 63)<=i/\i < 2 ^ 63/\seqIndex? i xs.length=some k/\xs[k]?=some y/\Q y (upd H l (.lst (xs.eraseIdx k)))
theorem pB:JW X "list.pop" Bh:=by
 intro TW s σ H x vs v us Q I rx rv h;let(l,xs,i,k,y,rfl,rfl,hH,h1,h2,hk,hy,q):=h;cases rx;let(u,rfl,ru):=rv.one;let(t,rfl):=ru;let(z,its,n,r,hl,e):=I.vN hH;let(w,hw,rw'):=r.get hy;show call_meets F.slot_list_pop #[_,e,U] F.entry_list_pop (F.args_list_pop_2 _ _)
  (MeetsSeq.list_pop_at l its.toArray n i t k w (fitsIndex_both h1 h2) (by rw[WL,<- hl];exact hk) (by rw[<- XN];exact hw) (by rw[WL];cbv)) #[e,?_]
 show#[y,_,I.EL (its':=its.eraseIdx k) hH e ?_ (r.eraseIdx k) ?_,rw',q]
 .show its.toArray.eraseIdxIfInBounds k=(its.eraseIdx k).toArray;rw[List.eraseIdxIfInBounds_toArray]
 .have:=qQ xs k;cbv
def LU:R2:=λx y H Q=>∃ l b xs zs,x=.ref l/\y=.ref b/\H l=some (.lst xs)/\H b=some (.lst zs)/\xs.length+zs.length<=FB/\∀ p,H p=none->Q (.ref p) (upd H p (.lst (xs++zs)))
theorem cQ:gF X (Ps .Add) LU:=by
 intro TW s σ H x y v u Q I rx ry h;let(l,b,xs,zs,rfl,rfl,hH,hB,hz,q):=h;cases rx;cases ry;let(z,its,n,r,hl,e):=I.vN hH;let(z2,its2,n2,r2,JO,e2):=I.vN hB;show PySem.P.add_list e e2 ?_ (by rw[WL,WL];cbv);have ea:its.toArray++its2.toArray=(its++its2).toArray:=by simp
 rw[ea];exact#[.ref _,_,I.La (t':=s.toks) (r.append r2) (by rw[Wm];cbv),U,q _ I.fresh]
end
section
variable{prog:Fa}{w:FS}{A:Fk}{E:Yy}{s:Da}
end
section
variable{X:Cx}
end
section
variable{κ:Type}[DecidableEq κ]
def fH(kvs:!(κ×V))(k:κ):Option V:=(kvs.find? λkv=>decide (kv.1=k)).map (·.2)
def putK(kvs:!(κ×V))(k:κ)(v:V):!(κ×V) :=
 if (kvs.any λkv=>decide (kv.1=k))=true then kvs.map (λkv=>if kv.1=k then (kv.1,v) else kv) else kvs++[(k,v)]
theorem oi{k:κ}:fH ([]:!(κ×V)) k=none:=rfl
theorem fD{p:κ×V}{r:!(κ×V)}{k:κ}(e:p.1=k):fH (p::r) k=some p.2:=by simp[fH,List.find?_cons,e]
theorem dD{p:κ×V}{r:!(κ×V)}{k:κ}(e:¬ p.1=k):fH (p::r) k=fH r k:=by simp[fH,List.find?_cons,e]
theorem kj(k:κ):∀ kvs:!(κ×V),(kvs.any λkv=>decide (kv.1=k))=(fH kvs k).isSome
 | []=>rfl
 | p::r=>by
  rw[XS];by_cases e:p.1=k
  .simp only[fD e,decide_eq_true e,Bool.true_or,Option.isSome_some]
  .rw[dD e,decide_eq_false e,Bool.false_or];exact kj k r
theorem eG(kvs:!(κ×V))(k:κ)(v:V):(putK kvs k v).length<=kvs.length+1:=by
 unfold putK;split
 .rw[Wk];cbv
 .rw[Wm,Ws,List.length_nil];cbv
theorem ku{kvs:!(κ×V)}{k:κ}(v:V)(h:fH kvs k=none):putK kvs k v=kvs++[(k,v)]:=by
 unfold putK;rw[kj,h];exact if_neg ()
theorem gz.gr{o:Option V}{u:Option AT}(r:gz o u):o.isSome=u.isSome:=by
 cases o with
 | none=>cases u with
  | none=>rfl
  | some _=>exact (show False from r).elim
 | some _=>cases u with
  | none=>exact (show False from r).elim
  | some _=>rfl
theorem gz.getD{o:Option V}{u:Option AT}{d:V}{d':AT}(r:gz o u)(rd:RelV d d'):RelV (o.getD d) (u.getD d'):=by
 cases o with
 | none=>cases u with
  | none=>exact rd
  | some _=>exact (show False from r).elim
 | some _=>cases u with
  | none=>exact (show False from r).elim
  | some _=>exact r
theorem KV.val{kvs:!(κ×V)}{vs:!(κ×AT)}(r:KV kvs vs)(k:κ):gz (fH kvs k) (valueAt vs k):=by
 unfold KV at r
 induction r with
 | nil=>exact True.intro
 | @cons p q ps qs h t ih =>
  let(h1,h2):=h;by_cases e:p.1=k
  .have e':q.1=k:=h1.symm.trans e;have b:valueAt (q::qs) k=some q.2:=by simp[valueAt,List.find?_cons,e']
   rw[fD e,b];exact h2
  .have e':¬ q.1=k:=λz=>e (h1.trans z);have b:valueAt (q::qs) k=valueAt qs k:=by simp[valueAt,List.find?_cons,e']
   rw[dD e,b];exact ih
theorem KV.any{kvs:!(κ×V)}{vs:!(κ×AT)}(r:KV kvs vs)(k:κ):(kvs.any λkv=>decide (kv.1=k))=vs.any λkv=>decide (kv.1=k):=by
 unfold KV at r
 induction r with
 | nil=>rfl
 | cons h t ih=>rw[XS,XS,ih,h.1]
theorem KV.Jp{kvs:!(κ×V)}{vs:!(κ×AT)}(r:KV kvs vs)(k:κ){y:V}{u:AT}(ry:RelV y u) :
  KV (kvs.map λkv=>if kv.1=k then (kv.1,y) else kv) (vs.map λkv=>if kv.1=k then (kv.1,u) else kv):=by
 unfold KV at r ⊢
 induction r with
 | nil=>exact .nil
 | @cons p q ps qs h t ih =>
  rw[Wu,Wu];show .cons ?_ ih;let(h1,h2):=h;by_cases e:p.1=k
  .rw[if_pos e,if_pos (h1.symm.trans e)];exact#[h1,ry]
  .rw[if_neg e,if_neg (λz=>e (h1.trans z))];exact#[h1,h2]
theorem KV.put{kvs:!(κ×V)}{vs:!(κ×AT)}(r:KV kvs vs)(k:κ){y:V}{u:AT}(ry:RelV y u):KV (putK kvs k y) (stored vs k u):=by
 unfold putK stored;rw[r.any k];by_cases e:(vs.any λkv=>decide (kv.1=k))=true
 .rw[if_pos e,if_pos e];exact r.Jp k ry
 .rw[if_neg e,if_neg e];exact Paired.snoc r #[U,ry]
theorem KV.length{kvs:!(κ×V)}{vs:!(κ×AT)}(r:KV kvs vs):kvs.length=vs.length:=Paired.length r
end
theorem mJ{P:Fa}{w:FS}{k:Key}{u:AT}(r:RelV (kV k) u):(b9 P w).is k u=true:=by
 cases k with
 | inl i=>let(t,e):=(show ∃ t,u=AT.int i t from r);subst e;exact vc P w i t
 | inr x=>let(t,e):=(show ∃ t,u=AT.str x t from r);subst e;exact uf P w x t
theorem ql{P:Fa}{w:FS}:∀ {ks:!Key} {us:!AT},Vals (ks.map kV) us->ItemsAre (b9 P w) ks us
 | [],_,r=>by rw[Xr] at r;cases r;exact .nil
 | k::ks,_,r=>by
  rw[Wu] at r;cases r with
  | cons h t=>exact .cons (mJ h) (ql t)
abbrev KT(H:Hp):!(!Key×V)->!(!Key×AC×AT)->Prop:=Paired λp q=>p.1=q.1/\H q.2.1=some (.tup (p.1.map kV))/\RelV p.2 q.2.2
theorem KT.val{H:Hp}{kvs:!(!Key×V)}{xs:!(!Key×AC×AT)}(r:KT H kvs xs)(k:!Key):gz (fH kvs k) ((atKey xs k).map (·.2)):=by
 induction r with
 | nil=>exact True.intro
 | @cons p q ps qs h t ih =>
  let(h1,_,h2):=h;by_cases e:p.1=k
  .have e':q.1=k:=h1.symm.trans e;have b:atKey (q::qs) k=some q.2:=by simp[atKey,List.find?_cons,e']
   rw[fD e,b];exact h2
  .have e':¬ q.1=k:=λz=>e (h1.trans z);have b:atKey (q::qs) k=atKey qs k:=by simp[atKey,List.find?_cons,e']
   rw[dD e,b];exact ih
theorem KT.Jp{H:Hp}{kvs:!(!Key×V)}{xs:!(!Key×AC×AT)}(r:KT H kvs xs)(k:!Key){y:V}{u:AT}(ry:RelV y u) :
  KT H (kvs.map λkv=>if kv.1=k then (kv.1,y) else kv) (xs.map (putAt k u)):=by
 induction r with
 | nil=>exact .nil
 | @cons p q ps qs h t ih =>
  rw[Wu,Wu];show .cons ?_ ih;let(h1,h2,h3):=h;unfold putAt;by_cases e:p.1=k
  .rw[if_pos e,if_pos (h1.symm.trans e)];exact#[h1,h2,ry]
  .rw[if_neg e,if_neg (λz=>e (h1.trans z))];exact#[h1,h2,h3]
theorem KT.put{H:Hp}{kvs:!(!Key×V)}{xs:!(!Key×AC×AT)}(r:KT H kvs xs)(k:!Key){b:AC}{y:V}{u:AT}(hb:H b=some (.tup (k.map kV)))(ry:RelV y u) :
  KT H (putK kvs k y) (storedH xs k b u):=by
 have e:(kvs.any λkv=>decide (kv.1=k))=(atKey xs k).isSome:=by
  rw[kj,(r.val k).gr,Option.isSome_map]
 unfold putK storedH;rw[e];by_cases q:(atKey xs k).isSome=true
 .rw[if_pos q,if_pos q];exact r.Jp k ry
 .rw[if_neg q,if_neg q];exact Paired.snoc r #[U,hb,ry]
theorem KT.keeps{H H':Hp}{kvs:!(!Key×V)}{xs:!(!Key×AC×AT)}(r:KT H kvs xs)(ht:∀ b ys,H b=some (.tup ys)->H' b=some (.tup ys)):KT H' kvs xs :=
 Paired.zM r λ_ _ z=>#[z.1,ht _ _ z.2.1,z.2.2]
section
variable{P:Fa}{w:FS}{H:Hp}{h:Ev}{a:AC}
theorem FP{u:HO}(ok:jv P w H h)(e:Rd H a u):cj P w H h a u:=e.ok ok
theorem oU{kvs:!(Key×V)}(ok:jv P w H h)(e:Rd H a (.dK kvs)):kvs.length<=FB/\(a == P3)=false/\∃ vs,KV kvs vs/\h.DictOf (b9 P w) a vs :=
 show cj P w H h a (.dK kvs) from FP ok e
theorem Cp{kvs:!(Key×V)}(ok:jv P w H h)(e:H a=some (.dK kvs)):kvs.length<=FB/\(a == P3)=false/\∃ vs,KV kvs vs/\h.DictOf (b9 P w) a vs:=oU ok (.inl e)
theorem l0{ks:!Key}(ok:jv P w H h)(e:H a=some (.tup (ks.map kV))):(tupleKind (b9 P w)).is h ks a:=by
 let(_,its,r,o,h1,h2,n,h3):=(show cj P w H h a (.tup (ks.map kV)) from ok a _ e);exact#[o,its.toArray,n,h1,h2,h3.1,by simpa using ql r]
theorem pd{kvs:!(!Key×V)}(ok:jv P w H h)(e:Rd H a (.dT kvs)):kvs.length<=FB/\(a == P3)=false /\
  ∃ xs,KT H kvs xs/\h.DictOfH (tupleKind (b9 P w)) a xs:=by
 let(z,y,xs,r,o,es,ep,h1,h2,h3,h4,h5):=(show cj P w H h a (.dT kvs) from FP ok e);show#[z,y,xs,r,o,es,ep,h1,h2,h3,h4,λx hx=>?_,h5];have all:∀ {l:!(!Key×V)} {m:!(!Key×AC×AT)},KT H l m->∀ x∈m,(tupleKind (b9 P w)).is h x.1 x.2.1:=by
  intro l m q
  induction q with
  | nil=>intro x hx;exact nomatch hx
  | @cons p q ps qs hq t ih =>
   intro x hx;rcases WI.mp hx with e | hx
   .subst e;exact l0 ok (by rw[<- hq.1];exact hq.2.1)
   .exact ih x hx
 exact all r x hx
theorem My{kvs:!(!Key×V)}(ok:jv P w H h)(e:H a=some (.dT kvs)):kvs.length<=FB/\(a == P3)=false /\
  ∃ xs,KT H kvs xs/\h.DictOfH (tupleKind (b9 P w)) a xs:=pd ok (.inl e)
end
def fJ(H:Hp)(a:AC)(y:V)(r:Option V):Prop :=
 (∃ kvs k,Rd H a (.dK kvs)/\y=kV k/\r=fH kvs k)\/∃ kvs k b,Rd H a (.dT kvs)/\y=.ref b/\H b=some (.tup (k.map kV))/\r=fH kvs k
def lJ(H:Hp)(a:AC)(y v:V)(H':Hp):Prop :=
 (∃ kvs k,H a=some (.dK kvs)/\y=kV k/\kvs.length < FB/\H'=upd H a (.dK (putK kvs k v))) \/
 ∃ kvs k b,H a=some (.dT kvs)/\y=.ref b/\H b=some (.tup (k.map kV))/\kvs.length < FB/\H'=upd H a (.dT (putK kvs k v))
theorem fJ.k{H:Hp}{a:AC}{kvs:!(Key×V)}{k:Key}(e:H a=some (.dK kvs)):fJ H a (kV k) (fH kvs k):=.inl #[kvs,k,.inl e,U,U]
theorem fJ.t{H:Hp}{a b:AC}{kvs:!(!Key×V)}{k:!Key}(e:H a=some (.dT kvs))(eb:H b=some (.tup (k.map kV))):fJ H a (.ref b) (fH kvs k):=.inr #[kvs,k,b,.inl e,U,eb,U]
theorem lJ.k{H:Hp}{a:AC}{kvs:!(Key×V)}{k:Key}{v:V}(e:H a=some (.dK kvs))(hl:kvs.length < FB):lJ H a (kV k) v (upd H a (.dK (putK kvs k v))):=.inl #[kvs,k,e,U,hl,U]
theorem lJ.t{H:Hp}{a b:AC}{kvs:!(!Key×V)}{k:!Key}{v:V}(e:H a=some (.dT kvs))(eb:H b=some (.tup (k.map kV)))(hl:kvs.length < FB) :
  lJ H a (.ref b) v (upd H a (.dT (putK kvs k v))):=.inr #[kvs,k,b,e,U,eb,hl,U]
section
variable{X:Cx}{TW:Yz}{σ:St}{H:Hp}{s:Da}{a:AC}{y v:V}{u r:AT}{o:Option V}{A:Fk}{E:Yy}
theorem Inv.big(I:Inv X TW σ H s):P3 < ↑s:=by
 have h:GT < ↑s:=(I.mod.glob.keeps I.bk).lt;exact Nat.lt_trans () h
theorem zw{Q:Yy}(hu:A.units+1 < cLine)(I:Inv X TW σ H s)(g:fJ H a y (some v))(ry:RelV y u)(h:∀ w' s',Inv X TW σ H s'->RelV v w'->Q w' s') :
  EQ (model X.prog X.w) A (getItem (.ref a) u) Q E s:=by
 rcases g with ⟨kvs,k,e,ey,l⟩ | ⟨kvs,k,b,e,ey,eb,l⟩
 .subst ey;let(z,hd,vs,rel,dd):=oU I.bf e;let(w',hw,rw'):=gz.some_of (v:=v) (o:=valueAt vs k) (by rw[l];exact rel.val k);exact wpAny_getItem_of (mJ ry) dd.mapOf hw (h w' _ (I.tok _) rw')
 .subst ey;cases (show u=AT.ref b from ry);let(z,hd,xs,rel,dd):=pd I.bf e;let(w',hw,rw'):=gz.some_of (v:=v) (o:=(atKey xs k).map (·.2)) (by rw[l];exact rel.val k);let(p,hp,hp2):=WD.mp hw;show wpAny_getItem_heap (tupleKind_room_in1 hu) (l0 I.bf eb) dd hp ?_;rw[hp2];exact h w' _ (I.tok _) rw'
theorem Pm{Q:Yy}(hu:A.units+1 < cLine)(I:Inv X TW σ H s)(g:fJ H a y o)(ry:RelV y u)(h:∀ s',Inv X TW σ H s'->Q (.bool o.isSome) s') :
  EQ (model X.prog X.w) A (IR .In u (.ref a)) Q E s:=by
 rcases g with ⟨kvs,k,e,ey,l⟩ | ⟨kvs,k,b,e,ey,eb,l⟩
 .subst ey;let(z,hd,vs,rel,dd):=oU I.bf e;show wpAny_in_of (mJ ry) hd dd.mapOf ?_;rw[<- (rel.val k).gr,<- l];exact h _ (I.tok _)
 .subst ey;cases (show u=AT.ref b from ry);let(z,hd,xs,rel,dd):=pd I.bf e;show wpAny_in_heap (tupleKind_room_in1 hu) (l0 I.bf eb) hd dd ?_;have q:=(rel.val k).gr;rw[Option.isSome_map] at q;rw[<- q,<- l];exact h _ (I.tok _)
theorem DK{Q:Yy}(hu:A.units+1 < cLine)(I:Inv X TW σ H s)(g:fJ H a y o)(ry:RelV y u)(h:∀ s',Inv X TW σ H s'->Q (.bool (not o.isSome)) s') :
  EQ (model X.prog X.w) A (IR .NotIn u (.ref a)) Q E s:=by
 rcases g with ⟨kvs,k,e,ey,l⟩ | ⟨kvs,k,b,e,ey,eb,l⟩
 .subst ey;let(z,hd,vs,rel,dd):=oU I.bf e;show wpAny_notIn_of (mJ ry) hd dd.mapOf ?_;rw[<- (rel.val k).gr,<- l];exact h _ (I.tok _)
 .subst ey;cases (show u=AT.ref b from ry);let(z,hd,xs,rel,dd):=pd I.bf e;show wpAny_notIn_heap (tupleKind_room_in1 hu) (l0 I.bf eb) hd dd ?_;have q:=(rel.val k).gr;rw[Option.isSome_map] at q;rw[<- q,<- l];exact h _ (I.tok _)
theorem nv{h':Ev}{t':Nat}{ob:HO}(I:Inv X TW σ H s)(mu:JA (H a))(hs:Ev.SameBut a s.heap h')(he:∃ q,h'.get? a=some q)(new:cj X.prog X.w (upd H a ob) h' a ob) :
  Inv X TW σ (upd H a ob) { s with heap:=h',toks:=t' } :=
 I.write (x:=a) (e:=a) mu (.inl U) (λb q hb z=>(hs.2 b hb).trans z) he new
theorem vX{P:Fa}{w:FS}{H':Hp}{h':Ev}{kvs:!(Key×V)}{vs:!(Key×AT)}(z:kvs.length<=FB)(hd:(a == P3)=false)(rel:KV kvs vs)(dd:h'.DictOf (b9 P w) a vs) :
  cj P w H' h' a (.dK kvs):=#[z,hd,vs,rel,dd]
theorem y6{H':Hp}{Q:Unit->Da->Prop}(hu:A.units+1 < cLine)(I:Inv X TW σ H s)(g:lJ H a y v H')(ry:RelV y u)(rv:RelV v r)(h:∀ s',Inv X TW σ H' s'->Q Unit.unit s') :
  EQ (model X.prog X.w) A (setItem (.ref a) u r) Q E s:=by
 rcases g with ⟨kvs,k,e,ey,l,eH⟩ | ⟨kvs,k,b,e,ey,eb,l,eH⟩
 .subst ey eH;let(z,hd,vs,rel,dd):=Cp I.bf e;have hz:vs.length<=FB:=by rw[<- rel.length];exact z
  have hl:(putK kvs k v).length<=FB:=by have:=eG kvs k v;cbv
  show wpAny_setItem_pairs (hsz:=hz) (mJ ry) dd λh' dd' hs=>h _ ?_;have he:∃ q,h'.get? a=some q:=let #[q,_,_,hq,_]:=dd';#[q,hq];exact nv I (by rw[e];exact True.intro) hs he (vX hl hd (rel.put k rv) dd')
 .subst ey eH;cases (show u=AT.ref b from ry);let(z,hd,xs,rel,dd):=My I.bf e;have hz:xs.length<=FB:=by rw[<- Paired.length rel];exact z
  have hl:(putK kvs k v).length<=FB:=by have:=eG kvs k v;cbv
  show wpAny_setItem_heap (hsz:=hz) (tupleKind_room_in1 hu) (l0 I.bf eb) dd λh' dd' hs=>h _ ?_;let(q,es,ep,hq,h2,h3,h4,_,h5):=dd';show nv I (by rw[e];exact True.intro) hs #[q,hq] #[hl,hd,_,(rel.put k eb rv).keeps λc ys ec=>?_,q,es,ep,hq,h2,h3,h4,h5];rw[au (Ai ec e (λz=>nomatch z))];exact ec
end
section
variable{X:Cx}{TW:Yz}{σ:St}{H:Hp}{s:Da}{a:AC}{kvs:!(Key×V)}{k:Key}{u:AT}{A:Fk}{E:Yy}
end
def MD(i:Ch):Prop:=∀ ov iv,subscripted i false ov iv=operate [ov,iv] (getItem ov iv)
theorem DD{prog:Fa}{w:FS}{A:Fk}{E:Yy}{s:Da}{env:Env}{value slice:Ch}{pos:Pos}{T id:String}{Q:Yy}(hl:typeLookup (.type T) "__getitem__"=pure (some (.builtin id)))(hs:MD slice)(h:EQ (model prog w) A (eval value env) (λo s₁=>EQ (model prog w) A (eval slice env) (λi s₂=>s₂.TypeIs o T/\EQ (model prog w) A (getItem o i) Q E s₂) E s₁) E s) :
  EQ (model prog w) A (eval (.Subscript value slice pos) env) Q E s:=by
 show Subscript_ (KB h (λo s₁ h₁=>KB h₁ (λi s₂ h₂=>?_) λ_ _ x=>x) λ_ _ x=>x);let(hT,h₂):=h₂;unfold subscriptTail;show Db ?_;rw[getitemInPython_of_ne hT.not_modules];show Db (wpAny_specialOf hT hl ?_);have fin:EQ (model prog w) A (subscripted slice false o i) (λr s₃=>EQ (model prog w) A (letTemporaryGo value o r >>= λ_=>pure r) Q E s₃) E s₂:=by
  rw[hs o i];exact wpAny_operating (KB h₂ (λr s₃ h₃=>Db (wpAny_letTemporaryGo (Fr h₃))) λ_ _ x=>x)
 first
  | exact Fr (Db fin)
  | exact Db (Fr (Db fin))
  | exact Db fin
theorem ux{X:Cx}{TW:Yz}{σ:St}{H:Hp}{s:Da}{a:AC}{y:V}{o:Option V}(I:Inv X TW σ H s)(g:fJ H a y o):s.TypeIs (.ref a) "dict":=by
 rcases g with ⟨kvs,k,e,_,_⟩ | ⟨kvs,k,b,e,_,_,_⟩
 .let(_,_,vs,_,dd):=oU I.bf e;exact dd.typeIs
 .let(_,_,xs,_,dd):=pd I.bf e;exact dd.typeIs
def kg(td ty:TE):TE:=λσ H Q=>td σ H λx H1=>ty σ H1 λy H2=>∃ a v,x=.ref a/\fJ H2 a y (some v)/\Q v H2
def Kn(ty td:TE):TE:=λσ H Q=>ty σ H λy H1=>td σ H1 λx H2=>∃ a o,x=.ref a/\fJ H2 a y o/\Q (.bl o.isSome) H2
def yG(ty td:TE):TE:=λσ H Q=>ty σ H λy H1=>td σ H1 λx H2=>∃ a o,x=.ref a/\fJ H2 a y o/\Q (.bl (not o.isSome)) H2
def uK(td ty tv:TE):TS:=λD σ H=>tv σ H λv H1=>td σ H1 λx H2=>ty σ H2 λy H3=>∃ a H4,x=.ref a/\lJ H3 a y v H4/\D.nx σ H4
section
variable{X:Cx}{o i e value:Ch}{pos pos' kc:Pos}{td ty tv:TE}
theorem bx(hu:X.A.units+1 < cLine)(ho:PE X o td)(hi:PE X i ty)(hs:MD i):PE X (.Subscript o i pos) (kg td ty):=by
 intro TW s σ H Q I h;show DD PySem.F.slot_dict_getitem.lookup hs (bW (ho TW s σ H _ I h) λu s1 zz=>el2 zz λx H1 I1 rx q1=>bW (hi TW s1 σ H1 _ I1 q1) λiv s2 z4q=>?_);let(y,H2,I2,ry,a,v,ex,g,q2):=z4q;subst ex;obtain rfl:u=AT.ref a:=rx;exact#[ux I2 g,zw hu I2 g ry λw' s3 I3 rw'=>#[v,H2,I3,rw',q2]]
theorem G5(hu:X.A.units+1 < cLine)(hi:PE X i ty)(ho:PE X o td):PC X .In i o (Kn ty td):=by
 intro TW s σ H Q I h;show bW (hi TW s σ H _ I h) λiv s1 zz=>el2 zz λy H1 I1 ry q1=>bW (ho TW s1 σ H1 _ I1 q1) λu s2 z5q=>?_;let(x,H2,I2,rx,a,ov,ex,g,q2):=z5q;subst ex;obtain rfl:u=AT.ref a:=rx;exact Pm hu I2 g ry λs3 I3=>#[.bl ov.isSome,H2,I3,U,q2]
theorem zq(hu:X.A.units+1 < cLine)(hi:PE X i ty)(ho:PE X o td):PC X .NotIn i o (yG ty td):=by
 intro TW s σ H Q I h;show bW (hi TW s σ H _ I h) λiv s1 zz=>el2 zz λy H1 I1 ry q1=>bW (ho TW s1 σ H1 _ I1 q1) λu s2 #[x,H2,I2,rx,a,ov,ex,g,q2]=>?_;subst ex;obtain rfl:u=AT.ref a:=rx;exact DK hu I2 g ry λs3 I3=>#[.bl (not ov.isSome),H2,I3,U,q2]
theorem nj(hu:X.A.units+1 < cLine)(ho:PE X o td)(hi:PE X i ty)(hv:PE X value tv)(hs:swapsWith value (some (.Subscript o i pos')) pos.line X.env=pure false) :
  PS X (.Assign [.Subscript o i pos'] value pos) (uK td ty tv):=by
 intro TW s σ H D I h;show wpAny_Assign_Subscript (bW (hv TW s σ H _ I h) λr s1 zz=>el2 zz λv H1 I1 rv q1=>bW (ho TW s1 σ H1 _ I1 q1) λu s2 zz=>el2 zz λx H2 I2 rx q2=>bW (hi TW s2 σ H2 _ I2 q2) λiv s3 #[y,H3,I3,ry,a,H4,ex,g,q3]=>?_) hs;subst ex;obtain rfl:u=AT.ref a:=rx;exact y6 hu I3 g ry rv λs4 I4=>#[σ,H4,I4,q3]
end
theorem uO{P:Fa}{w:FS}{H:Hp}(h:Ev)(hb:P3 < h.objs.size):cj P w H (h.push { cls:=.type "dict",data:=.dict #v[] }) h.objs.size (.dK []) :=
 #[WG _,beq_eq_false_iff_ne.mpr (Ne.symm (WK hb)),[],.nil,Ev.DictOf.new h]
theorem As{P:Fa}{w:FS}{H:Hp}(h:Ev)(hb:P3 < h.objs.size):cj P w H (h.push { cls:=.type "dict",data:=.dict #v[] }) h.objs.size (.dT []) :=
 #[WG _,beq_eq_false_iff_ne.mpr (Ne.symm (WK hb)),[],.nil,_,#v[],0,Wz _ U,#[U,U,U],U,U,List.nodup_nil]
def Iy:TE:=λ_ H Q=>∀ p,H p=none->Q (.ref p) (upd H p (.dT []))
section
variable{X:Cx}{pos:Pos}
theorem Cy:PE X (.Dict [] [] pos) Iy:=λTW s σ H Q I h =>
 wpAny_Dict_empty #[.ref ↑s,_,I.laid (a:=↑s) (o:=.dT []) (t':=s.toks) (λ_ _ q=>Wl _ q) (Wo _) (As s.heap I.big),U,h _ (I.bf.fresh (Wo _))]
end
def o8:!(TE×TE)->St->Hp->(!(V×V)->Hp->Prop)->Prop
 | [],_,H,Q=>Q [] H
 | (tk,tv)::r,σ,H,Q=>tk σ H λx H1=>tv σ H1 λy H2=>o8 r σ H2 λps H3=>Q ((x,y)::ps) H3
abbrev VV:!(V×V)->!(AT×AT)->Prop:=Paired λp q=>RelV p.1 q.1/\RelV p.2 q.2
def Mm(X:Cx)(pos:Pos)(keys:!(Option Ch))(values:!Ch)(Ds:!(TE×TE)):Prop :=
 ∀ (TW:Yz) (s:Da) (σ:St) (H:Hp) (Q:!(V×V)->Hp->Prop),Inv X TW σ H s->o8 Ds σ H Q ->
  EQ (model X.prog X.w) X.A (evalPairs (pairTrees keys values X.env pos)) (λvs s'=>∃ ps H',Inv X TW σ H' s'/\VV ps vs/\Q ps H') X.xe s
theorem yC{X:Cx}{pos:Pos}:Mm X pos [] [] []:=λTW s σ H Q I h=>pairTrees_nil_walk #[[],H,I,.nil,h]
theorem kE{X:Cx}{pos:Pos}{k v:Ch}{ks:!(Option Ch)}{vs:!Ch}{tk tv:TE}{Ds:!(TE×TE)}(hk:PE X k tk)(hv:PE X v tv)(hr:Mm X pos ks vs Ds) :
  Mm X pos (some k::ks) (v::vs) ((tk,tv)::Ds):=λTW s σ H Q I h =>
 pairTrees_cons_walk (bW (hk TW s σ H _ I h) λu s1 zz=>el2 zz λx H1 I1 rx q1=>bW (hv TW s1 σ H1 _ I1 q1) λw2 s2 zz=>el2 zz λy H2 I2 ry q2 =>
  bW (hr TW s2 σ H2 _ I2 q2) λws s3 zz=>el2 zz λps H3 I3 rel q3=>#[(x,y)::ps,H3,I3,.cons #[rx,ry] rel,q3])
def gg(kvs more:!(Key×V)):!(Key×V):=more.foldl (λacc kv=>putK acc kv.1 kv.2) kvs
theorem KV.merge:∀ {more:!(Key×V)} {rs:!(Key×AT)} {kvs:!(Key×V)} {vs:!(Key×AT)},KV more rs->KV kvs vs->KV (gg kvs more) (merged vs rs):=by
 intro more rs kvs vs r;unfold KV at r
 induction r generalizing kvs vs with
 | nil=>intro q;exact q
 | @cons p q ps qs h t ih =>
  intro r0;have e:KV (putK kvs p.1 p.2) (stored vs q.1 q.2):=by
   have:=r0.put p.1 h.2;rw[<- h.1];exact this
  exact ih e
theorem jD:∀ (more kvs:!(Key×V)),(gg kvs more).length<=kvs.length+more.length
 | [],kvs=>by change kvs.length<=kvs.length+0;cbv
 | p::r,kvs=>by
  have h1:=jD r (putK kvs p.1 p.2);have h2:=eG kvs p.1 p.2;change (gg (putK kvs p.1 p.2) r).length<=_;rw[Ws];cbv
theorem nG{P:Fa}{w:FS}:∀ {kvs:!(Key×V)} {ws:!(AT×AT)},VV (kvs.map λkv=>(kV kv.1,kv.2)) ws->∃ rs,Carries (b9 P w) ws rs/\KV kvs rs
 | [],_,r=>by rw[Xr] at r;cases r;exact#[[],True.intro,.nil]
 | p::kvs,_,r=>by
  rw[Wu] at r;cases r with
  | @cons a b as bs h t =>
   let(rs,c,q):=nG (P:=P) (w:=w) t;let(b1,b2):=b;exact#[(p.1,b2)::rs,#[mJ h.1,U,c],.cons #[U,h.2] q]
def Gi(Ds:!(TE×TE)):TE:=λσ H Q=>∀ p,H p=none->o8 Ds σ (upd H p (.dK [])) λps H2=>H2 p=some (.dK [])/\∃ kvs:!(Key×V),ps=kvs.map (λkv=>(kV kv.1,kv.2))/\kvs.length<=15/\Q (.ref p) (upd H2 p (.dK (gg [] kvs)))
theorem xk{X:Cx}{pos:Pos}{keys:!(Option Ch)}{values:!Ch}{Ds:!(TE×TE)}(h:Mm X pos keys values Ds)(Be:keys.all (·.isSome)=true)(hl:keys.length=values.length)(h0:keys≠[])(Fz:keys.length<=15):PE X (.Dict keys values pos) (Gi Ds):=by
 intro TW s σ H Q I q;have hn:=I.bf.fresh (Wo ↑s);have I1:=I.laid (a:=↑s) (o:=.dK []) (h':=s.heap.push { cls:=.type "dict",data:=.dict #v[] }) (t':=s.toks) (λ_ _ q=>Wl _ q) (Wo _) (uO s.heap I.big);show wpAny_Dict_walk (knd:=b9 X.prog X.w) Be hl h0 Fz (bW (h TW _ σ _ _ I1 (q _ hn)) λws s2 z6q=>?_);let(ps,H2,I2,rel,e,kvs,ep,lk,q2):=z6q;subst ep;let(rs,c,rk):=nG (P:=X.prog) (w:=X.w) rel;let(z,hd,vs0,r0,dd):=Cp I2.bf e;cases r0;show#[rs,c,dd,λh' dd' hs=>#[.ref ↑s,_,?_,U,q2]];have hz:(gg [] kvs).length<=FB:=by
  have h1:=jD kvs [];rw[List.length_nil] at h1;rw[sizeLine_eq];cbv
 have he:∃ q,h'.get? ↑s=some q:=let #[q,_,_,hq,_]:=dd';#[q,hq];exact nv I2 (by rw[e];exact True.intro) hs he (vX hz hd (rk.merge .nil) dd')
structure M2(X:Cx)(o:Ch)(m:Str)(apos:Pos)(e f:Ch)(bX:Pos):Prop where
 base:attributeBase o m X.env (eval o X.env)=eval o X.env
 Og:((Ix bX (Go [e,f] X.env)).all (λx=>(not x.1))&&(Re bX (Rs [] X.env)).all (λx=>x.1.isSome)
  && decide (([e,f]:!Ch).length+([]:!NE).length+(if ([]:!NE).isEmpty then 0 else 1) < 30))=true
 line:(apos.endLine == bX.line)=true
 trees:Ix bX (Go [e,f] X.env)=[(false,eval e X.env),(false,eval f X.env)]
def PU(H:Hp)(a:AC):Prop:=(∃ kvs,Rd H a (.dK kvs))\/∃ kvs,Rd H a (.dT kvs)
theorem GY{X:Cx}{TW:Yz}{σ:St}{H:Hp}{s:Da}{a:AC}(I:Inv X TW σ H s)(d:PU H a) :
  s.TypeIs (.ref a) "dict"/\(∀ b,AT.ref a=.ref b->∃ ob,s.heap.get? b=some ob/\ob.dict=none)/\(a == P3)=false:=by
 rcases d with ⟨kvs,e⟩ | ⟨kvs,e⟩
 .let(_,hd,vs,_,dd):=oU I.bf e;show#[dd.typeIs,λb q=>?_,hd];cases q;let(ob,_,_,h1,h2,_):=dd;exact#[ob,h1,h2.2.1]
 .let(_,hd,xs,_,dd):=pd I.bf e;show#[dd.typeIs,λb q=>?_,hd];cases q;let(ob,_,_,h1,h2,_):=dd;exact#[ob,h1,h2.2.1]
section
variable{X:Cx}{TW:Yz}{σ:St}{H:Hp}{s:Da}{a:AC}{y d:V}{u r:AT}{o:Option V}{A:Fk}{E:Yy}
theorem G8{Q:Yy}(hu:A.units+1 < cLine)(I:Inv X TW σ H s)(g:fJ H a y o)(ry:RelV y u)(rd:RelV d r)(h:∀ w' s',Inv X TW σ H s'->RelV (o.getD d) w'->Q w' s') :
  EQ (model X.prog X.w) A (call (.builtin "dict.get") [.ref a,u,r]) Q E s:=by
 rcases g with ⟨kvs,k,e,ey,l⟩ | ⟨kvs,k,b,e,ey,eb,l⟩
 .subst ey;let(z,hd,vs,rel,dd):=oU I.bf e;show call_meetsIn Yq dd.typeIs PySem.F.entry_dict_get (PySem.F.args_dict_get_3 _ _ _) (meets_dict_get_default (b9 X.prog X.w) a (mJ ry) hd r) #[_,dd.mapOf,h _ _ (I.tok _) ?_];rw[l];exact (rel.val k).getD rd
 .subst ey;cases (show u=AT.ref b from ry);let(z,hd,xs,rel,dd):=pd I.bf e;show call_meetsIn Yq dd.typeIs PySem.F.entry_dict_get (PySem.F.args_dict_get_3 _ _ _) (meetsH_dict_get_default (tupleKind (b9 X.prog X.w)) a b hd r) #[tupleKind_room_in1 hu,k,xs,l0 I.bf eb,dd,h _ _ (I.tok _) ?_];rw[l];exact (rel.val k).getD rd
end
def CU(td ty tx:TE):TE:=λσ H Q=>td σ H λx H1=>∃ a,x=.ref a/\PU H1 a/\ty σ H1 λy H2=>tx σ H2 λz H3=>∃ o,fJ H3 a y o/\Q (o.getD z) H3
section
variable{X:Cx}{o e f:Ch}{apos bX:Pos}{td ty tx:TE}
theorem AU(hu:X.A.units+1 < cLine)(ho:PE X o td)(he:PE X e ty)(hf:PE X f tx)(m:M2 X o "get" apos e f bX):PE X (.Call (.Attribute o "get" apos) [e,f] [] bX) (CU td ty tx):=by
 intro TW s σ H Q I h;show wpAny_Call_method m.base m.Og m.line PySem.F.plainAttrs_dict Yq PySem.F.type_dict_get (bW (ho TW s σ H _ I h) λu s1 #[x,H1,I1,rx,a,ex,d,q1]=>?_);subst ex;obtain rfl:u=AT.ref a:=rx;let(t1,t2,_):=GY I1 d;show#[t1,t2,?_];rw[m.trees];show Calls.callWith_builtin U (Calls.evalArgs_plain (Calls.spliced_cons (bW (he TW s1 σ H1 _ I1 q1) λiv s2 zz=>el2 zz λy H2 I2 ry q2 =>
  Calls.spliced_cons (bW (hf TW s2 σ H2 _ I2 q2) λfv s3 #[z,H3,I3,rz,ov,g,q3]=>Calls.spliced_nil ?_))))
 exact G8 hu I3 g ry rz λw' s4 I4 rw'=>#[_,H3,I4,rw',q3]
end
section
variable{X:Cx}{TW:Yz}{σ:St}{H:Hp}{s:Da}{a:AC}{kvs:!(Key×V)}{A:Fk}{E:Yy}
end
section
variable{X:Cx}{TW:Yz}{σ:St}{H:Hp}{s:Da}{a:AC}{y:V}{u:AT}{A:Fk}{E:Yy}
end
end L2
namespace Tp
open PySem PySem.W PySem.Calls PyProof.Rows
theorem mY{P:TD}{h:Ev}:∀ (ns:!Int) (vs:!AT),WellAll P h vs (ns.map WData.int)->IntsAre vs ns:=by
 intro ns
 induction ns with
 | nil =>
  intro vs w;rw[Xr] at w;cases w;exact .nil
 | cons n ns ih =>
  intro vs w;rw[Wu] at w;cases w with
  | cons a b =>
   cases a;exact .cons _ _ (ih _ b)
theorem yJ{l:OpenLaw}{n:Nat}(hn:l.most=some n){P:TD}{h:Ev}{args:!WData}{vals:!AT}(yZ:l.row.toRowW.claim.pre args=true)(lW:WellAll P h vals args) :
  ∃ a vs ns,vals=[AT.ref a]/\args=[WData.list (ns.map WData.int)]/\h.get? a=some { cls:=.type "list",data:=.seq vs.toArray }/\IntsAre vs ns/\ns.length<=n:=by
 have hsh:WShape.hasAll [] args [.list .int]=true:=(pre_splitW yZ).1;have hc:l.pre.holds [] { args:=args }=true:=(pre_splitW yZ).2;let(d,r,rfl,h1,h2):=hasAllW_cons hsh;obtain rfl:=hasAllW_nil h2;let(xs,rfl,h3):=hasW_list h1;let(ns,rfl):=items_int h3;have hlen:ns.length<=n:=by
  unfold OpenLaw.pre at hc;have h4:(WTm.not (.lt (.lit (.int (n:Int))) (.len (.arg 0)))).holds [] { args:=[.list (ns.map .int)] }=true:=by
   have h4:=(holds_andW hc).1;rw[hn] at h4;exact h4
  have h5:=condW_of h4 (w_not (w_lt w_lit (w_len_list (w_arg U))));rw[Wk] at h5;show Nat.le_of_not_lt λq=>?_;have q':(n:Int) < ((ns.length:Nat):Int):=by cbv
  first
   | (rw[decide_eq_true q'] at h5;exact absurd h5 ())
   | (simp at h5;cbv)
 cases lW with
 | cons w1 w2 =>
  cases w2;cases w1 with
  | list ho Be=>exact#[_,_,ns,U,U,ho,mY ns _ Be,hlen]
theorem zK(l:OpenLaw)(args:!WData):l.row.toRowW.claim.post args (.bool true) args=true :=
 postW_of (r:=l.row.toRowW) (X:=(true == true))
  (show WShape.has [] (.bool true) .bool=true by first | rfl | decide | simp[WShape.has,WShape.arms,WShape.armsAll])
  (show (WTm.eq .res (.lit (.bool true))).value [] { args:=args,res:=some (.bool true),after:=args }=some (.bool (true == true)) from w_eq_bool (w_res U) w_lit) U
theorem uQ{l:OpenLaw}{n:Nat}{q:Fa}{loose:!Str}{XP:(Str->Option AT)->Ev->Prop}{YP:FS->Ev->Prop}{d:DefRec}(hn:l.most=some n)(LW:d.params.defaults=[])(call:∀ (w:FS) (s₀ s₁:Da) (mg mb:Str->Option AT) (fa:AC) (o:Obj) (pm cd doc:AT) (a:AC) (vs:!AT) (ns:!Int),
   Ground q loose [] XP w s₀ mg mb s₁.heap->YP w s₁.heap ->
   s₁.heap.get? fa=some o->o.data=.func (docDef d.name d.params d.body d.scope pm cd doc)->s₁.heap.CodeRec cd d.name->mg d.name=some (.ref fa) ->
   s₁.heap.get? a=some { cls:=.type "list",data:=.seq vs.toArray }->IntsAre vs ns->ns.length<=n->s₁.gens=#v[] ->
   codeAny (model l.prog w) callerA (.call (.ref fa) #[[.ref a],[]]) (λr s'=>r=.ok (.ret (.bool true))/\OldK s₁.heap s'.heap/\s'.os=s₁.os/\AllBare s'.gens) s₁) :
  WalkO q loose XP YP l.row.toRowW d [] (λf vs=>PySem.call f vs):=by
 intro w s₀ s₁ mg mb G Y fa o pm cd doc dV kV ho hd pU hD hmg hg args vals as yZ hlay hrd lW hlo;obtain rfl:dV=.none:=Dflts.none hD LW;obtain rfl:kV=.none:=Dflts.noKw hD;let(a,vs,ns,rfl,rfl,hobj,hints,hlen):=yJ hn yZ lW;show enter_call (codeAny_mono (call w s₀ s₁ mg mb fa o pm cd doc a vs ns G Y ho (fd_plain hd) pU hmg hobj hints hlen hg) λr s' hq=>?_);let(rfl,h2,h3,h4):=hq;exact#[.inl #[.bool true,.bool true,[],U,λ_=>rfl,.bool true,zK l _,λ_=>#[List.Pairwise.nil,λ_ hm=>(nomatch hm)]],h2,h3,h4]
section
variable{prog:Fa}{w:FS}{A:Fk}{E:Yy}{s:Da}{K:Frag}
end
end Tp
namespace L2
open PySem PySem.Spec PyProof.Rows
theorem qN:∀ {vs:!AT} {ns:!Int},IntsAre vs ns->Vals (ns.map V.int) vs
 | _,_,.nil=>.nil
 | _,_,.cons n t h=>.cons #[t,U] (qN h)
def Io(H:Hp):Prop:=∀ b,H b=none\/∃ o xs,H b=some (.jh o (.lst xs))
theorem Co{P:Fa}{w:FS}{K:Frag}{mg mb:Str->Option AT}{CX:we}{k:Nat}{fa a:AC}{fd:Gc}{x:Str}{sp:Sp}{s₁:Da}{vs:!AT}{ns:!Int}(KX:K.In s₁.heap)(u4:s₁.heap.Ns GT mg)(hb:s₁.heap.Ns builtinsNs mb)(GK:∀ x:Str,x≠"__name__"->mb x=bootBuiltins x)(Rb:s₁.heap.NoLimit)(hg:s₁.gens=#v[])(ha:s₁.heap.get? a=some { cls:=.type "list",data:=.seq vs.toArray })(hi:IntsAre vs ns)(hl:ns.length<=FB)(hr:bU k callerA)(F:∀ base:Ev,K.In base->base.Ns GT mg->bY P w K mg base CX k fa fd [x] sp)(NJ:∀ (s:Da) (u:AT),BindsTo s fd #[[u],[]] [(x,u)])(De:∀ H:Hp,Io H->dO K H a (ns.map V.int)->sp [.ref a] H (λv _=>v=.bl true) λ_ _ _=>False)(Qh:∀ H e s',CX [] H s₁ (λ_ _ _=>False) e s'->False) :
  codeAny (model P w) callerA (.call (.ref fa) #[[.ref a],[]]) (λr s'=>r=.ok (.ret (.bool true))/\OldK s₁.heap s'.heap/\s'.os=s₁.os/\AllBare s'.gens) s₁:=by
 have rv:=qN hi;have lenV:=hi.length
 -- from an abstract heap in which nothing but the script may be tracked
 have core:∀ H:Hp,Io H->dO K H a (ns.map V.int)->jv P w H s₁.heap->(∀ b,H b≠none->b=a)->(H a≠none->K.lookup a=none) ->
   codeAny (model P w) callerA (.call (.ref fa) #[[.ref a],[]]) (λr s'=>r=.ok (.ret (.bool true))/\OldK s₁.heap s'.heap/\s'.os=s₁.os/\AllBare s'.gens) s₁:=by
  intro H hO hS bf hA hK;have base_of:∀ {b:AC} {o:Obj},s₁.heap.get? b=some o->H b=none->(rP s₁.heap H).get? b=some o:=λe n=>Bp e n;have noA:∀ {b:AC} {o:Obj} {es:Array Sc} {ep:Nat},s₁.heap.get? b=some o->o.data=.dict es ep->H b=none:=λ{b o es ep} e d=>by
   cases q:H b with
   | none=>rfl
   | some u =>
    have e':b=a:=hA b (by rw[q];simp);subst e';rw[ha] at e;cases e;have d':Data.seq vs.toArray _=Data.dict es ep:=d;cases d'
  have nsK:∀ {b:AC} {m:Str->Option AT},s₁.heap.Ns b m->(rP s₁.heap H).Ns b m:=λ{b m} #[o,es,ep,e,d,r]=>#[o,es,ep,base_of e (noA e d),d,r];have hKb:K.In (rP s₁.heap H):=λb o e=>base_of (KX b o e) (by
   cases q:H b with
   | none=>rfl
   | some u =>
    have e':b=a:=hA b (by rw[q];simp);subst e';rw[hK (by rw[q];simp)] at e;cases e)
  have hM:Mod K mg (rP s₁.heap H):=#[hKb,nsK u4,#[mb,nsK hb,GK],let #[mc,h1,h2]:=Rb;#[mc,nsK h1,h2]];have e0:vz P w K mg (rP s₁.heap H) callerA [] s₁ H:=#[U,hM,λb o e=>E8 e,Nat.le_of_eq (y3 _ _),trivial,λb hb=>absurd (show b∈([]:!AC) from hb) (by simp),bf,.of_eq hg];show codeAny_mono ((F _ hKb (nsK u4)).run callerA [] s₁ H #[[.ref a],[]] [.ref a] [.ref a] _ _ hr e0 (NJ s₁ (.ref a)) (.cons U .nil) (De H hO hS)) λr s' h=>?_;cases r with
  | error e=>exact (Qh H e s' h).elim
  | ok fl =>
   cases fl with
   | next=>exact False.elim h
   | brk=>exact False.elim h
   | cont=>exact False.elim h
   | ret u =>
    let(v,H',os,bare,un,hok',r',q):=h;have q':v=.bl true:=q;subst q';obtain rfl:u=AT.bool true:=r';show#[U,OldK.of_keep λb o e=>?_,os,bare];cases q:H b with
    | none=>exact un.keep b o e q (by intro z;exact absurd (show b∈([]:!AC) from z) (by simp)) (by simp)
    | some u =>
     rcases hO b with z | ⟨ob,xs,z⟩
     .rw[q] at z;cases z
     .have z2:=un.pQ b ob _ z;let(e1,_):=bf b _ z;let(e2,_):=hok' b _ z2;rw[e] at e1;cases e1;exact e2
 cases hk:K.lookup a with
 | some o =>
  -- the script is one of the module's own objects
  have e:=KX a o hk;rw[ha] at e;cases e;show core (λ_=>none) (λ_=>.inl U) (.inr #[_,vs.toArray,_,hk,U,U,U,by rw[List.size_toArray,lenV];exact hl,by simpa using rv]) (λb u z=>by have z':(none:Option HO)=some u:=z;cases z') (λb z=>absurd U z) λz=>absurd U z
 | none =>
  show core (λb=>if b=a then some (.jh { cls:=.type "list",data:=.seq vs.toArray } (.lst (ns.map V.int))) else none) (λb=>?_) (.inl (.inr #[{ cls:=.type "list",data:=.seq vs.toArray },if_pos U])) (λb u z=>?_) (λb z=>?_) λ_=>hk
  .by_cases hb:b=a
   .exact .inr #[_,_,if_pos hb]
   .exact .inl (if_neg hb)
  .by_cases hb:b=a
   .have z':=(if_pos hb).symm.trans z;cases z';subst hb;exact#[ha,by rw[Wk];exact hl,vs,_,rv,ha]
   .have z':=(if_neg hb).symm.trans z;cases z'
  .by_cases hb:b=a
   .exact hb
   .exact absurd (if_neg hb) z
theorem EV{l:PySem.W.OpenLaw}{n k:Nat}{q:Fa}{loose:!Str}{XP:(Str->Option AT)->Ev->Prop}{YP:FS->Ev->Prop}{d:DefRec}{K:TD->Frag}{CX:FS->we}{sp:FS->Sp}{x:Str}(hn:l.most=some n)(JS:n<=FB)(LW:d.params.defaults=[])(hr:bU k callerA)(hY:∀ (w:FS) (h:Ev),YP w h->(K w.params).In h)(F:∀ (w:FS) (mg:Str->Option AT) (fa:AC) (h:Ev),(K w.params).In h->h.Ns GT mg->mg d.name=some (.ref fa) ->
   ∃ fd:Gc,(∀ (s:Da) (u:AT),BindsTo s fd #[[u],[]] [(x,u)]) /\
    ∀ base:Ev,(K w.params).In base->base.Ns GT mg->bY l.prog w (K w.params) mg base (CX w) k fa fd [x] (sp w))(De:∀ (w:FS) (H:Hp) (a:AC) (ns:!Int),ns.length<=n->Io H->dO (K w.params) H a (ns.map V.int)->sp w [.ref a] H (λv _=>v=.bl true) λ_ _ _=>False)(Qh:∀ (w:FS) (H:Hp) (s:Da) (e:AT) (s':Da),CX w [] H s (λ_ _ _=>False) e s'->False) :
  PySem.W.WalkO q loose XP YP l.row.toRowW d [] (λf vs=>PySem.call f vs):=by
 show Tp.uQ hn LW λw s₀ s₁ mg mb fa o pm cd doc a vs ns G Y ho hd pU hmg hobj hints hlen hg=>?_;have KX:=hY w _ Y;let(fd,hb,hF):=F w mg fa _ KX G.T.g hmg;exact Co KX G.T.g G.T.b G.T.builtins G.T.nolimit hg hobj hints (Wr hlen JS) hr hF hb (λH hO hS=>De w H a ns hlen hO hS) λH e s'=>Qh w H s₁ e s'
def inClass(s:FM)(j:Nat):FM:=match s with
 | .ClassDef _ _ _ body _ _ _ _ _ _ _=>body.getD j (.Pass #[0,0,0,0])
 | _=>.Pass #[0,0,0,0]
def dk(s:FM):Arguments:=match s with
 | .FunctionDef _ a _ _ _ _ _ _ _ _=>a
 | _=>{ posonlyargs:=[],args:=[],vararg:=none,kwonlyargs:=[],kw_defaults:=[],kwarg:=none,defaults:=[] }
def aG(s:FM):!FM:=match s with
 | .FunctionDef _ _ b _ _ _ _ _ _ _=>b
 | _=>[]
def ag(s:FM):Scope:=match s with
 | .FunctionDef _ _ _ _ _ _ sc _ _ _=>sc
 | _=>{ kind:=.function,names:=[],isGenerator:=false,isCoroutine:=false }
abbrev bu:we:=λ_ _ _ _ _ _=>False
abbrev E0:XK:=λ_ _ _=>False
theorem pz{X:Cx}:Passes bu X E0:=λ_ _ _ _ _ _ _ h=>h.elim
structure ny(K:Frag)(x qual:Str)(st:FM)(f:AC)(fd:Gc):Prop where
 ex:∃ (oc:AT) (od:Option AC) (kV doc pm:AT) (an:Option AC) (bq ct:AT) (zU:Array (Option AT)),
  fd=fnOf x qual (dk st) (aG st) (ag st) .none kV doc pm an bq ct/\K.lookup f=some #[oc,od,.func fd,zU]/\codeIn K bq qual=true
 kp:keepIn K (.ref f)=true
section
variable{P:Fa}{w:FS}{K:Frag}{mg:Str->Option AT}{base:Ev}
theorem ny.ok{x qual:Str}{st:FM}{f:AC}{fd:Gc}{N ps:!Str}{k:Nat}{sp:Sp}(F:ny K x qual st f fd)(S:aw N ps (ag st))(len:∀ vs H Q E,sp vs H Q E->vs.length=ps.length)(vm:∀ (bq:AT) (A:Fk) (outer:!Env) (s:Da) (H:Hp) (vs:!V) (Q:VK) (E:XK),bU k (A.deeper (envOfC qual (ag st) ↑s f bq))->sp vs H Q E ->
   ∃ t,lQ (jT bu P w K mg base N qual (ag st) f bq A outer s H E).xp (aG st) t/\t { nx:=λ_ H'=>Q .br H',rt:=Q } (start N vs) H):bY P w K mg base bu (k+1) f fd ps sp:=by
 let(oc,od,kV,doc,pm,an,bq,ct,zU,rfl,lk,pU):=F.ex;show Fj lk pU S len λA outer s H vs Q E hr De=>?_;let(t,h,q):=vm bq A outer s H vs Q E hr De;exact#[t,h.xp,q]
theorem ny.binds{x qual:Str}{st:FM}{f:AC}{fd:Gc}{ps:!Str}(F:ny K x qual st f fd)(h:∀ (kV doc pm:AT) (an:Option AC) (bq ct:AT) (us:!AT),us.length=ps.length->bindArgs (fnOf x qual (dk st) (aG st) (ag st) .none kV doc pm an bq ct) #[us,[]]=pure (ps.zip us)):Binds K fd ps []:=by
 let(oc,od,kV,doc,pm,an,bq,ct,zU,rfl,lk,pU):=F.ex;exact .all (h kV doc pm an bq ct)
theorem iF{x qual:Str}{st:FM}{f:AC}{oc:AT}{od an:Option AC}{zU:Array (Option AT)}{kV doc pm bq ct:AT}(l:K.lookup f=some #[oc,od,.func (fnOf x qual (dk st) (aG st) (ag st) .none kV doc pm an bq ct),zU])(c:codeIn K bq qual=true)(k:keepIn K (.ref f)=true):ny K x qual st f (fnOf x qual (dk st) (aG st) (ag st) .none kV doc pm an bq ct):=#[#[oc,od,kV,doc,pm,an,bq,ct,zU,U,l,c],k]
end
theorem dm{A:Fk}{k:Nat}(hr:bU k A):A.units+1 < cLine:=XI (Nat.add_le_add_left (by decide:1<=64) _) hr.units
theorem l4{n:Nat}(h:n<=1000):n < FB:=XI h ()
section
variable{X:Cx}
theorem pv(i:Nat){x:Str}{pos:Pos}(hN:(X.N[i]?=some x)⁻¹)(hv:JG X.env.scope x:=by first | exact Or.inl U | exact Or.inr (Or.inl U) | exact Or.inr (Or.inr U))(hd: ~~~(YD x))(pU: ~~~((x == ("__classdict__":Str))=false)):PE X (.Name x pos) (bR i):=v7 hN hv hd pU
end
theorem sH{A B:Prop}(h:B):if false=true then A else B:=by
 rw[if_neg WC];exact h
theorem lM{A B:Prop}(h:A):if true=true then A else B:=by
 rw[if_pos U];exact h
theorem uc{c A B:Prop}[Decidable c](h1:c->A)(h2:¬ c->B):if c then A else B:=by
 by_cases h:c
 .rw[if_pos h];exact h1 h
 .rw[if_neg h];exact h2 h
def dh(H H':Hp):Prop:=∀ b o,H b=some o->H' b=some o
theorem dh.refl(H:Hp):dh H H:=λ_ _ h=>h
theorem dh.trans{H H1 H2:Hp}(a:dh H H1)(b:dh H1 H2):dh H H2:=λc o h=>b c o (a c o h)
theorem dh.free{H H':Hp}(e:dh H H'){l:AC}(h:H' l=Option.none):H l=Option.none:=by
 cases q:H l with
 | none=>rfl
 | some o =>
  rw[e l o q] at h;cases h
theorem dh.seq{K:Frag}{H H':Hp}{a:AC}{xs:!V}(e:dh H H')(h:dO K H a xs):dO K H' a xs:=by
 rcases h with (h | ⟨o,h⟩) | h
 .exact .inl (.inl (e _ _ h))
 .exact .inl (.inr #[o,e _ _ h])
 .exact .inr h
section
variable{X:Cx}
end
section
variable{κ:Type}[DecidableEq κ]
theorem Ek{kvs:!(κ×V)}{k:κ}{v:V}(h:fH kvs k=some v):k∈kvs.map (·.1):=by
 have q:(kvs.any λkv=>decide (kv.1=k))=true:=by
  rw[kj,h]
  all_goals rfl
 let(p,hp,e):=List.any_eq_true.mp q;exact WO.mpr #[p,hp,of_decide_eq_true e]
end
def fK(env:Env):!(Str×IN)->!(Str×AC)->!(Str×AC)
 | [],acc=>acc
 | (n,k)::r,acc=>if k == .free then fK env r ((n,(env.cells.lookup n).getD 0)::acc) else fK env r acc
def l5(env:Env)(x:Str×IN)(cs:!(Str×AC)):Sem (ForInStep (!(Str×AC))) :=
 if x.2 == .free then do
  let a <- cellOf env x.1
  pure (ForInStep.yield ((x.1,a)::cs))
 else pure (ForInStep.yield cs)
theorem mz{env:Env}:∀ (l:!(Str×IN)) (acc:!(Str×AC)),(∀ x∈l,x.2=.free->(env.cells.lookup x.1).isSome=true) ->
  (forIn l acc (l5 env):Sem (!(Str×AC)))=pure (fK env l acc)
 | [],acc,_=>rfl
 | (n,k)::r,acc,h=>by
  have ih:=λacc'=>mz (env:=env) r acc' λx hx=>h x (Wq _ hx);rw[List.forIn_cons];by_cases hk:k=.free
  .subst hk;let(c,hc):=Xz.mp (h (n,.free) Wt U);have e:cellOf env n=pure c:=by
    unfold cellOf;rw[hc]
   have e2:l5 env (n,IN.free) acc=pure (ForInStep.yield ((n,c)::acc)):=by
    change (if (IN.free == IN.free)=true then (cellOf env n >>= λa=>pure (ForInStep.yield ((n,a)::acc))) else pure (ForInStep.yield acc))=_;rw[if_pos (),e]
    rfl
   have e3:fK env ((n,IN.free)::r) acc=fK env r ((n,c)::acc):=by
    change (if (IN.free == IN.free)=true then fK env r ((n,(env.cells.lookup n).getD 0)::acc) else fK env r acc)=_;rw[if_pos (),hc]
    rfl
   rw[e2,e3,<- ih]
   rfl
  .have hb:(k == IN.free)=false:=by simpa using hk
   have e2:l5 env (n,k) acc=pure (ForInStep.yield acc):=by
    change (if (k == IN.free)=true then (cellOf env n >>= λa=>pure (ForInStep.yield ((n,a)::acc))) else pure (ForInStep.yield acc))=_;rw[if_neg (by simp[hb])]
   have e3:fK env ((n,k)::r) acc=fK env r acc:=by
    change (if (k == IN.free)=true then fK env r ((n,(env.cells.lookup n).getD 0)::acc) else fK env r acc)=_;rw[if_neg (by simp[hb])]
   rw[e2,e3,<- ih]
   rfl
theorem jC{scope:Scope}{env:Env}(h:∀ x∈scope.names,x.2=.free->(env.cells.lookup x.1).isSome=true):closureFor scope env=pure (fK env scope.names []):=by
 rw[<- mz scope.names [] h];unfold closureFor;have:(λ(x:Str×IN) (r:!(Str×AC))=>l5 env x r)=l5 env:=rfl
 first
  | (simp only[l5];rfl)
  | (show (forIn scope.names [] _ >>= λr=>pure r)=_;rw[bind_pure];rfl)
  | rfl
theorem iQ{env:Env}{x:Str}{c:AC}:∀ {l:!(Str×IN)} {acc:!(Str×AC)},(∀ y∈l,y.2=.free->(env.cells.lookup y.1).isSome=true) ->
  (fK env l acc).lookup x=some c->env.cells.lookup x=some c\/acc.lookup x=some c
 | [],acc,_,h=>.inr h
 | (n,k)::r,acc,hl,h=>by
  have hl':=λy hy=>hl y (Wq _ hy);unfold fK at h;by_cases hk:k=.free
  .subst hk;rw[if_pos ()] at h;let(d,hd):=Xz.mp (hl (n,.free) Wt U);rw[hd] at h;rcases iQ hl' h with q | q
   .exact .inl q
   .rw[XF] at q;cases e:x == n with
    | true =>
     rw[e] at q;have e':x=n:=eq_of_beq e;subst e';left;rw[hd];exact q
    | false =>
     rw[e] at q;exact .inr q
  .rw[if_neg (by simpa using hk)] at h;exact iQ hl' h
theorem ph{env:Env}{x:Str}:∀ {l:!(Str×IN)} {acc:!(Str×AC)},(acc.lookup x).isSome=true->((fK env l acc).lookup x).isSome=true
 | [],acc,h=>h
 | (n,k)::r,acc,h=>by
  unfold fK;split
  .refine ph ?_;rw[XF];cases e:x == n with
   | true=>rfl
   | false=>exact h
  .exact ph h
theorem oK{env:Env}{x:Str}:∀ {l:!(Str×IN)} {acc:!(Str×AC)},(x,IN.free)∈l->((fK env l acc).lookup x).isSome=true
 | (n,k)::r,acc,h=>by
  unfold fK;rcases WI.mp h with e | h'
  .cases e;rw[if_pos ()];exact ph (by rw[XF,beq_self_eq_true];rfl)
  .split<;>exact oK h'
def QU(env:Env)(x:Str×IN):Str×IN:=if (x.2 == IN.free&&env.scope.kind == .function&&env.kindOf x.1 == some .cell)=true then (x.1,IN.cell) else (x.1,x.2)
theorem oP{env:Env}{x:Str}{k:IN}:∀ {names:!(Str×IN)},(names.map (QU env)).lookup x=some k->names.lookup x=some k\/(names.lookup x=some .free/\k=.cell)
 | [],h=>by simp at h
 | (n,k0)::r,h=>by
  have ih:=@oP env x k r;rw[Wu] at h;by_cases hc:(k0 == IN.free&&env.scope.kind == .function&&env.kindOf n == some .cell)=true
  .have e:QU env (n,k0)=(n,IN.cell):=if_pos hc;rw[e,XF] at h;rw[XF];cases e:x == n with
   | true =>
    rw[e] at h;have hk:k0=.free:=by
     rw[W4,W4] at hc;exact eq_of_beq hc.1.1
    subst hk;right;exact#[U,(WU h).symm]
   | false =>
    rw[e] at h;exact ih h
  .have e:QU env (n,k0)=(n,k0):=if_neg hc;rw[e,XF] at h;rw[XF];cases e:x == n with
   | true =>
    rw[e] at h;exact .inl h
   | false =>
    rw[e] at h;exact ih h
theorem fE{env:Env}{x:Str}{scope:Scope}{k:IN}(h:(relabel scope env).names.lookup x=some k) :
  scope.names.lookup x=some k\/(scope.names.lookup x=some .free/\k=.cell):=oP (env:=env) h
section
variable{prog:Fa}{w:FS}{A:Fk}{R:Result->Da->Prop}{s:Da}
theorem rG{elt target iter:Ch}{ifs:!Ch}{scope:Scope}{pos:Pos}{it acc:AT}{env:Env}(I:Nat->Da->Prop)(turn:∀ n s,I n s->EQ (model prog w) A (pyNext it) (λr s₁=>match r with
   | none=>R (.ok .next) s₁
   | some v=>EQ (model prog w) A (letOwnedTupleGo target it v) (λ_ s₁'=>EQ (model prog w) A (assign target env v) (λ_ s₂ =>
     EQ (model prog w) A (forIn ifs true λc r=>if r=true then do let ok <- isTrue c env (eval c env);pure (ForInStep.yield ok) else pure (ForInStep.yield r)) (λok s₃ =>
      if ok=true then EQ (model prog w) A (eval elt env) (λx s₄ =>
       EQ (model prog w) A (call (.builtin "list.append") [acc,x]) (λ_ s₅=>∃ m,m < n/\I m s₅) (notedBy (model prog w) A env λe s'=>R (.error e) s') s₄) (notedBy (model prog w) A env λe s'=>R (.error e) s') s₃
      else ∃ m,m < n/\I m s₃) (notedBy (model prog w) A env λe s'=>R (.error e) s') s₂) (notedBy (model prog w) A env λe s'=>R (.error e) s') s₁') (notedBy (model prog w) A env λe s'=>R (.error e) s') s₁)
   (notedBy (model prog w) A env λe s'=>R (.error e) s') s)(n:Nat)(h:I n s) :
  codeAny (model prog w) A (.compLoop (.ListComp elt [#[target,iter,ifs,0]] scope pos) 0 it acc env) R s:=by
 show codeAny_loop U I (λn s hI=>?_) n h;change EQ _ A ((compTurn (.ListComp elt [#[target,iter,ifs,0]] scope pos) 0 it acc env).onRaise (λx=>do noteFrame x env;theTreesLotGoes x)) _ _ s;show wpAny_noted ?_;rw[compTurn_list];show Db (wpAny_standAt (Db (KB (turn n s hI) (λr s₁ h₁=>?_) λ_ _ h'=>h')));cases r with
 | none=>exact Fr h₁
 | some v =>
  show Db (KB h₁ (λ_ s₁' h₁'=>?_) λ_ _ h'=>h');show Db (KB h₁' (λ_ s₂ h₂=>Db (KB h₂ (λok s₃ h₃=>?_) λ_ _ h'=>h')) λ_ _ h'=>h');cases ok with
  | false=>exact Fr #[U,h₃]
  | true =>
   exact Db (Db (KB h₃ (λx s₄ h₄=>Db (KB h₄ (λ_ s₅ h₅=>Fr (Fr #[U,h₅])) λ_ _ h'=>h')) λ_ _ h'=>h'))
end
def lift(nt:Nat)(us:!Nat)(σ:St):St:=List.replicate nt none++us.map λj=>(σ[j]?).join
def uw(ts:!Str)(us:!Nat)(N:!Str):!Str:=ts++us.map λj=>N.getD j ""
def Cx.comp(X:Cx)(ts:!Str)(us:!Nat)(scope:Scope)(C:AC)(s:Da)(H:Hp)(fp:!AC):Cx :=
 { X with N:=uw ts us X.N,s₀:=s,H₀:=H,env:=compEnvC scope (fK X.env scope.names []) C X.env,outer:=X.stack,ex:=fp,fn:=λ_=>false,pn:=[],xe:=λ_ _=>False }
def JT(X:Cx)(ifs:!Ch)(t:TT):Prop :=
 ∀ (TW:Yz) (s:Da) (σ:St) (H:Hp) (Q:Bool->Hp->Prop),Inv X TW σ H s->t σ H Q ->
  EQ (model X.prog X.w) X.A (forIn ifs true λc r=>if r=true then do let ok <- isTrue c X.env (eval c X.env);pure (ForInStep.yield ok) else pure (ForInStep.yield r)) (TP X TW σ Q) X.xe s
def AM:TT:=λ_ H Q=>Q true H
theorem sE{X:Cx}:JT X [] AM:=λ_ _ _ H _ I h=>wpAny_tests_nil #[H,I,h]
theorem xa{X:Cx}{c:Ch}{t:TT}(hc:PT X c t):JT X [c] t:=λTW s σ H Q I h=>wpAny_tests_one (hc TW s σ H Q I h)
structure bJ(X:Cx)(ts:!Str)(us:!Nat)(scope:Scope):Prop where
 kind:scope.kind=.function
 Hu:(scope.names.all λx=>x.2 != .cell)=true
 loc:(scope.names.all λx=>x.2 != .local||scope.names.lookup x.1 == some .local)=true
 free:(scope.names.all λx=>x.2 != .free||(X.env.cells.lookup x.1).isSome)=true
 Wj:(ts.all λx=>scope.names.lookup x == some .local)=true
 Vr:(us.all λj=>match X.N[j]? with | some x=>scope.names.lookup x == some .free&&(X.env.kindOf x == some .cell||X.env.kindOf x == some .free) | none=>false)=true
section
variable{X:Cx}{ts:!Str}{us:!Nat}{scope:Scope}
theorem bJ.nc(S:bJ X ts us scope):∀ x∈scope.names,x.2≠.cell:=λx hx e=>by
 have q:=W5.mp S.Hu x hx;rw[e] at q;exact absurd q ()
theorem bJ.lc(S:bJ X ts us scope):∀ x∈scope.names,x.2=.local->scope.names.lookup x.1=some .local:=λx hx e=>by
 have q:=W5.mp S.loc x hx;rw[e] at q;have q':(scope.names.lookup x.1 == some .local)=true:=by simpa using q
 exact eq_of_beq q'
theorem bJ.fr(S:bJ X ts us scope):∀ x∈scope.names,x.2=.free->(X.env.cells.lookup x.1).isSome=true:=λx hx e=>by
 have q:=W5.mp S.free x hx;rw[e] at q;simpa using q
theorem bJ.Ln(S:bJ X ts us scope){j:Nat}(hj:j∈us):∃ x,X.N[j]?=some x/\scope.names.lookup x=some .free/\(X.env.kindOf x=some .cell\/X.env.kindOf x=some .free):=by
 have q:=W5.mp S.Vr j hj;cases e:X.N[j]? with
 | none=>rw[e] at q;exact absurd (show false=true from q) WC
 | some x =>
  rw[e] at q;have q:(scope.names.lookup x == some .free&&(X.env.kindOf x == some .cell||X.env.kindOf x == some .free))=true:=q;rw[W4,Bool.or_eq_true] at q;exact#[x,U,eq_of_beq q.1,q.2.imp eq_of_beq eq_of_beq]
theorem Ck{TW:Yz}{σ:St}{H:Hp}{s:Da}{fp:!AC}{h₁:Ev}{t:Nat}{m:Str->Option AT}(S:bJ X ts us scope)(I:Inv X TW σ H s)(hf:∀ b∈fp,iq X TW H b)(z7:∀ b∈fp,b < ↑s)(u4:h₁.Ns ↑s m)(keep:∀ b o,s.heap.get? b=some o->h₁.get? b=some o) :
  Inv (X.comp ts us scope ↑s s H fp) [] (lift ts.length us σ) H { s with heap:=h₁,toks:=t }:=by
 have cl:∀ x c,(fK X.env scope.names []).lookup x=some c->X.env.cells.lookup x=some c:=λx c e=>by
  rcases iQ S.fr e with q | q
  .exact q
  .simp at q
 have kd:∀ x,((relabel scope X.env).names.lookup x=some .cell\/(relabel scope X.env).names.lookup x=some .free)->scope.names.lookup x=some .free:=λx hx=>by
  rcases hx with hx | hx
  .rcases fE hx with q | q
   .exact absurd U (S.nc _ (Xn q))
   .exact q.1
  .rcases fE hx with q | q
   .exact q
   .cases q.2
 have ok:(X.comp ts us scope ↑s s H fp).Ok:=by
  show#[I.ok.mod,S.kind,I.ok.glob,I.ok.blt,Wo _,λx y c e1 e2=>I.ok.inj x y c (cl x c e1) (cl y c e2),λx hx=>?_,λx c e=>?_,I.ok.hd,I.ok.frames,.inl U,λb hb=>?_,I.bs,Wr I.ok.Di I.sz,λb o e hb=>?_,λb hb hb2=>?_,I.stack,I.su]
  .have q:=kd x hx;exact Xz.mp (oK (Xn q))
  .cases (show (false:Bool)=true from e)
  .let(f0,f1,f2,f3,f4,f5):=hf b hb;exact#[WK (z7 b hb),λx c e=>f4 x c (cl x c e)]
  .let(f0,f1,f2,f3,f4,f5):=hf b hb;rcases f3 with z | z
   .exact I.ok.zj b o e z
   .exact absurd (WB (Ww e) (Wr I.ok.Di z)) (X1 _)
  .let(f0,f1,f2,f3,f4,f5):=hf b hb;rcases WI.mp (I.vU b hb2) with z | z
   .exact f1 z
   .exact f2 z
 show#[ok,U,I.bare,Un.kept keep,#[m,u4,λi x v h1 h2 h3=>?_],λx c e=>?_,I.bf.fresh (Nat.le_refl _),λx c e=>I.fZ x c (cl x c e),λp hp=>absurd (show p∈([]:Yz) from hp) (by simp),I.bf.kept keep,?_]
 .have h1:(uw ts us X.N)[i]?=some x:=h1;have h2:(lift ts.length us σ)[i]?=some (some v):=h2;by_cases hi:i < ts.length
  .unfold lift at h2;rw[List.getElem?_append_left (by simpa using hi),List.getElem?_replicate] at h2;split at h2<;>cases h2
  .have sT:ts.length<=i:=Nat.le_of_not_lt hi;unfold lift at h2;unfold uw at h1;rw[List.getElem?_append_right (by simpa using sT),List.length_replicate,List.getElem?_map] at h2;rw[Xk sT,WZ] at h1;cases ej:us[i - ts.length]? with
   | none=>rw[ej] at h1;cases h1
   | some j =>
    rw[ej] at h1 h2;let(y,hy,hyf,hyk):=S.Ln (WX ej);have e1:X.N.getD j ""=x:=WU h1;have e2:X.N.getD j ""=y:=by rw[Yb,hy];rfl
    have exy:y=x:=e2.symm.trans e1;subst exy;have e3:(σ[j]?).join=some v:=WU h2;have e4:σ[j]?=some (some v):=by
     cases q:σ[j]? with
     | none=>rw[q] at e3;cases e3
     | some z =>
      rw[q] at e3;have:z=some v:=e3;rw[this]
    let(m0,hn0,hl0):=I.loc;have hvis:JG X.env.scope y:=.inr hyk;let(u,r,l):=hl0 j y v hy e4 hvis;show#[u,r,?_];rcases l with ⟨k1,_⟩ | ⟨k1,c,hc,hcell⟩
    .rcases hyk with z | z
     .rw[k1] at z;cases z
     .rw[k1] at z;cases z
    .refine .inr #[?_,c,?_,?_]
     .have h3:(relabel scope X.env).names.lookup y=some .local\/(relabel scope X.env).names.lookup y=some .cell\/(relabel scope X.env).names.lookup y=some .free:=h3;rcases h3 with z | z
      .rcases fE z with q | q
       .rw[hyf] at q;cases q
       .cases q.2
      .exact z
     .let(c',hc'):=Xz.mp (oK (env:=X.env) (acc:=[]) (Xn hyf));have q:=cl y c' hc';rw[hc] at q;cases q;exact hc'
     .let(o,ho,hd):=hcell;exact#[o,keep c o ho,hd]
 .let(v,o,ho,hd):=I.cell x c (cl x c e);exact#[v,o,keep c o ho,hd]
 .show (lift ts.length us σ).length=(uw ts us X.N).length;unfold lift uw;rw[Wm,Wm,List.length_replicate,Wk,Wk]
def CW(σ σ':St):Prop:=∀ (i:Nat) (v:V),σ[i]?=some (some v)->σ'[i]?=some (some v)
theorem u7{nt i:Nat}{us:!Nat}{σ:St}{x:Option V}(hi:i < nt):CW (lift nt us σ) ((lift nt us σ).set i x):=λj v e=>by
 by_cases hj:j=i
 .subst hj;unfold lift at e;rw[List.getElem?_append_left (by simpa using hi),List.getElem?_replicate] at e;split at e<;>cases e
 .rw[Wx (Ne.symm hj)];exact e
def sD(nt:Nat)(us:!Nat)(σ:St)(g:TG)(ti:TT)(te:TE)(J:It)(H1:Hp)(Q:VK):Prop :=
 ∀ D,H1 D=none->∃ W:Nat->Nat->!V->Hp->Prop,(∃ m,W 0 m [] (upd H1 D (.lst [])))/\∀ i m ys H2,W i m ys H2->H2 D=some (.lst ys) /\
  ((J.stop i H2/\Q (.ref D) H2)\/(J.go i H2/\ys.length < FB/\∀ x H3,J.JZ i H2 x H3->g x (lift nt us σ) H3 λσ4 H4=>CW (lift nt us σ) σ4/\ti σ4 H4 λb H5 =>
    if b=true then te σ4 H5 λy H6=>H6 D=some (.lst ys)/\∃ m',m' < m/\W (i+1) m' (ys++[y]) (upd H6 D (.lst (ys++[y]))) else ∃ m',m' < m/\W (i+1) m' ys H5))
def uz(nt:Nat)(us:!Nat)(wi:TI)(g:TG)(ti:TT)(te:TE):TE:=λσ H Q=>wi σ H λJ H1=>sD nt us σ g ti te J H1 Q
theorem oq{tg elt iter:Ch}{ifs:!Ch}{pos:Pos}{g:TG}{ti:TT}{te:TE}{TW:Yz}{σ:St}{H:Hp}{s:Da}{it:AC}{fp:!AC}{tn:Nat->Ev->Prop}{J:It}{Q:VK}{E:Yy}{RR:AT->AC->Result->Da->Prop}(S:bJ X ts us scope)(hc:X.calm=true)(I:Inv X TW σ H s)(T:Turn X.prog X.w X.K tg J fp it tn)(st:tn 0 s.heap)(hf:∀ b∈fp,iq X TW H b)(hg:∀ C s H fp,PG (X.comp ts us scope C s H fp) tg g)(Bi:∀ C s H fp,JT (X.comp ts us scope C s H fp) ifs ti)(he:∀ C s H fp,PE (X.comp ts us scope C s H fp) elt te)(q:sD ts.length us σ g ti te J H Q)(UP:∀ D C s' H',Inv X TW σ H' s'->(∃ m,s'.heap.Ns C m)->iq X TW H' C->Q (.ref D) H'->RR (.ref D) C (.ok .next) s') :
  EQ (model X.prog X.w) X.A (newList []) (λacc s₃=>EQ (model X.prog X.w) X.A (newFunctionEnv scope X.env.globals (fK X.env scope.names []) [] X.env.qual none .none (some X.env)) (λcenv s₄ =>
   codeAny (model X.prog X.w) X.A (.compStart (.ListComp elt [#[tg,iter,ifs,0]] scope pos) 0 (.ref it) acc { cenv with scope:=relabel scope X.env }) (RR acc cenv.locals) s₄) E s₃) E s:=by
 show ST (wpAny_newFunctionEnv S.nc (by intro y hy;simp at hy) (λh₁ hns₁ hsb₁=>?_) S.kind);dsimp only at hns₁ hsb₁ ⊢;have I3:Inv X TW σ (upd H ↑s (.lst [])) { s with heap:=s.heap.push { cls:=.type "list",data:=.seq ([]:!AT).toArray } }:=I.La (its:=[]) (ys:=[]) (t':=s.toks) .nil (WG _);have z7:∀ b∈fp,b < ↑s:=λb hb=>by
  let(o,e,_):=T.obj 0 _ st b hb;exact Ww e
 have hf3:∀ b∈fp,iq X TW (upd H ↑s (.lst [])) b:=λb hb=>by
  let(f0,fr):=hf b hb;exact#[by rw[au (WK (z7 b hb))];exact f0,fr]
 generalize hs3:({ s with heap:=s.heap.push { cls:=.type "list",data:=.seq ([]:!AT).toArray } }:Da)=s3 at I3;have hs3h:s3.heap=s.heap.push { cls:=.type "list",data:=.seq ([]:!AT).toArray }:=by rw[<- hs3]
 have keep:∀ b o,s3.heap.get? b=some o->h₁.get? b=some o:=λb o e=>by
  rw[hs3h] at e;exact hsb₁.extBut b o (WK (Ww e)) (Wl _ e)
 have keep0:∀ b o,s.heap.get? b=some o->h₁.get? b=some o:=λb o e=>keep b o (by rw[hs3h];exact Wl _ e);let(W,(m0,w0),turn):=q ↑s (I.bf.fresh (Wo _));have hC:(s.heap.push { cls:=.type "list",data:=.seq ([]:!AT).toArray }).objs.size=↑s3:=by rw[hs3h]
 have hfl3:∀ b∈fp,b < ↑s3:=λb hb=>by
  rw[hs3h,W9];exact Nat.lt_succ_of_lt (z7 b hb)
 have hns3:h₁.Ns ↑s3 (λx=>([]:!(Str×AT)).reverse.lookup x):=by rw[<- hC];exact hns₁
 have I4:∀ t,Inv (X.comp ts us scope ↑s3 s3 (upd H ↑s (.lst [])) fp) [] (lift ts.length us σ) (upd H ↑s (.lst [])) { s3 with heap:=h₁,toks:=t }:=λt=>Ck S I3 hf3 hfl3 hns3 keep;have Ku:tn 0 h₁:=T.keep 0 _ _ st λb _ o e=>keep0 b o e;have loop:∀ s₄:Da,(∃ t,s₄={ s3 with heap:=h₁,toks:=t }) ->
   codeAny (model X.prog X.w) X.A (.compLoop (.ListComp elt [#[tg,iter,ifs,0]] scope pos) 0 (.ref it) (.ref ↑s) (compEnvC scope (fK X.env scope.names []) ↑s3 X.env)) (RR (.ref ↑s) ↑s3) s₄:=by
  rintro s₄ ⟨t4,rfl⟩;have stat:∀ {H':Hp},(∀ b∈fp,H' b=none)->∀ b∈fp,iq (X.comp ts us scope ↑s3 s3 (upd H ↑s (.lst [])) fp) [] H' b:=λ{H'} hn b hb=>by
   have ok:=(I4 0).ok;exact#[hn b hb,(ok.M9 b hb).1,ok.yM b hb,.inl hb,(ok.M9 b hb).2,λp hp=>absurd (show p∈([]:Yz) from hp) (by simp)]
  show rG (λn s'=>∃ i ys H',Inv (X.comp ts us scope ↑s3 s3 (upd H ↑s (.lst [])) fp) [] (lift ts.length us σ) H' s'/\tn i s'.heap/\(∀ b∈fp,H' b=none)/\W i n ys H') ?_ m0
   #[0,[],_,I4 t4,Ku,λb hb=>(hf3 b hb).1,w0]
  rintro n s5 ⟨i,ys,H5,I5,st5,fr5,w5⟩;let(hD,hturn):=turn i n ys H5 w5;rcases hturn with ⟨stop,qn⟩ | ⟨go,hlen,step⟩
  .refine bW (T.done (X.comp ts us scope ↑s3 s3 (upd H ↑s (.lst [])) fp) U U U hc i [] s5 (lift ts.length us σ) H5 _ I5 (stat fr5) st5 stop) λr s6 z9q=>?_;let(hr,I6):=z9q;subst hr;have I7:Inv X TW σ H5 s6:=I3.Fu (ch:=fp) I6.os I6.base I6.bf I6.bare λb hb=>by
    let(f0,f1,f2,f3,f4,f5):=hf3 b hb;exact#[f3,f1,f4,f5]
   let(m6,hn6,_):=I6.loc;exact UP _ _ s6 H5 I7 #[m6,hn6] (I3.rK (Wo _) I6.free) qn
  .refine bW (T.item (X.comp ts us scope ↑s3 s3 (upd H ↑s (.lst [])) fp) U U U hc i [] s5 (lift ts.length us σ) H5 _ I5 (stat fr5) st5 go) λr s6 z0q=>?_;let(u,hr,h6):=z0q;subst hr;show bW h6 λ_ s7 z1q=>?_;let(x,H7,I7,r7,y7,st7,fr7):=z1q;have I7':=I7.pinned (stat fr7) (T.obj _ _ st7);show KB (hg _ _ _ _ _ s7 (lift ts.length us σ) H7 x u _ I7' r7 (step x H7 y7)) (λ_ s8 #[σ8,H8,I8,kp8,q8]=>?_) λ_ _ z=>False.elim z;show KB (Bi _ _ _ _ _ s8 σ8 H8 _ I8 q8) (λb s9 #[H9,I9,q9]=>?_) λ_ _ z=>False.elim z;have fin:∀ {s':Da} {H':Hp} {OH:!V},Inv (X.comp ts us scope ↑s3 s3 (upd H ↑s (.lst [])) fp) ([]++oO fp s7.heap) σ8 H' s'->(∃ m',m' < n/\W (i+1) m' OH H') ->
     ∃ m,m < n/\∃ i ys H',Inv (X.comp ts us scope ↑s3 s3 (upd H ↑s (.lst [])) fp) [] (lift ts.length us σ) H' s'/\tn i s'.heap/\(∀ b∈fp,H' b=none)/\W i m ys H':=λ{s' H' OH} J' z2q=>by
    let(m',hm,w'):=z2q;show#[m',hm,i+1,OH,H',J'.kW.weak ?_ kp8,T.keep _ _ _ st7 λb hb o e=>(J'.pin (b,o) (WR _ (WR _ (gU hb e)))).1,λb hb=>?_,w']
    .rw[J'.len,I7.len]
    .let(o,e,d):=T.obj _ _ st7 b hb;exact (J'.pin (b,o) (WR _ (WR _ (gU hb e)))).2.1
   cases b with
   | false =>
    rw[if_neg WC] at q9 ⊢;exact fin I9 q9
   | true =>
    rw[if_pos U] at q9 ⊢;show KB (he _ _ _ _ _ s9 σ8 H9 _ I9 q9) (λyv s10 #[y,H10,I10,r10,hD10,q10]=>?_) λ_ _ z=>False.elim z;show KB (je (X:=X.comp ts us scope ↑s3 s3 (upd H ↑s (.lst [])) fp) _ s10 σ8 H10 (.ref ↑s) [y] (.ref ↑s) [yv] (λ_ H'=>∃ m',m' < n/\W (i+1) m' (ys++[y]) H') I10 U (.cons r10 .nil) #[_,ys,y,U,U,hD10,hlen,q10]) (λ_ s11 #[_,H11,I11,_,q11]=>?_) λ_ _ z=>False.elim z;exact fin I11 q11
 have e4:({ s with heap:=h₁,toks:=s.toks+([]:!(Str×AT)).length }:Da)={ s3 with heap:=h₁,toks:=s.toks+([]:!(Str×AT)).length }:=by rw[<- hs3]
 first
  | (rw[e4,hC];exact codeAny_compStart_list (loop _ #[_,rfl]) (T.self _ 0 _ _ _ Ku (loop _ #[_,rfl])))
  | (have L4:=codeAny_compStart_list (elt:=elt) (target:=tg) (iter:=iter) (ifs:=ifs) (rest:=[]) (scope:=scope) (pos:=pos) (loop _ #[s.toks+([]:!(Str×AT)).length,U]) (T.self _ 0 _ _ _ Ku (loop _ #[s.toks+([]:!(Str×AT)).length,U]))
     subst hs3;exact L4)
theorem sA{tg elt iter:Ch}{ifs:!Ch}{pos:Pos}{wi:TI}{g:TG}{ti:TT}{te:TE}(S:bJ X ts us scope)(hc:X.calm=true)(hi:PI X tg iter wi)(hg:∀ C s H fp,PG (X.comp ts us scope C s H fp) tg g)(Bi:∀ C s H fp,JT (X.comp ts us scope C s H fp) ifs ti)(he:∀ C s H fp,PE (X.comp ts us scope C s H fp) elt te)(hs:YF iter X.env:=by intro _;rfl):PE X (.ListComp elt [#[tg,iter,ifs,0]] scope pos) (uz ts.length us wi g ti te):=by
 intro TW s σ H Q I h;rw[eval_ListComp];show wpAny_comprehension_free (use:=none) U hs (jC S.fr) S.kind S.lc (bW (hi TW s σ H _ I h) λv s1 h1=>bW h1 λNQ s2 h2=>?_);let(it,fp,tn,J,H2,e,I2,T,Jw,f2,q):=h2;subst e;show oq (RR:=λacc C=>compPost (model X.prog X.w) X.A X.xe none (EP X TW σ Q) acc C) S hc I2 T Jw f2 hg Bi he q ?_;intro D C s' H' I' hn F q';let(m,hn):=hn;let(f0,f1,f2,f3,f4,f5):=F;show#[m,hn,λh' sb=>?_];have I8:Inv X TW σ H' { s' with heap:=h' }:=I'.turned (t':=s'.toks) (λb o hb e=>(sb.2 b hb).trans e) f0 f1 f3 f4 f5;exact#[.ref D,H',I8,U,q']
theorem yg{i:Nat}{x:Str}{tg elt iter:Ch}{ifs:!Ch}{pos px CO:Pos}{wi:TI}{g:TG}{ti:TT}{te:TE}(hN:X.N.Nodup)(sT:X.N[i]?=some x)(hx:X.env.scope.names.lookup x=some .local)(S:bJ X ts us scope)(hc:X.calm=true)(hi:PI X tg iter wi)(hg:∀ C s H fp,PG (X.comp ts us scope C s H fp) tg g)(Bi:∀ C s H fp,JT (X.comp ts us scope C s H fp) ifs ti)(he:∀ C s H fp,PE (X.comp ts us scope C s H fp) elt te)(Jy:(swapsWith (.ListComp elt [#[tg,iter,ifs,0]] scope pos) (some (.Name x px)) CO.line X.env=pure true)⁻¹)(hs:YF iter X.env:=by intro _;rfl):PS X (.Assign [.Name x px] (.ListComp elt [#[tg,iter,ifs,0]] scope pos) CO) (jx (uz ts.length us wi g ti te) (dI i)):=by
 intro TW s σ H D I h;rw[exec_Assign_Name_used _ _ _ _ Jy];show Db (wpAny_standAt (Db ?_));change EQ _ _ (do let _ <- comprehension (.ListComp elt [#[tg,iter,ifs,0]] scope pos) scope X.env _ (newList []) false (eval iter X.env) (some (assign (.Name x px) X.env))) _ _ s;show Db (KB (wpAny_comprehension_free (use:=some (assign (.Name x px) X.env)) (Q:=λ_ s'=>SP X TW D .next s') U hs (jC S.fr) S.kind S.lc
  (bW (hi TW s σ H _ I h) λv s1 h1=>bW h1 λNQ s2 h2=>?_)) (λ_ s' hq=>Fr (Fr hq)) λ_ _ e=>e)
 let(it,fp,tn,J,H2,e,I2,T,Jw,f2,q):=h2;subst e;show oq (RR:=λacc C=>compPost (model X.prog X.w) X.A X.xe (some (assign (.Name x px) X.env)) (λ_ s'=>SP X TW D .next s') acc C) S hc I2 T Jw f2 hg Bi he q ?_;intro L C s' H' I' hn F q';let(m,hn):=hn;let(f0,f1,f2,f3,f4,f5):=F;change EQ _ _ (assign (.Name x px) X.env (.ref L)) _ _ s';show wpAny_assign_Name (qB I' hN sT (.inl hx) (v:=.ref L) U (λEZ I'' hsb=>?_) (.inr hx));let(a,sb,ha):=hsb;have oJ:C≠a:=by
  rcases ha with z | z
  .rw[z];exact f1
  .exact λw=>f4 x a z w.symm
 show#[m,hn.sameBut sb oJ,λh' sb'=>?_];have I8:Inv X TW (σ.set i (some (.ref L))) H' { EZ with heap:=h' }:=I''.turned (t':=EZ.toks) (λb o hb e=>(sb'.2 b hb).trans e) f0 f1 f3 f4 f5;exact#[_,H',I8,q']
end
end L2
namespace PySem
open Sem (wp)
namespace F
theorem zG:typeLookup (.type "list_reverseiterator") "__len__"=pure none:=by rw[typeLookup_type,builtinLookup_eq_fast];kernel_rfl
theorem Bw:typeLookup (.type "list_reverseiterator") "__length_hint__"=pure (some (.builtin "list_reverseiterator.__length_hint__")):=by rw[typeLookup_type,builtinLookup_eq_fast];kernel_rfl
end F
section
variable{prog:Fa}{w:FS}{A:Fk}{E:Yy}{s:Da}
theorem qZ{R:Result->Da->Prop}{I:AC}{fp wr:!AC}{n:Nat}{P:Nat->AT->Prop}{St:Nat->Ev->Prop}(W:Walks prog w A.in1 I fp wr n P St)(hT:∀ i h,St i h->∃ o,h.get? I=some o/\o.cls=.type "list_reverseiterator")(S:AC)(res:AT)(c₀:Nat)(nq:St 0 s.heap)(RK:S∉fp)(hI:I∈fp)(hS:s.heap.get? S=some { cls:=.type "list",data:=.seq #v[] c₀ })(hR:∀ h' tk acc' c',(∀ b o,b≠S->b∉wr->s.heap.get? b=some o->h'.get? b=some o)->h'.get? S=some { cls:=.type "list",dict:=none,data:=.seq acc' c',slots:=#v[] } ->
   ItemsOf P acc' n->R (.ok (.ret res)) { s with heap:=h',toks:=tk })(hn:n<=FB) :
  EQ (model prog w) A.in1 (GE.List.listExtendWith (.ref S) (.ref I) res)
   (λfin s'=>match fin with | .done f=>R (.ok f) s' | .again c'=>c'.quiet=true/\codeAny (model prog w) A c' R s') (λe s'=>R (.error e) s') s:=by
 have hSI:S≠I:=λe=>RK (e▸hI);have hTs:s.TypeIs (.ref I) "list_reverseiterator":=hT 0 _ nq;unfold GE.List.listExtendWith;show Db (wpAny_typeOf hTs ?_);have h1:GE.List.listSameRef (.ref S) (.ref I)=false:=by simp[GE.List.listSameRef,hSI]
 have h2:(AT.type "list_reverseiterator" == AT.type "list")=false:=by decide
 have h3:(AT.type "list_reverseiterator" == AT.type "tuple")=false:=by decide
 simp only[h1,h2,h3,Bool.or_false,Bool.false_eq_true,if_false];show Db (W.self 0 _ _ _ nq ?_);show Db (PP ?_);unfold GE.List.listLengthHint;show Db (wpAny_specialOf hTs F.zG ?_);change EQ _ A.in1 (specialOf (AT.ref I) (Str.ofString "__length_hint__") >>= _) _ _ _;show Db (wpAny_specialOf hTs F.Bw ?_);generalize hid:("list_reverseiterator.__length_hint__":String)=id0
 wp_delta
 rw[show splitId id0=some ("list_reverseiterator","__length_hint__") from by subst hid;decide+kernel];subst hid;show Db (wpAny_isInstance (b:=true) hTs (by rw[isSubtype_type];kernel_rfl) ?_);show Fr ?_;rw[if_neg ()];show Fr #[plainId_quiet F.plain_extend_loop _,codeAny_extend_loopS W.toS hn _ RK _ n 0 _ _ _ U (WG _) nq hS (ItemsOf.nil P) λs' acc' c' hm hS' hacc=>?_];rw[Moved.eq_with hm];show hR s'.heap s'.toks acc' c' (λb ob hb hw e=>hm.heap b ob (λhmem=>?_) e) hS' hacc;rcases WI.mp hmem with e' | hmem
 .exact hb e'
 .exact hw hmem
theorem m8{Q:Yy}(hh:A.handled=none){I l:AC}{items:Array AT}(oJ:l≠I)(hit:s.heap.IsRevIter I l ((items.size:Int) - 1))(hl:s.heap.IsList l items)(hQ:∀ h' tk acc' c',(∀ b o,b≠I->s.heap.get? b=some o->h'.get? b=some o)->h'.get? ↑s=some { cls:=.type "list",dict:=none,data:=.seq acc' c',slots:=#v[] } ->
   ItemsOf (λi v=>items[items.size - 1 - i]?=some v) acc' items.size->Q (.ref ↑s) { s with heap:=h',toks:=tk })(hn:items.size<=FB) :
  EQ (model prog w) A (call (.type "list") [.ref I]) Q E s:=by
 have hIlt:I < ↑s:=by let(o,e,_):=hit;exact Ww e
 have hllt:l < ↑s:=by let(o,e,_):=hl;exact Ww e
 show callType_codes (Q₁:=λobj s₁=>obj=.ref ↑s/\s₁={ s with heap:=s.heap.push { cls:=.type "list",data:=.seq #v[] } }) F.called_list (F.typeCall_list_1 _) F.entry_list_init
  (code_list_new _ #[U,U]) λobj s₁ h₁=>?_
 let(rfl,rfl):=h₁;have hS:(s.heap.push { cls:=.type "list",data:=.seq #v[] }).get? ↑s=some { cls:=.type "list",data:=.seq #v[] }:=Wz _ U;show#[#[_,hS,U],F.args_list_init_2 _ _,?_];change EQ _ _ (do let old <- GE.List.listItems (.ref ↑s);GE.List.listUpdate (.ref ↑s) (λ_=>#v[]);letGo old.toList.reverse;GE.List.listExtendWith (.ref ↑s) (.ref I) .none) _ _ _;show Db ?_;unfold GE.List.listItems;show Db (SL hS U (Fr ?_));change EQ _ _ (updateSeq ↑s (λ_=>#v[]) >>= λ_=>letGo (#v[]:Array AT).toList.reverse >>= λ_=>GE.List.listExtendWith (.ref ↑s) (.ref I) .none) _ _ _;show Db (wpAny_updateSeq hS U ?_);have hS₂:=Xu (Obj.mapSeq (λ_=>(#v[]:Array AT))) hS U;have oth:∀ b o,b≠↑s->s.heap.get? b=some o->((s.heap.push { cls:=.type "list",data:=.seq #v[] }).update ↑s (Obj.mapSeq (λ_=>(#v[]:Array AT)))).get? b=some o :=
  λb o hb e=>(W8 _ _ (Ne.symm hb)).trans (Wl _ e)
 show Db (wpAny_letGo ?_);have W:=Walks.listRev (prog:=prog) (w:=w) (A:=A.in1.in1) hh I l oJ items;show qZ (A:=A.in1) W (λi h st=>let #[o,e,c,_]:=st.2.1;#[o,e,c]) ↑s .none _ ?_ ?_ (by simp) hS₂ (λh' tk acc' c' kp e hacc=>?_) hn
 .refine#[WG _,?_,?_]
  .have e0:(items.size:Int) - 1 - ((0:Nat):Int)=(items.size:Int) - 1:=by cbv
   rw[e0];exact hit.at λo e=>oth I o (WK hIlt) e
  .exact hl.at λo e=>oth l o (WK hllt) e
 .intro hm;rcases WI.mp hm with e | hm
  .exact absurd e (Xx hIlt)
  .exact absurd (WA.mp hm) (Xx hllt)
 .exact#[U,hQ h' tk acc' c' (λb o hb eb=>kp b o (Nat.ne_of_lt (Ev.lt_size eb)) (by simpa using hb) (oth b o (Nat.ne_of_lt (Ev.lt_size eb)) eb)) e hacc]
end
end PySem
namespace L2
open PySem PySem.Spec PyProof.Rows
def Q6(z:Str):It:=#[λi _=>i < z.cps.size,λi H x H'=>H'=H/\∃ c,z.cps[i]?=some c/\x=.str #[#v[c]],λi _=>z.cps.size<=i]
theorem u5{P:Fa}{w:FS}{K:Frag}{tg:Ch}{z:Str}{t:Tok}{it:AC}{ty:String}(hn:["enumerate","zip","dict_itemiterator","dict_reverseitemiterator","odict_iterator","itertools.zip_longest","itertools.pairwise"].contains ty=false)(Qt:∀ (A:Fk) (i:Nat) (s:Da) (Q:Option AT->Da->Prop) (E:Yy),A.handled=none->s.heap.IsStrIter it ty z t i->z.cps[i]?=none->(∀ h',Ev.ExtBut it s.heap h'->Q none { s with heap:=h' })->EQ (model P w) A (pyNext (.ref it)) Q E s)(hit:∀ (A:Fk) (i c:Nat) (s:Da) (Q:Option AT->Da->Prop) (E:Yy),s.heap.IsStrIter it ty z t i->z.cps[i]?=some c->(∀ h',h'.IsStrIter it ty z t (i+1)->Ev.SameBut it s.heap h'->Q (some (.str #[#v[c]] s.toks)) { s with heap:=h',toks:=s.toks+1 })->EQ (model P w) A (pyNext (.ref it)) Q E s)(Li:∀ (A:Fk) (i:Nat) (s:Da) (Q:Yy) (E:Yy),s.heap.IsStrIter it ty z t i->Q (.ref it) s->EQ (model P w) A (pyIter (.ref it)) Q E s) :
  Turn P w K tg (Q6 z) [it] it (λi h=>h.IsStrIter it ty z t i) where
 mem:=by simp
 obj:=λi h st b hb=>by
  have e:b=it:=by simpa using hb
  subst e;let(o,e,c,d):=st;exact#[o,e,λv z=>by rw[d] at z;cases z]
 keep:=λi h h' st k=>by
  let(o,e,r):=st;exact#[o,k it (by simp) o e,r]
 item:=by
  intro X hP hw hK hc i TW s σ H E I hf st hg;subst hP hw hK;let(f0,f1,f2,f3,f4,f5):=hf it (by simp);obtain⟨c,hcp⟩:∃ c,z.cps[i]?=some c:=#[_,Array.getElem?_eq_getElem (show i < z.cps.size from hg)];show hit X.A i _ s _ _ st hcp λh' st' sb=>?_;have I1:Inv X TW σ H { s with heap:=h',toks:=s.toks+1 }:=I.turned (λb o hb e=>(sb.2 b hb).trans e) f0 f1 f3 f4 f5;let(o,e,cc,d):=id st';exact#[_,U,yE (s:={ s with heap:=h',toks:=s.toks+1 }) e cc d hn #[.str #[#v[c]],H,I1,#[_,U],#[U,c,hcp,U],st',λb hb=>(hf b hb).1]]
 done:=by
  intro X hP hw hK hc i TW s σ H E I hf st hg;subst hP hw hK;have hg:z.cps.size<=i:=hg;let(f0,f1,f2,f3,f4,f5):=hf it (by simp);exact Qt X.A i s _ _ (I.ok.hd hc) st (by simp[hg]) λh' kk=>#[U,I.turned (t':=s.toks) (λb o hb e=>kk b o hb e) f0 f1 f3 f4 f5]
 self:=λA i s Q E st h=>Li A i s Q E st h
section
variable{X:Cx}{tg:Ch}
def PD(tl:TE):TI:=λσ H R=>tl σ H λx H1=>∃ z,x=.str z/\R (Q6 z) H1
theorem Cd{l:Ch}{tl:TE}(hl:PE X l tl):PI X tg l (PD tl):=by
 intro TW s σ H R I h;show bW (hl TW s σ H _ I h) λv s1 zz=>el2 zz λx H1 I1 r1 q1=>?_;let(z,e,q):=q1;subst e;let(t,rfl):=r1;have fin:∀ (b:AC),b∈[↑s1]->iq X TW H1 b:=λb hb=>by
  have e:b=↑s1:=by simpa using hb
  subst e;exact I1.rK (Wo _) (I1.bf.fresh (Wo _))
 cases ha:z.cps.all (·< 128)
 .exact wpAny_pyIter_wide ha #[↑s1,[↑s1],_,_,H1,U,I1.kept (t':=s1.toks) λb o e=>Wl _ e,
   u5 () (λA i s Q E hh st hx h=>wpAny_pyNext_wide_end hh st hx h) (λA i c s Q E st hc h=>wpAny_pyNext_wide_item st hc h) (λA i s Q E st h=>wpAny_pyIter_striter_wide st h),#[_,Wz _ U,U,U],fin,q]
 .exact wpAny_pyIter_ascii ha #[↑s1,[↑s1],_,_,H1,U,I1.kept (t':=s1.toks) λb o e=>Wl _ e,
   u5 () (λA i s Q E hh st hx h=>wpAny_pyNext_ascii_end hh st hx h) (λA i c s Q E st hc h=>wpAny_pyNext_ascii_item st hc h) (λA i s Q E st h=>wpAny_pyIter_striter_ascii st h),#[_,Wz _ U,U,U],fin,q]
end
section
variable{X:Cx}
theorem range_all(bs:!Bool):((List.range bs.length).all λi=>bs.getD i false)=bs.all id:=by
 rw[Yg,W5,W5];constructor
 .intro h b hb;let(i,hi,rfl):=XE hb;have:=h i (Xg.mpr hi);simpa [List.getD_eq_getElem?_getD,hi] using this
 .intro h i hi;have sT:=Xg.mp hi;have:=h bs[i] (X7 sT);simpa [List.getD_eq_getElem?_getD,sT] using this
theorem oW(hc:X.calm=true):dB X (.builtin "all") (λxs H Q=>∃ (p:AC) (bs:!Bool),xs=[.ref p]/\dO X.K H p (bs.map V.bl)/\Q (.bl (bs.all id)) H):=by
 intro TW s σ H xs us Q I r h;let(p,bs,rfl,hq,q):=h;let(u,rfl,rx):=vals1 r;cases rx;let(its,rv,pl,hz):=I.list hq;have hp:p < ↑s:=by let(o,_,e,_):=pl;exact Ww e
 have hlen:its.toArray.size=bs.length:=by rw[WL,<- rv.length,Wk]
 show call_all_walk (wpAny_pyIter_list pl.isList ?_);show#[↑s,_,_,_,_,_,λi=>bs.getD i false,U,Walks.list (A:=X.A.in1) (I.ok.hd hc) ↑s p (WK hp) its.toArray,#[#[_,Wz _ U,U,U],pl.isList.push _],?_,?_]
 .intro i v s' Q' E' hv hq';have Oo:its[i]?=some v:=by simpa using hv
  have hi:i < bs.length:=by
   have:=(Wn.mp Oo).1;rw[WL] at hlen;cbv
  let(u,hu,ru):=rv.get (i:=i) (x:=V.bl bs[i]) (by simp[hi]);rw[Oo] at hu;cases hu;cases (show v=AT.bool bs[i] from ru);have e:bs.getD i false=bs[i]:=by simp[List.getD_eq_getElem?_getD,hi]
  have hq'':Q' (bs.getD i false) s':=hq';rw[e] at hq'';exact wpAny_truthy_bool hq''
 .intro h' tk kp;have I':Inv X TW σ H { s with heap:=h',toks:=tk }:=I.kept (t':=tk) λb o e=>kp b o (by simpa using Nat.ne_of_lt (Ev.lt_size e)) (Ev.get?_push_of_some _ e);show#[.bl (bs.all id),H,I',?_,q];change AT.bool _=AT.bool _;rw[hlen,range_all]
def va(K:Frag)(te:TE):TE:=λσ H Q=>te σ H λx H1=>∃ a xs,x=.ref a/\dO K H1 a xs/\∀ l,H1 l=none->Q (.ref l) (upd H1 l (.lst xs.reverse))
theorem zC{items acc:Array AT}(h:ItemsOf (λi v=>items[items.size - 1 - i]?=some v) acc items.size):acc.toList=items.toList.reverse:=by
 let(h1,h2):=h;apply List.ext_getElem?;intro i;by_cases hi:i < items.size
 .have sT:i < acc.size:=by cbv
  have e:acc[i]?=some acc[i]:=by simp[sT]
  have:=h2 i _ e;rw[List.getElem?_reverse (by simpa using hi)];rw[XN,e,Array.length_toList,XN];rw[<- this]
 .rw[List.getElem?_eq_none (by simpa using (by cbv:acc.size<=i)),List.getElem?_eq_none (by simpa using (by cbv:items.size<=i))]
theorem wa{e:Ch}{te:TE}{p p2 pos B5:Pos}(hc:X.calm=true)(UQ:Gl X "list")(Sv:X.mg "list"=none)(UU:Gl X "reversed")(Wf:X.mg "reversed"=none)(he:PE X e te)(hs:(Go [.Call (.Name "reversed" p2) [e] [] B5] X.env=[(false,eval (.Call (.Name "reversed" p2) [e] [] B5) X.env)])⁻¹)(tU:(Go [e] X.env=[(false,eval e X.env)])⁻¹) :
  PE X (.Call (.Name "list" p) [.Call (.Name "reversed" p2) [e] [] B5] [] pos) (va X.K te):=by
 intro TW s σ H Q I h;show wpAny_Call_Name_kw (iH I UQ Sv PyProof.Rows.boot_list ?_ () ());show PyProof.Rows.callWith_type1 ?_ hs U;rw[hs];change EQ _ _ (spliced ((false,eval (.Call (.Name "reversed" p2) [e] [] B5) X.env)::Ix pos [])) _ _ s;show Calls.spliced_cons ?_;show wpAny_Call_Name_kw (iH I UU Wf PyProof.Rows.boot_reversed ?_ () ());show PyProof.Rows.callWith_type1 ?_ tU U;rw[tU];change EQ _ _ (spliced ((false,eval e X.env)::Ix B5 [])) _ _ s;show Calls.spliced_cons (bW (he TW s σ H _ I h) λu s1 z3q=>?_);let(x,H1,I1,r1,a,xs,ex,hq,q):=z3q;subst ex;cases r1;show Calls.spliced_nil ?_;let(its,rv,pl,hz):=I1.list hq;have hp:a < ↑s1:=by let(o,_,e,_):=pl;exact Ww e
 have hlen:=rv.length;show call_reversed_list pl.isList ?_;show Calls.spliced_nil ?_;have I2:Inv X TW σ H1 { s1 with heap:=s1.heap.push (revObj a ((its.toArray.size:Int) - 1)) }:=I1.kept (t':=s1.toks) λb o e=>Wl _ e;show m8 (I.ok.hd hc) (items:=its.toArray) (WK hp) #[_,Wz _ U,U,U] (pl.isList.push _) (λh' tk acc' c' kp e hacc=>?_) (by rw[WL];cbv);have e2:=zC hacc;have F:iq X TW H1 ↑s1:=I1.rK (Wo _) (I1.bf.fresh (Wo _));let(f0,f1,f2,f3,f4,f5):=F;have hk:∀ b o,s1.heap.get? b=some o->h'.get? b=some o:=λb o eb=>kp b o (WK (Ww eb)) (Wl _ eb);show#[.ref _,_,I1.laid (t':=tk) (h':=h') (o:=.lst xs.reverse) hk (by rw[W9];exact Xw _) ?_,U,q _ (I1.bf.fresh (by rw[W9];exact Xw _))];show#[by rw[List.length_reverse];exact hz,acc'.toList,c',?_,by simpa using e];rw[e2];simpa using rv.reverse
theorem w8{ys:!Str}:∀ {us:!AT},Vals (ys.map V.str) us->StrsAre us ys:=by
 induction ys with
 | nil=>intro us r;rw[Xr] at r;cases r;exact .nil
 | cons n ns ih =>
  intro us r;rw[Wu] at r;cases r with
  | cons r1 r2 =>
   let(t,e):=r1;subst e;exact .cons n t (ih r2)
def rJoin(K:Frag):V->!V->Hp->VK->Prop:=λx vs H Q=>∃ (z:Str) (p:AC) (zs:!Str),x=.str z/\vs=[.ref p]/\dO K H p (zs.map V.str)/\(zs.map (·.length)).sum+zs.length * z.length<=16777216/\Q (.str (Txt.join z zs)) H
theorem Ej:JW X "str.join" (rJoin X.K):=by
 intro TW s σ H x vs v us Q I rx rv h;let(z,p,zs,rfl,rfl,hq,hz,q):=h;let(t,rfl):=rx;let(u,rfl,ru):=rv.one;cases ru;let(its,r,pl,_):=I.list hq;exact PyProof.Rows.join_list pl.isList (by simpa using w8 r) hz λt' k=>#[.str _,H,I.tok k,#[t',U],q]
def QA:V->Option Int->Option Int->Hp->VK->Prop:=λx lo hi H Q=>∃ z,x=.str z/\z.length<=FB/\Q (.str (Txt.slice z lo hi)) H
theorem Hz:MP X QA:=by
 intro TW s σ H x v vl vu lo hi sl Q I rx hs pl pu h;let(z,rfl,hz,q):=h;let(t,rfl):=rx;show#["str",_,F.slot_str_getitem.lookup,typeIs_str _ _ _,?_];have fin:∀ t' k,EP X TW σ Q (.str (Txt.slice z lo hi) t') { s with toks:=k }:=λt' k=>#[.str _,H,I.tok k,#[t',U],q];cases pl with
 | none =>
  cases pu with
  | none=>exact wpAny_getItem_str_slice (l:=none) (u:=none) (st:=none) hs U (post_val_or_str #[Wr (Txt.slice_le z _ _) hz,fin])
  | int j uj=>exact wpAny_getItem_str_slice (l:=none) (u:=some (j,uj)) (st:=none) hs U (post_val_or_str #[Wr (Txt.slice_le z _ _) hz,fin])
 | int i ui =>
  cases pu with
  | none=>exact wpAny_getItem_str_slice (l:=some (i,ui)) (u:=none) (st:=none) hs U (post_val_or_str #[Wr (Txt.slice_le z _ _) hz,fin])
  | int j uj=>exact wpAny_getItem_str_slice (l:=some (i,ui)) (u:=some (j,uj)) (st:=none) hs U (post_val_or_str #[Wr (Txt.slice_le z _ _) hz,fin])
theorem j2:gF X (Ps .Mult) (λx y H Q=>∃ z n,x=.str z/\y=.int n/\MulOk z n/\Q (.str (Txt.mul z n)) H):=by
 intro TW s σ H x y v u Q I rx ry h;let(z,n,rfl,rfl,ok,q):=h;let(t,rfl):=rx;let(t',rfl):=ry;exact SB.mul ok λt' k=>#[.str _,H,I.tok k,#[t',U],q]
theorem jm:gF X (IR .LtE) (λx y H Q=>∃ i j,x=.str i/\y=.str j/\Q (.bl (not (decide (j.cps.toList < i.cps.toList)))) H):=by
 intro TW s σ H x y v u Q I rx ry h;let(i,j,rfl,rfl,q):=h;let(t,rfl):=rx;let(t',rfl):=ry;exact PySem.P.le_str #[.bl _,H,I,U,q]
def HW(K:Frag)(te:TE):TE:=λσ H Q=>te σ H λx H1=>∃ a xs,x=.ref a/\dO K H1 a xs/\∀ l,H1 l=none->Q (.ref l) (upd H1 l (.lst xs.reverse))
theorem By{e st:Ch}{te:TE}{p2 pos:Pos}(he:PE X e te)(nq:PE X st (tC (.int (-1)))):PE X (.Subscript e (.Slice none none (some st) p2) pos) (HW X.K te):=by
 intro TW s σ H Q I h;show Subscript_ (bW (he TW s σ H _ I h) λv s1 #[x,H1,I1,r1,a,xs,ex,hq,q]=>?_);subst ex;cases r1;show wpAny_Slice ?_;rw[evalPart_none];show Fr ?_;show Fr ?_;rw[evalPart_some];show bW (nq TW s1 σ H1 (λx H'=>x=.int (-1)/\H'=H1) I1 #[U,U]) λu s2 #[x,H2,I2,r2,ex,eH]=>?_;subst ex eH;let(t,rfl):=r2;let(its,r,ht,hz):=I2.list hq;have hlen:=r.length;have I3:Inv X TW σ H2 { s2 with heap:=s2.heap.push { cls:=.type "slice",data:=.fields #v[.none,.none,.int (-1) t] } }:=I2.kept (t':=s2.toks) λb ob q=>Wl _ q;change EQ (model X.prog X.w) X.A (subscriptTail e (.Slice none none (some st) p2) (.ref a) (.ref ↑s2)) (EP X TW σ Q) X.xe { s2 with heap:=s2.heap.push { cls:=.type "slice",data:=.fields #v[.none,.none,.int (-1) t] } };show tail_any (ops:=[.ref a,.ref ↑s2]) (ht.isList.push _).typeIs slot_list_getitem.lookup ?_ (by with_unfolding_all rfl);show wpAny_getItem_list_slice (ht.isList.push _) (Ev.IsSliceOf.new ..) .none .none (.int (-1) t) () ?_ (by rw[WL];cbv);rw[PySem.W.krv_pick];show#[.ref _,_,I3.laid (t':=s2.toks) (o:=.lst xs.reverse) (λb ob q=>Wl _ q) (Wo _) ?_,U,q _ (I3.bf.fresh (Wo _))];exact#[by rw[List.length_reverse];exact hz,_,0,by simpa using r.reverse,Ev.get?_push_size _ U]
end
theorem Kx{H:Hp}{a:AC}{o u:HO}:upd (upd H a o) a u=upd H a u:=rb
theorem rN{nt:Nat}{us:!Nat}{σ:St}{te:TE}{z:Str}{H1:Hp}{Q:VK}(f:Nat->V)(hz:z.cps.size<=FB)(JQ:0 < nt)(he:∀ c∈z.cps.toList,∀ (H:Hp) (k:VK),k (f c) H->te ((lift nt us σ).set 0 (some (.str #[#v[c]]))) H k)(hQ:∀ D,H1 D=none->Q (.ref D) (upd H1 D (.lst (z.cps.toList.map f)))):sD nt us σ (dI 0) AM te (Q6 z) H1 Q:=by
 intro D hD;show#[λi m ys H2=>i<=z.cps.size/\m=z.cps.size - i/\ys=(z.cps.toList.take i).map f/\H2=upd H1 D (.lst ys),#[z.cps.size,Nat.zero_le _,by simp,by simp,U],?_];rintro i m ys H2 ⟨hi,rfl,rfl,rfl⟩;show#[ax,?_];by_cases hZ:i < z.cps.size
 .refine .inr #[hZ,?_,?_]
  .rw[Wk,Xc,Array.length_toList];cbv
  .rintro x H3 ⟨rfl,c,hc,rfl⟩;show#[u7 JQ,?_];change te _ _ _;have hc':z.cps.toList[i]?=some c:=by simpa using hc
   show he c (WX hc') _ _ #[ax,z.cps.size - (i+1),by cbv,hZ,U,?_,Kx];rw[List.take_add_one,hc',Wv]
   rfl
 .have e:i=z.cps.size:=by cbv
  subst e;show .inl #[Wo _,?_];have:=hQ D hD;rw[List.take_of_length_le (by simp)];exact this
theorem jG{K:Frag}{nt:Nat}{us:!Nat}{σ:St}{ti:TT}{te:TE}{a:AC}{xs:!V}{H1:Hp}{Q:VK}(p:V->Bool)(f:V->V)(hx:dO K H1 a xs)(hz:xs.length<=FB)(JQ:0 < nt)(hp:∀ x∈xs,∀ (H:Hp) (k:Bool->Hp->Prop),k (p x) H->ti ((lift nt us σ).set 0 (some x)) H k)(he:∀ x∈xs,p x=true->∀ (H:Hp) (k:VK),k (f x) H->te ((lift nt us σ).set 0 (some x)) H k)(hQ:∀ D,H1 D=none->Q (.ref D) (upd H1 D (.lst ((xs.filter p).map f)))):sD nt us σ (dI 0) ti te (HR K a) H1 Q:=by
 intro D hD;have hS:∀ ys,dO K (upd H1 D (.lst ys)) a xs:=λys=>dh.seq (λb o e=>by rw[au (aD e hD)];exact e) hx;show#[λi m ys H2=>i<=xs.length/\m=xs.length - i/\ys=((xs.take i).filter p).map f/\H2=upd H1 D (.lst ys),#[xs.length,Nat.zero_le _,by simp,by simp,U],?_];rintro i m ys H2 ⟨hi,rfl,rfl,rfl⟩;show#[ax,?_];by_cases hZ:i < xs.length
 .refine .inr #[#[xs,xs[i],hS _,by simp[hZ]],?_,?_]
  .rw[Wk];have h1:=Xh p (xs.take i);rw[Xc] at h1;cbv
  .rintro x H3 ⟨rfl,hy⟩;have hc':xs[i]?=some x:=hy xs (hS _);have hm:=WX hc';show#[u7 JQ,hp x hm _ _ ?_];cases e:p x with
   | true =>
    rw[if_pos U];show he x hm e _ _ #[ax,xs.length - (i+1),by cbv,hZ,U,?_,Kx];rw[List.take_add_one,hc',List.filter_append,Wv];simp[e]
   | false =>
    rw[if_neg WC];show#[xs.length - (i+1),by cbv,hZ,U,?_,U];rw[List.take_add_one,hc',List.filter_append,Wv];simp[e]
 .have e:i=xs.length:=by cbv
  subst e;show .inl #[#[xs,hS _,Wo _],?_];have:=hQ D hD;rw[List.take_of_length_le (Wo _)];exact this
theorem dh.upd{H:Hp}{a:AC}{o:HO}(h:H a=none):dh H (upd H a o):=λb u e=>by rw[au (aD e h)];exact e
theorem dh.Mf{H H':Hp}{a:AC}{o:HO}(s:dh H H')(h:H a=none):dh H (L2.upd H' a o):=λb u e=>by rw[au (aD e h)];exact s b u e
section
variable{X:Cx}
theorem sj{j p pos}:PE X (.UnaryOp .USub (.Constant (.int 1) j p) pos) (tC (.int (-1))):=λTW s σ H Q I h=>Lx Jc bH TW s σ H Q I #[1,U,h]
def ua:!Ch->!Str
 | []=>[]
 | .Constant (.str x) _ _::r=>x::ua r
 | _=>[]
def ou:!Ch->Bool
 | []=>true
 | .Constant (.str _) _ _::r=>ou r
 | _=>false
def KS(zs:!Str):TA:=λ_ H Q=>Q (zs.map V.str) H
theorem xM:∀ {es:!Ch},ou es=true->PA X es (KS (ua es))
 | [],h=>dR
 | e::r,h=>by
  cases e with
  | Constant c j pos =>
   cases c with
   | str x=>exact aX cD (xM (es:=r) h)
   | _=>cases h
  | _=>cases h
def pS:FM->!Ch
 | .Assign _ (.List es _) _=>es
 | .Assign _ (.BinOp _ _ (.List es _) _) _=>es
 | _=>[]
def rep1:FM->!Ch->FM
 | .Assign t (.List _ p) q,es=>.Assign t (.List es p) q
 | .Assign t (.BinOp a o (.List _ p) r) q,es=>.Assign t (.BinOp a o (.List es p) r) q
 | s,_=>s
def oQ:FM:=.Pass #[0,0,0,0]
def FV(b:!FM)(i:Nat)(es:!Ch):!FM:=b.set i (rep1 (b.getD i oQ) es)
end
end L2
namespace PySem
open Sem (wp)
section
variable{prog:Fa}{w:FS}{A:Fk}{E:Yy}{h:Ev}{g:Array GenState}{d:Drawn}{t:Nat}{os:OsState}
variable{nm q:Str}{C N:AC}{bs bm Jz:!AT}{Mc:Bool}{sn:!Str}{sub:!AT}{ab:Bool}{col:Option Bool}{dd:Option AC}{k0 k1 k2 k3 k5:Option AT}{B Bn newId Tg CL S6:String}{Ta:!AT}
abbrev eV(h:Ev)(C:AC)(rest:!AT):Ev:=(h.push { cls:=.type "tuple",data:=.seq rest.toArray }).push { cls:=.ref C,data:=.fields #v[.ref h.objs.size,.none,.none,.none,.bool false,.none] }
theorem lh(Fn:ExcBaseFacts Bn newId S6 Ta)(Of:Jz.contains (.type Bn)=true)(F:ExcBaseFacts B Tg CL Jz)(T:OwnTail h Jz bm){rest:!AT}{f:AC}{Q:Fin->Da->Prop}(hC:h.get? C=some (excClassObj nm q C N bs bm Mc sn sub ab col dd k0 k1 k2 k3 k5 newId))(hl:Looks (model prog w) h (typeLookup (.ref C) "__init__") (some (.ref f)))(hb:∀ self,Looks (model prog w) h (bindSpecial (.ref f) self) (.ref f,[self]))(hq:codeAny (model prog w) A (.call (.ref f) #[.ref (h.objs.size+1)::rest,[]]) (λr s'=>match r with
   | .ok (.ret v)=>v=.none/\Q (.done (.ret (.ref (h.objs.size+1)))) s'
   | .ok _=>False
   | .error e=>E e s') #[eV h C rest,g,d,t,os])(hrest:rest.length<=FB:=by size_fits) :
  EQ (model prog w) A (GE.«type.__call__» #[.ref C::rest,[]]) Q E #[h,g,d,t,os]:=by
 repeat (first | with_reducible show wpAny_loadPart_at hC ?_ | with_reducible show wpAny_madeBy_exc hC ?_ | wp_step)
 show codeAny_call_builtin_code (Code.quiet_builtin _ Fn.quiet) (wpAny_check_new_subU Fn Of T hC ?_);show codeAny_exc_new_subU Fn Of F T hC ?_ hrest;change EQ _ _ _ _ _ _;have kk:∀ b o,h.get? b=some o->(eV h C rest).get? b=some o:=λb o e=>Wl _ (Wl _ e);have hC₁:=kk _ _ hC;have hget:(eV h C rest).get? (h.objs.size+1)=some { cls:=.ref C,data:=.fields #v[.ref h.objs.size,.none,.none,.none,.bool false,.none] }:=by heap_get
 have hcC:(AT.ref C::bm).contains (.ref C)=true:=by simp
 have T₁:=T.keeps (h':=eV h C rest) kk;have b1:=(hb (.ref (h.objs.size+1))).keeps kk;unfold isInstance
 repeat (first | with_reducible show wpAny_loadPart_at hget ?_ | (with_reducible show wpAny_isSubtype_exc hC₁ ?_;rw[hcC]) | wp_step)
 change EQ _ _ (typeLookup (.ref C) _) _ _ _;show (hl.keeps kk).at ?_;show PP (Db (b1.at ?_));show Db (wpAny_call (codeAny_mono hq λr s' z=>?_));cases r with
 | error e=>exact z
 | ok fl =>
  cases fl with
  | ret v =>
   let(rfl,z):=z;exact Fr (Fr z)
  | next=>exact z.elim
  | brk=>exact z.elim
  | cont=>exact z.elim
theorem sk(Fn:ExcBaseFacts Bn newId S6 Ta)(Of:Jz.contains (.type Bn)=true)(F:ExcBaseFacts B Tg CL Jz)(T:OwnTail h Jz bm){rest:!AT}{f:AC}{Q:Yy}(hC:h.get? C=some (excClassObj nm q C N bs bm Mc sn sub ab col dd k0 k1 k2 k3 k5 newId))(hl:Looks (model prog w) h (typeLookup (.ref C) "__init__") (some (.ref f)))(hb:∀ self,Looks (model prog w) h (bindSpecial (.ref f) self) (.ref f,[self]))(hq:codeAny (model prog w) (A.under (.builtin "type.__call__" #[.ref C::rest,[]])) (.call (.ref f) #[.ref (h.objs.size+1)::rest,[]]) (λr s'=>match r with
   | .ok (.ret v)=>v=.none/\Q (.ref (h.objs.size+1)) s'
   | .ok _=>False
   | .error e=>E e s') #[eV h C rest,g,d,t,os])(hrest:rest.length<=FB:=by size_fits) :
  EQ (model prog w) A (call (.ref C) rest) Q E #[h,g,d,t,os]:=by
 have f1:=tc_lookup;have f2:=tc_bind (.ref C);have hT:(#[h,g,d,t,os]:Da).TypeIs (.ref C) "type":=#[_,hC,U];show wpAny_call (codeAny_of_tree ?_);change EQ _ _ (callAny (.ref C) _) _ _ _
 repeat (any_goals (first | assumption | with_reducible show wpAny_loadPart_at hC ?_ | wp_step))
 show#[U,?_];show codeAny_call_builtin_at (Code.quiet_builtin _ (by decide+kernel)) entry_typeCall (wpAny_check_type_call_sub hC (lh (hrest:=hrest) Fn Of F T hC hl hb (codeAny_mono hq λr s' z=>?_)));cases r with
 | error e=>exact z
 | ok fl =>
  cases fl with
  | ret v=>exact z
  | next=>exact z.elim
  | brk=>exact z.elim
  | cont=>exact z.elim
end
section
variable{M:Model}{A:Fk}{E:Yy}{s:Da}
structure fu(fs ch:!AC)(h h':Ev):Prop where
 keep:∀ b o,b∉fs->b∉ch->h.get? b=some o->h'.get? b=some o
 slot:∀ b o,b∈fs->h.get? b=some o->∃ sl,h'.get? b=some { o with slots:=sl }
def uy(h:Ev)(T:AC)(fl:AT):Prop:=∃ oT ts,h.get? T=some oT/\oT.data=.fields ts/\ts[3]?=some fl
theorem qW{base:Ev}{env:Env}{outer:!Env}{L e:AC}{oe:Obj}{vs:Array AT}{head:AT}{Dl:Bool}{Q:Unit->Da->Prop}(vq:A.frames=some (env::outer))(hl:s.heap.FunFrames base (env::outer))(hf:env.frame=some L)(he:s.heap.get? e=some oe)(hd:oe.data=.fields vs)(hsz:1 < vs.size)(h:∀ h' T,fu ((env::outer).filterMap (·.frame)) [e] s.heap h'->h'.get? e=some (Obj.mapFields (·.setIfInBounds 1 (.ref T)) oe)->↑s<=T->uy h' T (KM L)->h'.FunFrames base (env::outer)->Q Unit.unit { s with heap:=h' }) :
  EQ M A (do let a <- frameOf env;let pl <- entryPlaceOf L Dl;let b <- EntryCells.newEntry head a .none (KM L) .none pl;setField (.ref e) 1 b) Q E s:=by
 have hene:e∉(env::outer).filterMap (·.frame):=λhm=>by
  let(_,o,ho,hnf):=hl.mem hm;rw[he] at ho;injection ho with ho;subst ho;exact hnf vs hd
 show Db (wpAny_frameOf_fun vq hl hf λh₁ hs₁=>?_);show Db (wpAny_entryPlaceOf λpl eR=>?_);unfold EntryCells.newEntry newFields;show Db (ST ?_ (eR.sizeOk5 _ _ _ _ _));have he₁:h₁.get? e=some oe:=(hs₁.2.1 e hene).trans he;have he₂:=Wl (h:=h₁) { cls:=.type "traceback",dict:=none,data:=.fields ([head,.ref L,.none,KM L,.none]++(if pl.isEmpty then List.replicate 6 AT.none else pl)).toArray } he₁;show wpAny_setField he₂ hd hsz (h _ h₁.objs.size ?_ ?_ ?_ ?_ ?_)
 .refine#[λb o h1 h2 eb=>?_,λb o hb eb=>?_]
  .have hbe:b≠e:=by simpa using h2
   rw[W8 _ _ (Ne.symm hbe)];exact Wl _ ((hs₁.2.1 b h1).trans eb)
  .have hbe:b≠e:=λq=>hene (q▸hb);let(sl,hs):=hs₁.2.2 b o eb;exact#[sl,by rw[W8 _ _ (Ne.symm hbe)];exact Wl _ hs]
 .exact Xu _ he₂ (Obj.isFreed_of_fields (Obj.data_mapFields hd _))
 .exact Yu hs₁.1.symm
 .have Fe:h₁.objs.size≠e:=Xx (Ww he₁);show#[_,_,(W8 _ _ (Ne.symm Fe)).trans (Wz h₁ U),U,?_]
  first | (simp;done) | (rcases eR with rfl | ⟨_,_,_,_,_,_,_,rfl⟩<;>simp)
 .refine hl.of_keeps λb o hb hnf=>?_;have hbe:b≠e:=λq=>by
   rw[q,he] at hb;injection hb with hb;subst hb;exact hnf vs hd
  let(sl,hs):=hs₁.2.2 b o hb;exact#[{ o with slots:=sl },by rw[W8 _ _ (Ne.symm hbe)];exact Wl _ hs,U]
theorem zH{base:Ev}{env:Env}{outer:!Env}{L e:AC}{oe:Obj}{vs:Array AT}{Q:Unit->Da->Prop}(vq:A.frames=some (env::outer))(hl:s.heap.FunFrames base (env::outer))(hf:env.frame=some L)(he:s.heap.get? e=some oe)(hd:oe.data=.fields vs)(h1:vs[1]?=some .none)(h:∀ h' T,fu ((env::outer).filterMap (·.frame)) [e] s.heap h'->h'.get? e=some (Obj.mapFields (·.setIfInBounds 1 (.ref T)) oe)->↑s<=T->uy h' T (KM L)->h'.FunFrames base (env::outer)->Q Unit.unit { s with heap:=h' }) :
  EQ M A (noteFrame (.ref e) env) Q E s:=by
 unfold noteFrame;simp only[hf];show Db (KF he hd h1 ?_);rw[if_neg ()];exact qW vq hl hf he hd (Xl.mp h1).1 h
theorem Ca{base:Ev}{env:Env}{outer:!Env}{L e T0:AC}{oe:Obj}{vs:Array AT}{Q:Unit->Da->Prop}(vq:A.frames=some (env::outer))(hl:s.heap.FunFrames base (env::outer))(hf:env.frame=some L)(he:s.heap.get? e=some oe)(hd:oe.data=.fields vs)(h1:vs[1]?=some (.ref T0))(Fe:T0≠e)(ht:uy s.heap T0 .none)(h:∀ h' T,fu ((env::outer).filterMap (·.frame)) [e,T0] s.heap h'->h'.get? e=some (Obj.mapFields (·.setIfInBounds 1 (.ref T)) oe)->↑s<=T->uy h' T (KM L)->h'.FunFrames base (env::outer)->Q Unit.unit { s with heap:=h' }) :
  EQ M A (noteFrame (.ref e) env) Q E s:=by
 let(oT,ts,hT,hdT,h3):=ht;unfold noteFrame;simp only[hf];show Db (KF he hd h1 ?_);rw[if_pos (show (AT.ref T0 != AT.none)=true from by simp)];show Db (KF hT hdT h3 ?_);rw[if_neg (show ¬ ((AT.none == KM L)=true) from by simp[KM])];show Db (wpAny_setField hT hdT (Xl.mp h3).1 ?_);have other:∀ b,b≠T0->(s.heap.update T0 (Obj.mapFields (·.setIfInBounds 3 AT.none))).get? b=s.heap.get? b:=λb hb=>W8 _ _ (Ne.symm hb);have noRecord:∀ b o,s.heap.get? b=some o->(∀ vs,o.data≠.fields vs)->b≠T0:=λb o hb hnf q=>by
  rw[q,hT] at hb;injection hb with hb;subst hb;exact hnf ts hdT
 have nfr:T0∉(env::outer).filterMap (·.frame):=λhm=>by
  let(_,o,ho,hnf):=hl.mem hm;rw[hT] at ho;injection ho with ho;subst ho;exact hnf ts hdT
 show qW vq (hl.of_keeps λb o hb hnf=>#[o,(other b (noRecord b o hb hnf)).trans hb,U]) hf ((other e (Ne.symm Fe)).trans he) hd (Xl.mp h1).1
  λh' T k1 k2 k3 k4 k5=>h h' T #[λb o hb hc eb=>?_,λb o hb eb=>?_] k2 ?_ k4 k5
 .have n1:b≠e:=λq=>hc (by simp[q]);have n2:b≠T0:=λq=>hc (by simp[q]);exact k1.keep b o hb (by simpa using n1) ((other b n2).trans eb)
 .exact k1.slot b o hb ((other b λq=>nfr (q▸hb)).trans eb)
 .exact Wr (Yu (Ev.size_after_update ..).symm) k3
theorem lA{e T:AC}{oe:Obj}{vs:Array AT}{fl:AT}{fs:!AC}{Q:Unit->Da->Prop}(he:s.heap.get? e=some oe)(hd:oe.data=.fields vs)(h1:vs[1]?=some (.ref T))(ht:uy s.heap T fl)(Ny:T∉fs)(h:∀ h',fu fs [T] s.heap h'->(∀ b o,b≠T->s.heap.get? b=some o->h'.get? b=some o)->uy h' T .none->Q Unit.unit { s with heap:=h' }):EQ M A (setFlight (.ref e) none) Q E s:=by
 let(oT,ts,hT,hdT,h3):=ht;have hsz3:3 < ts.size:=(Xl.mp h3).1;have other:∀ b o,b≠T->s.heap.get? b=some o->(s.heap.update T (Obj.mapFields (·.setIfInBounds 3 ((none:Option AC).elim AT.none λf=>KM f)))).get? b=some o :=
  λb o hb e=>(W8 _ _ (Ne.symm hb)).trans e
 unfold setFlight;show Db (KF he hd h1 ?_);rw[if_pos (show (AT.ref T != AT.none)=true from by simp)];show wpAny_setField hT hdT hsz3 (h _ #[λb o _ hc e=>other b o (by simpa using hc) e,λb o hb e=>#[o.slots,other b o (λq=>Ny (q▸hb)) e]] other ?_);exact#[_,_,Ev.get?_update_self _ hT (Obj.isFreed_of_fields (Obj.data_mapFields hdT _)),Obj.data_mapFields hdT _,by simp[hsz3]]
end
end PySem
namespace L2
open PySem PySem.Spec PyProof.Rows
abbrev jJ:!AT:=[.type "ValueError",.type "Exception",.type "BaseException",.type "object"]
def xo(ea C:AC)(dd:Option AC)(fresh:Bool):HO:=.ext λh=>∃ vs:Array AT,h.get? ea=some { cls:=.ref C,dict:=dd,data:=.fields vs }/\vs.size=6/\(fresh=true->vs[1]?=some .none)
def xf(d:AC)(fs:!(Str×V)):HO:=.ext λh=>fs.length<=1000/\∃ mA,h.Ns1 d mA/\(∀ f,gz (fs.lookup f) (mA f))/\PySem.Within mA (fs.map (·.1))
section
variable{P:Fa}{w:FS}{H:Hp}{h:Ev}{ea C d:AC}{dd:Option AC}{fr:Bool}{fs:!(Str×V)}
theorem Ah{vs:Array AT}(e:h.get? ea=some { cls:=.ref C,dict:=dd,data:=.fields vs })(z:vs.size=6)(f:fr=true->vs[1]?=some .none):cj P w H h ea (xo ea C dd fr) :=
 #[#[vs,e,z,f],#[_,e],λ_ _ #[vs,e,r] k=>#[vs,k _ e,r]]
theorem sV(bf:jv P w H h)(e:H ea=some (xo ea C dd fr)):∃ vs:Array AT,h.get? ea=some { cls:=.ref C,dict:=dd,data:=.fields vs }/\vs.size=6/\(fr=true->vs[1]?=some .none) :=
 (show cj P w H h ea (xo ea C dd fr) from bf ea _ e).1
theorem HZ(bf:jv P w H h)(e:H d=some (xf d fs)):fs.length<=1000/\∃ mA,h.Ns1 d mA/\(∀ f,gz (fs.lookup f) (mA f))/\PySem.Within mA (fs.map (·.1)) :=
 (show cj P w H h d (xf d fs) from bf d _ e).1
theorem IU(e:H ea=some (xo ea C dd fr)):JA (H ea):=by rw[e];exact True.intro
end
def Hc(es:Array Sc):Bool:=es.toList.all λe=>match e.key with | .str _ _=>true | _=>false
theorem zy{es:Array Sc}(h:Hc es=true):StrKeys es:=λe he=>by
 have q:=W5.mp h e (Array.mem_toList_iff.mpr he);cases k:e.key with
 | str z t=>exact#[z,t,U]
 | _=>rw[k] at q;cases q
structure ExC(K:Frag)(C:AC):Prop where
 cls:∃ (nm q:Str) (N S:AC) (bs:!AT) (sn:!Str) (sub:!AT) (ab:Bool) (col:Option Bool) (dd:Option AC) (k0 k1 k2 k3 k5:Option AT) (cS:AT) (dS:Option AC) (F1:ClassData) (NS:Array (Option AT))
  (cN:AT) (dN:Option AC) (es:Array Sc) (ep:Nat) (Oa:Array (Option AT)),K.lookup C=some (excClassObj nm q C N bs (.ref S::jJ) true sn sub ab col dd k0 k1 k2 k3 k5 "ValueError.__new__") /\
  K.lookup S=some #[cS,dS,.cls F1,NS]/\K.lookup F1.ns=some #[cN,dN,.dict es ep,Oa]/\Hc es=true/\nsFind es "__init__"=none
 sa:findIn K (.ref C) "__setattr__"=some (some (.builtin "object.__setattr__"))
 ga:findIn K (.ref C) "__getattribute__"=some (some (.builtin "BaseException.__getattribute__"))
 gt:findIn K (.ref C) "__getattr__"=some none
structure Kc(K:Frag)(C f:AC):Prop extends ExC K C where
 UZ:findIn K (.ref C) "__init__"=some (some (.ref f))
 fn:typeIn K (.ref f)=some (.type "function")
 kp:keepIn K (.ref C)=true
theorem ExC.at{K:Frag}{C:AC}{h:Ev}(c:ExC K C)(X:K.In h):∃ (nm q:Str) (N S:AC) (bs:!AT) (sn:!Str) (sub:!AT) (ab:Bool) (col:Option Bool) (dd:Option AC) (k0 k1 k2 k3 k5:Option AT),
  h.get? C=some (excClassObj nm q C N bs (.ref S::jJ) true sn sub ab col dd k0 k1 k2 k3 k5 "ValueError.__new__")/\OwnTail h jJ (.ref S::jJ) /\
  PySem.W.clsIn K C=some { name:=nm,bases:=bs,mro:=.ref C::.ref S::jJ,ns:=N,qualname:=q,hasDict:=true,slotNames:=sn,subclasses:=sub,abstract:=ab,collection:=col,hasDel:=false }:=by
 let(nm,q,N,S,bs,sn,sub,ab,col,dd,k0,k1,k2,k3,k5,cS,dS,F1,NS,cN,dN,es,ep,Oa,h1,h2,h3,h4,h5):=c.cls;show#[nm,q,N,S,bs,sn,sub,ab,col,dd,k0,k1,k2,k3,k5,X _ _ h1,.own (X _ _ h2) #[_,es,ep,X _ _ h3,U,zy h4,λ_=>rfl] h5 .base,?_];unfold PySem.W.clsIn;rw[h1]
def Jv(C:AC)(sp:Sp)(t:TA):TE:=λσ H Q=>t σ H λvs H1=>vs.length<=1000/\∀ x,H1 x=none->sp (.ref x::vs) (upd H1 x (xo x C none true)) (λv H2=>v=.br/\Q (.ref x) H2) E0
section
variable{X:Cx}{TW:Yz}{σ:St}{H:Hp}{s:Da}{C f:AC}{k:Nat}{fd:Gc}{ps:!Str}{sp:Sp}{x:Str}{p pos:Pos}{e:Ch}{es:!Ch}{t:TA}
theorem zm{Q:VK}{us:!AT}{vs:!V}(M:Kc X.K C f)(F:bY X.prog X.w X.K X.mg X.base bu k f fd ps sp)(hr:bU (k+1) X.A)(hb:Binds X.K fd ps [])(I:Inv X TW σ H s)(r:Vals vs us)(hz:vs.length<=1000)(h:∀ x,H x=none->sp (.ref x::vs) (upd H x (xo x C none true)) (λv H2=>v=.br/\Q (.ref x) H2) E0) :
  EQ (model X.prog X.w) X.A (call (.ref C) us) (EP X TW σ Q) X.xe s:=by
 let(nm,q,N,S,bs,sn,sub,ab,col,dd,k0,k1,k2,k3,k5,hC,T,hcl):=M.toExC.at I.lz;have hq:=h (↑s+1) (I.bf.fresh (Xw _));have kk:∀ b o,s.heap.get? b=some o->(eV s.heap C us).get? b=some o:=λb o e=>Wl _ (Wl _ e);have hget:(eV s.heap C us).get? (↑s+1)=some { cls:=.ref C,data:=.fields #v[.ref ↑s,.none,.none,.none,.bool false,.none] }:=by heap_get
 have I2:Inv X TW σ (upd H (↑s+1) (xo (↑s+1) C none true)) { s with heap:=eV s.heap C us } :=
  I.laid (a:=↑s+1) (t':=s.toks) kk (Xw _) (Ah hget U λ_=>rfl)
 have r2:Vals (V.ref (↑s+1)::vs) (AT.ref (↑s+1)::us):=.cons U r;have hl:(AT.ref (↑s+1)::us++[]).length=ps.length:=by
  have e:=r2.length;rw[F.len _ _ _ _ hq] at e;rw[WH];exact e.symm
 have hus:us.length<=FB:=by rw[<- r.length];exact XY (l4 hz)
 have GK:=hb { s with heap:=eV s.heap C us } (AT.ref (↑s+1)::us) I2.lz hl;rw[WH] at GK;let(hh,g,d,t,os):=s;show PySem.sk (hrest:=hus) Yc () Yc T hC (Yt I.lz M.UZ) (λself=>PySem.W.bind_fn I.lz self M.fn) ?_;show codeAny_mono (F.run _ X.stack _ _ #[AT.ref (hh.objs.size+1)::us,[]] (AT.ref (hh.objs.size+1)::us) _ _ E0 (hr.make C us []) (I2.Dv.make C us []) GK r2 hq) λr s' hq'=>?_;cases r with
 | error e=>exact False.elim hq'
 | ok fl =>
  cases fl with
  | ret u =>
   let(v,H',I3,rv,ev,q3):=I2.after hq';subst ev;exact#[rv,#[V.ref (hh.objs.size+1),H',I3,U,q3]]
  | next=>exact False.elim hq'
  | brk=>exact False.elim hq'
  | cont=>exact False.elim hq'
theorem yK(M:Kc X.K C f)(F:bY X.prog X.w X.K X.mg X.base bu k f fd ps sp)(hr:bU (k+1) X.A)(hg:Gl X x)(hm:X.mg x=some (.ref C))(hb:Binds X.K fd ps [])(gH: ~~~(YD x)):PE X (.Call (.Name x p) [] [] pos) (Jv C sp sY):=by
 intro TW s σ H Q I h;let(z,q):=h;show wpAny_Call_Name_kw (gP I hg hm ?_ gH);exact PySem.W.callWith_K0 I.lz M.kp (zm (us:=[]) M F hr hb I .nil z q)
end
section
variable{X:Cx}{TW:Yz}{σ:St}{H:Hp}{s:Da}{ea C d:AC}{dd:Option AC}{fr:Bool}{fs:!(Str×V)}{f:Str}{v:V}{A:Fk}{E:Yy}
theorem Em{us:!AT}{Q:Yy}(I:Inv X TW σ H s)(e:H ea=some (xo ea C dd fr))(c:ExC X.K C)(hz:us.length<=1000)(h:∀ s',Inv X TW σ H s'->Q .none s') :
  EQ (model X.prog X.w) A (call (.builtin "ValueError.__init__") (.ref ea::us)) Q E s:=by
 let(nm,q,N,S,bs,sn,sub,ab,col,dd',k0,k1,k2,k3,k5,hC,T,hcl):=c.at I.lz;let(vs,he,h6,hf):=sV I.bf e;have hus:us.length<=FB:=XY (l4 hz);let(hh,g,d,t,os):=s;show wpAny_call (codeAny_call_builtin PySem.F.excBase_ValueError.init.plain PySem.F.excBase_ValueError.initEntry (wpAny_check_init_subU Yc T hC he U ?_));unfold GE.«BaseException.__init__»;have ne:ea≠hh.objs.size:=WK (Ww he);have he1:(hh.push { cls:=.type "tuple",data:=.seq us.toArray }).get? ea=some { cls:=.ref C,dict:=dd,data:=.fields vs }:=Wl _ he;obtain⟨x0,hx0⟩:∃ x0,vs[0]?=some x0:=#[vs[0]'(by cbv),by simp[h6]];have fin:∀ t',Inv X TW σ H #[(hh.push { cls:=.type "tuple",data:=.seq us.toArray }).update ea (Obj.mapFields (·.setIfInBounds 0 (.ref hh.objs.size))),g,d,t',os]:=λt'=>by
  have hu:=Xu (Obj.mapFields (·.setIfInBounds 0 (.ref hh.objs.size))) he1 (Obj.isFreed_of_fields (Obj.data_mapFields U _));have ke:upd H ea (xo ea C dd fr)=H:=by funext b;by_cases hb:b=ea<;>simp[upd,hb,e]
  have J:=I.write (x:=ea) (e:=ea) (o:=xo ea C dd fr) (t':=t') (h':=(hh.push { cls:=.type "tuple",data:=.seq us.toArray }).update ea (Obj.mapFields (·.setIfInBounds 0 (.ref hh.objs.size)))) (IU e) (.inl U)
   (λb u hb q=>(Ev.get?_update_other _ _ (Ne.symm hb)).trans (Ev.get?_push_of_some _ q)) #[_,hu] (Ah hu (by simp[h6]) (λz=>by rw[Array.getElem?_setIfInBounds_ne ()];exact hf z))
  rw[ke] at J;exact J
 show Db (wpAny_newTuple ?_);unfold GE.BaseException.bexcPut;show Db (Db (KF he1 U hx0 (Db (wpAny_setField he1 U (by cbv) ?_))));cases x0<;>first
  | exact Fr (Fr (h _ (fin _)))
  | exact wpAny_letGo (Fr (h _ (fin _)))
structure Gd(K:Frag)(S:AC):Prop where
 sp:specialIn K (.ref S) "__getattribute__"=some (some (.builtin "type.__getattribute__"))
 rd:PySem.W.readsIn K S (.type "type")=true
 fd:PySem.W.findCls K (.ref S) (.type "type") "__init__"=some (.val (.builtin "ValueError.__init__"))
theorem tM:PySem.W.handedIn (.builtin "ValueError.__init__")=true:=by decide+kernel
def IF(K:Frag)(t:TA):TE:=λσ H Q=>t σ H λvs H1=>∃ ea rest C dd fr,vs=.ref ea::rest/\H1 ea=some (xo ea C dd fr)/\ExC K C/\rest.length<=1000/\Q .br H1
theorem Ae{S:AC}{x:Str}{p apos pos:Pos}{e:Ch}{es:!Ch}{t:TA}{pl:Sem Bool}(B:Gd X.K S)(hg:Gl X x)(hm:X.mg x=some (.ref S))(ha:PA X (e::es) t)(gH: ~~~(YD x))(he:(YB X.env e es)⁻¹)(eR:(YC X.env pos es)⁻¹)(ht:(eval (.Call (.Attribute (.Name x p) "__init__" apos) (e::es) [] pos) X.env=(do
   let ov <- eval (.Name x p) X.env
   standAt apos.atName
   let (f,first) <- holding [ov] (getMethod ov "__init__" pl)
   callWith pos f first (Ix pos (Go (e::es) X.env)) (Re pos (Rs [] X.env))))⁻¹) :
  PE X (.Call (.Attribute (.Name x p) "__init__" apos) (e::es) [] pos) (IF X.K t):=by
 intro TW s σ H Q I h;show PySem.W.methodCall_KW (pl:=pl) (gP I hg hm ?_ gH) ht;show PySem.W.method_cls I.lz B.sp (PySem.W.cls_value (mc:=.type "type") I.lz B.rd B.fd tM ?_);have I0:=I.tok (s.toks+1);change EQ _ _ (callWith pos (.builtin "ValueError.__init__") [] (Ix pos (Go (e::es) X.env)) []) _ _ _;show PyProof.Rows.callWith_builtin1 (bW (ha pos TW _ σ H _ I0 h) λus s1 #[vs,H1,I1,r,ea,rest,C,dd,fr,ev,eo,c,z,q]=>?_) he eR;subst ev;cases r with
 | @cons _ u _ us' ru rr =>
  obtain rfl:u=AT.ref ea:=ru;exact Em I1 eo c (by rw[<- rr.length];exact z) λs' I'=>#[.br,H1,I',U,q]
end
theorem Bk:specialIn [] (.builtin "object.__class__") "__get__"=some (some (.builtin "getset_descriptor.__get__")):=by decide+kernel
theorem zl:PySem.W.takesIn [] (.builtin "object.__class__")=some true:=by decide+kernel
section
variable{K:Frag}
theorem uW{x C:AC}{ox:Obj}{od:Option Obj}(c:ExC K C)(ha:findIn K (.ref C) "__class__"=some (some (.builtin "object.__class__"))):PySem.W.KitX K (.ref x) (.ref C) (λh=>InstAt h x ox C od) where
 ty:=λ_ _ _ I=>I.type
 it:=λ_ _ X _=>by
  let(nm,q,N,S,bs,sn,sub,ab,col,dd',k0,k1,k2,k3,k5,hC,T,hcl):=c.at X;intro A' Q' E' s' k q;unfold isType loadHead;exact Db (wpAny_loadPart (k _ _ hC) (Fr q))
 ne:=λh tp dd its n sl X htp=>by
  let(nm,q,N,S,bs,sn,sub,ab,col,dd',k0,k1,k2,k3,k5,hC,T,hcl):=c.at X;show Bool.eq_false_iff.mpr λq=>?_;have e:C=tp:=AT.ref.inj (beq_iff_eq.mp q);subst e;have z:Data.cls _=Data.seq its.toArray n:=congrArg Obj.data (WU (hC.symm.trans htp));cases z
 ca:=λ{prog w A E Q s} X I k=>by
  let(nm,q,N,S,bs,sn,sub,ab,col,dd',k0,k1,k2,k3,k5,hC,T,hcl):=c.at X;have hf:PySem.W.findObj K C od "__class__"=some (.bind (.builtin "getset_descriptor.__get__") (.builtin "object.__class__")):=by
   have h1:specialIn K (.builtin "object.__class__") "__get__"=some (some (.builtin "getset_descriptor.__get__")):=Bk;have h2:PySem.W.takesIn K (.builtin "object.__class__")=some true:=zl;unfold PySem.W.findObj;rw[hcl,WM,ha,WM];simp[h1,h2]
  have LT:=I.type (M:=model prog w);have LF:=PySem.W.looks_find (M:=model prog w) X I hf;have LB:Looks (model prog w) s.heap (isInstance (.ref x) (.type "BaseException")) true:=LT.andThen (PySem.W.looks_mroIn X (by unfold PySem.W.mroIn;rw[hcl,Option.bind_some];rfl));have hx2:(AT.builtin "BaseException.__getattribute__" == AT.builtin "object.__getattribute__")=false:=by decide+kernel
  show Db (wpAny_mkText (Db (wpAny_attempt ?_)));show PP (Db (LT _ _ _ _ (λ_ _ e=>e) (Db (Yt X c.ga _ _ _ _ (λ_ _ e=>e) ?_))));dsimp only;rw[hx2,Bool.and_false,if_neg ()];show Db (PySem.W.looks_hook (mc:=.ref C) X c.gt _ _ _ _ (λ_ _ e=>e) (Db (wpAny_attempt (PP ?_))));unfold callGetattribute;rw[show (false&&onTheHeap (AT.builtin "BaseException.__getattribute__"))=false from U,if_neg ()];unfold boundAndCalled;rw[PySem.F.attr_ValueError.ga.bind];show Db (Fr ?_);change EQ _ _ (call (.builtin "BaseException.__getattribute__") [.ref x,.str "__class__" s.toks]) _ _ _;show wpAny_call (codeAny_call_builtin PySem.F.attr_ValueError.ga.plain PySem.F.entry_bexc_ga ?_);show @PySem.W.check_slot (model prog w) _ _ { s with toks:=s.toks+1 } "BaseException.__getattribute__" "BaseException" "__getattribute__" (.ref x) [.str "__class__" s.toks] [] _ (by decide+kernel) (by decide+kernel) LB (PySem.F.args_bexc_ga (.ref x) (.str "__class__" s.toks)) ?_;show Db (Fr (Db (Fr (Db (LT _ _ _ _ (λ_ _ e=>e) (Db (LF _ _ _ _ (λ_ _ e=>e) ?_)))))));change EQ _ _ (GE.ObjectAttr.bindTo _ _ _ _) _ _ _;unfold GE.ObjectAttr.bindTo;dsimp only;show Db (PP (wpAny_call (PySem.W.class_get (s:={ s with toks:=s.toks+1 }) (ox:=ox) (od:=od) X I (by unfold PySem.W.mroIn;rw[hcl,Option.bind_some];rfl) ?_)));show Fr ?_;change EQ _ _ (handedOut (.ref C)) _ _ _;exact PySem.W.handed_on U (Fr k)
end
section
variable{X:Cx}{TW:Yz}{σ:St}{H:Hp}{s:Da}{ea C d:AC}{dd:Option AC}{fr:Bool}{fs:!(Str×V)}{f:Str}{v:V}{A:Fk}{E:Yy}
structure MB(K:Frag)(C:AC):Prop extends ExC K C where
 cc:findIn K (.ref C) "__class__"=some (some (.builtin "object.__class__"))
theorem yt(I:Inv X TW σ H s)(e:H ea=some (xo ea C dd fr))(hd:∀ d,dd=some d->∃ o,s.heap.get? d=some o):∃ ox od,InstAt s.heap ea ox C od:=by
 let(vs,he,h6,hf):=sV I.bf e;cases dd with
 | none=>exact#[_,none,he,U,U,True.intro]
 | some d =>
  let(o,ho):=hd d U;exact#[_,some o,he,U,U,ho]
def df(H:Hp)(dd:Option AC):Prop:=∀ d,dd=some d->∃ fs,H d=some (xf d fs)
theorem df.at(D:df H dd)(I:Inv X TW σ H s):∀ d,dd=some d->∃ o,s.heap.get? d=some o:=λd e=>by
 let(fs,h):=D d e;let(_,mA,(o,_,_,h1,_),_):=HZ I.bf h;exact#[o,h1]
def Ke(K:Frag)(c:AT):!V->Hp->VK->Prop:=λxs H Q=>∃ ea C dd fr b cv,xs=[.ref ea,cv]/\RelV cv c/\H ea=some (xo ea C dd fr)/\df H dd/\MB K C/\kitOne K (.ref C) c=some b/\Q (.bl b) H
theorem ue{K:Frag}{c:AT}(hK:X.K=K)(hc:∀ (cv:V) (u:AT),RelV cv c->RelV cv u->u=c):dB X (.builtin "isinstance") (Ke K c):=by
 subst hK;intro TW s σ H xs us Q I r h;let(ea,C,dd,fr,b,cv,rfl,rc,e,D,t,k,q):=h;cases r with
 | @cons _ u _ us' ru rr =>
  cases rr with
  | @cons _ u2 _ us2 ru2 rr2 =>
   cases rr2;obtain rfl:u=AT.ref ea:=ru;obtain rfl:=hc cv u2 rc ru2;let(ox,od,J):=yt I e (D.at I);exact PySem.W.kia_one (uW t.toExC t.cc) I.lz J k (λz=>nomatch z) λtk=>#[.bl b,H,I.tok _,U,q]
end
structure C8(X:Cx)(TW:Yz)(H:Hp)(s:Da)(ea C:AC)(dd:Option AC)(T:AC):Prop where
 ex:∃ vs:Array AT,s.heap.get? ea=some { cls:=.ref C,dict:=dd,data:=.fields vs }/\vs.size=6/\vs[1]?=some (.ref T)
 tb:uy s.heap T .none
 at_:H ea=some (xo ea C dd false)
 free:H T=none
 new:X.s₀.heap.objs.size<=T
 nl:T≠X.env.locals
 nc:∀ x c,X.env.cells.lookup x=some c->c≠T
 np:∀ p∈X.pn++TW,p.1≠T
 nf:T∉X.fs
section
variable{X:Cx}{TW:Yz}{σ:St}{H:Hp}{s:Da}{ea C T:AC}{dd:Option AC}{fr:Bool}{A:Fk}{E:Yy}{h':Ev}
theorem uE{b:AC}{o:HO}(e:H ea=some (xo ea C dd fr))(h:H b=some o)(n:∀ φ,o≠.ext φ):b≠ea:=Ai h e λz=>n _ z
theorem Inv.apart(I:Inv X TW σ H s)(h:↑s<=T):X.s₀.heap.objs.size<=T/\T≠X.env.locals/\(∀ x c,X.env.cells.lookup x=some c->c≠T)/\(∀ p∈X.pn++TW,p.1≠T)/\T∉X.fs :=
 #[Wr I.sz h,Xx (WB I.lt h),λx c e=>by
  let(_,o,ho,_):=I.cell x c e;exact WK (WB (Ww ho) h),λp hp=>WK (WB (Ww (I.pin p hp).1) h),I.Mh h]
theorem o3{ch:!AC}{Ow:Array AT}(I:Inv X TW σ H s)(hs:X.stack=X.env::X.outer)(hf:X.env.frame=some X.env.locals)(e:H ea=some (xo ea C dd fr))(P:fu ((X.env::X.outer).filterMap (·.frame)) (ea::ch) s.heap h')(pK:∀ b∈ch,H b=none/\X.s₀.heap.objs.size<=b/\b≠X.env.locals/\(∀ x c,X.env.cells.lookup x=some c->c≠b)/\∀ p∈X.pn++TW,p.1≠b)(tZ:h'.get? ea=some { cls:=.ref C,dict:=dd,data:=.fields Ow })(h6:Ow.size=6):Inv X TW σ (upd H ea (xo ea C dd false)) { s with heap:=h' }:=by
 have vq:(X.env::X.outer).filterMap (·.frame)=X.env.locals::X.fs:=by rw[List.filterMap_cons,hf];rfl
 rw[vq] at P;have frN:∀ b,b∈X.env.locals::X.fs->H b=none:=λb hb=>I.su b (by rw[hs];change b∈(X.env::X.outer).filterMap (·.frame);rw[vq];exact hb);show I.step (g':=s.gens) (t':=s.toks) (d':=s.drawn) (ch:=ch) (λb hb=>#[.inr (pK b hb).2.1,(pK b hb).2.2.1,(pK b hb).2.2.2.1,(pK b hb).2.2.2.2]) (λb o hL hb hc e1 n=>?_) (λb o hL hb hc e1 n=>?_) (λb o hc e1 n=>?_) (λb o hc e1=>?_)
  (λb xs q=>?_) (λb o u q=>?_) (λb ps q=>?_) (λm hm=>?_) (λb u q=>?_) I.bare
 .refine P.keep b o (λz=>(WI.mp z).elim hL hb) (λz=>(WI.mp z).elim (λq=>?_) hc) e1;rw[q,e] at n;cases n
 .exact P.slot b o (Wq _ hb) e1
 .rw[au λq=>by rw[q,e] at n;cases n];exact n
 .by_cases q:b=ea
  .exact#[_,by rw[q];exact tZ]
  .by_cases z:b∈X.env.locals::X.fs
   .let(sl,h1):=P.slot b o z e1;exact#[_,h1]
   .exact#[o,P.keep b o z (λy=>(WI.mp y).elim q hc) e1]
 .rw[au (uE e q λφ z=>nomatch z)];exact q
 .rw[au (uE e q λφ z=>nomatch z)];exact q
 .exact#[#v[],by rw[au (uE e q λφ z=>nomatch z),q];simp]
 .let(o,es,ep,ho,r):=hm;let(sl,h1):=P.slot _ o Wt ho;exact#[_,es,ep,h1,r]
 .by_cases hb:b=ea
  .subst hb;rw[ax] at q;cases q;exact Ah tZ h6 λz=>nomatch z
  .rw[au hb] at q;have own:∀ c,H c=some (.own b)->c≠ea:=λc r=>uE e r λφ z=>nomatch z;show (I.bf b u q).sI (λc v hc r=>P.keep c v (λz=>?_) (λz=>?_) r) (λc r=>by rw[au (own c r)];exact r) λc xs r=>by rw[au (uE e r λφ z=>nomatch z)];exact r
   .have n:=frN c z;rcases hc with rfl | hc
    .rw[q] at n;cases n
    .rw[hc] at n;cases n
   .rcases WI.mp z with z | z
    .rcases hc with rfl | hc
     .exact hb z
     .exact own c hc z
    .have n:=(pK c z).1;rcases hc with rfl | hc
     .rw[q] at n;cases n
     .rw[hc] at n;cases n
theorem AS{o:HO}(e:H ea=some o):upd H ea o=H:=by funext b;by_cases hb:b=ea<;>simp[upd,hb,e]
theorem nH(vs:Array AT)(v:AT):Obj.mapFields (·.setIfInBounds 1 v) { cls:=.ref C,dict:=dd,data:=.fields vs }={ cls:=.ref C,dict:=dd,data:=.fields (vs.setIfInBounds 1 v) }:=rfl
theorem yY{Q:Unit->Da->Prop}(I:Inv X TW σ H s)(hA:A.frames=some X.stack)(hs:X.stack=X.env::X.outer)(hf:X.env.frame=some X.env.locals)(e:H ea=some (xo ea C dd true))(h:∀ s2 T2,Inv X TW σ (upd H ea (xo ea C dd false)) s2->C8 X TW (upd H ea (xo ea C dd false)) s2 ea C dd T2->Q Unit.unit s2) :
  EQ (model X.prog X.w) A (noteFrame (.ref ea) X.env) (λ_ s1=>EQ (model X.prog X.w) A (setFlight (.ref ea) none) Q E s1) E s:=by
 let(vs,he,h6,h1):=sV I.bf e;have fun1:=I.stack;rw[hs] at hA fun1;show zH hA fun1 hf he U (h1 U) λha T2 P tZ hT ht _=>?_;rw[nH] at tZ;have hv1:(vs.setIfInBounds 1 (AT.ref T2))[1]?=some (.ref T2):=by rw[Yd (by cbv)]
 show lA (fs:=[]) tZ U hv1 ht (by simp) λhb P2 k2 ht2=>?_;have lt:∀ b o,s.heap.get? b=some o->b≠T2:=λb o q=>WK (WB (Ww q) hT);have hea2:=k2 _ _ (lt _ _ he) tZ;have P':fu ((X.env::X.outer).filterMap (·.frame)) (ea::[]) s.heap hb:=#[λb o n1 n2 q=>k2 b o (lt b o q) (P.keep b o n1 n2 q),λb o n1 q=>by
  let(sl,r):=P.slot b o n1 q;exact#[sl,k2 b _ (lt b o q) r]]
 have I2:=o3 I hs hf e P' (λb z=>nomatch z) hea2 (by simp[h6]);let(a1,a2,a3,a4,a5):=I.apart hT;exact h _ T2 I2 #[#[_,hea2,by simp[h6],hv1],ht2,ax,by rw[au (Ne.symm (lt _ _ he))];exact I.bf.fresh hT,a1,a2,a3,a4,a5]
theorem uD{Q:Unit->Da->Prop}(I:Inv X TW σ H s)(hA:A.frames=some X.stack)(hs:X.stack=X.env::X.outer)(hf:X.env.frame=some X.env.locals)(F:C8 X TW H s ea C dd T)(h:∀ s2 T2,Inv X TW σ H s2->C8 X TW H s2 ea C dd T2->Q Unit.unit s2) :
  EQ (model X.prog X.w) A (noteFrame (.ref ea) X.env) (λ_ s1=>EQ (model X.prog X.w) A (setFlight (.ref ea) none) Q E s1) E s:=by
 let(vs,he,h6,h1):=F.ex;have fun1:=I.stack;rw[hs] at hA fun1;have Fe:T≠ea:=λq=>by have:=F.free;rw[q,F.at_] at this;cases this
 show Ca hA fun1 hf he U h1 Fe F.tb λha T2 P tZ hT ht _=>?_;rw[nH] at tZ;have hv1:(vs.setIfInBounds 1 (AT.ref T2))[1]?=some (.ref T2):=by rw[Yd (by cbv)]
 show lA (fs:=[]) tZ U hv1 ht (by simp) λhb P2 k2 ht2=>?_;have lt:∀ b o,s.heap.get? b=some o->b≠T2:=λb o q=>WK (WB (Ww q) hT);have hea2:=k2 _ _ (lt _ _ he) tZ;have P':fu ((X.env::X.outer).filterMap (·.frame)) (ea::[T]) s.heap hb:=#[λb o n1 n2 q=>k2 b o (lt b o q) (P.keep b o n1 n2 q),λb o n1 q=>by
  let(sl,r):=P.slot b o n1 q;exact#[sl,k2 b _ (lt b o q) r]]
 have I2:=o3 I hs hf F.at_ P' (λb z=>by
  have q:b=T:=WA.mp z;rw[q];exact#[F.free,F.new,F.nl,F.nc,F.np]) hea2 (by simp[h6])
 rw[AS F.at_] at I2;let(a1,a2,a3,a4,a5):=I.apart hT;exact h _ T2 I2 #[#[_,hea2,by simp[h6],hv1],ht2,F.at_,I.bf.fresh hT,a1,a2,a3,a4,a5]
theorem D4{Q:Unit->Da->Prop}(I:Inv X TW σ H s)(F:C8 X TW H s ea C dd T)(h:∀ s2,Inv X TW σ H s2->C8 X TW H s2 ea C dd T->Q Unit.unit s2):EQ (model X.prog X.w) A (setFlight (.ref ea) none) Q E s:=by
 let(vs,he,h6,h1):=F.ex;have Fe:T≠ea:=λq=>by have:=F.free;rw[q,F.at_] at this;cases this
 show lA (fs:=[]) he U h1 F.tb (by simp) λhb _ k2 ht2=>?_;exact h _ (I.turned (t':=s.toks) k2 F.free F.nl (.inr F.new) F.nc F.np) #[#[vs,k2 _ _ (Ne.symm Fe) he,h6,h1],ht2,F.at_,F.free,F.new,F.nl,F.nc,F.np,F.nf]
end
def pJ(P:Fa)(w:FS):we:=λouter H s E e s'=>∃ (ea C:AC) (dd:Option AC) (T:AC) (H':Hp),e=.ref ea/\s'.os=s.os/\AllBare s'.gens/\Un (zZ outer) [] H H' s.heap s'.heap/\jv P w H' s'.heap/\H' ea=some (xo ea C dd false) /\
 (∃ vs:Array AT,s'.heap.get? ea=some { cls:=.ref C,dict:=dd,data:=.fields vs }/\vs.size=6/\vs[1]?=some (.ref T))/\uy s'.heap T .none/\H' T=none/\↑s<=T/\E (.ref C) dd H'
section
variable{X:Cx}{TW:Yz}{σ:St}{H:Hp}{s s':Da}{ea C T:AC}{dd:Option AC}{E:XK}{e:AT}
theorem Gv(I:Inv X TW σ H s)(h:pJ X.prog X.w X.stack H s E e s'):∃ ea C dd T H',e=.ref ea/\Inv X TW σ H' s'/\C8 X TW H' s' ea C dd T/\E (.ref C) dd H':=by
 let(ea,C,dd,T,H',rfl,os,bare,un,bf,at_,ex,tb,free,new,q):=h;let(a1,a2,a3,a4,a5):=I.apart new;exact#[ea,C,dd,T,H',U,I.Fu (ch:=[]) os un bf bare (λb z=>nomatch z),#[ex,tb,at_,free,a1,a2,a3,a4,a5],q]
end
section
variable{P:Fa}{w:FS}{K:Frag}{mg:Str->Option AT}{base:Ev}{N:!Str}{qual:Str}{scope:Scope}{f:AC}{cd:AT}{A:Fk}{outer:!Env}{s:Da}{H:Hp}{E E':XK}
abbrev Dk(P:Fa)(w:FS)(K:Frag)(mg:Str->Option AT)(base:Ev)(N:!Str)(qual:Str)(scope:Scope)(f:AC)(cd:AT)(A:Fk)(outer:!Env)(s:Da)(H:Hp)(E:XK):Cx :=
 jT (pJ P w) P w K mg base N qual scope f cd A outer s H E
theorem jc(h:∀ c dd H',E' c dd H'->E c dd H'):Passes (pJ P w) (Dk P w K mg base N qual scope f cd A outer s H E) E':=λTW σ H1 s1 e s' I hx=>by
 let(ea,C,dd,T,H',rfl,I1,F,q):=Gv (X:=Dk P w K mg base N qual scope f cd A outer s H E) I hx;change EQ _ _ (leaving _ _) _ _ _;unfold leaving;show Db (uD I1 I1.ok.frames U U F λs2 T2 I2 F2=>?_);exact#[ea,C,dd,T2,H',U,I2.os,I2.bare,I2.base,I2.bf,F2.at_,F2.ex,F2.tb,F2.free,F2.new,h _ _ _ q]
def Raises(X:Cx)(E:XK):Prop:=∀ (TW:Yz) (σ:St) (H:Hp) (s:Da) (ea C:AC) (dd:Option AC),Inv X TW σ H s->H ea=some (xo ea C dd true)->E (.ref C) dd (upd H ea (xo ea C dd false))->X.xe (.ref ea) s
theorem lU:Raises (Dk P w K mg base N qual scope f cd A outer s H E) E:=λTW σ H1 s1 ea C dd I e q=>by
 change EQ _ _ (leaving _ _) _ _ _;unfold leaving;show Db (yY I I.ok.frames U U e λs2 T2 I2 F2=>?_);exact#[ea,C,dd,T2,_,U,I2.os,I2.bare,I2.base,I2.bf,F2.at_,F2.ex,F2.tb,F2.free,F2.new,q]
end
section
variable{X:Cx}{TW:Yz}{σ:St}{H:Hp}{s:Da}{ea C:AC}{dd:Option AC}{fr:Bool}
theorem vF{M:Model}{A:Fk}{env:Env}{E:Yy}{s:Da}{x:Sem AT}{K:Frag}{Q:Flow->Da->Prop}(hh:A.handled=none)(h:EQ M A x (λv s₁=>∃ e C dd vs,v=.ref e/\K.In s₁.heap/\ExC K C/\s₁.heap.get? e=some { cls:=.ref C,dict:=dd,data:=.fields vs }/\vs[1]?=some .none/\E (.ref e) s₁) E s) :
  EQ M A (raiseStmt env (some x) none) Q E s:=by
 unfold raiseStmt;show Db (KB h (λv s₁ h₁=>?_) λ_ _ x=>x);let(e,C,dd,vs,rfl,X,c,he,hv,hE):=h₁;let(nm,q,N,S,bs,sn,sub,ab,col,dd',k0,k1,k2,k3,k5,hC,T,hcl):=c.at X;have hcB:(AT.ref C::AT.ref S::jJ).contains (.type "BaseException")=true:=by simp[jJ]
 let(hp,g,d,tk,os):=s₁
 repeat (first | with_reducible show wpAny_loadPart_at he ?_ | with_reducible show wpAny_loadPart_at hC ?_ | (with_reducible show wpAny_isSubtype_exc hC ?_;rw[hcB]) | wp_step)
 rw[hv];show Fr ?_;rw[if_neg ()];exact Fr (wpAny_raiseNew_none hh hE)
def Jf(K:Frag)(E:XK)(te:TE):TS:=λ_ σ H=>te σ H λx H1=>∃ ea C dd,x=.ref ea/\H1 ea=some (xo ea C dd true)/\ExC K C/\E (.ref C) dd (upd H1 ea (xo ea C dd false))
theorem CQ{E:XK}{e:Ch}{te:TE}{pos:Pos}(hc:X.calm=true)(hr:Raises X E)(he:PE X e te):PS X (.Raise (some e) none pos) (Jf X.K E te):=by
 intro TW s σ H D I h;rw[arm_exec_Raise];show Db (wpAny_standAt (vF (K:=X.K) (I.ok.hd hc) ?_));show Db (KB (he TW s σ H _ I h) (λv s1 h1=>Db (wpAny_standAt (Fr ?_))) λ_ _ x=>x);let(x,H1,I1,rx,ea,C,dd,ex,e1,c,q):=h1;subst ex;obtain rfl:v=AT.ref ea:=rx;let(vs,h1,_,h2):=sV I1.bf e1;exact#[ea,C,dd,vs,U,I1.lz,c,h1,h2 U,hr TW σ H1 s1 ea C dd I1 e1 q]
end
abbrev Cx.hand(X:Cx)(ev:AT):Cx:={ X with A:=X.A.mark (some ev),calm:=false,xe:=λ_ _=>False }
section
variable{X:Cx}{TW:Yz}{σ:St}{H:Hp}{s:Da}{ev:AT}
theorem uB{A:Fk}{l:!Env}(h:A.frames=some l):(A.mark (some ev)).frames=some l:=h
theorem Inv.hand(I:Inv X TW σ H s):Inv (X.hand ev) TW σ H s :=
 #[#[I.ok.mod,I.ok.kind,I.ok.glob,I.ok.blt,I.ok.above,I.ok.inj,I.ok.has,I.ok.JH,(λz=>nomatch z),uB I.ok.frames,I.ok.KI,I.ok.M9,I.ok.bs,I.ok.Di,I.ok.zj,I.ok.yM,I.ok.lZ,I.ok.Gr],
  I.os,I.bare,I.base,I.loc,I.cell,I.free,I.fZ,I.pin,I.bf,I.len]
theorem Inv.lG(ok:X.Ok)(I:Inv (X.hand ev) TW σ H s):Inv X TW σ H s:=#[ok,I.os,I.bare,I.base,I.loc,I.cell,I.free,I.fZ,I.pin,I.bf,I.len]
theorem SP.lG{D:Ends}{f:Flow}(ok:X.Ok)(h:SP (X.hand ev) TW D f s):SP X TW D f s:=by
 cases f with
 | next=>let(σ',H',I,q):=h;exact#[σ',H',I.lG ok,q]
 | brk=>let(σ',H',I,q):=h;exact#[σ',H',I.lG ok,q]
 | cont=>let(σ',H',I,q):=h;exact#[σ',H',I.lG ok,q]
 | ret u=>let(v,σ',H',I,r,q):=h;exact#[v,σ',H',I.lG ok,r,q]
theorem jo{M:Model}{A:Fk}{E:Yy}{i:Nat}{n:Str}{pos:Pos}{Q:Unit->Da->Prop}(I:Inv X TW σ H s)(hN:X.N.Nodup)(hi:X.N[i]?=some n)(hl:X.env.kindOf n=some .local)(h:∀ s',Inv X TW (σ.set i none) H s'->Q Unit.unit s'):EQ M A (do bindName X.env n .none;unbindBehindTheSuite X.env n pos) Q E s:=by
 let(m,hn,hm):=id I.loc;let(oL,_,_,hoL,_):=id hn;have hcls:(X.env.scope.kind == .class||(X.env.scope.kind == .module&&X.env.locals != X.env.globals))=false:=by rw[I.ok.kind];rfl
 show wpAny_nameGoes_keeps hl hn hcls λh' v hn' hs=>h _ ?_;have ne:∀ b o,X.s₀.heap.get? b=some o->b≠X.env.locals:=λb o e=>WK (WB (Ww e) I.ok.above);show#[I.ok,I.os,I.bare,#[λb o e n hb hx=>?_,λb o e n hb hx=>?_,I.base.free,λb o e hx=>?_,I.base.rJ,I.base.pQ,I.base.sW],#[_,hn',λj y v' e1 e2 e3=>?_],λy c e=>?_,I.free,I.fZ,λp hp=>?_,λb ob e=>?_,by rw[Xa];exact I.len]
 .exact (hs.2 b (ne b o e)).trans (I.base.keep b o e n hb hx)
 .let(sl,e1):=I.base.slot b o e n hb hx;exact#[sl,(hs.2 b (ne b o e)).trans e1]
 .let(o',e1):=I.base.there b o e hx;exact#[o',(hs.2 b (ne b o e)).trans e1]
 .by_cases hj:j=i
  .subst hj;have hZ:j < σ.length:=by rw[I.len];exact (Wn.mp hi).1
   rw[WT hZ] at e2;cases e2
  .rw[Wx (Ne.symm hj)] at e2;let(u',r',q):=hm j y v' e1 e2 e3;show#[u',r',?_];have hy:y≠n:=λe=>hj (nU hN e1 (e▸hi));rcases q with ⟨k,e⟩ | ⟨k,c,e,z⟩
   .exact .inl #[k,by change (if y=n then v else m y)=some u';rw[if_neg hy];exact e]
   .exact .inr #[k,c,e,z.sameBut hs (I.EH y c e)]
 .let(w',z):=I.cell y c e;exact#[w',z.sameBut hs (I.EH y c e)]
 .let(e,n,ne,nf,d):=I.pin p hp;exact#[(hs.2 p.1 ne).trans e,n,ne,nf,d]
 .refine (I.bf b ob e).sI (λc w' hc q=>(hs.2 c ?_).trans q) (λ_ q=>q) λ_ _ q=>q;rintro rfl;rcases hc with rfl | hc
  .rw[I.free] at e;cases e
  .rw[I.free] at hc;cases hc
abbrev Gq:=AC->Option AC->AC->Ends->St->Hp->Prop
def PH(X:Cx)(hs:!ExceptHandler)(t:Gq):Prop:=∀ (TW:Yz) (s:Da) (σ:St) (H:Hp) (D:Ends) (ea C:AC) (dd:Option AC) (T:AC),Inv X TW σ H s->C8 X TW H s ea C dd T->t C dd ea D σ H ->
 EQ (model X.prog X.w) X.A (handleBy (.ref ea) X.env hs) (SP X TW D) X.xe s
def PF:Gq:=λ_ _ _ _ _ _=>False
theorem Hj:PH X [] PF:=λ_ _ _ _ _ _ _ _ _ _ _ h=>h.elim
theorem C8.ty{M:Model}{ea C T:AC}{dd:Option AC}(F:C8 X TW H s ea C dd T):Looks M s.heap (typeOf (.ref ea)) (.ref C):=by
 let(vs,he,_):=F.ex;exact (Looks.ld he).andThen .now
def RS(i:Nat)(D:Ends):Ends:={ nx:=λσ' H'=>D.nx (σ'.set i none) H',rt:=D.rt,bk:=λσ' H'=>D.bk (σ'.set i none) H',ct:=λσ' H'=>D.ct (σ'.set i none) H' }
def We(K:Frag)(c:AT)(i:Nat)(ts:TS)(tr:Gq):Gq:=λC dd ea D σ H=>∃ b,PySem.W.exmOne K (.ref C) c=some b/\if b=true then ts (RS i D) (σ.set i (some (.ref ea))) H else tr C dd ea D σ H
theorem L8{x n:Str}{i:Nat}{p pos:Pos}{c:AT}{b₀:FM}{FC:!FM}{rest:!ExceptHandler}{ts:TS}{tr:Gq}(hg:Gl X x)(hm:X.mg x=some c)(hN:X.N.Nodup)(hi:X.N[i]?=some n)(hl:X.env.scope.names.lookup n=some .local)(hb:∀ ev,lQ (X.hand ev) (b₀::FC) ts)(hr:PH X rest tr)(hd: ~~~(YD x)):PH X (.ExceptHandler (some (.Name x p)) (some n) (b₀::FC) pos::rest) (We X.K c i ts tr):=by
 intro TW s σ H D ea C dd T I F h;let(b,eb,q):=h;show wpAny_handleBy_cons (codeAny_handlers_test (gP (X:=X.hand (.ref ea)) I.hand hg hm ((PySem.W.exm_one I.lz F.ty eb).here ?_) hd)) (by intro z;cases z);cases b with
 | false=>exact hr TW s σ H D ea C dd T I F q
 | true =>
  show codeAny_handlers_suite_as (D4 I F λs2 I2 F2=>?_);show kH (v:=.ref ea) I2 hN hi (.inl hl) U (λs3 I3=>?_) (.inr hl);show KB (hb (.ref ea) TW s3 _ H (RS i D) I3.hand q) (λf s4 h4=>?_) λ_ _ z=>z.elim;have h5:=SP.lG I.ok h4;cases f with
  | next=>let(σ',H',J,q):=h5;exact jo J hN hi hl λs5 J5=>#[_,H',J5,q]
  | brk=>let(σ',H',J,q):=h5;exact jo J hN hi hl λs5 J5=>#[_,H',J5,q]
  | cont=>let(σ',H',J,q):=h5;exact jo J hN hi hl λs5 J5=>#[_,H',J5,q]
  | ret u=>let(v,σ',H',J,r,q):=h5;exact jo J hN hi hl λs5 J5=>#[v,_,H',J5,r,q]
abbrev XR:=AC->Option AC->AC->St->Hp->Prop
def XP(X:Cx)(TW:Yz)(R:XR)(e:AT)(s':Da):Prop:=∃ ea C dd T σ H,e=.ref ea/\Inv X TW σ H s'/\C8 X TW H s' ea C dd T/\R C dd ea σ H
abbrev NW:=Ends->XR->St->Hp->Prop
abbrev OC:=St->Hp->VK->XR->Prop
def Rx(X:Cx)(st:!FM)(t:NW):Prop:=∀ (TW:Yz) (s:Da) (σ:St) (H:Hp) (D:Ends) (R:XR),Inv X TW σ H s->t D R σ H->EQ (model X.prog X.w) X.A (execs st X.env) (SP X TW D) (XP X TW R) s
def RP(X:Cx)(e:Ch)(t:OC):Prop:=∀ (TW:Yz) (s:Da) (σ:St) (H:Hp) (Q:VK) (R:XR),Inv X TW σ H s->t σ H Q R->EQ (model X.prog X.w) X.A (eval e X.env) (EP X TW σ Q) (XP X TW R) s
def P9(tb:NW)(th:Gq):TS:=λD σ H=>tb D (λC dd ea σ' H'=>th C dd ea D σ' H') σ H
theorem IJ{body:!FM}{h₀:ExceptHandler}{hs:!ExceptHandler}{pos:Pos}{tb:NW}{th:Gq}(h1:X.stack=X.env::X.outer)(h2:X.env.frame=some X.env.locals)(hb:Rx X body tb)(hh:PH X (h₀::hs) th) :
  PS X (.Try body (h₀::hs) [] [] pos) (P9 tb th):=by
 intro TW s σ H D I h;show wpAny_Try_except (KB (hb TW s σ H D _ I h) (λf s1 h1=>?_) λe s1 hx=>?_)
 .cases f with
  | next=>exact wpAny_execs_nil h1
  | brk=>exact h1
  | cont=>exact h1
  | ret u=>exact h1
 .let(ea,C,dd,T,σ',H',rfl,J,F,q):=hx;exact uD J J.ok.frames h1 h2 F λs2 T2 J2 F2=>hh TW s2 σ' H' D ea C dd T2 J2 F2 q
def HJ(sp:Sp)(t:TA):OC:=λσ H Q R=>t σ H λvs H1=>sp vs H1 Q λc dd H'=>∃ C,c=.ref C/\∀ ea,H' ea=some (xo ea C dd false)->R C dd ea σ H'
theorem EE{Q:VK}{R:XR}{us:!AT}{vs:!V}{k:Nat}{f:AC}{fd:Gc}{ps:!Str}{sp:Sp}(F:bY X.prog X.w X.K X.mg X.base (pJ X.prog X.w) k f fd ps sp)(hr:bU k X.A)(hb:Binds X.K fd ps [])(I:Inv X TW σ H s)(r:Vals vs us)(h:sp vs H Q λc dd H'=>∃ C,c=.ref C/\∀ ea,H' ea=some (xo ea C dd false)->R C dd ea σ H'):EQ (model X.prog X.w) X.A (call (.ref f) us) (EP X TW σ Q) (XP X TW R) s:=by
 have hl:(us++[]).length=ps.length:=by rw[WH,<- r.length];exact F.len _ _ _ _ h
 have GK:=hb s us I.lz hl;rw[WH] at GK;show wpAny_call (codeAny_mono (F.run X.A X.stack s H #[us,[]] us vs Q _ hr I.Dv GK r h) λr s' hq=>?_);cases r with
 | error e =>
  let(ea,C,dd,T,H',rfl,J,Fl,C',ec,q):=Gv I (show pJ X.prog X.w X.stack H s (λc dd H'=>∃ C,c=.ref C/\∀ ea,H' ea=some (xo ea C dd false)->R C dd ea σ H') e s' from hq);cases ec;exact#[ea,C,dd,T,σ,H',U,J,Fl,q ea Fl.at_]
 | ok fl =>
  cases fl with
  | ret u=>exact I.after hq
  | next=>exact False.elim hq
  | brk=>exact False.elim hq
  | cont=>exact False.elim hq
theorem Ct{k:Nat}{f:AC}{fd:Gc}{ps:!Str}{sp:Sp}{x:Str}{p pos:Pos}{e:Ch}{es:!Ch}{t:TA}(F:bY X.prog X.w X.K X.mg X.base (pJ X.prog X.w) k f fd ps sp)(hr:bU k X.A)(hg:Gl X x)(hm:X.mg x=some (.ref f))(hk:keepIn X.K (.ref f)=true)(hb:Binds X.K fd ps [])(ha:PA X.xp (e::es) t)(gH: ~~~(YD x))(he:(YB X.env e es)⁻¹)(eR:(YC X.env pos es)⁻¹) :
  RP X (.Call (.Name x p) (e::es) [] pos) (HJ sp t):=by
 intro TW s σ H Q R I h;show wpAny_Call_Name_kw (gP I hg hm ?_ gH);show Yh (h₀:=X.base) I.ok.mod.J1 hk (KB (ha pos TW s σ H _ (I.o9 _) h) (λus s1 #[vs,H1,I1,r,q]=>#[I1.lz,?_]) λ_ _ z=>False.elim z) he eR;exact EE F hr hb I1.gK r q
theorem AD{st:FM}{t:NW}(h:∀ (TW:Yz) (s:Da) (σ:St) (H:Hp) (D:Ends) (R:XR),Inv X TW σ H s->t D R σ H->EQ (model X.prog X.w) X.A (exec st X.env) (SP X TW D) (XP X TW R) s):Rx X [st] t:=by
 intro TW s σ H D R I h1;show wpAny_execs_cons (bW (h TW s σ H D R I h1) λf s1 q=>?_);cases f with
 | next=>exact wpAny_execs_nil q
 | ret v=>exact q
 | brk=>exact q
 | cont=>exact q
theorem DR{i:Nat}{x:Str}{e:Ch}{te:OC}{pos pos':Pos}(hN:X.N.Nodup)(hi:X.N[i]?=some x)(hx:Loc X.env.scope x)(he:RP X e te)(hs:(swapsWith e (some (.Name x pos')) pos.line X.env=pure false)⁻¹)(hf:YE X x:=by ac_nf):Rx X [.Assign [.Name x pos'] e pos] (λD R σ H=>te σ H (λv H1=>D.nx (σ.set i (some v)) H1) R) :=
 AD λTW s σ H D R I h=>wpAny_Assign_Name (bW (he TW s σ H _ R I h) λv s1 zz=>el2 zz λy H1 I1 r1 q1=>kH I1 hN hi hx r1 (λs2 I2=>#[_,H1,I2,q1]) hf) hs
end
section
variable{P:Fa}{w:FS}{K:Frag}{mg:Str->Option AT}{base:Ev}
theorem ny.SK{x qual:Str}{st:FM}{f:AC}{fd:Gc}{N ps:!Str}{k:Nat}{sp:Sp}(F:ny K x qual st f fd)(S:aw N ps (ag st))(len:∀ vs H Q E,sp vs H Q E->vs.length=ps.length)(vm:∀ (bq:AT) (A:Fk) (outer:!Env) (s:Da) (H:Hp) (vs:!V) (Q:VK) (E:XK),bU k (A.deeper (envOfC qual (ag st) ↑s f bq))->sp vs H Q E ->
   ∃ t,lQ (Dk P w K mg base N qual (ag st) f bq A outer s H E) (aG st) t/\t { nx:=λ_ H'=>Q .br H',rt:=Q } (start N vs) H):bY P w K mg base (pJ P w) (k+1) f fd ps sp:=by
 let(oc,od,kV,doc,pm,an,bq,ct,zU,rfl,lk,pU):=F.ex;exact Fj lk pU S len λA outer s H vs Q E hr De=>vm bq A outer s H vs Q E hr De
end
section
variable{X:Cx}
def F3(i j:Int):Prop:=0 < j/\j < 9223372036854775808
theorem d5:gF X (Ps .FloorDiv) (rI F3 λi j=>.int (i / j)):=Oe λi j _ _ _ _ _ hc q=>by
 have h1:(0:Int) < j:=hc.1;have h2:j < 9223372036854775808:=hc.2;show floordiv_int (by cbv) (by rw[Int.fdiv_eq_ediv_of_nonneg i (by cbv)];exact q) (.inl (PyProof.noPylong_of_log2 ?_));have h3:j.natAbs < 2 ^ 63:=by
  have:(2:Nat) ^ 63=9223372036854775808:=by decide
  cbv
 have h4:j.natAbs.log2 < 63:=(Nat.log2_lt (by cbv)).mpr h3;cbv
end
end L2
namespace cP
open PySem L2
abbrev kS:Key:=Sum.inr "seed"
abbrev kN:Key:=Sum.inr "number"
abbrev kL:Key:=Sum.inr "left"
theorem sn:¬ kS=kN:=by decide+kernel
theorem sl:¬ kS=kL:=by decide+kernel
theorem nl:¬ kN=kL:=by decide+kernel
def cM(a b:Int)(l:AC):!(Key×V):=[(kS,.int a),(kN,.int b),(kL,.ref l)]
theorem C6(a b:Int)(l:AC):fH (cM a b l) (kS)=some (.int a):=fD U
theorem vJ(a b:Int)(l:AC):fH (cM a b l) (kN)=some (.int b):=by
 unfold cM;rw[dD sn];exact fD U
theorem Cq(a b:Int)(l:AC):fH (cM a b l) (kL)=some (.ref l):=by
 unfold cM;rw[dD sl,dD nl];exact fD U
theorem BD(a b c:Int)(l:AC):putK (cM a b l) (kS) (.int c)=cM c b l:=by
 unfold cM putK;simp only[List.any_cons,List.any_nil,List.map_cons,List.map_nil,decide_true,Bool.true_or,if_true,if_neg (Ne.symm sn),if_neg (Ne.symm sl)]
theorem wH(a b c:Int)(l:AC):putK (cM a b l) (kN) (.int c)=cM a c l:=by
 unfold cM putK;simp only[List.any_cons,List.any_nil,List.map_cons,List.map_nil,decide_true,Bool.true_or,Bool.or_true,if_true,if_neg sn,if_neg (Ne.symm nl)]
theorem Jb(a b:Int)(l:AC):gg [] (cM a b l)=cM a b l:=by
 have e1:putK [] kS (V.int a)=[(kS,V.int a)]:=ku _ oi;have e2:putK [(kS,V.int a)] kN (V.int b)=[(kS,V.int a),(kN,V.int b)]:=ku _ (by rw[dD sn];exact oi);have e3:putK [(kS,V.int a),(kN,V.int b)] kL (V.ref l)=[(kS,V.int a),(kN,V.int b),(kL,V.ref l)]:=ku _ (by rw[dD sl,dD nl];exact oi);unfold gg cM;simp only[List.foldl_cons,List.foldl_nil];rw[e1,e2,e3]
section
variable{H:Hp}{d l:AC}{a b:Int}
theorem oH(h:H d=some (.dK (cM a b l))):fJ H d (.str "seed") (some (.int a)):=by
 have q:=fJ.k (k:=kS) h;rw[C6] at q;exact q
theorem o6(h:H d=some (.dK (cM a b l))):fJ H d (.str "number") (some (.int b)):=by
 have q:=fJ.k (k:=kN) h;rw[vJ] at q;exact q
theorem u9(h:H d=some (.dK (cM a b l))):fJ H d (.str "left") (some (.ref l)):=by
 have q:=fJ.k (k:=kL) h;rw[Cq] at q;exact q
theorem zL{c:Int}(h:H d=some (.dK (cM a b l))):lJ H d (.str "seed") (.int c) (upd H d (.dK (cM c b l))):=by
 have q:=lJ.k (k:=kS) (v:=.int c) h (by change 3 < FB;decide);rw[BD] at q;exact q
theorem l9{c:Int}(h:H d=some (.dK (cM a b l))):lJ H d (.str "number") (.int c) (upd H d (.dK (cM a c l))):=by
 have q:=lJ.k (k:=kN) (v:=.int c) h (by change 3 < FB;decide);rw[wH] at q;exact q
end
structure At(H:Hp)(d l:AC):Prop where
 ex:∃ (a b:Int) (ns:!Int),H d=some (.dK (cM a b l))/\H l=some (.lst (ns.map V.int))/\0<=a/\a < 2147483647/\0<=b/\∀ n∈ns,0<=n
def JJ(d l:AC)(H H':Hp):Prop:=∀ c o,H c=some o->c≠d->c≠l->H' c=some o
theorem JJ.refl(d l:AC)(H:Hp):JJ d l H H:=λ_ _ h _ _=>h
theorem At.ne{H:Hp}{d l:AC}(h:At H d l):d≠l:=by
 let(a,b,ns,h1,h2,r):=h.ex;exact Ai h1 h2 (by intro z;cases z)
def vL:Sp:=λvs H Q _=>∃ (d l:AC) (m:Int),vs=[.ref d,.int m]/\At H d l/\0 < m/\m < 9223372036854775808/\∀ (r:Int) (H':Hp),0<=r->r < m->At H' d l->JJ d l H H'->Q (.int r) H'
def w6(K:Frag):Sp:=λvs H Q _=>∃ (a:AC) (ns:!Int) (base:Int),vs=[.ref a,.int base]/\dO K H a (ns.map V.int)/\ns.length<=63/\0<=base/\base < 1000000/\∀ (d l:AC) (H':Hp),H d=none->H l=none->At H' d l->dh H H'->Q (.ref d) H'
section
variable{P:Fa}{w:FS}{K:Frag}{mg:Str->Option AT}{base:Ev}
abbrev nD:!Str:=["_law_deal_here","_law_many","_law_number_here","_law_one","_law_other"]
def uT:TS :=
 pC (jx (kg (bR 0) (tC (.str "number"))) (dI 2))
  (pC (Lh (pG (iG (rH λi j=>.bl (decide (j < i))) (bR 2) (tC (.int 0))))
    (pC (uK (bR 0) (tC (.str "number")) (iG (rI F3 λi j=>.int (i / j)) (bR 2) (bR 1))) (EN (iG (rI (λ_ j=>0 < j) λi j=>.int (i % j)) (bR 2) (bR 1)))) Gu)
  (pC (jx (iG (rI (λ_ j=>0 < j) λi j=>.int (i % j)) (iG (rH λi j=>.int (i+j)) (iG (rI rS λi j=>.int (i * j)) (kg (bR 0) (tC (.str "seed"))) (tC (.int 48271))) (tC (.int 7919))) (tC (.int 2147483647))) (dI 3))
  (pC (uK (bR 0) (tC (.str "seed")) (iG (rI (λ_ j=>0 < j) λi j=>.int (i % j)) (iG (rH λi j=>.int (i+j)) (iG (rI rS λi j=>.int (i * j)) (bR 3) (tC (.int 40692))) (tC (.int 104729))) (tC (.int 2147483399))))
  (pC (jx (iG (rI (λ_ j=>0 < j) λi j=>.int (i % j)) (iG (rI rS λi j=>.int (i * j)) (kg (bR 0) (tC (.str "seed"))) (kg (bR 0) (tC (.str "seed")))) (tC (.int 2147483563))) (dI 4))
  (EN (iG (rI (λ_ j=>0 < j) λi j=>.int (i % j)) (iG (rH λi j=>.int (i+j)) (iG (rI rS λi j=>.int (i * j)) (iG (rI (λ_ j=>0 < j) λi j=>.int (i % j)) (iG (rI rS λi j=>.int (i * j)) (bR 3) (bR 3)) (tC (.int 2147483629))) (tC (.int 2147483563))) (bR 4)) (bR 1)))))))
def Kv(K:Frag):TS :=
 pC (Ao (Nj (pG (iG QC (kg (bR 0) (tC (.str "number"))) (tC (.int 0)))) (pG (iG (rH λi j=>.bl (decide (j < i))) (Df (λxs H Q=>∃ p ys,xs=[.ref p]/\(dO K H p ys\/iu K H p ys)/\Q (.int ys.length) H) (iI (kg (bR 0) (tC (.str "left"))) sY)) (tC (.int 0)))))
  (uK (bR 0) (tC (.str "number")) (Ka K "list" HD (kg (bR 0) (tC (.str "left")))))) uT
theorem Dw{st:FM}{f:AC}{fd:Gc}(F:ny K "_law_draw" "_law_draw" st f fd)(sc:aw nD ["_law_deal_here","_law_many"] (ag st))(hb:∀ (bq:AT) (A:Fk) (outer:!Env) (s:Da) (H:Hp) (E:XK),(A.deeper (PyProof.Rows.envOfC "_law_draw" (ag st) ↑s f bq)).units+1 < cLine ->
   lQ (jT bu P w K mg base nD "_law_draw" (ag st) f bq A outer s H E).xp (aG st) (Kv K)) :
  bY P w K mg base bu 1 f fd ["_law_deal_here","_law_many"] vL:=by
 show F.ok sc (λvs H Q E h=>?_) (λbq A outer s H vs Q E hr h=>?_)
 .let(d,l,m,rfl,_):=h
  rfl
 .let(d,l,m,rfl,D,hm,hm2,k):=h;show#[_,hb _ _ _ _ _ _ (dm hr),?_];let(a0,b0,ns0,hd0,hl0,ha0,ha0',hb0,hns0):=D.ex;have ndl:d≠l:=D.ne
  -- while
  show#[λμ σ H1=>∃ (b:Int) (ns:!Int),σ=[some (.ref d),some (.int m),none,none,none]/\H1 d=some (.dK (cM a0 b l))/\H1 l=some (.lst (ns.map V.int))/\0<=b/\(∀ n∈ns,0<=n)/\JJ d l H H1/\μ=ns.length,
   #[ns0.length,b0,ns0,U,hd0,hl0,hb0,hns0,JJ.refl _ _ _,U],?_]
  rintro μ σ H1 ⟨b,ns,rfl,hd,hl,hb,u4,bt,rfl⟩
  -- behind the loop
  have rest:uT
    { nx:=λ_ H'=>Q .br H',rt:=Q } [some (.ref d),some (.int m),none,none,none] H1:=by
   show#[_,U,d,_,U,o6 hd,?_];show#[_,U,_,_,U,U,_,U,uc (λhpos=>?_) (λhpos=>?_)]
   .have hpos:0 < b:=of_decide_eq_true hpos;show#[_,U,_,U,_,_,U,U,#[hm,hm2],_,U,d,_,U,l9 hd,?_];show#[_,U,_,U,_,_,U,U,hm,?_];show k (b % m) _ (XQ _ (by cbv)) (XJ _ hm) #[a0,b / m,ns,ax,by rw[au (Ne.symm ndl)];exact hl,ha0,ha0',Int.ediv_nonneg hb (by cbv),u4] λc o e h1 h2=>?_;rw[au h1];exact bt c o e h1 h2
   .refine#[_,U,d,_,U,oH hd,_,_,U,U,.inr #[by decide,by decide],_,_,U,U,_,_,U,U,(by change (0:Int) < 2147483647;decide),?_];have h1:0<=(a0 * 48271+7919) % 2147483647:=XQ _ ();have h2:(a0 * 48271+7919) % 2147483647 < 2147483647:=XJ _ ();show#[_,U,_,_,U,U,.inr #[by decide,by decide],_,_,U,U,_,_,U,U,(by change (0:Int) < 2147483399;decide),_,U,d,_,U,zL hd,?_];have h3:0<=((a0 * 48271+7919) % 2147483647 * 40692+104729) % 2147483399:=XQ _ ();have h4:((a0 * 48271+7919) % 2147483647 * 40692+104729) % 2147483399 < 2147483399:=XJ _ ();show#[_,U,d,_,U,oH ax,_,U,d,_,U,oH ax,_,_,U,U,.inl #[by cbv,by cbv],_,_,U,U,(by change (0:Int) < 2147483563;decide),?_];show#[_,U,_,U,_,_,U,U,.inl #[by cbv,by cbv],_,_,U,U,(by change (0:Int) < 2147483629;decide),_,_,U,U,.inr #[by decide,by decide],_,U,_,_,U,U,_,U,_,_,U,U,hm,?_];show k _ _ (XQ _ (by cbv)) (XJ _ hm) #[_,b,ns,ax,by rw[au (Ne.symm ndl)];exact hl,h3,by cbv,hb,u4] λc o e h1 h2=>?_;rw[au h1];exact bt c o e h1 h2
  show#[_,U,d,_,U,o6 hd,U,_,U,?_];show uc (λh0=>?_) (λh0=>?_)
  .refine#[_,U,d,_,U,u9 hd,l,_,U,.inl (dO.of hl),_,_,U,U,_,U,?_];show uc (λh1=>?_) (λh1=>?_)
   .have h1:(0:Int) < ((ns.map V.int).length:Int):=of_decide_eq_true h1;rw[Wk] at h1;obtain⟨init,x,rfl⟩:∃ init x,ns=init++[x]:=by
     rcases List.eq_nil_or_concat ns with e | ⟨i,x,e⟩
     .subst e;simp at h1
     .exact#[i,x,by simpa using e]
    show#[λσ' H'=>∃ (b:Int) (ns:!Int),σ'=[some (.ref d),some (.int m),none,none,none]/\H' d=some (.dK (cM a0 b l))/\H' l=some (.lst (ns.map V.int))/\0<=b/\(∀ n∈ns,0<=n)/\JJ d l H H'/\ns.length < (init++[x]).length,?_,?_]
    .rintro σ' H' ⟨b',ns',e1,e2,e3,e4,e5,e6,e7⟩;exact#[ns'.length,e7,b',ns',e1,e2,e3,e4,e5,e6,U]
    .refine#[_,U,d,_,U,u9 hd,.inl #[U,_,dO.of hl],l,_,.int x,U,U,hl,by simp,?_];have hd':(upd H1 l (.lst ((init++[x]).map V.int).dropLast)) d=some (.dK (cM a0 b l)):=by rw[au ndl];exact hd
     show#[_,U,d,_,U,l9 hd',?_];show#[x,init,U,ax,?_,u4 x (by simp),λn hn=>u4 n (by simp[hn]),λc o e h1 h2=>?_,by simp]
     .rw[au (Ne.symm ndl),ax,Wv,Wu,Xr,List.dropLast_concat]
     .rw[au h1,au h2];exact bt c o e h1 h2
   .exact rest
  .exact rest
abbrev nL:!Str:=["_law_script","_law_base","_law_some","_law_number_here","_law_one"]
def QD:!V->Hp->VK->Prop:=λxs H Q=>∃ i j,xs=[.int i,.int j]/\Q (.int (if j > i then j else i)) H
def J6(K:Frag):TS :=
 pC (jx (uz 1 [] (yl K (Qo (Hd K) (bR 0) (xQ (bR 1)) (xQ (tC (.int 63))))) (dI 0) AM (Df QD (iI (bR 0) (iI (iG (rH λi j=>.int (i - j)) (tC (.int 0)) (bR 0)) sY)))) (dI 2))
 (pC (jx (iG (rH λi j=>.int (i+j)) (tC (.int 7919)) (bR 1)) (dI 3))
 (pC (Ni (yl K (bR 2)) (dI 4) (jx (iG (rI (λ_ j=>0 < j) λi j=>.int (i % j)) (iG (rH λi j=>.int (i+j)) (iG (rI rS λi j=>.int (i * j)) (bR 3) (tC (.int 48271))) (iG (rI (λ_ j=>0 < j) λi j=>.int (i % j)) (bR 4) (tC (.int 2147483629)))) (tC (.int 2147483647))) (dI 3)))
 (EN (Gi [(tC (.str "seed"),bR 3),(tC (.str "number"),tC (.int 0)),(tC (.str "left"),va K (uz 1 [] (yl K (bR 2)) (dI 0) (pG (iG (rH λi j=>.bl (decide (j<=i))) (bR 0) (iG (rI Ko λi j=>.int (i ^ j.toNat)) (tC (.int 10)) (tC (.int 18))))) (bR 0)))]))))
theorem D8(ns:!Int)(lo hi:Option Int):∃ ms:!Int,jU (ns.map V.int) lo hi=ms.map V.int/\ms.length<=ns.length:=by
 show#[(ns.drop (HT.cq ns.length 0 lo)).take (HT.cq ns.length ns.length hi - HT.cq ns.length 0 lo),?_,?_]
 .unfold jU;rw[Wk,<- List.map_drop,<- List.map_take]
 .rw[Xc,WY];cbv
def mV(i:Int):Int:=if 0 - i > i then 0 - i else i
theorem Ez(i:Int):0<=mV i:=by
 unfold mV;split<;>cbv
def FG:V->V
 | .int i=>.int (mV i)
 | v=>v
def Hl:V->Bool
 | .int i=>decide ((10:Int) ^ (18:Int).toNat<=i)
 | _=>false
theorem Ew{st:FM}{f:AC}{fd:Gc}(F:ny K "_law_deal" "_law_deal" st f fd)(sc:aw nL ["_law_script","_law_base"] (ag st))(hb:∀ (bq:AT) (A:Fk) (outer:!Env) (s:Da) (H:Hp) (E:XK),lQ (jT bu P w K mg base nL "_law_deal" (ag st) f bq A outer s H E).xp (aG st) (J6 K)) :
  bY P w K mg base bu 1 f fd ["_law_script","_law_base"] (w6 K):=by
 show F.ok sc (λvs H Q E h=>?_) (λbq A outer s H vs Q E hr h=>?_)
 .let(a,ns,bs,rfl,_):=h
  rfl
 .let(a,ns,bs,rfl,hS,hn,hb0,hb1,k):=h;show#[_,hb _ _ _ _ _ _,?_];let(ms,ems,hms):=D8 ns (some bs) (some 63);show#[_,U,_,U,_,U,_,U,a,_,U,hS,λp hp=>#[p,U,#[_,dO.of ax],?_]];rw[ems];show jG (xs:=ms.map V.int) (λ_=>true) FG (dO.of ax) (by rw[Wk];exact Wr (Wr hms hn) ()) () (λx hx H1 k1 q=>q) (λx hx _ H1 k1 q=>?_) (λD hD=>?_)
  .let(i,_,rfl):=WO.mp hx;exact#[_,U,_,U,_,_,U,U,_,_,U,q]
  .have hD0:H D=none:=(dh.upd hp).free hD;have e1:((ms.map V.int).filter λ_=>true).map FG=(ms.map mV).map V.int:=by
    rw[List.filter_eq_self.mpr (by simp),List.map_map,List.map_map]
    rfl
   rw[e1];have s1:dh H (upd (upd H p (.lst (ms.map V.int))) D (.lst ((ms.map mV).map V.int))):=(dh.upd hp).trans (dh.upd hD);generalize hH2:upd (upd H p (.lst (ms.map V.int))) D (.lst ((ms.map mV).map V.int))=H2 at s1;have hD2:H2 D=some (.lst ((ms.map mV).map V.int)):=by rw[<- hH2];exact ax
   -- number=7919+base
   show#[_,U,_,_,U,U,?_]
   -- for
   show#[_,U,D,U,#[_,dO.of hD2],BP (K:=K) (a:=D) (xs:=(ms.map mV).map V.int) (λi σ H3=>∃ (n:Int) (v:Option V),σ=[some (.ref a),some (.int bs),some (.ref D),some (.int n),v]/\0<=n/\n < 2147483647/\H3=H2)
    #[7919+bs,none,U,by cbv,by cbv,U] (λi σ H3 _ #[_,_,_,_,_,e]=>by rw[e];exact dO.of hD2) ?_ ?_]
   .rintro i y σ H3 hi ⟨n,v,rfl,h0,h1,rfl⟩;let(j,_,rfl):=WO.mp (WX hi);show#[_,U,_,_,U,U,.inr #[by decide,by decide],_,U,_,_,U,U,(by change (0:Int) < 2147483629;decide),_,_,U,U,_,_,U,U,(by change (0:Int) < 2147483647;decide),?_];exact#[_,_,U,XQ _ (),XJ _ (),U]
   .rintro σ H3 ⟨n,v,rfl,h0,h1,rfl⟩
    -- the dict
    intro d hd;have hd0:H d=none:=s1.free hd;have hDd:(upd H3 d (.dK [])) D=some (.lst ((ms.map mV).map V.int)):=by rw[au (aD hD2 hd)];exact hD2
    show#[_,U,_,U,D,U,#[_,dO.of hDd],?_];show jG (xs:=(ms.map mV).map V.int) Hl id (dO.of hDd) (by rw[Wk,Wk];exact Wr (Wr hms hn) ()) () (λx hx H1 k1 q=>?_) (λx hx _ H1 k1 q=>#[_,U,q]) (λD2 hD2'=>?_)
    .let(i,_,rfl):=WO.mp hx;exact#[_,U,_,_,U,U,#[by decide,by decide,by decide],_,_,U,U,_,U,q]
    .refine#[D2,_,U,dO.of ax,λl hl=>?_];have ndD2:d≠D2:=aD ax hD2';have ndl:d≠l:=aD (H:=upd (upd H3 d (.dK [])) D2 _) (by rw[au ndD2];exact ax) hl;show#[by rw[au ndl,au ndD2];exact ax,cM n 0 l,U,(by change 3<=15;decide),?_];rw[Jb];have hD20:H D2=none:=(s1.trans (dh.upd hd)).free hD2';have hl0:H l=none:=((s1.trans (dh.upd hd)).trans (dh.upd hD2')).free hl;have e3:∃ ks:!Int,((((ms.map mV).map V.int).filter Hl).map id).reverse=ks.map V.int/\∀ n∈ks,0<=n:=by
      show#[((ms.map mV).filter λi=>Hl (.int i)).reverse,?_,?_]
      .rw[List.map_id,List.filter_map,List.map_reverse]
       rfl
      .intro n hn';let(i,_,rfl):=WO.mp (Xs.mp (List.mem_reverse.mp hn')).1;exact Ez i
     let(ks,e3,vx):=e3;rw[e3];show k d l _ hd0 hl0 #[n,0,ks,ax,by rw[au (Ne.symm ndl)];exact ax,h0,h1,Int.le_refl _,vx] ?_;exact (((s1.trans (dh.upd hd)).trans (dh.upd hD2')).Mf hl0).Mf hd0
end
theorem jq(c:Nat):(#[#v[c]]:Str).length=1:=rfl
theorem cB(x y:Str):(x++y).length=x.length+y.length:=by
 first
  | exact XW x y
  | (show (x.cps++y.cps).size=x.cps.size+y.cps.size;exact Array.size_append)
theorem join_ones:∀ (cs:!Nat),(Txt.join ("":Str) (cs.map λc=>(#[#v[c]]:Str))).length<=cs.length
 | []=>Wo _
 | [c]=>Wo _
 | c::d::r=>by
  have ih:=join_ones (d::r);have e:(Txt.join ("":Str) ((c::d::r).map λc=>(#[#v[c]]:Str)))=(#[#v[c]]:Str)++("":Str)++Txt.join ("":Str) ((d::r).map λc=>(#[#v[c]]:Str)):=by
   unfold Txt.join;rw[XM,XM]
   rfl
  rw[e,cB,cB];have:("":Str).length=0:=rfl;rw[jq];change _<=(d::r).length+1;cbv
theorem uI:∀ (cs:!Nat),((cs.map λc=>(#[#v[c]]:Str)).map (·.length)).sum=cs.length
 | []=>rfl
 | c::r=>by
  rw[Wu,Wu,XC,uI r,Ws];have:(#[#v[c]]:Str).length=1:=rfl;cbv
abbrev KN:Str:="abcdefghijklmnopqrstuvwxyz"
def near:!Str:=["lets","asks","maker","tabs","too","news","zeros","casey","madex","defa","num","askedx"]
end cP
namespace DL
open PySem PySem.Spec L2
open PyProof.Rows hiding St
theorem cZ{α β γ δ:Type}{P Q R:α->β->γ->δ->Prop}{C:Prop}(h:∃ a b c d,P a b c d/\Q a b c d/\R a b c d)(k:∀ a b c d,P a b c d->Q a b c d->R a b c d->C):C:=by
 let(a,b,c,d,h1,h2,h3):=h;exact k a b c d h1 h2 h3
set_option genInjectivity true in inductive D where
 | br | bl (b:Bool) | int (i:Int) | str (x:Str) | cT (a:AC) | ty (n:String)
 | tup (ds:!D) | lst (ds:!D) | uJ (ks:!Key) (vs:!D) | mE (ks:!(!Key)) (vs:!D)
 | F8 (ks:!(!Key)) (vs:!D)
 | ob (C:AC) (ks:!Str) (vs:!D)
def Hf(o:Obj)(ts:!AC):Prop:=o.ExactDict/\∃ es ep,o.data=.dict es ep/\es.toList.map (·.key)=ts.map AT.ref
def TupAt(_K:Frag)(H:Hp)(M:AC->Prop)(a:AC)(xs:!V):Prop:=M a/\H a=some (.tup xs)
theorem TupAt.sq{K:Frag}{H:Hp}{M:AC->Prop}{a:AC}{xs:!V}(h:TupAt K H M a xs):iu K H a xs:=.of h.2
section
variable(K:Frag)(H:Hp)(M:AC->Prop)
mutual
noncomputable def Rep:D->V->Prop
 | .br,v=>v=.br
 | .bl b,v=>v=.bl b
 | .int i,v=>v=.int i
 | .str x,v=>v=.str x
 | .cT a,v=>v=.ref a
 | .ty n,v=>v=.ty n
 | .tup ds,v=>∃ a xs,v=.ref a/\TupAt K H M a xs/\ay ds xs
 | .lst ds,v=>∃ a xs,v=.ref a/\(M a/\H a=some (.lst xs))/\ay ds xs
 | .uJ ks vs,v=>∃ (a:AC) (kvs:!(Key×V)),v=.ref a/\(M a/\H a=some (.dK kvs))/\kvs.map (·.1)=ks/\ay vs (kvs.map (·.2))
 | .mE ks vs,v=>∃ (a:AC) (kvs:!(!Key×V)),v=.ref a/\(M a/\H a=some (.dT kvs))/\kvs.map (·.1)=ks/\ay vs (kvs.map (·.2))
 | .F8 ks vs,v=>∃ (a:AC) (o:Obj) (kvs:!(!Key×V)) (ts:!AC),v=.ref a/\(M a/\H a=some (.jh o (.dT kvs)))/\Hf o ts/\Paired (λk t=>M t/\H t=some (.tup (k.map kV))) ks ts/\kvs.map (·.1)=ks/\ay vs (kvs.map (·.2))
 | .ob C ks vs,v=>∃ (a dx:AC) (kvs:!(Str×V)),v=.ref a/\(M a/\H a=some (.ins C dx kvs))/\kvs.map (·.1)=ks/\ay vs (kvs.map (·.2))
noncomputable def ay:!D->!V->Prop
 | [],xs=>xs=[]
 | d::ds,xs=>∃ x r,xs=x::r/\Rep d x/\ay ds r
end
def cF:D->HO->Prop
 | .lst ds,.lst xs=>ay K H M ds xs
 | .uJ ks vs,.dK kvs=>kvs.map (·.1)=ks/\ay K H M vs (kvs.map (·.2))
 | .mE ks vs,.dT kvs=>kvs.map (·.1)=ks/\ay K H M vs (kvs.map (·.2))
 | .ob C ks vs,.ins C' _ kvs=>C'=C/\kvs.map (·.1)=ks/\ay K H M vs (kvs.map (·.2))
 | _,_=>False
end
section
variable{K:Frag}{H H':Hp}{M M':AC->Prop}
theorem TupAt.mono(hM:∀ b,M b->M' b)(hH:∀ b o,M b->H b=some o->H' b=some o){a:AC}{xs:!V}(h:TupAt K H M a xs):TupAt K H' M' a xs:=#[hM a h.1,hH a _ h.1 h.2]
mutual
theorem Rep.mono(hM:∀ b,M b->M' b)(hH:∀ b o,M b->H b=some o->H' b=some o):∀ (d:D) (v:V),Rep K H M d v->Rep K H' M' d v
 | .br,v,h=>h
 | .bl b,v,h=>h
 | .int i,v,h=>h
 | .str x,v,h=>h
 | .cT a,v,h=>h
 | .ty n,v,h=>h
 | .tup ds,v,h=>by
  let(a,xs,e,t,r):=h;exact#[a,xs,e,t.mono hM hH,ay.mono hM hH ds xs r]
 | .lst ds,v,h=>by
  let(a,xs,e,(m,t),r):=h;exact#[a,xs,e,#[hM a m,hH a _ m t],ay.mono hM hH ds xs r]
 | .uJ ks vs,v,h=>by
  let(a,xs,e,(m,t),k,r):=h;exact#[a,xs,e,#[hM a m,hH a _ m t],k,ay.mono hM hH vs _ r]
 | .mE ks vs,v,h=>by
  let(a,xs,e,(m,t),k,r):=h;exact#[a,xs,e,#[hM a m,hH a _ m t],k,ay.mono hM hH vs _ r]
 | .F8 ks vs,v,h=>by
  let(a,o,xs,ts,e,(m,t),q,p,k,r):=h;exact#[a,o,xs,ts,e,#[hM a m,hH a _ m t],q,L2.Paired.zM p λk t z=>#[hM t z.1,hH t _ z.1 z.2],k,ay.mono hM hH vs _ r]
 | .ob C ks vs,v,h=>by
  let(a,dx,xs,e,(m,t),k,r):=h;exact#[a,dx,xs,e,#[hM a m,hH a _ m t],k,ay.mono hM hH vs _ r]
theorem ay.mono(hM:∀ b,M b->M' b)(hH:∀ b o,M b->H b=some o->H' b=some o):∀ (ds:!D) (vs:!V),ay K H M ds vs->ay K H' M' ds vs
 | [],vs,h=>h
 | d::ds,vs,h=>by
  let(x,r,e,h1,h2):=h;exact#[x,r,e,Rep.mono hM hH d x h1,ay.mono hM hH ds r h2]
end
theorem cF.mono(hM:∀ b,M b->M' b)(hH:∀ b o,M b->H b=some o->H' b=some o){d:D}{o:HO}(h:cF K H M d o):cF K H' M' d o:=by
 unfold cF at h ⊢;split at h
 .exact ay.mono hM hH _ _ h
 .exact#[h.1,ay.mono hM hH _ _ h.2]
 .exact#[h.1,ay.mono hM hH _ _ h.2]
 .exact#[h.1,h.2.1,ay.mono hM hH _ _ h.2.2]
 .exact h.elim
theorem ay.length:∀ {ds:!D} {vs:!V},ay K H M ds vs->vs.length=ds.length
 | [],vs,h=>by
  have h:vs=[]:=h;rw[h];rfl
 | d::ds,vs,h=>by
  let(x,r,e,h1,h2):=h;rw[e,Ws,Ws,ay.length h2]
theorem ay.get:∀ {ds:!D} {vs:!V} {i:Nat} {d:D},ay K H M ds vs->ds[i]?=some d->∃ v,vs[i]?=some v/\Rep K H M d v
 | [],vs,i,d,h,e=>by simp at e
 | c::ds,vs,0,d,h,e=>by
  let(x,r,rfl,h1,h2):=h;simp at e;subst e;exact#[x,U,h1]
 | c::ds,vs,i+1,d,h,e=>by
  let(x,r,rfl,h1,h2):=h;let(v,h3,h4):=ay.get (i:=i) (d:=d) h2 (by simpa using e);exact#[v,by simpa using h3,h4]
theorem ay.append:∀ {ds es:!D} {vs ws:!V},ay K H M ds vs->ay K H M es ws->ay K H M (ds++es) (vs++ws)
 | [],es,vs,ws,h,h'=>by
  have h:vs=[]:=h;rw[h];exact h'
 | d::ds,es,vs,ws,h,h'=>by
  let(x,r,rfl,h1,h2):=h;exact#[x,r++ws,U,h1,ay.append h2 h']
theorem ay.take:∀ {ds:!D} {vs:!V} (n:Nat),ay K H M ds vs->ay K H M (ds.take n) (vs.take n)
 | [],vs,n,h=>by
  have h:vs=[]:=h;rw[h];simp[ay]
 | d::ds,vs,0,h=>by simp[ay]
 | d::ds,vs,n+1,h=>by
  let(x,r,rfl,h1,h2):=h;exact#[x,r.take n,U,h1,ay.take n h2]
theorem ay.drop:∀ {ds:!D} {vs:!V} (n:Nat),ay K H M ds vs->ay K H M (ds.drop n) (vs.drop n)
 | [],vs,n,h=>by
  have h:vs=[]:=h;rw[h];simp[ay]
 | d::ds,vs,0,h=>h
 | d::ds,vs,n+1,h=>by
  let(x,r,rfl,h1,h2):=h;exact ay.drop n h2
theorem ay.one{d:D}{v:V}(h:Rep K H M d v):ay K H M [d] [v]:=#[v,[],U,h,U]
theorem ay.reverse:∀ {ds:!D} {vs:!V},ay K H M ds vs->ay K H M ds.reverse vs.reverse
 | [],vs,h=>by
  have h:vs=[]:=h;rw[h]
  rfl
 | d::ds,vs,h=>by
  let(x,r,rfl,h1,h2):=h;rw[XA,XA];exact ay.append (ay.reverse h2) (ay.one h1)
theorem ay.set{d:D}{v:V}(r:Rep K H M d v):∀ {ds:!D} {vs:!V} (i:Nat),ay K H M ds vs->ay K H M (ds.set i d) (vs.set i v)
 | [],vs,i,h=>by
  have h:vs=[]:=h;rw[h]
  rfl
 | c::ds,vs,0,h=>by
  let(x,r',rfl,h1,h2):=h;exact#[v,r',U,r,h2]
 | c::ds,vs,i+1,h=>by
  let(x,r',rfl,h1,h2):=h;exact#[x,r'.set i v,U,h1,ay.set r i h2]
theorem ay.eraseIdx:∀ {ds:!D} {vs:!V} (i:Nat),ay K H M ds vs->ay K H M (ds.eraseIdx i) (vs.eraseIdx i)
 | [],vs,i,h=>by
  have h:vs=[]:=h;rw[h]
  rfl
 | c::ds,vs,0,h=>by
  let(x,r',rfl,h1,h2):=h;exact h2
 | c::ds,vs,i+1,h=>by
  let(x,r',rfl,h1,h2):=h;exact#[x,r'.eraseIdx i,U,h1,ay.eraseIdx i h2]
end
structure zE where
 own:AC->Prop
 inv:Hp->Prop
 loc:∀ H H',inv H->(∀ b o,(own b\/∃ φ,o=HO.ext φ)->H b=some o->H' b=some o)->inv H'
 JE:∀ H b,inv H->own b->∃ o,H b=some o
 nt:∀ H b xs,inv H->own b->H b≠some (.tup xs)
 pX:!AC:=[]
def zE.no:zE:=#[λ_=>False,λ_=>True,λ_ _ _ _=>trivial,λ_ _ _ h=>h.elim,λ_ _ _ _ h=>h.elim,[]]
def Nu(H:Hp)(b:AC):Prop:=H b=none\/∃ xs,H b=some (.tup xs)
def aT(d l:AC):zE where
 own:=λb=>b=d\/b=l
 inv:=λH=>cP.At H d l
 loc:=λH H' h k=>by
  let(a,b,ns,h1,h2,r):=h.ex;exact#[a,b,ns,k _ _ (.inl (.inl U)) h1,k _ _ (.inl (.inr U)) h2,r]
 JE:=λH b h e=>by
  let(a,_,ns,h1,h2,r):=h.ex;rcases e with rfl | rfl
  .exact#[_,h1]
  .exact#[_,h2]
 nt:=λH b xs h e=>by
  let(a,_,ns,h1,h2,r):=h.ex;rcases e with rfl | rfl
  .rw[h1];intro z;cases z
  .rw[h2];intro z;cases z
structure Ent where
 g:zE
 M0:AC->Prop
 H0:Hp
structure Base(c:Ent)(M:AC->Prop)(H:Hp):Prop where
 pI:c.g.inv H
 fr:∀ b o,c.H0 b=some o->¬ c.g.own b->H b=some o
 md:∀ b,M b->∃ o,H b=some o
 mo:∀ b,M b->¬ c.g.own b
 m0:∀ b,c.M0 b->M b
 mn:∀ b,M b->c.M0 b\/Nu c.H0 b
set_option genInjectivity true in inductive Sl where
 | no | dat (d:D) | own (k:Nat)
structure DS where
 sl:!Sl
 os:!(Option D)
def eO(s:DS)(as:!AC)(b:AC):Prop:=∃ (k:Nat) (d:D),s.os[k]?=some (some d)/\as[k]?=some b
structure aA(K:Frag)(c:Ent)(M:AC->Prop)(s:DS)(as:!AC)(σ:St)(H:Hp):Prop where
 base:Base c M H
 len:s.sl.length=σ.length
 dX:as.length=s.os.length
 dat:∀ (i:Nat) (d:D),s.sl[i]?=some (.dat d)->∃ v,σ[i]?=some (some v)/\Rep K H M d v
 own:∀ (i k:Nat),s.sl[i]?=some (.own k)->∃ a,as[k]?=some a/\σ[i]?=some (some (.ref a))
 obj:∀ (k:Nat) (d:D) (a:AC),s.os[k]?=some (some d)->as[k]?=some a->(∃ o,H a=some o/\cF K H M d o)/\¬ M a/\¬ c.g.own a/\c.H0 a=none
 inj:∀ (k l:Nat) (d e:D) (a:AC),s.os[k]?=some (some d)->s.os[l]?=some (some e)->as[k]?=some a->as[l]?=some a->k=l
 lt:∀ (k:Nat) (a:AC),c.g.pX[k]?=some a->as[k]?=some a
structure Ext(c:Ent)(as:!AC)(M:AC->Prop)(s:DS)(H:Hp)(M':AC->Prop)(s':DS)(H':Hp):Prop where
 sub:∀ b,M b->M' b
 new:∀ b,M' b->M b\/Nu H b\/eO s as b
 keep:∀ b o,H b=some o->¬ c.g.own b->¬ eO s as b->H' b=some o
 jz:∀ b,eO s' as b->eO s as b
section
variable{K:Frag}{c:Ent}{M M' M1 M2:AC->Prop}{s s' s1 s2:DS}{as:!AC}{σ:St}{H H' H1 H2:Hp}{a p:AC}{o:HO}{d:D}{v:V}
theorem aA.nM(L:aA K c M s as σ H)(h:eO s as a):¬ M a/\¬ c.g.own a/\c.H0 a=none/\∃ o,H a=some o:=by
 let(k,d,h1,h2):=h;let((o,q,_),q1,q2,q3):=L.obj k d a h1 h2;exact#[q1,q2,q3,o,q]
theorem Base.mH(B:Base c M H)(h:H a=none):c.H0 a=none:=by
 cases e:c.H0 a with
 | none=>rfl
 | some o =>
  exfalso;by_cases q:c.g.own a
  .let(o',h'):=c.g.JE H a B.pI q;rw[h] at h';cases h'
  .have:=B.fr a o e q;rw[h] at this;cases this
theorem Ext.Am(E:Ext c as M s H M' s' H')(L:aA K c M s as σ H):∀ b o,M b->H b=some o->H' b=some o:=λb o m h =>
 E.keep b o h (L.base.mo b m) λq=>(L.nM q).1 m
theorem Ext.rep(E:Ext c as M s H M' s' H')(L:aA K c M s as σ H)(r:Rep K H M d v):Rep K H' M' d v:=Rep.mono E.sub (E.Am L) d v r
theorem Ext.tR(E:Ext c as M s H M' s' H')(L:aA K c M s as σ H){ds:!D}{vs:!V}(r:ay K H M ds vs):ay K H' M' ds vs:=ay.mono E.sub (E.Am L) ds vs r
theorem Ext.refl:Ext c as M s H M s H:=#[λ_ h=>h,λ_ h=>.inl h,λ_ _ h _ _=>h,λ_ h=>h]
theorem Ext.trans(E1:Ext c as M s H M1 s1 H1)(B1:Base c M1 H1)(E2:Ext c as M1 s1 H1 M2 s2 H2):Ext c as M s H M2 s2 H2 where
 sub:=λb h=>E2.sub b (E1.sub b h)
 new:=λb h=>by
  rcases E2.new b h with h | h | h
  .exact E1.new b h
  .cases q:H b with
   | none=>exact .inr (.inl (.inl q))
   | some o =>
    by_cases g:c.g.own b
    .rcases h with h | ⟨xs,h⟩
     .let(o',h'):=c.g.JE H1 b B1.pI g;rw[h] at h';cases h'
     .exact absurd h (c.g.nt H1 b xs B1.pI g)
    .by_cases w:eO s as b
     .exact .inr (.inr w)
     .have:=E1.keep b o q g w;rcases h with h | ⟨xs,h⟩
      .rw[h] at this;cases this
      .rw[h] at this;cases this;exact .inr (.inl (.inr #[xs,q]))
  .exact .inr (.inr (E1.jz b h))
 keep:=λb o h g w=>E2.keep b o (E1.keep b o h g w) g λq=>w (E1.jz b q)
 jz:=λb h=>E1.jz b (E2.jz b h)
theorem aA.laid(L:aA K c M s as σ H)(hp:H p=none):aA K c M s as σ (upd H p o):=by
 have kp:∀ b u,H b=some u->upd H p o b=some u:=λb u e=>by rw[au (aD e hp)];exact e
 show#[#[c.g.loc H _ L.base.pI λb u _ e=>kp b u e,λb u e g=>kp b u (L.base.fr b u e g),λb m=>?_,L.base.mo,L.base.m0,L.base.mn],L.len,L.dX,λi d e=>?_,L.own,λk d a e1 e2=>?_,L.inj,L.lt]
 .let(u,e):=L.base.md b m;exact#[u,kp b u e]
 .let(v,h1,h2):=L.dat i d e;exact#[v,h1,Rep.mono (λ_ h=>h) (λb u _ e=>kp b u e) d v h2]
 .let((u,q,r),q1):=L.obj k d a e1 e2;exact#[#[u,kp _ _ q,cF.mono (λ_ h=>h) (λb u _ e=>kp b u e) r],q1]
theorem Ext.laid(hp:H p=none):Ext c as M s H M s (upd H p o):=#[λ_ h=>h,λ_ h=>.inl h,λb u e _ _=>by rw[au (aD e hp)];exact e,λ_ h=>h]
theorem aA.IC(L:aA K c M s as σ H)(ha:H a=some o)(g:¬ c.g.own a)(w:¬ eO s as a)(h0:Nu c.H0 a):aA K c (λb=>M b\/b=a) s as σ H:=by
 have mk:∀ b u,M b->H b=some u->H b=some u:=λ_ _ _ e=>e;show#[#[L.base.pI,L.base.fr,λb m=>?_,λb m=>?_,λb m=>.inl (L.base.m0 b m),λb m=>?_],L.len,L.dX,λi d e=>?_,L.own,λk d b e1 e2=>?_,L.inj,L.lt]
 .rcases m with m | rfl
  .exact L.base.md b m
  .exact#[o,ha]
 .rcases m with m | rfl
  .exact L.base.mo b m
  .exact g
 .rcases m with m | rfl
  .exact L.base.mn b m
  .exact .inr h0
 .let(v,h1,h2):=L.dat i d e;exact#[v,h1,Rep.mono (λ_ h=>.inl h) mk d v h2]
 .let((u,q,r),q1,q2):=L.obj k d b e1 e2;show#[#[u,q,cF.mono (λ_ h=>.inl h) mk r],λm=>?_,q2];rcases m with m | rfl
  .exact q1 m
  .exact w #[k,d,e1,e2]
theorem aA.grown(L:aA K c M s as σ H)(ha:H a=some o)(g:¬ c.g.own a)(w:¬ eO s as a)(h0:c.H0 a=none):aA K c (λb=>M b\/b=a) s as σ H:=L.IC ha g w (.inl h0)
theorem cF.Er{xs:!V}(h:cF K H M d (.tup xs)):False:=by cases d<;>exact h
theorem cF.next{φ:Ev->Prop}(h:cF K H M d (.ext φ)):False:=by cases d<;>exact h
theorem aA.fresh(L:aA K c M s as σ H)(hp:H p=none):aA K c (λb=>M b\/b=p) s as σ (upd H p o):=by
 show (L.laid (o:=o) hp).grown ax (λg=>?_) (λw=>?_) (L.base.mH hp)
 .let(u,e):=c.g.JE H p L.base.pI g;rw[hp] at e;cases e
 .let(_,_,_,u,e):=L.nM w;rw[hp] at e;cases e
theorem Ext.fresh(hp:H p=none):Ext c as M s H (λb=>M b\/b=p) s (upd H p o):=#[λ_ h=>.inl h,λb h=>by
 rcases h with h | rfl
 .exact .inl h
 .exact .inr (.inl (.inl hp)),λb u e _ _=>by rw[au (aD e hp)];exact e,λ_ h=>h]
theorem vC(hp:H p=none)(r:Rep K H M d v):Rep K (upd H p o) (λb=>M b\/b=p) d v:=Rep.mono (λ_ h=>.inl h) (λb u _ e=>by rw[au (aD e hp)];exact e) d v r
theorem rD(hp:H p=none){ds:!D}{vs:!V}(r:ay K H M ds vs):ay K (upd H p o) (λb=>M b\/b=p) ds vs:=ay.mono (λ_ h=>.inl h) (λb u _ e=>by rw[au (aD e hp)];exact e) ds vs r
theorem qR(hp:H p=none){ds:!D}{vs:!V}(r:ay K H M ds vs):ay K (upd H p o) M ds vs:=ay.mono (λ_ h=>h) (λb u _ e=>by rw[au (aD e hp)];exact e) ds vs r
theorem cF.rep(h:cF K H M d o)(ha:H a=some o)(m:M a):Rep K H M d (.ref a):=by
 unfold cF at h;split at h
 .exact#[a,_,U,#[m,ha],h]
 .exact#[a,_,U,#[m,ha],h.1,h.2]
 .exact#[a,_,U,#[m,ha],h.1,h.2]
 .exact#[a,_,_,U,#[m,h.1▸ha],h.2]
 .exact h.elim
end
abbrev aZ:=DS->(D->DS->Prop)->Prop
abbrev kD:=DS->(Bool->DS->Prop)->Prop
abbrev d8:=DS->(!D->DS->Prop)->Prop
structure iR where
 nx:DS->Prop
 rt:D->Prop
 rf:D->Prop:=λ_=>False
 bk:DS->Prop:=λ_=>False
 ct:DS->Prop:=λ_=>False
 rs:D->DS->Prop:=λ_ _=>False
abbrev iZ:=iR->DS->Prop
section
variable(K:Frag)(c:Ent)
def tE(t:aZ):TE:=λσ H Q=>∃ M s as R,aA K c M s as σ H/\t s R/\∀ d s',R d s'->∀ M' H' v,aA K c M' s' as σ H'->Ext c as M s H M' s' H'->Rep K H' M' d v->Q v H'
def tN(t:aZ):TE:=λσ H Q=>∃ M s as R,aA K c M s as σ H/\t s R/\∀ d s',R d s'->∀ M' H' a o,aA K c M' s' as σ H'->Ext c as M s H M' s' H'->H' a=some o->cF K H' M' d o->¬ M' a->¬ c.g.own a->¬ eO s' as a->c.H0 a=none->(H a=none\/eO s as a)->Q (.ref a) H'
def tT(t:kD):TT:=λσ H Q=>∃ M s as R,aA K c M s as σ H/\t s R/\∀ b s',R b s'->∀ M' H',aA K c M' s' as σ H'->Ext c as M s H M' s' H'->Q b H'
def tA(n:Nat)(t:d8):TA:=λσ H Q=>∃ M s as R,aA K c M s as σ H/\t s R/\∀ ds s',R ds s'->∀ M' H' vs,aA K c M' s' as σ H'->Ext c as M s H M' s' H'->ay K H' M' ds vs->ds.length=n->Q vs H'
def dW(M:AC->Prop)(H:Hp)(M':AC->Prop)(H':Hp):Prop:=∀ b,M b->M' b/\∀ o,H b=some o->H' b=some o
structure jB(M:AC->Prop)(H:Hp)(R:iR)(E:Ends):Prop where
 nx:∀ s as M' σ H',R.nx s->aA K c M' s as σ H'->dW M H M' H'->E.nx σ H'
 bk:∀ s as M' σ H',R.bk s->aA K c M' s as σ H'->dW M H M' H'->E.bk σ H'
 ct:∀ s as M' σ H',R.ct s->aA K c M' s as σ H'->dW M H M' H'->E.ct σ H'
 rt:∀ d M' H' v,R.rt d->Base c M' H'->Rep K H' M' d v->E.rt v H'
 rf:∀ d M' H' a o,R.rf d->Base c M' H'->H' a=some o->cF K H' M' d o->¬ M' a->¬ c.g.own a->c.H0 a=none->E.rt (.ref a) H'
 rs:∀ d s as M' σ H' v,R.rs d s->aA K c M' s as σ H'->Rep K H' M' d v->E.rt v H'
def tS(t:iZ):TS:=λE σ H=>∃ M s as R,aA K c M s as σ H/\t R s/\jB K c M H R E
end
structure DE(X:Cx)(c:Ent)(e:Ch)(t:aZ):Prop where
 pe:PE X e (tE X.K c t)
structure DN(X:Cx)(c:Ent)(e:Ch)(t:aZ):Prop where
 pe:PE X e (tN X.K c t)
structure DT(X:Cx)(c:Ent)(e:Ch)(t:kD):Prop where
 pt:PT X e (tT X.K c t)
structure DW(X:Cx)(c:Ent)(e:Ch)(t:kD):Prop where
 pw:PW X e (tT X.K c t)
structure DA(X:Cx)(c:Ent)(es:!Ch)(t:d8):Prop where
 pa:PA X es (tA X.K c es.length t)
structure pW(X:Cx)(c:Ent)(st:FM)(t:iZ):Prop where
 ps:PS X st (tS X.K c t)
structure l8(X:Cx)(c:Ent)(st:!FM)(t:iZ):Prop where
 ps:lQ X st (tS X.K c t)
section
variable{X:Cx}
theorem _root_.L2.PE.imp{e:Ch}{t t':TE}(h:PE X e t)(w:∀ σ H Q,t' σ H Q->t σ H Q):PE X e t':=λTW s σ H Q I q=>h TW s σ H Q I (w σ H Q q)
theorem _root_.L2.PT.imp{e:Ch}{t t':TT}(h:PT X e t)(w:∀ σ H Q,t' σ H Q->t σ H Q):PT X e t':=λTW s σ H Q I q=>h TW s σ H Q I (w σ H Q q)
theorem _root_.L2.PW.imp{e:Ch}{t t':TT}(h:PW X e t)(w:∀ σ H Q,t' σ H Q->t σ H Q):PW X e t':=λwh TW s σ H Q I q=>h wh TW s σ H Q I (w σ H Q q)
theorem _root_.L2.PA.imp{es:!Ch}{t t':TA}(h:PA X es t)(w:∀ σ H Q,t' σ H Q->t σ H Q):PA X es t':=λpos TW s σ H Q I q=>h pos TW s σ H Q I (w σ H Q q)
theorem _root_.L2.PS.imp{st:FM}{t t':TS}(h:PS X st t)(w:∀ E σ H,t' E σ H->t E σ H):PS X st t':=λTW s σ H E I q=>h TW s σ H E I (w E σ H q)
theorem _root_.L2.lQ.imp{st:!FM}{t t':TS}(h:lQ X st t)(w:∀ E σ H,t' E σ H->t E σ H):lQ X st t':=λTW s σ H E I q=>h TW s σ H E I (w E σ H q)
end
section
variable{X:Cx}{c:Ent}{a b e:Ch}{es:!Ch}{ta tb te:aZ}{t:d8}{pos:Pos}
theorem Ext.plus{as:!AC}{M M':AC->Prop}{s s':DS}{H H':Hp}{a:AC}(E:Ext c as M s H M' s' H')(n:H a=none\/eO s as a):Ext c as M s H (λb=>M' b\/b=a) s' H' :=
 #[λb h=>.inl (E.sub b h),λb h=>by
  rcases h with h | rfl
  .exact E.new b h
  .exact .inr (n.imp .inl id),E.keep,E.jz]
theorem DN.de(h:DN X c e te):DE X c e te:=#[h.pe.imp λσ H Q zz=>cZ zz λM s as R L q k =>
 #[M,s,as,R,L,q,λd s' r M' H' a o L' E ha ro nm ng nw h0 hn =>
  k d s' r _ H' (.ref a) (L'.grown ha ng nw h0) (E.plus hn) ((ro.mono (λ_ h=>.inl h) λ_ _ _ e=>e).rep ha (.inr U))]]
def JD(i:Nat):aZ:=λs Q=>∃ d,s.sl[i]?=some (.dat d)/\Q d s
theorem dv{i:Nat}(h:PE X e (bR i)):DE X c e (JD i):=#[h.imp λσ H Q z6q=>by
 let(M,s,as,R,L,(d,e,q),k):=z6q;let(v,h1,h2):=L.dat i d e;exact#[v,h1,k d s q M H v L .refl h2]]
def F9(d:D):aZ:=λs Q=>Q d s
def P7:D->V->Prop
 | .br,v=>v=.br
 | .bl b,v=>v=.bl b
 | .int i,v=>v=.int i
 | .str x,v=>v=.str x
 | .cT a,v=>v=.ref a
 | .ty n,v=>v=.ty n
 | _,_=>False
theorem P7.rep{d:D}{v:V}{K:Frag}{H:Hp}{M:AC->Prop}(h:P7 d v):Rep K H M d v:=by
 cases d<;>first | exact h | exact h.elim
theorem dc{d:D}{v:V}(h:PE X e (tC v))(r:P7 d v):DE X c e (F9 d):=#[h.imp λσ H Q zz=>cZ zz λM s as R L q k=>k d s q M H v L .refl r.rep]
theorem ai{i j}:DE X c (.Constant (.int i) j pos) (F9 (.int i)):=dc bH U
theorem GW{i j}:DE X c (.Constant (.bool i) j pos) (F9 (.bl i)):=dc F7 U
theorem d6{j}:DE X c (.Constant .none j pos) (F9 .br):=dc Jh U
theorem ak{i j}:DE X c (.Constant (.str i) j pos) (F9 (.str i)):=dc cD U
def yh:d8:=λs Q=>Q [] s
def rL(ta:aZ)(tr:d8):d8:=λs Q=>ta s λd s1=>tr s1 λds s2=>Q (d::ds) s2
theorem ae:DA X c [] yh:=#[dR.imp λσ H Q zz=>cZ zz λM s as R L q k=>k [] s q M H [] L .refl U U]
theorem aa(ha:DE X c e te)(hr:DA X c es t)(hs:(YB X.env e es)⁻¹):DA X c (e::es) (rL te t) :=
 #[(aX ha.pe hr.pa hs).imp λσ H Q zz=>cZ zz λM s as R L q k =>
   #[M,s,as,_,L,q,λd s1 q1 M1 H1 x L1 E1 r1=>#[M1,s1,as,_,L1,q1,λds s2 q2 M2 H2 xs Lb E2 r2 hl =>
    k _ s2 q2 M2 H2 _ Lb (E1.trans L1.base E2) #[x,xs,U,E2.rep L1 r1,r2] (by rw[Ws,Ws,hl])]]]
def Lo(t:d8):aZ:=λs Q=>t s λds s1=>Q (.tup ds) s1
def M7(t:d8):aZ:=λs Q=>t s λds s1=>Q (.lst ds) s1
theorem Og{n:Nat}(h:(n<=1000:Bool)=true):n<=FB:=Wr (of_decide_eq_true h) ()
theorem aQ{x1}(h:DA X c es t)(hn:((es.length<=1000:Bool)=true)⁻¹):DE X c (.Tuple es x1 pos) (Lo t):=#[(Cj h.pa).imp λσ H Q zz=>cZ zz λM s as R L q k =>
 #[M,s,as,_,L,q,λds s1 q1 M1 H1 xs L1 E1 r1 hl=>#[by rw[r1.length,hl];exact Og hn,λp hp =>
  k _ s1 q1 _ _ _ (L1.fresh hp) (E1.trans L1.base (Ext.fresh hp)) #[p,xs,U,#[.inr U,ax],rD hp r1]]]]
theorem notM{K:Frag}{M:AC->Prop}{s:DS}{as:!AC}{σ:St}{H:Hp}{p:AC}(L:aA K c M s as σ H)(hp:H p=none):¬ M p/\¬ c.g.own p/\¬ eO s as p/\c.H0 p=none:=by
 show#[λm=>?_,λg=>?_,λw=>?_,L.base.mH hp]
 .let(u,e):=L.base.md p m;rw[hp] at e;cases e
 .let(u,e):=c.g.JE H p L.base.pI g;rw[hp] at e;cases e
 .let(_,_,_,u,e):=L.nM w;rw[hp] at e;cases e
theorem jO{K:Frag}{as:!AC}{M M1:AC->Prop}{s s1:DS}{σ:St}{H H1:Hp}{p:AC}{o:HO}{Q:VK}{d:D}(L:aA K c M s as σ H)(L1:aA K c M1 s1 as σ H1)(E1:Ext c as M s H M1 s1 H1)(hp:H1 p=none)(r:cF K H1 M1 d o)(k:∀ M' H' a o,aA K c M' s1 as σ H'->Ext c as M s H M' s1 H'->H' a=some o->cF K H' M' d o->¬ M' a->¬ c.g.own a->¬ eO s1 as a->c.H0 a=none->(H a=none\/eO s as a)->Q (.ref a) H'):Q (.ref p) (upd H1 p o):=by
 let(n1,n2,n3,n4):=notM L1 hp;show k M1 (upd H1 p o) p o (L1.laid hp) (E1.trans L1.base (Ext.laid hp)) ax (r.mono (λ_ h=>h) λb u _ e=>by rw[au (aD e hp)];exact e) n1 n2 n3 n4 ?_;cases q:H p with
 | none=>exact .inl U
 | some u =>
  by_cases w:eO s as p
  .exact .inr w
  .have:=E1.keep p u q n2 w;rw[hp] at this;cases this
theorem aO(h:DA X c es t)(hn:((es.length<=1000:Bool)=true)⁻¹):DN X c (.List es pos) (M7 t):=#[(Jj h.pa).imp λσ H Q zz=>cZ zz λM s as R L q k =>
 #[M,s,as,_,L,q,λds s1 q1 M1 H1 xs L1 E1 r1 hl=>#[by rw[r1.length,hl];exact Og hn,λp hp =>
  jO L L1 E1 hp (d:=.lst ds) r1 (k _ s1 q1)]]]
def Vm(C:D->(D->Prop)->Prop)(ta:aZ):aZ:=λs Q=>ta s λa s1=>C a λd=>Q d s1
def BV(C:D->D->(D->Prop)->Prop)(ta tb:aZ):aZ:=λs Q=>ta s λa s1=>tb s1 λb s2=>C a b λd=>Q d s2
def m7(X:Cx)(c:Ent)(r:R2)(C:D->D->(D->Prop)->Prop):Prop:=∀ (M:AC->Prop) (s:DS) (as:!AC) (σ:St) (H:Hp) (x y:V) (dx dy:D) (k:D->Prop) (Q:VK),aA X.K c M s as σ H->Rep X.K H M dx x->Rep X.K H M dy y->C dx dy k ->
 (∀ d,k d->∀ M' H' v,aA X.K c M' s as σ H'->Ext c as M s H M' s H'->Rep X.K H' M' d v->Q v H')->r x y H Q
def Jg(X:Cx)(c:Ent)(r:R2)(C:D->D->(D->Prop)->Prop):Prop:=∀ (M:AC->Prop) (s:DS) (as:!AC) (σ:St) (H:Hp) (x y:V) (dx dy:D) (k:D->Prop) (Q:VK),aA X.K c M s as σ H->Rep X.K H M dx x->Rep X.K H M dy y->C dx dy k ->
 (∀ d,k d->∀ p o,H p=none->cF X.K H M d o->Q (.ref p) (upd H p o))->r x y H Q
theorem Dm{r:R2}{C:D->D->(D->Prop)->Prop}(k:m7 X c r C){σ:St}{H:Hp}{Q:VK}:tE X.K c (BV C ta tb) σ H Q->iG r (tE X.K c ta) (tE X.K c tb) σ H Q:=λzz=>cZ zz λM s as R L q kk =>
 #[M,s,as,_,L,q,λda s1 q1 M1 H1 x L1 E1 r1=>#[M1,s1,as,_,L1,q1,λdb s2 q2 M2 H2 y Lb E2 r2 =>
  k M2 s2 as σ H2 x y da db (λd=>R d s2) Q Lb (E2.rep L1 r1) r2 q2 λd rd M' H' v L' E' rv=>kk d s2 rd M' H' v L' ((E1.trans L1.base E2).trans Lb.base E') rv]]
theorem OI{r:R2}{C:D->D->(D->Prop)->Prop}(k:Jg X c r C){σ:St}{H:Hp}{Q:VK}:tN X.K c (BV C ta tb) σ H Q->iG r (tE X.K c ta) (tE X.K c tb) σ H Q:=λzz=>cZ zz λM s as R L q kk =>
 #[M,s,as,_,L,q,λda s1 q1 M1 H1 x L1 E1 r1=>#[M1,s1,as,_,L1,q1,λdb s2 q2 M2 H2 y Lb E2 r2 =>
  k M2 s2 as σ H2 x y da db (λd=>R d s2) Q Lb (E2.rep L1 r1) r2 q2 λd rd p o hp ro=>jO L Lb (E1.trans L1.base E2) hp ro (kk d s2 rd)]]
theorem a9{op:Operator}{r:R2}{C:D->D->(D->Prop)->Prop}(ho:gF X (Ps op) r)(k:m7 X c r C)(ha:DE X c a ta)(hb:DE X c b tb):DE X c (.BinOp a op b pos) (BV C ta tb):=#[(cX ho ha.pe hb.pe).imp λ_ _ _=>Dm k]
theorem eg{op:Operator}{r:R2}{C:D->D->(D->Prop)->Prop}(ho:gF X (Ps op) r)(k:Jg X c r C)(ha:DE X c a ta)(hb:DE X c b tb):DN X c (.BinOp a op b pos) (BV C ta tb):=#[(cX ho ha.pe hb.pe).imp λ_ _ _=>OI k]
theorem gG{op:CmpOp}{r:R2}{C:D->D->(D->Prop)->Prop}(ho:gF X (IR op) r)(k:m7 X c r C)(ha:DE X c a ta)(hb:DE X c b tb)(hm:behindInMarks op b=false):DE X c (.Compare a [op] [b] pos) (BV C ta tb):=#[(sP ho ha.pe hb.pe hm).imp λ_ _ _=>Dm k]
theorem rV{r:R2}{C:D->D->(D->Prop)->Prop}(ho:K0 X r)(k:m7 X c r C)(ha:DE X c a ta)(hb:DE X c b tb)(hs:nA b):DE X c (.Subscript a b pos) (BV C ta tb):=#[(CI ho ha.pe hb.pe hs).imp λ_ _ _=>Dm k]
def FE(t:aZ):kD:=λs Q=>t s λd s1=>∃ k,d=.bl k/\Q k s1
theorem gT{t:aZ}{t':TE}(h:∀ {σ H Q},tE X.K c t σ H Q->t' σ H Q){σ:St}{H:Hp}{Q:Bool->Hp->Prop}:tT X.K c (FE t) σ H Q->pG t' σ H Q:=λzz=>cZ zz λM s as R L q kk =>
 h #[M,s,as,_,L,q,λd s1 z3r M' H' v L' E' rv=>by
  let(k,e,r):=z3r;subst e;exact#[k,rv,kk k s1 r M' H' L' E']]
theorem az{op:CmpOp}{r:R2}{C:D->D->(D->Prop)->Prop}(ho:gF X (IR op) r)(k:m7 X c r C)(ha:DE X c a ta)(hb:DE X c b tb)(hm:behindInMarks op b=false):DT X c (.Compare a [op] [b] pos) (FE (BV C ta tb)) :=
 #[(hJ ho ha.pe hb.pe hm).imp λ_ _ _=>gT (Dm k)]
theorem fw(h:DE X c e te)(he:∀ whole,isTrue e X.env whole=(do let v <- whole;standAt e.pos;holding [v] (truthy v)):=by intro _;rfl):DT X c e (FE te):=#[(GU h.pe he).imp λ_ _ _=>gT λq=>q]
def Lg(t:kD):kD:=λs Q=>t s λb s1=>Q (not b) s1
theorem jX{t:kD}(h:DT X c e t):DT X c (.UnaryOp .Not e pos) (Lg t):=#[(AW h.pt).imp λσ H Q zz=>cZ zz λM s as R L q k=>#[M,s,as,_,L,q,λb s1 r M' H' L' E'=>k _ s1 r M' H' L' E']]
def KH(t u:kD):kD:=λs Q=>t s λb s1=>if b=true then u s1 Q else Q false s1
def torD(t u:kD):kD:=λs Q=>t s λb s1=>if b=true then Q true s1 else u s1 Q
theorem DW.dt{t:kD}(h:DW X c e t):DT X c e t:=#[h.pw.pt]
section
variable{tA tB:kD}{rest:!Ch}
theorem eS(h:DT X c a tA):DW X c (.BoolOp .And [a] pos) tA:=#[pw_and1 h.pt]
theorem oa(h:DT X c a tA):DW X c (.BoolOp .Or [a] pos) tA:=#[pw_or1 h.pt]
theorem gL(ha:DT X c a tA)(hb:DW X c (.BoolOp .And (b::rest) pos) tB):DW X c (.BoolOp .And (a::b::rest) pos) (KH tA tB):=#[(pw_and ha.pt hb.pw).imp λσ H Q zz=>cZ zz λM s as R L q k =>
 #[M,s,as,_,L,q,λx s1 r M1 H1 L1 E1=>by
  cases x with
  | true=>exact lM #[M1,s1,as,_,L1,(by simpa using r),λy s2 r2 M2 H2 Lb E2=>k y s2 r2 M2 H2 Lb (E1.trans L1.base E2)]
  | false=>exact sH (k false s1 (by simpa using r) M1 H1 L1 E1)]]
theorem mB(ha:DT X c a tA)(hb:DW X c (.BoolOp .Or (b::rest) pos) tB):DW X c (.BoolOp .Or (a::b::rest) pos) (torD tA tB):=#[(pw_or ha.pt hb.pw).imp λσ H Q zz=>cZ zz λM s as R L q k =>
 #[M,s,as,_,L,q,λx s1 r M1 H1 L1 E1=>by
  cases x with
  | true=>exact lM (k true s1 (by simpa using r) M1 H1 L1 E1)
  | false=>exact sH #[M1,s1,as,_,L1,(by simpa using r),λy s2 r2 M2 H2 Lb E2=>k y s2 r2 M2 H2 Lb (E1.trans L1.base E2)]]]
def torV(ta tb:aZ):aZ:=λs Q=>ta s λx s1=>∃ k,x=.bl k/\if k=true then Q (.bl true) s1 else tb s1 Q
theorem LQ{op}(h:DE X c a ta):DE X c (.BoolOp op [a] pos) ta:=#[vK h.pe]
theorem OS(ha:DE X c a ta)(hb:DE X c (.BoolOp .Or (b::rest) pos) tb):DE X c (.BoolOp .Or (a::b::rest) pos) (torV ta tb):=#[(FQ ha.pe hb.pe).imp λσ H Q zz=>cZ zz λM s as R L q k =>
 #[M,s,as,_,L,q,λx s1 z4r M1 H1 v L1 E1 rv=>by
  let(b,e,r):=z4r;subst e;show#[b,rv,?_];cases b with
  | true=>exact lM (k (.bl true) s1 (by simpa using r) M1 H1 _ L1 E1 U)
  | false=>exact sH #[M1,s1,as,_,L1,(by simpa using r),λy s2 r2 M2 H2 w Lb E2 rw=>k y s2 r2 M2 H2 w Lb (E1.trans L1.base E2) rw]]]
def Pe(t:kD)(ta tb:aZ):aZ:=λs Q=>t s λk s1=>if k=true then ta s1 Q else tb s1 Q
theorem xJ{e:Ch}(hc:DT X c e tA)(ha:DE X c a ta)(hb:DE X c b tb):DE X c (.IfExp e a b pos) (Pe tA ta tb):=#[(Aj hc.pt ha.pe hb.pe).imp λσ H Q zz=>cZ zz λM s as R L q k =>
 #[M,s,as,_,L,q,λx s1 r M1 H1 L1 E1=>by
  cases x with
  | true=>exact lM #[M1,s1,as,_,L1,(by simpa using r),λy s2 r2 M2 H2 w Lb E2 rw=>k y s2 r2 M2 H2 w Lb (E1.trans L1.base E2) rw]
  | false=>exact sH #[M1,s1,as,_,L1,(by simpa using r),λy s2 r2 M2 H2 w Lb E2 rw=>k y s2 r2 M2 H2 w Lb (E1.trans L1.base E2) rw]]]
end
end
section
variable{K:Frag}{c:Ent}{M M' M1:AC->Prop}{s s' s1:DS}{as:!AC}{σ:St}{H H' H1:Hp}{a p:AC}{o:HO}{d:D}{v:V}
theorem dW.refl:dW M H M H:=λb m=>#[m,λ_ e=>e]
theorem dW.trans{M2:AC->Prop}{H2:Hp}(g1:dW M H M1 H1)(g2:dW M1 H1 M2 H2):dW M H M2 H2:=λb m=>#[(g2 b (g1 b m).1).1,λo e=>(g2 b (g1 b m).1).2 o ((g1 b m).2 o e)]
theorem Ext.grow(E:Ext c as M s H M' s' H')(L:aA K c M s as σ H):dW M H M' H':=λb m=>#[E.sub b m,λo e=>E.Am L b o m e]
theorem dW.tR(G:dW M H M' H'){ds:!D}{vs:!V}(r:ay K H M ds vs):ay K H' M' ds vs:=ay.mono (λb m=>(G b m).1) (λb o m e=>(G b m).2 o e) ds vs r
theorem jB.grow{R:iR}{E:Ends}(k:jB K c M H R E)(G:dW M H M1 H1):jB K c M1 H1 R E :=
 #[λs as M' σ H' r L g=>k.nx s as M' σ H' r L (G.trans g),λs as M' σ H' r L g=>k.bk s as M' σ H' r L (G.trans g),λs as M' σ H' r L g=>k.ct s as M' σ H' r L (G.trans g),k.rt,k.rf,k.rs]
def DS.set(s:DS)(i:Nat)(x:Sl):DS:=#[s.sl.set i x,s.os]
def DS.put(s:DS)(k:Nat)(d:D):DS:=#[s.sl,s.os.set k (some d)]
theorem cC{α:Type}{l:!α}{i j:Nat}{x y:α}(h:(l.set i x)[j]?=some y):(i=j/\j < l.length/\y=x)\/(i≠j/\l[j]?=some y):=by
 by_cases e:i=j
 .subst e;by_cases hl:i < l.length
  .rw[WT hl] at h;exact .inl #[U,hl,(WU h).symm]
  .rw[List.getElem?_eq_none (by rw[Xa];cbv)] at h;cases h
 .rw[Wx e] at h;exact .inr #[e,h]
theorem aA.zo(L:aA K c M s as σ H)(i:Nat)(r:Rep K H M d v):aA K c M (s.set i (.dat d)) as (σ.set i (some v)) H where
 base:=L.base
 len:=by change (s.sl.set i _).length=_;rw[Xa,Xa];exact L.len
 dX:=L.dX
 dat:=λj e h=>by
  rcases cC h with ⟨rfl,hl,q⟩ | ⟨ne,q⟩
  .cases q;exact#[v,WT (by rw[<- L.len];exact hl),r]
  .let(w,h1,h2):=L.dat j e q;exact#[w,by rw[Wx ne];exact h1,h2]
 own:=λj k h=>by
  rcases cC h with ⟨rfl,hl,q⟩ | ⟨ne,q⟩
  .cases q
  .let(w,h1,h2):=L.own j k q;exact#[w,h1,by rw[Wx ne];exact h2]
 obj:=L.obj
 inj:=L.inj
 lt:=L.lt
def noRef(k:Nat):Nat->!Sl->Bool
 | _,[]=>true
 | 0,_::r=>noRef k (r.length+1) r
 | i+1,.own j::r=>(j != k)&&noRef k i r
 | i+1,_::r=>noRef k i r
theorem lT{k:Nat}:∀ {l:!Sl} {i j:Nat},l.length<=i->noRef k i l=true->l[j]?≠some (.own k)
 | [],i,j,hl,h,e=>by simp at e
 | x::r,0,j,hl,h,e=>by simp at hl
 | x::r,i+1,0,hl,h,e=>by
  simp at e;subst e;simp[noRef] at h
 | x::r,i+1,j+1,hl,h,e=>by
  show lT (l:=r) (i:=i) (j:=j) (by simpa using hl) ?_ (by simpa using e);cases x with
  | own q=>simp[noRef] at h;exact h.2
  | no=>exact h
  | dat q=>exact h
theorem um{k:Nat}:∀ {l:!Sl} {i j:Nat},noRef k i l=true->i≠j->l[j]?≠some (.own k)
 | [],i,j,h,ne,e=>by simp at e
 | x::r,0,0,h,ne,e=>ne U
 | x::r,0,j+1,h,ne,e=>by
  have e':r[j]?=some (.own k):=by simpa using e
  exact lT (l:=r) (i:=r.length+1) (by cbv) h e'
 | x::r,i+1,0,h,ne,e=>by
  simp at e;subst e;simp[noRef] at h
 | x::r,i+1,j+1,h,ne,e=>by
  show um (l:=r) (i:=i) (j:=j) ?_ (by cbv) (by simpa using e);cases x with
  | own q=>simp[noRef] at h;exact h.2
  | no=>exact h
  | dat q=>exact h
theorem aA.Pu(L:aA K c M s as σ H)(i k:Nat)(hk:k < s.os.length)(nr:noRef k i s.sl=true)(ha:H a=some o)(r:cF K H M d o)(nm:¬ M a)(ng:¬ c.g.own a)(nw:¬ eO s as a)(h0:c.H0 a=none)(hZ:c.g.pX.length<=k) :
  aA K c M #[s.sl.set i (.own k),s.os.set k (some d)] (as.set k a) (σ.set i (some (.ref a))) H where
 base:=L.base
 len:=by change (s.sl.set i _).length=_;rw[Xa,Xa];exact L.len
 dX:=by change (as.set k a).length=(s.os.set k _).length;rw[Xa,Xa];exact L.dX
 dat:=λj e h=>by
  rcases cC h with ⟨rfl,hl,q⟩ | ⟨ne,q⟩
  .cases q
  .let(w,h1,h2):=L.dat j e q;exact#[w,by rw[Wx ne];exact h1,h2]
 own:=λj l h=>by
  rcases cC h with ⟨rfl,hl,q⟩ | ⟨ne,q⟩
  .cases q;exact#[a,WT (by rw[L.dX];exact hk),WT (by rw[<- L.len];exact hl)]
  .let(w,h1,h2):=L.own j l q;show#[w,?_,by rw[Wx ne];exact h2];have:k≠l:=λz=>by
    subst z;exact um nr ne q
   rw[Wx this];exact h1
 obj:=λl e b h1 h2=>by
  rcases cC h1 with ⟨rfl,hl,q⟩ | ⟨ne,q⟩
  .cases q;rw[WT (by rw[L.dX];exact hl)] at h2;cases h2;exact#[#[o,ha,r],nm,ng,h0]
  .rw[Wx ne] at h2;exact L.obj l e b q h2
 inj:=λl m e f b h1 h2 g1 g2=>by
  rcases cC h1 with ⟨rfl,hl,q⟩ | ⟨ne,q⟩
  .rcases cC h2 with ⟨rfl,hl',q'⟩ | ⟨ne',q'⟩
   .rfl
   .rw[WT (by rw[L.dX];exact hl)] at g1;cases g1;rw[Wx ne'] at g2;exact absurd #[m,f,q',g2] nw
  .rcases cC h2 with ⟨rfl,hl',q'⟩ | ⟨ne',q'⟩
   .rw[WT (by rw[L.dX];exact hl')] at g2;cases g2;rw[Wx ne] at g1;exact absurd #[l,e,q,g1] nw
   .rw[Wx ne] at g1;rw[Wx ne'] at g2;exact L.inj l m e f b q q' g1 g2
 lt:=λl b h=>by
  have h1:=L.lt l b h;have hl:l < c.g.pX.length:=(Wn.mp h).1;rw[Wx (by cbv)];exact h1
theorem aA.kG{d0:D}{k:Nat}(L:aA K c M s as σ H)(hk:s.os[k]?=some (some d0))(ha:as[k]?=some a)(r:cF K H M d o):aA K c M (s.put k d) as σ (upd H a o):=by
 let((o0,q0,r0),nm,ng,h0):=L.obj k d0 a hk ha;have kp:∀ b u,b≠a->H b=some u->upd H a o b=some u:=λb u ne e=>by rw[au ne];exact e
 have km:∀ b u,M b->H b=some u->upd H a o b=some u:=λb u m e=>kp b u (λz=>nm (z▸m)) e;show#[#[c.g.loc H _ L.base.pI λb u g e=>kp b u (λz=>g.elim (λg=>ng (z▸g)) λ#[φ,f]=>by subst f;rw[z,q0] at e;cases e;exact r0.next) e,λb u e g=>?_,λb m=>?_,L.base.mo,L.base.m0,L.base.mn],L.len,?_,λi e h=>?_,L.own,λl e b h1 h2=>?_,λl m e f b h1 h2 g1 g2=>?_,L.lt]
 .exact kp b u (λz=>by rw[z,h0] at e;cases e) (L.base.fr b u e g)
 .let(u,e):=L.base.md b m;exact#[u,km b u m e]
 .show as.length=(s.os.set k _).length;rw[Xa];exact L.dX
 .let(w,h1,h2):=L.dat i e h;exact#[w,h1,Rep.mono (λ_ m=>m) km e w h2]
 .rcases cC h1 with ⟨rfl,hl,q⟩ | ⟨ne,q⟩
  .cases q;rw[ha] at h2;cases h2;exact#[#[o,ax,r.mono (λ_ m=>m) km],nm,ng,h0]
  .let((u,q1,q2),q3):=L.obj l e b q h2;show#[#[u,kp b u (λz=>?_) q1,q2.mono (λ_ m=>m) km],q3];subst z;exact ne (L.inj k l d0 e b hk q ha h2)
 .have back:∀ {l:Nat} {e:D},(s.put k d).os[l]?=some (some e)->∃ e',s.os[l]?=some (some e'):=λ{l e} h=>by
   rcases cC h with ⟨rfl,hl,q⟩ | ⟨ne,q⟩
   .exact#[d0,hk]
   .exact#[e,q]
  let(e',q1):=back h1;let(f',q2):=back h2;exact L.inj l m e' f' b q1 q2 g1 g2
theorem Ext.kG{d0:D}{k:Nat}(hk:s.os[k]?=some (some d0))(ha:as[k]?=some a):Ext c as M s H M (s.put k d) (upd H a o) where
 sub:=λ_ m=>m
 new:=λ_ m=>.inl m
 keep:=λb u e g w=>by
  have ne:b≠a:=λz=>by
   subst z;exact w #[k,d0,hk,ha]
  rw[au ne];exact e
 jz:=λb z5r=>by
  let(l,e,h1,h2):=z5r;rcases cC h1 with ⟨rfl,hl,q⟩ | ⟨ne,q⟩
  .exact#[k,d0,hk,h2]
  .exact#[l,e,q,h2]
theorem aA.slot{i k:Nat}{d0:D}(L:aA K c M s as σ H)(hi:s.sl[i]?=some (.own k))(hk:s.os[k]?=some (some d0)):∃ a o,as[k]?=some a/\σ[i]?=some (some (.ref a))/\H a=some o/\cF K H M d0 o:=by
 let(a,h1,h2):=L.own i k hi;let((o,q1,q2),_):=L.obj k d0 a hk h1;exact#[a,o,h1,h2,q1,q2]
end
section
variable{X:Cx}{c:Ent}{a b e:Ch}{es:!Ch}{ta tb te:aZ}{st:FM}{mX:!FM}{t u:iZ}{pos:Pos}
def Hv:iZ:=λR s=>R.nx s
def Lq(t u:iZ):iZ:=λR s=>t { R with nx:=u R } s
theorem aK:l8 X c [] Hv:=#[nB.imp λE σ H zz=>cZ zz λM s as R L q k=>k.nx s as M σ H q L .refl]
theorem af(h1:pW X c st t)(h2:l8 X c mX u):l8 X c (st::mX) (Lq t u):=#[(bP h1.ps h2.ps).imp λE σ H zz=>cZ zz λM s as R L q k =>
 #[M,s,as,{ R with nx:=u R },L,q,#[λs' ki M' σ' H' r L' G=>#[M',s',ki,R,L',r,k.grow G],k.bk,k.ct,k.rt,k.rf,k.rs]]]
theorem aj(h1:pW X c st t):l8 X c [st] t:=#[eh h1.ps]
theorem oo:l8 X c mX (λ_ _=>False):=#[zP.imp λE σ H zz=>cZ zz λM s as R L q k=>q.elim]
def AE(te:aZ):iZ:=λR s=>te s λ_ s1=>R.nx s1
theorem eL(he:DE X c e te)(hs:(swapsWith e none pos.line X.env=pure false)⁻¹):pW X c (.Expr e pos) (AE te):=#[(xT he.pe hs).imp λE σ H zz=>cZ zz λM s as R L q k =>
 #[M,s,as,_,L,q,λd s1 r M' H' v L' E' rv=>k.nx s1 as M' σ H' r L' (E'.grow L)]]
def FJ(te:aZ):iZ:=λR s=>te s λd _=>R.rt d
theorem aN(he:DE X c e te):pW X c (.Return (some e) pos) (FJ te):=#[(iW he.pe).imp λE σ H zz=>cZ zz λM s as R L q k =>
 #[M,s,as,_,L,q,λd s1 r M' H' v L' E' rv=>k.rt d M' H' v r L'.base rv]]
def QE(tc:kD)(t u:iZ):iZ:=λR s=>tc s λb s1=>if b=true then t R s1 else u R s1
theorem bS{x:Ch}{l r:!FM}{tc:kD}(hc:DT X c x tc)(ha:l8 X c l t)(hb:l8 X c r u):pW X c (.If x l r pos) (QE tc t u):=#[(Cz hc.pt ha.ps hb.ps).imp λE σ H zz=>cZ zz λM s as R L q k =>
 #[M,s,as,_,L,q,λb s1 r M' H' L' E'=>by
  cases b with
  | true=>exact lM #[M',s1,as,R,L',by simpa using r,k.grow (E'.grow L)]
  | false=>exact sH #[M',s1,as,R,L',by simpa using r,k.grow (E'.grow L)]]]
def Ac(i:Nat)(te:aZ):iZ:=λR s=>te s λd s1=>R.nx (s1.set i (.dat d))
theorem Ii{i:Nat}{Sy:TE}(h:∀ {σ H Q},tE X.K c te σ H Q->Sy σ H Q){E:Ends}{σ:St}{H:Hp}:tS X.K c (Ac i te) E σ H->jx Sy (dI i) E σ H:=λzz=>cZ zz λM s as R L q k =>
 h #[M,s,as,_,L,q,λd s1 r M' H' v L' E' rv=>k.nx _ as M' _ H' r (L'.zo i rv) (E'.grow L)]
theorem kI{i:Nat}(h:PS X st (jx (tE X.K c te) (dI i))):pW X c st (Ac i te):=#[h.imp λE σ H=>Ii λq=>q]
def ltB{α:Type}:Nat->!α->Bool
 | 0,[]=>false
 | _+1,[]=>false
 | 0,_::_=>true
 | k+1,_::r=>ltB k r
theorem BH{α:Type}:∀ {k:Nat} {l:!α},ltB k l=true->k < l.length
 | 0,[],h=>by cases h
 | _+1,[],h=>by cases h
 | 0,_::_,_=>by simp
 | k+1,_::r,h=>by
  have:=BH (k:=k) (l:=r) h;simp;cbv
def F0(i k:Nat)(te:aZ):iZ:=λR s=>te s λd s1=>(ltB k s1.os=true/\noRef k i s1.sl=true)/\R.nx #[s1.sl.set i (.own k),s1.os.set k (some d)]
theorem IZ{i k:Nat}(h:PS X st (jx (tN X.K c te) (dI i)))(hZ:c.g.pX.length<=k:=by first | exact WG _ | exact Wo _ | exact Yn (WG _)):pW X c st (F0 i k te):=#[h.imp λE σ H zz=>cZ zz λM s as R L q kk =>
 #[M,s,as,_,L,q,λd s1 #[#[hk,nr],r] M' H' a o L' E' ha ro nm ng nw h0 hn=>kk.nx _ _ M' _ H' r (L'.Pu i k (BH hk) nr ha ro nm ng nw h0 hZ) (E'.grow L)]]
abbrev o5:=D->DS->(DS->Prop)->Prop
abbrev wW:=!D->DS->(DS->Prop)->Prop
def tG(K:Frag)(c:Ent)(n:Nat)(g:o5):TG:=λv σ H Q=>∃ M s as d R,aA K c M s as σ H/\Rep K H M d v/\g d s R/\∀ s',R s'->∀ σ',aA K c M s' as σ' H->(∀ i,n<=i->σ'[i]?=σ[i]?)->s'.os=s.os->Q σ' H
def Vf(K:Frag)(c:Ent)(n:Nat)(g:wW):DV:=λvs σ H Q=>∃ M s as ds R,aA K c M s as σ H/\ay K H M ds vs/\g ds s R/\∀ s',R s'->∀ σ',aA K c M s' as σ' H->(∀ i,n<=i->σ'[i]?=σ[i]?)->s'.os=s.os->Q σ' H
structure DG(X:Cx)(c:Ent)(n:Nat)(tg:Ch)(g:o5):Prop where
 pg:PG X tg (tG X.K c n g)
structure NP(X:Cx)(c:Ent)(n:Nat)(ts:!Ch)(g:wW):Prop where
 pg:Gh X ts (Vf X.K c n g)
theorem _root_.L2.PG.imp{tg:Ch}{t t':TG}(h:PG X tg t)(w:∀ v σ H Q,t' v σ H Q->t v σ H Q):PG X tg t':=λTW s σ H v u Q I r q=>h TW s σ H v u Q I r (w v σ H Q q)
theorem _root_.L2.Gh.imp{tg:!Ch}{t t':DV}(h:Gh X tg t)(w:∀ v σ H Q,t' v σ H Q->t v σ H Q):Gh X tg t':=λTW s σ H v u Q I r q=>h TW s σ H v u Q I r (w v σ H Q q)
section
variable{n:Nat}{tg:Ch}{Gw:!Ch}{g:o5}{gs:wW}
def rR(i:Nat):o5:=λd s Q=>Q (s.set i (.dat d))
theorem j4{i:Nat}(h:PG X tg (dI i))(hi:i < n):DG X c n tg (rR i):=#[h.imp λv σ H Q z4q=>by let(M,s,as,d,R,L,r,q,k):=z4q;exact k _ q _ (L.zo i r) (λj hj=>Wx (by cbv)) U]
def Ml:wW:=λds s Q=>ds=[]/\Q s
def GF(g:o5)(gs:wW):wW:=λds s Q=>∃ d r,ds=d::r/\g d s λs1=>gs r s1 Q
theorem dE:NP X c n [] Ml:=#[ES.imp λv σ H Q z5q=>by
 let(M,s,as,ds,R,L,r,(e,q),k):=z5q;subst e;exact#[r,k s q σ L (λ_ _=>rfl) U]]
theorem aE(h1:DG X c n tg g)(h2:NP X c n Gw gs)(hs:((assignEach (tg::Gw) X.env).map (·.2)=assign tg X.env::(assignEach Gw X.env).map (·.2))⁻¹):NP X c n (tg::Gw) (GF g gs) :=
 #[(CM h1.pg h2.pg hs).imp λv σ H Q z6q=>by
   let(M,s,as,ds,R,L,r,(d,dr,e,q),k):=z6q;subst e;let(x,xr,rfl,r1,r2):=r;exact#[x,xr,U,M,s,as,d,_,L,r1,q,λs1 q1 σ1 L1 e1 o1=>#[M,s1,as,dr,R,L1,r2,q1,λs2 q2 σ2 Lb e2 o2=>k s2 q2 σ2 Lb (λi hi=>(e2 i hi).trans (e1 i hi)) (o2.trans o1)]]]
def Mt(m:Nat)(gs:wW):o5:=λd s Q=>∃ ds,d=.tup ds/\ds.length=m/\gs ds s Q
theorem dC{k m:Nat}(hc:X.calm=true)(h:NP X c n Gw gs)(hn:((assignEach Gw X.env).length=m)⁻¹)(nq:((assignEach Gw X.env).findIdx? (·.1)=none)⁻¹):DG X c n (.Tuple Gw k pos) (Mt m gs) :=
 #[(Ih hc h.pg hn nq).imp λv σ H Q z7q=>by
   let(M,s,as,d,R,L,r,(ds,e,hl,q),kk):=z7q;subst e;let(a,xs,rfl,t,r):=r;exact#[a,xs,U,t.sq,r.length.trans hl,M,s,as,ds,R,L,r,q,kk]]
def NG(te:aZ)(g:o5):iZ:=λR s=>te s λd s1=>g d s1 R.nx
theorem nF(he:DE X c e te)(hg:DG X c n tg g)(hs:(swapsWithSole [tg] e pos.line X.env=pure false)⁻¹)(hw:(swappedStores [tg] e X.env=pure none)⁻¹)(h1:((assignEach [tg] X.env).map (·.2)=[assign tg X.env])⁻¹):pW X c (.Assign [tg] e pos) (NG te g):=#[(Bx he.pe hg.pg hs hw h1).imp λE σ H zz=>cZ zz λM s as R L q k =>
 #[M,s,as,_,L,q,λd s1 r M' H' v L' E' rv=>#[M',s1,as,d,_,L',rv,r,λs2 q2 σ2 Lb _ _=>k.nx s2 as M' σ2 H' q2 Lb (E'.grow L)]]]
end
def Ub(K:Frag)(M:AC->Prop)(H:Hp)(d:D)(x:V)(H':Hp):Prop :=
 (H'=H/\Rep K H M d x)\/∃ p o,H p=none/\H'=upd H p o/\Rep K H' (λb=>M b\/b=p) d x
def GO(K:Frag)(M:AC->Prop)(H:Hp)(ds:!D)(J:It):Prop:=∀ M1 H1,dW M H M1 H1 ->
 (∀ i,ds.length<=i->J.stop i H1)/\∀ i d,ds[i]?=some d->J.go i H1/\∀ x H2,J.JZ i H1 x H2->Ub K M1 H1 d x H2
def tI(K:Frag)(c:Ent)(t:d8):TI:=λσ H R=>∃ M s as R0,aA K c M s as σ H/\t s R0/\∀ ds s',R0 ds s'->∀ M' H' J,aA K c M' s' as σ H'->Ext c as M s H M' s' H'->GO K M' H' ds J->ds.length<=FB->R J H'
structure DI(X:Cx)(c:Ent)(tg iter:Ch)(t:d8):Prop where
 pi:PI X tg iter (tI X.K c t)
def lR(g:o5)(tb:iZ)(R:iR):!D->DS->Prop
 | [],s=>R.nx s
 | x::xs,s=>g x s λs1=>tb { R with nx:=λs'=>lR g tb R xs s',ct:=λs'=>lR g tb R xs s',bk:=R.nx } s1
def GC(ti:d8)(g:o5)(tb:iZ):iZ:=λR s=>ti s λxs s1=>lR g tb R xs s1
theorem drop_cons{α:Type}{l:!α}{i:Nat}{x:α}(h:l[i]?=some x):l.drop i=x::l.drop (i+1):=by
 let(hl,e):=Wn.mp h;rw[W2 hl,e]
theorem MF{n:Nat}{tg iter:Ch}{body:!FM}{ti:d8}{g:o5}{tb:iZ}(hp:PassesOwn (model X.prog X.w) X.A X.env X.xe)(hc:X.calm=true)(hi:DI X c tg iter ti)(hg:DG X c n tg g)(hb:l8 X c body tb)(hs:YF iter X.env:=by intro _;rfl):pW X c (.For tg iter body [] pos) (GC ti g tb):=#[(Bq hp hc hi.pi hg.pg hb.ps hs).imp λE σ H zz=>cZ zz λM s as R L q k=>by
 show#[M,s,as,_,L,q,λxs s1 q1 M1 H1 J L1 E1 io hlen=>?_];show#[λi m σ' H'=>i<=xs.length/\m=xs.length - i/\∃ M' s' ki,aA X.K c M' s' ki σ' H'/\dW M1 H1 M' H'/\lR g tb R (xs.drop i) s',#[_,WG _,U,M1,s1,as,L1,.refl,q1],?_];rintro i m σ' H' ⟨hi,rfl,M',s',ki,L',G',q'⟩;let(h1,h2):=io M' H' G';by_cases hZ:i < xs.length
 .refine .inr ?_;have hx:xs[i]?=some xs[i]:=Wy hZ;let(hgo,hy):=h2 i _ hx;rw[drop_cons hx] at q';have next:∀ s2 as2 M2 σ2 H2,lR g tb R (xs.drop (i+1)) s2->aA X.K c M2 s2 as2 σ2 H2->dW M1 H1 M2 H2->∃ m',m' < xs.length - i/\(i+1<=xs.length/\m'=xs.length - (i+1)/\∃ M' s' ki,aA X.K c M' s' ki σ2 H2/\dW M1 H1 M' H2/\lR g tb R (xs.drop (i+1)) s') :=
   λs2 as2 M2 σ2 H2 f L2 G2=>#[xs.length - (i+1),by cbv,hZ,U,M2,s2,as2,L2,G2,f]
  show#[hgo,λσ2 H2=>∃ s2 as2 M2,lR g tb R (xs.drop (i+1)) s2/\aA X.K c M2 s2 as2 σ2 H2/\dW M1 H1 M2 H2,λσ2 H2 z8q=>by let(s2,as2,M2,f,L2,G2):=z8q;exact next s2 as2 M2 σ2 H2 f L2 G2,λx H2 y=>?_];have go:∀ M2,aA X.K c M2 s' ki σ' H2->Rep X.K H2 M2 xs[i] x->dW M1 H1 M2 H2->dW M H M2 H2->tG X.K c n g x σ' H2 λσ2 H2=>tS X.K c tb { nx:=λσ2 H2=>∃ s2 as2 M2,lR g tb R (xs.drop (i+1)) s2/\aA X.K c M2 s2 as2 σ2 H2/\dW M1 H1 M2 H2,rt:=E.rt,bk:=E.nx,ct:=λσ2 H2=>∃ s2 as2 M2,lR g tb R (xs.drop (i+1)) s2/\aA X.K c M2 s2 as2 σ2 H2/\dW M1 H1 M2 H2 } σ2 H2:=λM2 L2 r2 G2 G0 =>
   #[M2,s',ki,_,_,L2,r2,q',λs3 q3 σ3 L3 _ _=>#[M2,s3,ki,_,L3,q3,#[λs4 as4 M4 σ4 H4 f L4 G4=>#[s4,as4,M4,f,L4,G2.trans G4],λs4 as4 M4 σ4 H4 f L4 G4=>k.nx s4 as4 M4 σ4 H4 f L4 (G0.trans G4),λs4 as4 M4 σ4 H4 f L4 G4=>#[s4,as4,M4,f,L4,G2.trans G4],k.rt,k.rf,k.rs]]]
  rcases hy x H2 y with ⟨rfl,r⟩ | ⟨p,o,hp,rfl,r⟩
  .exact go M' L' r G' ((E1.grow L).trans G')
  .have G2:dW M' H' (λb=>M' b\/b=p) (upd H' p o):=λb mb=>#[.inl mb,λu e=>by rw[au (aD e hp)];exact e];exact go _ (L'.fresh hp) r (G'.trans G2) (((E1.grow L).trans G').trans G2)
 .have e:i=xs.length:=by cbv
  subst e;rw[Yo] at q';exact .inl #[h1 _ (Wo _),k.nx s' ki M' σ' H' q' L' ((E1.grow L).trans G')]]
def E9(tc:kD)(tb:iZ):iZ:=λR s=>∃ W:Nat->DS->Prop,(∃ m,W m s)/\∀ m s,W m s->tc s λb s1=>if b=true then tb { R with nx:=λs'=>∃ m',m' < m/\W m' s',ct:=λs'=>∃ m',m' < m/\W m' s',bk:=R.nx } s1 else R.nx s1
theorem tQ{x:Ch}{body:!FM}{tc:kD}{tb:iZ}(hp:PassesOwn (model X.prog X.w) X.A X.env X.xe)(hc:DT X c x tc)(hb:l8 X c body tb):pW X c (.While x body [] pos) (E9 tc tb):=#[(uZ hp hc.pt hb.ps).imp λE σ H z9q=>by
 let(M,s,as,R,L,(W,(m0,w0),turn),k):=z9q;show#[λm σ' H'=>∃ M' s' ki,aA X.K c M' s' ki σ' H'/\dW M H M' H'/\W m s',#[m0,M,s,as,L,.refl,w0],?_];rintro m σ' H' ⟨M',s',ki,L',G',w'⟩;show#[M',s',ki,_,L',turn m s' w',λb s1 q1 M1 H1 L1 E1=>?_];cases b with
 | true =>
  show lM #[λσ2 H2=>∃ s2 as2 M2,(∃ m',m' < m/\W m' s2)/\aA X.K c M2 s2 as2 σ2 H2/\dW M H M2 H2,λσ2 H2 z0q=>by let(s2,as2,M2,(m',hm,w2),L2,G2):=z0q;exact#[m',hm,M2,s2,as2,L2,G2,w2],?_];have G1:=G'.trans (E1.grow L');exact#[M1,s1,ki,{ R with nx:=λs'=>∃ m',m' < m/\W m' s',ct:=λs'=>∃ m',m' < m/\W m' s',bk:=R.nx },L1,by simpa using q1,#[λs4 as4 M4 σ4 H4 f L4 G4=>#[s4,as4,M4,f,L4,G1.trans G4],λs4 as4 M4 σ4 H4 f L4 G4=>k.nx s4 as4 M4 σ4 H4 f L4 (G1.trans G4),λs4 as4 M4 σ4 H4 f L4 G4=>#[s4,as4,M4,f,L4,G1.trans G4],k.rt,k.rf,k.rs]]
 | false=>exact sH (k.nx s1 ki M1 σ' H1 (by simpa using q1) L1 (G'.trans (E1.grow L')))]
end
abbrev YA:=!D->(D->Prop)->Prop
def cA(K:Frag)(g:zE)(t:YA):Sp:=λvs H Q _=>∃ M ds R,Base #[g,M,H] M H/\ay K H M ds vs/\t ds R/\∀ d,R d->∀ M' H' v,Base #[g,M,H] M' H'->Rep K H' M' d v->Q v H'
section
variable{K:Frag}{c:Ent}{M M' M1:AC->Prop}{s s' s1:DS}{as:!AC}{σ:St}{H H' H1:Hp}
theorem Base.here(B:Base c M H):Base #[c.g,M,H] M H:=#[B.pI,λ_ _ e _=>e,B.md,B.mo,λ_ m=>m,λ_ m=>.inl m]
theorem Base.qw(B:Base c M H):Base #[.no,M,H] M H:=#[trivial,λ_ _ e _=>e,B.md,λ_ _ h=>h,λ_ m=>m,λ_ m=>.inl m]
theorem Base.zN(B:Base c M H)(B':Base #[.no,M,H] M' H'):Base #[c.g,M,H] M' H' where
 pI:=c.g.loc H H' B.pI λb o _ e=>B'.fr b o e λz=>z
 fr:=λb o e _=>B'.fr b o e λz=>z
 md:=B'.md
 mo:=λb m g=>by
  rcases B'.mn b m with m | n | ⟨xs,n⟩
  .exact B.mo b m g
  .let(o,e):=c.g.JE H b B.pI g;have n:H b=none:=n;rw[n] at e;cases e
  .exact c.g.nt H b xs B.pI g n
 m0:=B'.m0
 mn:=B'.mn
theorem aA.after(L:aA K c M s as σ H)(B:Base #[c.g,M,H] M' H'):aA K c M' s as σ H' where
 base:=#[B.pI,λb o e g=>B.fr b o (L.base.fr b o e g) g,B.md,B.mo,λb m=>B.m0 b (L.base.m0 b m),λb m=>by
  rcases B.mn b m with m | n | ⟨xs,n⟩
  .exact L.base.mn b m
  .exact .inr (.inl (L.base.mH n))
  .have n:H b=some (.tup xs):=n;show .inr ?_;cases e:c.H0 b with
   | none=>exact .inl e
   | some o =>
    have:=L.base.fr b o e λg=>c.g.nt H b xs L.base.pI g n;rw[n] at this;cases this;exact .inr #[xs,e]]
 len:=L.len
 dX:=L.dX
 dat:=λi d e=>by
  let(v,h1,h2):=L.dat i d e;exact#[v,h1,Rep.mono B.m0 (λb o m e=>B.fr b o e (L.base.mo b m)) d v h2]
 own:=L.own
 obj:=λk d a h1 h2=>by
  let((o,q1,q2),nm,ng,h0):=L.obj k d a h1 h2;show#[#[o,B.fr a o q1 ng,q2.mono B.m0 λb o m e=>B.fr b o e (L.base.mo b m)],λm=>?_,ng,h0];rcases B.mn a m with m | n | ⟨xs,n⟩
  .exact nm m
  .have n:H a=none:=n;rw[n] at q1;cases q1
  .have n:H a=some (.tup xs):=n;rw[n] at q1;cases q1;exact q2.Er
 inj:=L.inj
 lt:=L.lt
theorem Ext.after(B:Base #[c.g,M,H] M' H'):Ext c as M s H M' s H':=#[B.m0,λb m=>by
 rcases B.mn b m with m | n
 .exact .inl m
 .exact .inr (.inl n),λb o e g _=>B.fr b o e g,λ_ h=>h]
end
section
variable{X:Cx}{c:Ent}{k:Nat}{f:AC}{fd:Gc}{ps:!Str}{t:YA}{x:Str}{p pos:Pos}{e:Ch}{es:!Ch}{ta:d8}
def lI(t:YA)(ta:d8):aZ:=λs Q=>ta s λds s1=>t ds λd=>Q d s1
theorem yX{σ:St}{H:Hp}{Q:VK}{n:Nat}{E:XK}:tE X.K c (lI t ta) σ H Q->AY (cA X.K c.g t) [] E (tA X.K c n ta) σ H Q:=λzz=>cZ zz λM s as R L q kk =>
 #[M,s,as,_,L,q,λds s1 q1 M1 H1 vs L1 E1 r1 hl=>#[M1,ds,_,L1.base.here,by rw[WH];exact r1,q1,λd rd M' H' v B rv=>kk d s1 rd M' H' v (L1.after B) (E1.trans L1.base (Ext.after B)) rv]]
theorem DP{σ:St}{H:Hp}{Q:VK}{n:Nat}{E:XK}:tE X.K c (lI t ta) σ H Q->AY (cA X.K .no t) [] E (tA X.K c n ta) σ H Q:=λzz=>cZ zz λM s as R L q kk =>
 #[M,s,as,_,L,q,λds s1 q1 M1 H1 vs L1 E1 r1 hl=>#[M1,ds,_,L1.base.qw,by rw[WH];exact r1,q1,λd rd M' H' v B rv=>kk d s1 rd M' H' v (L1.after (L1.base.zN B)) (E1.trans L1.base (Ext.after (L1.base.zN B))) rv]]
section
variable(hr:bU k X.A)(hg:Gl X x)(hm:X.mg x=some (.ref f))(hk:keepIn X.K (.ref f)=true)(hb:Binds X.K fd ps [])(ha:DA X c (e::es) ta)
include hr hg hm hk hb ha
theorem G6(F:bY X.prog X.w X.K X.mg X.base bu k f fd ps (cA X.K c.g t))(gH: ~~~(YD x))(he:(YB X.env e es)⁻¹)(eR:(YC X.env pos es)⁻¹) :
  DE X c (.Call (.Name x p) (e::es) [] pos) (lI t ta):=#[(jb F hr hg hm hk hb .nil (E:=E0) pz ha.pa gH he eR).imp λ_ _ _=>yX]
theorem Dt(F:bY X.prog X.w X.K X.mg X.base bu k f fd ps (cA X.K .no t))(gH: ~~~(YD x))(he:(YB X.env e es)⁻¹)(eR:(YC X.env pos es)⁻¹) :
  DE X c (.Call (.Name x p) (e::es) [] pos) (lI t ta):=#[(jb F hr hg hm hk hb .nil (E:=E0) pz ha.pa gH he eR).imp λ_ _ _=>DP]
end
end
def ei(n nos:Nat)(ds:!D):DS:=#[ds.map .dat++List.replicate (n - ds.length) .no,List.replicate nos none]
theorem jZ{K:Frag}{g:zE}{M:AC->Prop}{H:Hp}{N:!Str}{nos:Nat}{ds:!D}{vs:!V}(B:Base #[g,M,H] M H)(r:ay K H M ds vs)(hg:g.pX=[]):aA K #[g,M,H] M (ei N.length nos ds) (List.replicate nos 0) (L2.start N vs) H where
 base:=B
 len:=by
  have:=r.length;change (ds.map Sl.dat++List.replicate (N.length - ds.length) Sl.no).length=(vs.map some++List.replicate (N.length - vs.length) none).length;simp[this]
 dX:=by simp[ei]
 dat:=λi d h=>by
  have hl:=r.length;by_cases hi:i < ds.length
  .have h':(ds.map Sl.dat)[i]?=some (.dat d):=by
    rw[ei,List.getElem?_append_left (by simpa using hi)] at h;exact h
   rw[WZ] at h';let(e,h1,h2):=WD.mp h';cases h2;let(v,q1,q2):=r.get h1;show#[v,?_,q2];rw[L2.start,List.getElem?_append_left (by simp;cbv),List.getElem?_map,q1]
   rfl
  .rw[ei,List.getElem?_append_right (by simpa using hi)] at h;have:=Wn.mp h;let(_,e):=this;simp at e
 own:=λi k h=>by
  by_cases hi:i < ds.length
  .rw[ei,List.getElem?_append_left (by simpa using hi),List.getElem?_map] at h;let(e,h1,h2):=WD.mp h;cases h2
  .rw[ei,List.getElem?_append_right (by simpa using hi)] at h;let(_,e):=Wn.mp h;simp at e
 obj:=λk d a h=>by
  let(_,e):=Wn.mp h;simp[ei] at e
 inj:=λk l d e a h=>by
  let(_,e):=Wn.mp h;simp[ei] at e
 lt:=λk a h=>by
  have h:g.pX[k]?=some a:=h;rw[hg] at h;cases h
section
variable{P:Fa}{w:FS}{K:Frag}{mg:Str->Option AT}{base:Ev}
theorem Oc{x qual:Str}{st:FM}{f:AC}{fd:Gc}{N ps:!Str}{k nos:Nat}{g:zE}{t:YA}(F:ny K x qual st f fd)(S:aw N ps (ag st))(len:∀ ds R,t ds R->ds.length=ps.length)(hb:∀ (bq:AT) (A:Fk) (outer:!Env) (s:Da) (H:Hp) (E:XK) (M:AC->Prop),bU k (A.deeper (envOfC qual (ag st) ↑s f bq)) ->
   ∃ tb,l8 (jT bu P w K mg base N qual (ag st) f bq A outer s H E).xp #[g,M,H] (aG st) tb/\∀ ds R,t ds R->tb { nx:=λ_=>R .br,rt:=R } (ei N.length nos ds))(hg:(g.pX=[])⁻¹):bY P w K mg base bu (k+1) f fd ps (cA K g t):=by
 show F.ok S (λvs H Q E h=>?_) λbq A outer s H vs Q E hr h=>?_
 .let(M,ds,R,B,r,q,_):=h;rw[r.length];exact len ds R q
 .let(M,ds,R,B,r,q,kk):=h;let(tb,h1,h2):=hb bq A outer s H E M hr;exact#[_,h1.ps,M,_,_,_,jZ B r hg,h2 ds R q,#[λs as M' σ H' r L _=>kk .br r M' H' .br L.base U,λ_ _ _ _ _ z=>z.elim,λ_ _ _ _ _ z=>z.elim,λd M' H' v r B' rv=>kk d r M' H' v B' rv,λ_ _ _ _ _ z=>z.elim,λ_ _ _ _ _ _ _ z=>z.elim]]
end
section
variable{K:Frag}{c:Ent}{M M' M1 M3 M6:AC->Prop}{s s' s1 s6:DS}{as:!AC}{σ σ4:St}{H H' H1 H3 H6:Hp}{a p q:AC}{o:HO}{d:D}{v:V}
def gw(nt:Nat)(us:!Nat)(s:DS):DS:=#[List.replicate nt .no++us.map λj=>s.sl.getD j .no,s.os]
theorem qD{nt:Nat}{us:!Nat}{i:Nat}{x:Sl}(hx:x≠.no)(h:(gw nt us s).sl[i]?=some x):∃ j,us[i - nt]?=some j/\nt<=i/\s.sl[j]?=some x:=by
 by_cases hi:i < nt
 .rw[gw,List.getElem?_append_left (by simpa using hi)] at h;let(_,e):=Wn.mp h;simp at e;exact absurd e.symm hx
 .rw[gw,List.getElem?_append_right (by simpa using hi)] at h;simp only[List.length_replicate] at h;rw[WZ] at h;let(j,h1,h2):=WD.mp h;show#[j,h1,by cbv,?_];rw[Yb] at h2;cases e:s.sl[j]? with
  | none=>rw[e] at h2;exact absurd h2.symm hx
  | some y=>rw[e] at h2;exact congrArg some h2
theorem vh{nt:Nat}{us:!Nat}{i j:Nat}{v:V}(hj:us[i - nt]?=some j)(hi:nt<=i)(h:σ[j]?=some (some v)):(L2.lift nt us σ)[i]?=some (some v):=by
 rw[L2.lift,List.getElem?_append_right (by simpa using hi),List.length_replicate,List.getElem?_map,hj,Option.map_some,h]
 rfl
theorem aA.inner(L:aA K c M s as σ H)(nt:Nat)(us:!Nat):aA K c M (gw nt us s) as (L2.lift nt us σ) H where
 base:=L.base
 len:=by simp[gw,L2.lift]
 dX:=L.dX
 dat:=λi d h=>by
  let(j,h1,h2,h3):=qD (by intro z;cases z) h;let(v,g1,g2):=L.dat j d h3;exact#[v,vh h1 h2 g1,g2]
 own:=λi k h=>by
  let(j,h1,h2,h3):=qD (by intro z;cases z) h;let(v,g1,g2):=L.own j k h3;exact#[v,g1,vh h1 h2 g2]
 obj:=L.obj
 inj:=L.inj
 lt:=L.lt
theorem aA.outer(L:aA K c M s as σ H)(E:Ext c as M s1 H M6 s6 H6)(hs:s1.os=s.os)(L6:aA K c M6 s6 as σ4 H6):aA K c M6 #[s.sl,s6.os] as σ H6 where
 base:=L6.base
 len:=L.len
 dX:=L6.dX
 dat:=λi d h=>by
  let(v,g1,g2):=L.dat i d h;have E':Ext c as M s H M6 s6 H6:=#[E.sub,λb m=>by
   rcases E.new b m with h | h | ⟨k,e,h1,h2⟩
   .exact .inl h
   .exact .inr (.inl h)
   .exact .inr (.inr #[k,e,by rw[<- hs];exact h1,h2]),λb o e g w=>E.keep b o e g λ#[k,e,h1,h2]=>w #[k,e,by rw[<- hs];exact h1,h2],λb w=>by
   let(k,e,h1,h2):=E.jz b w;exact#[k,e,by rw[<- hs];exact h1,h2]]
  exact#[v,g1,E'.rep L g2]
 own:=L.own
 obj:=L6.obj
 inj:=L6.inj
 lt:=L6.lt
theorem Ext.os{s2 R3:DS}(E:Ext c as M s H M' s' H')(hs:s.os=s2.os)(Dd:s'.os=R3.os):Ext c as M s2 H M' R3 H':=#[E.sub,λb m=>by
   rcases E.new b m with h | h | ⟨k,e,h1,h2⟩
   .exact .inl h
   .exact .inr (.inl h)
   .exact .inr (.inr #[k,e,by rw[<- hs];exact h1,h2]),λb o e g w=>E.keep b o e g λ#[k,e,h1,h2]=>w #[k,e,by rw[<- hs];exact h1,h2],λb z6r=>by
   let(k,e,h1,h2):=z6r;let(k,e,h1,h2):=E.jz b #[k,e,by rw[Dd];exact h1,h2];exact#[k,e,by rw[<- hs];exact h1,h2]]
theorem aA.wr{ys:!V}(L:aA K c M s as σ H)(hq:H q=some (.lst ys))(nm:¬ M q)(ng:¬ c.g.own q)(nw:¬ eO s as q)(h0:c.H0 q=none):aA K c M s as σ (upd H q o):=by
 have kp:∀ b u,b≠q->H b=some u->upd H q o b=some u:=λb u ne e=>by rw[au ne];exact e
 have km:∀ b u,M b->H b=some u->upd H q o b=some u:=λb u m e=>kp b u (λz=>nm (z▸m)) e;show#[#[c.g.loc H _ L.base.pI λb u g e=>kp b u (λz=>g.elim (λg=>ng (z▸g)) λ#[φ,f]=>by subst f;rw[z,hq] at e;cases e) e,λb u e g=>kp b u (λz=>by rw[z,h0] at e;cases e) (L.base.fr b u e g),λb m=>?_,L.base.mo,L.base.m0,L.base.mn],L.len,L.dX,λi e h=>?_,L.own,λl e b h1 h2=>?_,L.inj,L.lt]
 .let(u,e):=L.base.md b m;exact#[u,km b u m e]
 .let(w,h1,h2):=L.dat i e h;exact#[w,h1,Rep.mono (λ_ m=>m) km e w h2]
 .let((u,q1,q2),q3):=L.obj l e b h1 h2;show#[#[u,kp b u (λz=>?_) q1,q2.mono (λ_ m=>m) km],q3];subst z;exact nw #[l,e,h1,h2]
theorem Ext.wr(hn:H q=none)(E:Ext c as M s H M' s' H'):Ext c as M s H M' s' (upd H' q o):=#[E.sub,E.new,λb u e g w=>by
 rw[au (aD e hn)];exact E.keep b u e g w,E.jz]
theorem A9(L:aA K c M s as σ H)(E1:Ext c as M s H M1 s1 H1)(ng:¬ c.g.own a)(hn:H1 a=none):H a=none\/eO s as a:=by
 cases q:H a with
 | none=>exact .inl U
 | some u =>
  by_cases w:eO s as a
  .exact .inr w
  .have:=E1.keep a u q ng w;rw[hn] at this;cases this
end
def b6(nt:Nat)(us:!Nat)(g:o5)(ti:kD)(te:aZ):!D->!D->DS->(!D->DS->Prop)->Prop
 | [],acc,s,Q=>Q acc s
 | x::xs,acc,s,Q=>g x (gw nt us s) λs1=>ti s1 λb s2=>if b=true then te s2 λy s3=>b6 nt us g ti te xs (acc++[y]) #[s.sl,s3.os] Q else b6 nt us g ti te xs acc #[s.sl,s2.os] Q
def oN(nt:Nat)(us:!Nat)(tx:d8)(g:o5)(ti:kD)(te:aZ):aZ:=λs Q=>tx s λxs s1=>b6 nt us g ti te xs [] s1 λys s2=>Q (.lst ys) s2
structure Mj(X:Cx)(c:Ent)(ifs:!Ch)(t:kD):Prop where
 Th:JT X ifs (tT X.K c t)
section
variable{X:Cx}{c:Ent}{e:Ch}{pos:Pos}
def cV:kD:=λs Q=>Q true s
theorem du:Mj X c [] cV:=#[λTW s σ H Q I z4q=>by let(M,s',as,R,L,q,k):=z4q;exact sE TW s σ H Q I (k true s' q M H L .refl)]
theorem eK{t:kD}(h:DT X c e t):Mj X c [e] t:=#[xa h.pt]
end
section
variable{X:Cx}{c:Ent}{ts:!Str}{us:!Nat}{scope:Scope}{tg elt iter:Ch}{ifs:!Ch}{pos:Pos}{tx:d8}{g:o5}{ti:kD}{te:aZ}
theorem ye{σ:St}{H:Hp}{Q:VK}:tN X.K c (oN ts.length us tx g ti te) σ H Q->uz ts.length us (tI X.K c tx) (tG X.K c ts.length g) (tT X.K c ti) (tE X.K c te) σ H Q:=λzz=>cZ zz λM s as R L q k=>by
 show#[M,s,as,_,L,q,λxs s1 q1 M1 H1 J L1 E1 io hlen=>?_];intro A hA;let(n1,n2,n3,n4):=notM L1 hA;show#[λi m ys H2=>i<=xs.length/\m=xs.length - i/\ys.length<=i/\∃ M' s' zs,aA X.K c M' s' as σ H2/\Ext c as M1 s1 H1 M' s' H2/\H2 A=some (.lst ys)/\ay X.K H2 M' zs ys/\¬ M' A/\b6 ts.length us g ti te (xs.drop i) zs s' λys s2=>R (.lst ys) s2,
  #[_,WG _,U,Wo _,M1,s1,[],L1.laid hA,Ext.laid hA,ax,U,n1,q1],?_]
 rintro i m ys H2 ⟨hi,rfl,hy,M',s',zs,L',E',hD,rz,nm,q'⟩;have nw:∀ {EZ:DS},(∀ b,eO EZ as b->eO s' as b)->¬ eO EZ as A:=λh w=>n3 (E'.jz A (h A w));show#[hD,?_];have G':dW M1 H1 M' H2:=E'.grow L1;let(h1,h2):=io M' H2 G';by_cases hZ:i < xs.length
 .refine .inr ?_;have hx:xs[i]?=some xs[i]:=Wy hZ;let(hgo,hyl):=h2 i _ hx;rw[drop_cons hx] at q';show#[hgo,by cbv,λx H3 y=>?_];have go:∀ M3,aA X.K c M3 s' as σ H3->Rep X.K H3 M3 xs[i] x->Ext c as M' s' H2 M3 s' H3->H3 A=some (.lst ys)->¬ M3 A->tG X.K c ts.length g x (L2.lift ts.length us σ) H3 λσ4 H4=>CW (L2.lift ts.length us σ) σ4/\tT X.K c ti σ4 H4 λb H5 =>
    if b=true then tE X.K c te σ4 H5 λy H6=>H6 A=some (.lst ys)/\∃ m',m' < xs.length - i/\(i+1<=xs.length/\m'=xs.length - (i+1)/\(ys++[y]).length<=i+1/\∃ M' s' zs,aA X.K c M' s' as σ (upd H6 A (.lst (ys++[y])))/\Ext c as M1 s1 H1 M' s' (upd H6 A (.lst (ys++[y])))/\upd H6 A (.lst (ys++[y])) A=some (.lst (ys++[y]))/\ay X.K (upd H6 A (.lst (ys++[y]))) M' zs (ys++[y])/\¬ M' A/\b6 ts.length us g ti te (xs.drop (i+1)) zs s' λys s2=>R (.lst ys) s2)
    else ∃ m',m' < xs.length - i/\(i+1<=xs.length/\m'=xs.length - (i+1)/\ys.length<=i+1/\∃ M' s' zs,aA X.K c M' s' as σ H5/\Ext c as M1 s1 H1 M' s' H5/\H5 A=some (.lst ys)/\ay X.K H5 M' zs ys/\¬ M' A/\b6 ts.length us g ti te (xs.drop (i+1)) zs s' λys s2=>R (.lst ys) s2):=by
   intro M3 L3 r3 E3 hD3 Qy;show#[M3,_,as,_,_,L3.inner ts.length us,r3,q',λs4 q4 σ4 L4 e4 o4=>#[λj v hj=>?_,M3,s4,as,_,L4,q4,λb s5 r5 M5 H5 L5 E5=>?_]]
   .by_cases hjn:j < ts.length
    .rw[L2.lift,List.getElem?_append_left (by simpa using hjn)] at hj;let(_,e):=Wn.mp hj;simp at e
    .rw[e4 j (by cbv)];exact hj
   .have E5':Ext c as M3 s' H3 M5 #[s'.sl,s5.os] H5:=E5.os o4 U;have L5':aA X.K c M5 #[s'.sl,s5.os] as σ H5:=L3.outer E5 o4 L5;have F5:Ext c as M' s' H2 M5 #[s'.sl,s5.os] H5:=E3.trans L3.base E5';have hD5:H5 A=some (.lst ys):=E5'.keep A _ hD3 n2 (nw λ_ h=>h);have NX:¬ M5 A:=λm=>by
     rcases E5'.new A m with m | (m | ⟨_,m⟩) | m
     .exact Qy m
     .rw[hD3] at m;cases m
     .rw[hD3] at m;cases m
     .exact nw (λ_ h=>h) m
    cases b with
    | false =>
     rw[if_neg WC] at r5;show sH ?_;exact#[xs.length - (i+1),by cbv,hZ,U,by cbv,M5,_,zs,L5',E'.trans L'.base F5,hD5,F5.tR L' rz,NX,r5]
    | true =>
     rw[if_pos U] at r5;show lM ?_;show#[M5,s5,as,_,L5,r5,λy s6 r6 M6 H6 v L6 E6 rv=>?_];have E6':Ext c as M5 #[s'.sl,s5.os] H5 M6 #[s'.sl,s6.os] H6:=E6.os U U;have L6':aA X.K c M6 #[s'.sl,s6.os] as σ H6:=L5'.outer E6 U L6;have F6:Ext c as M' s' H2 M6 #[s'.sl,s6.os] H6:=F5.trans L5'.base E6';have hD6:H6 A=some (.lst ys):=E6'.keep A _ hD5 n2 (nw F5.jz);have MW:¬ M6 A:=λm=>by
      rcases E6'.new A m with m | (m | ⟨_,m⟩) | m
      .exact NX m
      .rw[hD5] at m;cases m
      .rw[hD5] at m;cases m
      .exact nw F5.jz m
     have kM:∀ b u,M6 b->H6 b=some u->upd H6 A (.lst (ys++[v])) b=some u:=λb u mb e=>by
      have ne:b≠A:=λz=>by
       subst z;exact MW mb
      rw[au ne];exact e
     show#[hD6,xs.length - (i+1),by cbv,hZ,U,by simp;cbv,M6,_,zs++[y],L6'.wr hD6 MW n2 (nw F6.jz) n4,(E'.trans L'.base F6).wr hA,ax,?_,MW,r6];exact ay.mono (λ_ h=>h) kM _ _ ((F6.tR L' rz).append (ay.one rv))
  rcases hyl x H3 y with ⟨rfl,r⟩ | ⟨p,o,hp,rfl,r⟩
  .exact go M' L' r .refl hD nm
  .have hpA:A≠p:=aD hD hp;exact go _ (L'.fresh hp) r (Ext.fresh hp) (by rw[au hpA];exact hD) λm=>by
    rcases m with m | m
    .exact nm m
    .exact hpA m
 .have e:i=xs.length:=by cbv
  subst e;rw[Yo] at q';show .inl #[h1 _ (Wo _),k _ s' q' M' H2 A _ L' (E1.trans L1.base E') hD rz nm n2 (nw λ_ h=>h) n4 (A9 L E1 n2 hA)]
theorem Iw(S:bJ X ts us scope)(hc:X.calm=true)(hi:DI X c tg iter tx)(hg:∀ C s H fp,DG (X.comp ts us scope C s H fp) c ts.length tg g)(Bi:∀ C s H fp,Mj (X.comp ts us scope C s H fp) c ifs ti)(he:∀ C s H fp,DE (X.comp ts us scope C s H fp) c elt te)(hs:YF iter X.env:=by intro _;rfl):DN X c (.ListComp elt [#[tg,iter,ifs,0]] scope pos) (oN ts.length us tx g ti te) :=
 #[(sA S hc hi.pi (λC s H fp=>(hg C s H fp).pg) (λC s H fp=>(Bi C s H fp).Th) (λC s H fp=>(he C s H fp).pe) hs).imp λ_ _ _=>ye]
theorem lX{i:Nat}{x:Str}{px CO:Pos}(hN:X.N.Nodup)(sT:X.N[i]?=some x)(hx:X.env.scope.names.lookup x=some .local)(S:bJ X ts us scope)(hc:X.calm=true)(hi:DI X c tg iter tx)(hg:∀ C s H fp,DG (X.comp ts us scope C s H fp) c ts.length tg g)(Bi:∀ C s H fp,Mj (X.comp ts us scope C s H fp) c ifs ti)(he:∀ C s H fp,DE (X.comp ts us scope C s H fp) c elt te)(Jy:(swapsWith (.ListComp elt [#[tg,iter,ifs,0]] scope pos) (some (.Name x px)) CO.line X.env=pure true)⁻¹)(hs:YF iter X.env:=by intro _;rfl):PS X (.Assign [.Name x px] (.ListComp elt [#[tg,iter,ifs,0]] scope pos) CO) (jx (tN X.K c (oN ts.length us tx g ti te)) (dI i)) :=
 (yg hN sT hx S hc hi.pi (λC s H fp=>(hg C s H fp).pg) (λC s H fp=>(Bi C s H fp).Th) (λC s H fp=>(he C s H fp).pe) Jy hs).imp λE σ H q=>ye q
theorem qk{i:Nat}{st:FM}{te:aZ}(h:PS X st (jx (tN X.K c te) (dI i))):PS X st (jx (tE X.K c te) (dI i)):=h.imp λE σ H zz=>cZ zz λM s as R L q k =>
 #[M,s,as,R,L,q,λd s' r M' H' a o L' E ha ro nm ng nw h0 hn =>
  k d s' r _ H' (.ref a) (L'.grown ha ng nw h0) (E.plus hn) ((ro.mono (λ_ h=>.inl h) λ_ _ _ e=>e).rep ha (.inr U))]
end
end DL
namespace HT
open PySem PyProof.Rows
variable{prog:Fa}{w:FS}{A:Fk}{E:Yy}{s:Da}
theorem jA{t sl:AC}{items:Array AT}{vl vu:AT}{lo hi:Option Int}{Q:Yy}(ht:IsTup s.heap t items)(hs:s.heap.IsSliceOf sl vl vu .none)(pl:IsPart vl lo)(pu:IsPart vu hi)(hw:cq items.size 0 lo=0/\cq items.size items.size hi=items.size)(h:Q (.ref t) s):EQ (model prog w) A (getItem (.ref t) (.ref sl)) Q E s:=by
 let(os,pV,hcs,hds):=id hs;have hTs:s.TypeIs (.ref sl) "slice":=#[os,pV,hcs];unfold getItem
 try with_reducible show PP ?_
 first | show Db (Fr ?_) | skip
 show Db (wpAny_sequenceKey ht.typeIs () ?_);show Db (wpAny_callSpecial?_slot (name:=Str.ofString "__getitem__") ht.typeIs PyProof.Rows.slot_tuple_getitem
  (SZ PyProof.Rows.slot_tuple_getitem ht.typeIs entry_tuple_getitem ?_ (args_tuple_getitem _ _)))
 change EQ _ _ (GE.Tuple.tupleItemsOf (.ref t) >>= _) _ _ s;show Db (tupleItemsOf_ ht ?_);show Db (wpAny_typeOf hTs ?_);rw[if_pos ()];show Db (gB hs pl pu ?_);have hno:(((cq items.size 0 lo:Nat):Int) == 0&&(1:Int) == 1&&(cq items.size items.size hi - cq items.size 0 lo) == items.size)=true:=by
  rw[hw.1,hw.2];simp
 change EQ _ _ (if (((cq items.size 0 lo:Nat):Int) == 0&&(1:Int) == 1&&(cq items.size items.size hi - cq items.size 0 lo) == items.size)=true then _ else _) _ _ s;rw[if_pos hno];show Db (m:=GE.Tuple.tupleIsExact (.ref t)) (Db (wpAny_typeOf ht.typeIs (Fr ?_)));rw[if_pos ()];exact Db (wpAny_rule (Fr #[_,U,Fr h]))
end HT
namespace L2
open PySem PySem.Spec PyProof.Rows
section
variable{X:Cx}
def Nf(K:Frag):V->Option Int->Option Int->Hp->VK->Prop:=λx lo hi H Q=>∃ a xs,x=.ref a/\iu K H a xs /\
 ((HT.cq xs.length 0 lo=0/\HT.cq xs.length xs.length hi=xs.length)->Q (.ref a) H)/\(¬ (HT.cq xs.length 0 lo=0/\HT.cq xs.length xs.length hi=xs.length)->∀ p,H p=none->Q (.ref p) (upd H p (.tup (jU xs lo hi))))
theorem Eb:MP X (Nf X.K):=by
 intro TW s σ H x v vl vu lo hi sl Q I rx hs pl pu h;let(a,xs,rfl,hx,q1,q2):=h;by_cases hw:HT.cq xs.length 0 lo=0/\HT.cq xs.length xs.length hi=xs.length
 .cases rx;let(its,r,ht,hz):=I.tuple hx;have hlen:its.toArray.size=xs.length:=by rw[WL];exact r.length.symm
  exact#["tuple",_,PyProof.Rows.slot_tuple_getitem.lookup,ht.typeIs,HT.jA ht hs pl pu (by rw[hlen];exact hw) #[.ref a,H,I,U,q1 hw]]
 .exact GS TW s σ H _ v vl vu lo hi sl Q I rx hs pl pu #[a,xs,U,hx,hw,q2 hw]
def Po(K:Frag)(tl:TE):TI:=λσ H R=>tl σ H λx H1=>∃ a,x=.ref a/\((∃ xs,dO K H1 a xs/\(xs.length<=FB->R (HR K a) H1))\/∃ xs,iu K H1 a xs/\(xs.length<=FB->R (Tc K a) H1))
theorem G7{tg l:Ch}{tl:TE}(hl:PE X l tl):PI X tg l (Po X.K tl):=by
 intro TW s σ H R I h;show bW (hl TW s σ H _ I h) λv s1 zz=>el2 zz λx H1 I1 r1 q1=>?_;let(a,e,q1):=q1;subst e;cases r1;have fp:∀ b∈[↑s1],iq X TW H1 b:=λb hb=>by
  have e:b=↑s1:=by simpa using hb
  subst e;exact I1.rK (Wo _) (I1.bf.fresh (Wo _))
 rcases q1 with ⟨xs,hq,q⟩ | ⟨xs,hq,q⟩
 .let(its,rv,p,hz):=I1.list hq;show wpAny_pyIter_list p.isList ?_;exact#[↑s1,[↑s1],_,_,H1,U,I1.kept (t':=s1.toks) λb o e=>Wl _ e,qb a _,#[_,Wz _ U,U,U],fp,q hz]
 .let(its,rv,p,hz):=I1.tuple hq;show wpAny_pyIter_tuple (show s1.heap.IsTuple a its.toArray from p) ?_;exact#[↑s1,[↑s1],_,_,H1,U,I1.kept (t':=s1.toks) λb o e=>Wl _ e,wK a _,#[_,Wz _ U,U,U],fp,q hz]
end
end L2
namespace DL
open PySem PySem.Spec L2
open PyProof.Rows hiding St
section
variable{X:Cx}{c:Ent}
def cI(P:Int->Int->Prop)(f:Int->Int->Int):D->D->(D->Prop)->Prop:=λa b k=>∃ i j,a=.int i/\b=.int j/\P i j/\k (.int (f i j))
def R6(f:Int->Int->Int):D->D->(D->Prop)->Prop:=λa b k=>∃ i j,a=.int i/\b=.int j/\k (.int (f i j))
def Vv(f:Int->Int->Bool):D->D->(D->Prop)->Prop:=λa b k=>∃ i j,a=.int i/\b=.int j/\k (.bl (f i j))
theorem z6{P:Int->Int->Prop}{f:Int->Int->Int}:m7 X c (rI P λi j=>.int (f i j)) (cI P f):=λM s as σ H x y dx dy k Q L rx ry z7r kk=>by
 let(i,j,e1,e2,hp,hk):=z7r;subst e1;subst e2;exact#[i,j,rx,ry,hp,kk _ hk M H _ L .refl U]
theorem fN{f:Int->Int->Int}:m7 X c (rH λi j=>.int (f i j)) (R6 f):=λM s as σ H x y dx dy k Q L rx ry z8r kk=>by
 let(i,j,e1,e2,hk):=z8r;subst e1;subst e2;exact#[i,j,rx,ry,kk _ hk M H _ L .refl U]
theorem mT{f:Int->Int->Bool}:m7 X c (rH λi j=>.bl (f i j)) (Vv f):=λM s as σ H x y dx dy k Q L rx ry z9r kk=>by
 let(i,j,e1,e2,hk):=z9r;subst e1;subst e2;exact#[i,j,rx,ry,kk _ hk M H _ L .refl U]
def fv:D->V
 | .br=>.br
 | .bl b=>.bl b
 | .int i=>.int i
 | .str x=>.str x
 | .ty n=>.ty n
 | .cT a=>.ref a
 | _=>.ref 0
def gy:D->Bool
 | .br=>true
 | .bl _=>true
 | .int _=>true
 | .str _=>true
 | _=>false
theorem Rep.flat{K:Frag}{H:Hp}{M:AC->Prop}{d:D}{v:V}(f:gy d=true)(r:Rep K H M d v):v=fv d:=by
 cases d<;>first | exact r | (cases f)
theorem pF{d:D}(f:gy d=true):jF (fv d)=true:=by
 cases d<;>first | rfl | (cases f)
theorem ay.flat{K:Frag}{H:Hp}{M:AC->Prop}:∀ {ds:!D} {vs:!V},ds.all gy=true->ay K H M ds vs->vs=ds.map fv/\vs.all jF=true
 | [],vs,f,r=>by
  have r:vs=[]:=r;subst r;exact#[U,U]
 | d::ds,vs,f,r=>by
  let(x,xr,rfl,r1,r2):=r;rw[Ym,W4] at f;let(h1,h2):=ay.flat f.2 r2;have e:=r1.flat f.1;subst e;exact#[by rw[Wu,h1],by rw[Ym,h2,pF f.1];rfl]
def VH:D->D->(D->Prop)->Prop:=λa b k=>(gy a=true/\gy b=true/\EK (fv a) (fv b)=true)/\k (.bl (decide (fv a=fv b)))
def Ve:D->D->(D->Prop)->Prop:=λa b k=>(gy a=true/\gy b=true/\EK (fv a) (fv b)=true)/\k (.bl (not (decide (fv a=fv b))))
theorem cf:m7 X c QC VH:=λM s as σ H x y dx dy k Q L rx ry z0r kk=>by
 let((f1,f2,hs),hk):=z0r;have e1:=rx.flat f1;have e2:=ry.flat f2;subst e1;subst e2;exact#[hs,kk _ hk M H _ L .refl U]
theorem Dz:m7 X c SU Ve:=λM s as σ H x y dx dy k Q L rx ry z1r kk=>by
 let((f1,f2,hs),hk):=z1r;have e1:=rx.flat f1;have e2:=ry.flat f2;subst e1;subst e2;exact#[hs,kk _ hk M H _ L .refl U]
def TX(neg:Bool):D->D->(D->Prop)->Prop:=λa b k=>∃ ds,(b=.lst ds\/b=.tup ds)/\(gy a=true/\ds.all gy=true)/\k (.bl (if neg then (not (y0 (fv a) (ds.map fv))) else y0 (fv a) (ds.map fv)))
theorem okIn{neg:Bool}:m7 X c (JR X.K neg) (TX neg):=λM s as σ H x y dx dy k Q L rx ry z2r kk=>by
 let(ds,hb,(f1,f2),hk):=z2r;have e1:=rx.flat f1;subst e1;have go:∀ {p xs},ay X.K H M ds xs->(dO X.K H p xs\/iu X.K H p xs)->JR X.K neg (fv dx) (.ref p) H Q:=λ{p xs} r h=>by
  let(e,f):=r.flat f2;show#[p,xs,U,h,pF f1,f,?_];rw[e];exact kk _ hk M H _ L .refl U
 rcases hb with rfl | rfl
 .let(p,xs,rfl,(m,h),r):=ry;exact go r (.inl (.of h))
 .let(p,xs,rfl,h,r):=ry;exact go r (.inr h.sq)
theorem ay.at{K:Frag}{H:Hp}{M:AC->Prop}{ds:!D}{vs:!V}{i:Int}{d:D}(r:ay K H M ds vs)(h:gR ds i=some d):∃ v,gR vs i=some v/\Rep K H M d v:=by
 unfold gR at h ⊢;rw[r.length];cases e:Au ds.length i with
 | none=>rw[e] at h;cases h
 | some j =>
  rw[e] at h;exact r.get h
def LI:D->D->(D->Prop)->Prop:=λa b k=>∃ ds i d,a=.tup ds/\b=.int i/\gR ds i=some d/\k d
def Iv:D->D->(D->Prop)->Prop:=λa b k=>∃ ds i d,a=.lst ds/\b=.int i/\gR ds i=some d/\k d
def Q5:D->D->(D->Prop)->Prop:=λa b k=>∃ z i ch,a=.str z/\b=.int i/\z.length<=FB/\gR z.cps.toList i=some ch/\k (.str #[#v[ch]])
theorem KO:m7 X c (KR X.K) LI:=λM s as σ H x y dx dy k Q L rx ry z3r kk=>by
 let(ds,i,d,e1,e2,h,hk):=z3r;subst e1;subst e2;let(p,xs,rfl,t,r):=rx;let(v,h1,h2):=r.at h;exact#[p,xs,i,v,U,ry,t.sq,h1,kk _ hk M H _ L .refl h2]
theorem NF:m7 X c (Il X.K) Iv:=λM s as σ H x y dx dy k Q L rx ry z4r kk=>by
 let(ds,i,d,e1,e2,h,hk):=z4r;subst e1;subst e2;let(p,xs,rfl,(m,t),r):=rx;let(v,h1,h2):=r.at h;exact#[p,xs,i,v,U,ry,.of t,h1,kk _ hk M H _ L .refl h2]
theorem oh:m7 X c LN Q5:=λM s as σ H x y dx dy k Q L rx ry z5r kk=>by
 let(z,i,ch,e1,e2,hz,h,hk):=z5r;subst e1;subst e2;exact#[z,i,ch,rx,ry,hz,h,kk _ hk M H _ L .refl U]
def RC:D->D->(D->Prop)->Prop:=λa b k=>∃ xs ys,a=.lst xs/\b=.lst ys/\xs.length+ys.length<=FB/\k (.lst (xs++ys))
theorem cO:Jg X c LU RC:=λM s as σ H x y dx dy k Q L rx ry z6r kk=>by
 let(xs,ys,e1,e2,hl,hk):=z6r;subst e1;subst e2;let(p,vs,rfl,(m,t),r):=rx;let(p',Ow,rfl,(m',t'),r'):=ry;exact#[p,p',vs,Ow,U,U,t,t',by rw[r.length,r'.length];exact hl,λq hq=>kk _ hk q _ hq (r.append r')]
abbrev Ei:=DS->(Option Int->DS->Prop)->Prop
def tO(K:Frag)(c:Ent)(t:Ei):TO:=λσ H Q=>∃ M s as R,aA K c M s as σ H/\t s R/\∀ o s',R o s'->∀ M' H',aA K c M' s' as σ H'->Ext c as M s H M' s' H'->Q o H'
structure DO(X:Cx)(c:Ent)(e:Option Ch)(t:Ei):Prop where
 po:PO X e (tO X.K c t)
theorem _root_.L2.PO.imp{e:Option Ch}{t t':TO}(h:PO X e t)(w:∀ σ H Q,t' σ H Q->t σ H Q):PO X e t':=λTW s σ H Q I q=>h TW s σ H Q I (w σ H Q q)
def Qj:Ei:=λs Q=>Q none s
def Ig(te:aZ):Ei:=λs Q=>te s λd s1=>∃ i,d=.int i/\Q (some i) s1
theorem bw:DO X c none Qj:=#[yk.imp λσ H Q zz=>cZ zz λM s as R L q k=>k none s q M H L .refl]
theorem aL{e:Ch}{te:aZ}(h:DE X c e te):DO X c (some e) (Ig te):=#[(nE h.pe).imp λσ H Q zz=>cZ zz λM s as R L q k =>
 #[M,s,as,_,L,q,λd s1 z7r M' H' v L' E' rv=>by
  let(i,e,r):=z7r;subst e;exact#[i,rv,k (some i) s1 r M' H' L' E']]]
def cutD(xs:!D)(lo hi:Option Int):!D:=(xs.drop (HT.cq xs.length 0 lo)).take (HT.cq xs.length xs.length hi - HT.cq xs.length 0 lo)
theorem ay.cut{K:Frag}{H:Hp}{M:AC->Prop}{ds:!D}{vs:!V}(lo hi:Option Int)(r:ay K H M ds vs):ay K H M (cutD ds lo hi) (jU vs lo hi):=by
 unfold cutD jU;rw[r.length];exact (r.drop _).take _
def LM(te:aZ)(tl th:Ei)(k:!D->Option Int->Option Int->(D->Prop)->D->Prop):aZ:=λs Q=>te s λa s1=>tl s1 λl s2=>th s2 λu s3=>∃ ds,k ds l u (λd=>Q d s3) a
def V4:!D->Option Int->Option Int->(D->Prop)->D->Prop:=λds l u Q a=>a=.lst ds/\Q (.lst (cutD ds l u))
def UL:!D->Option Int->Option Int->(D->Prop)->D->Prop:=λds l u Q a=>a=.tup ds/\Q (.tup (cutD ds l u))
theorem dP{e:Ch}{lo hi:Option Ch}{te:aZ}{tl th:Ei}{p2 pos:Pos}(he:DE X c e te)(hl:DO X c lo tl)(hu:DO X c hi th):DN X c (.Subscript e (.Slice lo hi none p2) pos) (LM te tl th V4):=#[(i3 sR he.pe hl.po hu.po).imp λσ H Q zz=>cZ zz λM s as R L q k =>
 #[M,s,as,_,L,q,λd s1 q1 M1 H1 v L1 E1 rv=>#[M1,s1,as,_,L1,q1,λl s2 q2 M2 H2 Lb E2=>#[M2,s2,as,_,Lb,q2,λu s3 q3 M3 H3 Lc E3=>by
  let(ds,e,q):=q3;subst e;have E13:=E2.trans Lb.base E3;let(p,xs,rfl,(m,t),r):=E13.rep L1 rv;exact#[p,xs,U,.of t,λb hb=>jO (d:=.lst _) L Lc (E1.trans L1.base E13) hb (r.cut l u) (k _ s3 q)]]]]]
theorem B2{e:Ch}{lo hi:Option Ch}{te:aZ}{tl th:Ei}{p2 pos:Pos}(he:DE X c e te)(hl:DO X c lo tl)(hu:DO X c hi th):DE X c (.Subscript e (.Slice lo hi none p2) pos) (LM te tl th UL):=#[(i3 Eb he.pe hl.po hu.po).imp λσ H Q zz=>cZ zz λM s as R L q k =>
 #[M,s,as,_,L,q,λd s1 q1 M1 H1 v L1 E1 rv=>#[M1,s1,as,_,L1,q1,λl s2 q2 M2 H2 Lb E2=>#[M2,s2,as,_,Lb,q2,λu s3 q3 M3 H3 Lc E3=>by
  let(ds,e,q):=q3;subst e;have E13:=E2.trans Lb.base E3;have E0:=E1.trans L1.base E13;let(p,xs,rfl,t,r):=E13.rep L1 rv;show#[p,xs,U,t.sq,λhw=>?_,λhw b hb=>?_]
  .have e:cutD ds l u=ds:=by
    unfold cutD;rw[<- r.length,hw.1,hw.2,XG,r.length,Nat.sub_zero,List.take_length]
   rw[e] at q;exact k _ s3 q M3 H3 _ Lc E0 #[p,xs,U,t,r]
  .exact k _ s3 q _ _ _ (Lc.fresh hb) (E0.trans Lc.base (Ext.fresh hb)) #[b,_,U,#[.inr U,ax],rD hb (r.cut l u)]]]]]
def Px:D->(D->Prop)->Prop:=λa k=>∃ ds,a=.lst ds/\k (.lst ds.reverse)
theorem Gg{e st:Ch}{te:aZ}{p2 pos:Pos}(he:DE X c e te)(nq:PE X st (tC (.int (-1)))):DN X c (.Subscript e (.Slice none none (some st) p2) pos) (Vm Px te):=#[(By he.pe nq).imp λσ H Q zz=>cZ zz λM s as R L q k =>
 #[M,s,as,_,L,q,λd s1 z8r M1 H1 v L1 E1 rv=>by
  let(ds,e,q1):=z8r;subst e;let(p,xs,rfl,(m,t),r):=rv;exact#[p,xs,U,.of t,λb hb=>jO (d:=.lst _) L L1 E1 hb r.reverse (k _ s1 q1)]]]
def k7(C:YA)(t:d8):aZ:=λs Q=>t s λds s1=>C ds λd=>Q d s1
def yR(X:Cx)(c:Ent)(r:!V->Hp->VK->Prop)(C:YA):Prop:=∀ (M:AC->Prop) (s:DS) (as:!AC) (σ:St) (H:Hp) (xs:!V) (ds:!D) (k:D->Prop) (Q:VK),aA X.K c M s as σ H->ay X.K H M ds xs->C ds k ->
 (∀ d,k d->∀ M' H' v,aA X.K c M' s as σ H'->Ext c as M s H M' s H'->Rep X.K H' M' d v->Q v H')->r xs H Q
def EG(X:Cx)(c:Ent)(r:!V->Hp->VK->Prop)(C:YA):Prop:=∀ (M:AC->Prop) (s:DS) (as:!AC) (σ:St) (H:Hp) (xs:!V) (ds:!D) (k:D->Prop) (Q:VK),aA X.K c M s as σ H->ay X.K H M ds xs->C ds k ->
 (∀ d,k d->∀ p o,H p=none->cF X.K H M d o->Q (.ref p) (upd H p o))->r xs H Q
section
variable{x:Str}{p pos:Pos}{e:Ch}{es:!Ch}{t:d8}{id T:String}{r:!V->Hp->VK->Prop}{C:YA}
theorem Ge{n:Nat}(k:yR X c r C){σ:St}{H:Hp}{Q:VK}:tE X.K c (k7 C t) σ H Q->Df r (tA X.K c n t) σ H Q:=λzz=>cZ zz λM s as R L q kk =>
 #[M,s,as,_,L,q,λds s1 q1 M1 H1 vs L1 E1 r1 hl=>k M1 s1 as σ H1 vs ds (λd=>R d s1) Q L1 r1 q1 λd rd M' H' v L' E' rv=>kk d s1 rd M' H' v L' (E1.trans L1.base E') rv]
theorem GR{n:Nat}(k:EG X c r C){σ:St}{H:Hp}{Q:VK}:tN X.K c (k7 C t) σ H Q->Df r (tA X.K c n t) σ H Q:=λzz=>cZ zz λM s as R L q kk =>
 #[M,s,as,_,L,q,λds s1 q1 M1 H1 vs L1 E1 r1 hl=>k M1 s1 as σ H1 vs ds (λd=>R d s1) Q L1 r1 q1 λd rd p o hp ro=>jO L L1 E1 hp ro (kk d s1 rd)]
theorem dQ(hc:dB X (.builtin id) r)(k:yR X c r C)(hg:Gl X x)(hm:X.mg x=none)(hv:bootBuiltins x=some (.builtin id))(ha:DA X c (e::es) t)(hn: ~~~(x≠"__name__"))(gH: ~~~(YD x))(he:(YB X.env e es)⁻¹)(eR:(YC X.env pos es)⁻¹):DE X c (.Call (.Name x p) (e::es) [] pos) (k7 C t):=#[(dw hc hg hm hv ha.pa hn gH he eR).imp λ_ _ _=>Ge k]
theorem bB(hc:dB X (.type T) r)(k:yR X c r C)(hg:Gl X x)(hm:X.mg x=none)(hv:bootBuiltins x=some (.type T))(ha:DA X c (e::es) t)(hn: ~~~(x≠"__name__"))(gH: ~~~(YD x))(he:(YB X.env e es)⁻¹)(eR:(YC X.env pos es)⁻¹):DE X c (.Call (.Name x p) (e::es) [] pos) (k7 C t):=#[(qh hc hg hm hv ha.pa hn gH he eR).imp λ_ _ _=>Ge k]
theorem nJ(hc:dB X (.type T) r)(k:EG X c r C)(hg:Gl X x)(hm:X.mg x=none)(hv:bootBuiltins x=some (.type T))(ha:DA X c (e::es) t)(hn: ~~~(x≠"__name__"))(gH: ~~~(YD x))(he:(YB X.env e es)⁻¹)(eR:(YC X.env pos es)⁻¹):DN X c (.Call (.Name x p) (e::es) [] pos) (k7 C t):=#[(qh hc hg hm hv ha.pa hn gH he eR).imp λ_ _ _=>GR k]
end
theorem cU{K:Frag}{H:Hp}{M:AC->Prop}{d:D}{vs:!V}(r:ay K H M [d] vs):∃ v,vs=[v]/\Rep K H M d v:=by
 let(x,xr,rfl,r1,r2):=r;have r2:xr=[]:=r2;subst r2;exact#[x,U,r1]
theorem qK{K:Frag}{H:Hp}{M:AC->Prop}{d e:D}{vs:!V}(r:ay K H M [d,e] vs):∃ v w,vs=[v,w]/\Rep K H M d v/\Rep K H M e w:=by
 let(x,xr,rfl,r1,r2):=r;let(y,rfl,r3):=cU r2;exact#[x,y,U,r1,r3]
def HE:YA:=λas k=>∃ ds,(as=[.lst ds]\/as=[.tup ds])/\k (.int ds.length)
theorem NM:yR X c (λxs H Q=>∃ p ys,xs=[.ref p]/\(dO X.K H p ys\/iu X.K H p ys)/\Q (.int ys.length) H) HE:=λM s as σ H xs ds k Q L r z9r kk=>by
 let(es,hb,hk):=z9r;rcases hb with rfl | rfl
 .let(v,rfl,p,ys,rfl,(m,h),r'):=cU r;show#[p,ys,U,.inl (.of h),?_];rw[r'.length];exact kk _ hk M H _ L .refl U
 .let(v,rfl,p,ys,rfl,h,r'):=cU r;show#[p,ys,U,.inr h.sq,?_];rw[r'.length];exact kk _ hk M H _ L .refl U
def J4:YA:=λas k=>∃ z,as=[.str z]/\z.length<=FB/\k (.int z.length)
theorem jV:yR X c (λxs H Q=>∃ z,xs=[.str z]/\z.length<=FB/\Q (.int z.length) H) J4:=λM s as σ H xs ds k Q L r z0r kk=>by
 let(z,e,hz,hk):=z0r;subst e;let(v,rfl,e):=cU r;have e:v=.str z:=e;subst e;exact#[z,U,hz,kk _ hk M H _ L .refl U]
def Ri:YA:=λas k=>∃ i j,as=[.int i,.int j]/\k (.int (if j > i then j else i))
theorem Gf:yR X c (λxs H Q=>∃ i j,xs=[.int i,.int j]/\Q (.int (if j > i then j else i)) H) Ri:=λM s as σ H xs ds k Q L r z1r kk=>by
 let(i,j,e,hk):=z1r;subst e;let(v,w,rfl,e1,e2):=qK r;have e1:v=.int i:=e1;have e2:w=.int j:=e2;subst e1;subst e2;exact#[i,j,U,kk _ hk M H _ L .refl U]
def Mn:YA:=λas k=>(∃ i,as=[.int i]/\k (.int i))\/∃ b,as=[.bl b]/\k (.int (if b then 1 else 0))
theorem fq:yR X c (λxs H Q=>(∃ i,xs=[.int i]/\Q (.int i) H)\/∃ k,xs=[.bl k]/\Q (.int (if k then 1 else 0)) H) Mn:=λM s as σ H xs ds k Q L r h kk=>by
 rcases h with ⟨i,rfl,hk⟩ | ⟨i,rfl,hk⟩
 .let(v,rfl,e1):=cU r;have e1:v=.int i:=e1;subst e1;exact .inl #[i,U,kk _ hk M H _ L .refl U]
 .let(v,rfl,e1):=cU r;have e1:v=.bl i:=e1;subst e1;exact .inr #[i,U,kk _ hk M H _ L .refl U]
def Mi:YA:=λas k=>∃ ds,(as=[.lst ds]\/as=[.tup ds])/\k (.lst ds)
theorem vg:EG X c (λxs H Q=>∃ p ys,xs=[.ref p]/\(dO X.K H p ys\/iu X.K H p ys)/\∀ l,H l=none->Q (.ref l) (upd H l (.lst ys))) Mi:=λM s as σ H xs ds k Q L r z2r kk=>by
 let(es,hb,hk):=z2r;rcases hb with rfl | rfl
 .let(v,rfl,p,ys,rfl,(m,h),r'):=cU r;exact#[p,ys,U,.inl (.of h),λl hl=>kk _ hk l _ hl r']
 .let(v,rfl,p,ys,rfl,h,r'):=cU r;exact#[p,ys,U,.inr h.sq,λl hl=>kk _ hk l _ hl r']
def HL:YA:=λas k=>∃ ds,(as=[.lst ds]\/as=[.tup ds])/\k (.tup ds)
theorem LR:yR X c (λxs H Q=>∃ p ys,xs=[.ref p]/\((dO X.K H p ys/\∀ l,H l=none->Q (.ref l) (upd H l (.tup ys)))\/(iu X.K H p ys/\Q (.ref p) H))) HL:=λM s as σ H xs ds k Q L r z3r kk=>by
 let(es,hb,hk):=z3r;rcases hb with rfl | rfl
 .let(v,rfl,p,ys,rfl,(m,h),r'):=cU r;exact#[p,ys,U,.inl #[.of h,λl hl=>kk _ hk _ _ _ (L.fresh hl) (Ext.fresh hl) #[l,ys,U,#[.inr U,ax],rD hl r']]]
 .let(v,rfl,p,ys,rfl,h,r'):=cU r;exact#[p,ys,U,.inr #[h.sq,kk _ hk M H _ L .refl #[p,ys,U,h,r']]]
def Ly(te:aZ):d8:=λs Q=>te s λd s1=>∃ ds,(d=.lst ds\/d=.tup ds)/\Q ds s1
theorem b8{tg e:Ch}{te:aZ}(he:DE X c e te):DI X c tg e (Ly te):=#[λTW s σ H R I zz=>cZ zz λM s0 as R0 L q k=>G7 he.pe TW s σ H R I
 #[M,s0,as,_,L,q,λd s1 z4r M1 H1 v L1 E1 rv=>by
  let(ds,hd,q1):=z4r;rcases hd with rfl | rfl
  .let(p,xs,rfl,(m,h),r):=rv;show#[p,U,.inl #[xs,.of h,λhl=>k ds s1 q1 M1 H1 _ L1 E1 (λM2 H2 G=>?_) (by rw[<- r.length];exact hl)]];have h2:H2 p=some (.lst xs):=(G p m).2 _ h;have r2:=G.tR r;show#[λi hi=>#[xs,.of h2,by rw[r.length];exact hi],λi d hd=>?_];let(v,g1,g2):=r2.get hd;show#[#[xs,v,.of h2,g1],λx H3 #[e,hx]=>.inl #[e,?_]];have:=hx xs (.of h2);rw[g1] at this;cases this;exact g2
  .let(p,xs,rfl,h,r):=rv;show#[p,U,.inr #[xs,h.sq,λhl=>k ds s1 q1 M1 H1 _ L1 E1 (λM2 H2 G=>?_) (by rw[<- r.length];exact hl)]];have h2:iu X.K H2 p xs:=(h.mono (λb m=>(G b m).1) λb o m e=>(G b m).2 o e).sq;have r2:=G.tR r;show#[λi hi=>#[xs,h2,by rw[r.length];exact hi],λi d hd=>?_];let(v,g1,g2):=r2.get hd;show#[#[xs,v,h2,g1],λx H3 #[e,hx]=>.inl #[e,?_]];have:=hx xs h2;rw[g1] at this;cases this;exact g2]]
def ee(lo:Int)(n:Nat):!D:=(List.range n).map λi=>.int (lo+(i:Nat))
def Fo(t:d8):d8:=λs Q=>t s λds s1=>∃ j:Int,ds=[.int j]/\(-(2 ^ 62)<=j/\j<=16777216)/\Q (ee 0 j.toNat) s1
theorem BZ{K:Frag}{M:AC->Prop}{H:Hp}{lo:Int}{n:Nat}:GO K M H (ee lo n) (Oi lo n):=λM1 H1 G =>
 #[λi hi=>by
  change n<=i;simpa [ee] using hi,λi d hd=>by
  unfold ee at hd;rw[WZ] at hd;let(j,h1,h2):=WD.mp hd;let(hl,e):=Wn.mp h1;simp at hl e;subst e;subst h2;exact#[hl,λx H2 #[e,hx]=>.inl #[e,hx]]]
section
variable{tg a b:Ch}{t:d8}{p pos:Pos}
theorem c6(hg:Gl X "range")(hm:X.mg "range"=none)(ha:DA X c [a] t)(hs:(Go [a] X.env=[(false,eval a X.env)])⁻¹):DI X c tg (.Call (.Name "range" p) [a] [] pos) (Fo t):=#[λTW s σ H R I zz=>cZ zz λM s0 as R0 L q k=>zJ hg hm ha.pa hs TW s σ H R I
 #[M,s0,as,_,L,q,λds s1 z5r M1 H1 vs L1 E1 r _=>by
  let(j,e,(h1,h2),q1):=z5r;subst e;let(v,rfl,e):=cU r;have e:v=.int j:=e;subst e;exact#[j,U,h1,by cbv,k _ s1 q1 M1 H1 _ L1 E1 BZ (by simp[ee,FB];cbv)]]]
end
end
section
variable{X:Cx}{c:Ent}
def Pc:D->Bool
 | .lst _=>true
 | _=>false
def tK:D->Bool
 | .uJ _ _=>true
 | .mE _ _=>true
 | _=>false
theorem vQ{K:Frag}{H:Hp}{M:AC->Prop}{d:D}{o:HO}(h:Pc d=true)(r:cF K H M d o):∃ xs,o=.lst xs:=by
 cases d<;>first | (cases h;done) | (cases o<;>first | exact#[_,U] | exact r.elim)
def OD(i:Nat)(C:D->!D->(D->D->Prop)->Prop)(ta:d8):aZ:=λs Q=>∃ k d0,s.sl[i]?=some (.own k)/\s.os[k]?=some (some d0)/\Pc d0=true/\ta s λds s1=>∃ d1,s1.os[k]?=some (some d1)/\C d1 ds λdr d2=>Q dr (s1.put k d2)
def Dy(X:Cx)(r:V->!V->Hp->VK->Prop)(C:D->!D->(D->D->Prop)->Prop):Prop:=∀ (M:AC->Prop) (H:Hp) (a:AC) (o:HO) (d1:D) (ds:!D) (vs:!V) (k:D->D->Prop) (Q:VK),H a=some o->cF X.K H M d1 o->ay X.K H M ds vs->¬ M a->C d1 ds k ->
 (∀ dr d2,k dr d2->∀ o' v,cF X.K H M d2 o'->Rep X.K H M dr v->Q v (upd H a o'))->r (.ref a) vs H Q
theorem Kz{i n:Nat}{r:V->!V->Hp->VK->Prop}{C:D->!D->(D->D->Prop)->Prop}{ta:d8}(ok:Dy X r C){σ:St}{H:Hp}{Q:VK}:tE X.K c (OD i C ta) σ H Q->So X.K "list" r (bR i) (tA X.K c n ta) σ H Q:=λz9q=>by
 let(M,s,as,R,L,(k,d0,h1,h2,h3,q),kk):=z9q;let(a,o,g1,g2,g3,g4):=L.slot h1 h2;let(xs,rfl):=vQ h3 g4;show#[.ref a,g2,.inl #[U,xs,.of g3],M,s,as,_,L,q,λds s1 z0q M1 H1 vs L1 E1 r1 hl=>?_];let(d1,e1,q1):=z0q;let((o1,f1,f2),nm,ng,h0):=L1.obj k d1 a e1 g1;show ok M1 H1 a o1 d1 ds vs _ Q f1 f2 r1 nm q1 λdr d2 hk o' v ro rv=>?_;have E2:Ext c as M1 s1 H1 M1 (s1.put k d2) (upd H1 a o'):=Ext.kG e1 g1;exact kk dr _ hk M1 _ v (L1.kG e1 g1 ro) (E1.trans L1.base E2) (E2.rep L1 rv)
def NC:d8:=λs Q=>Q [] s
section
variable{o e:Ch}{es:!Ch}{i:Nat}{t:d8}{name:Str}{apos bX:Pos}{id:String}{r:V->!V->Hp->VK->Prop}{C:D->!D->(D->D->Prop)->Prop}
theorem CT(slot:Slot "list" name id)(yB:typeOf (.builtin id)=pure (.type "method_descriptor"))(hm:Kj X id r)(ok:Dy X r C)(ho:PE X o (bR i))(ha:DA X c (e::es) t)(fF:(attributeBase o name X.env (eval o X.env)=eval o X.env)⁻¹)(oE:(((Ix bX (Go (e::es) X.env)).all (λx=>(not x.1))&&(Re bX (Rs [] X.env)).all (λx=>x.1.isSome)
   && decide ((e::es).length+([]:!NE).length+(if ([]:!NE).isEmpty then 0 else 1) < 30))=true)⁻¹)(dF:((apos.endLine == bX.line)=true)⁻¹)(hs:(YB X.env e es)⁻¹)(fG:((Ix bX (Go es X.env)).any (·.1)=false)⁻¹) :
  DE X c (.Call (.Attribute o name apos) (e::es) [] bX) (OD i C t):=#[(yH X0 slot yB hm ho ha.pa fF oE dF hs fG).imp λ_ _ _=>Kz ok]
end
def J3:D->!D->(D->D->Prop)->Prop:=λd ds k=>∃ xs x,d=.lst xs/\ds=[x]/\xs.length < FB/\k .br (.lst (xs++[x]))
theorem Az:Dy X yx J3:=λM H a o d ds vs k Q ha ro rv nm z6r kk=>by
 let(xs,x,e1,e2,hl,hk):=z6r;subst e1;subst e2;cases o with
 | lst ys =>
  have ro:ay X.K H M xs ys:=ro;let(v,rfl,rx):=cU rv;exact#[a,ys,v,U,U,ha,by rw[ro.length];exact hl,kk _ _ hk _ _ (show cF X.K H M (.lst _) (.lst _) from ro.append (.one rx)) U]
 | _=>exact ro.elim
def QZ:D->!D->(D->D->Prop)->Prop:=λd ds k=>∃ xs ys,d=.lst xs/\ds=[.lst ys]/\xs.length+ys.length<=FB/\k .br (.lst (xs++ys))
theorem FO:Dy X xg QZ:=λM H a o d ds vs k Q ha ro rv nm z7r kk=>by
 let(xs,ys,e1,e2,hl,hk):=z7r;subst e1;subst e2;cases o with
 | lst us =>
  have ro:ay X.K H M xs us:=ro;let(v,rfl,b,zs,rfl,(m,hb),rz):=cU rv;exact#[a,b,us,zs,U,U,ha,hb,by rw[ro.length,rz.length];exact hl,kk _ _ hk _ _ (show cF X.K H M (.lst _) (.lst _) from ro.append rz) U]
 | _=>exact ro.elim
theorem ay.snoc{K:Frag}{H:Hp}{M:AC->Prop}:∀ {ds:!D} {x:D} {vs:!V},ay K H M (ds++[x]) vs->∃ us v,vs=us++[v]/\ay K H M ds us/\Rep K H M x v
 | [],x,vs,r=>by
  let(v,rfl,h):=cU r;exact#[[],v,U,U,h]
 | d::ds,x,vs,r=>by
  let(y,yr,rfl,r1,r2):=r;let(us,v,rfl,h1,h2):=ay.snoc (ds:=ds) r2;exact#[y::us,v,U,#[y,us,U,r1,h1],h2]
def RD:D->!D->(D->D->Prop)->Prop:=λd ds k=>∃ xs x,d=.lst (xs++[x])/\ds=[]/\k x (.lst xs)
theorem Bl:Dy X HD RD:=λM H a o d ds vs k Q ha ro rv nm z8r kk=>by
 let(xs,x,e1,e2,hk):=z8r;subst e1;subst e2;cases o with
 | lst us =>
  let(ws,v,rfl,r1,r2):=ay.snoc (show ay X.K H M (xs++[x]) us from ro);have rv:vs=[]:=rv;subst rv;show#[a,ws++[v],v,U,U,ha,by simp,?_];rw[List.dropLast_concat];exact kk _ _ hk _ _ (show cF X.K H M (.lst _) (.lst _) from r1) r2
 | _=>exact ro.elim
def IH:D->!D->(D->D->Prop)->Prop:=λd ds k=>∃ xs i j x,d=.lst xs/\ds=[.int i]/\(-(2 ^ 63)<=i/\i < 2 ^ 63)/\seqIndex? i xs.length=some j/\xs[j]?=some x/\k x (.lst (xs.eraseIdx j))
theorem tY:Dy X Bh IH:=λM H a o d ds vs k Q ha ro rv nm z2q kk=>by
 let(xs,i,j,x,e1,e2,(h1,h2),h3,h4,hk):=z2q;subst e1;subst e2;cases o with
 | lst us =>
  have ro:ay X.K H M xs us:=ro;let(v,rfl,e):=cU rv;have e:v=.int i:=e;subst e;let(w,g1,g2):=ro.get h4;exact#[a,us,i,j,w,U,U,ha,h1,h2,by rw[ro.length];exact h3,g1,kk _ _ hk _ _ (show cF X.K H M (.lst _) (.lst _) from ro.eraseIdx j) g2]
 | _=>exact ro.elim
def Ha(i:Nat)(te ti:aZ):iZ:=λR s=>te s λd s1=>∃ k,s1.sl[i]?=some (.own k)/\ti s1 λdi s2=>∃ xs z j,s2.os[k]?=some (some (.lst xs))/\di=.int z/\Au xs.length z=some j/\R.nx (s2.put k (.lst (xs.set j d)))
theorem Et{i:Nat}{st:FM}{te ti:aZ}(h:PS X st (jx (tE X.K c te) (NB (bR i) (tE X.K c ti) GD))):pW X c st (Ha i te ti):=#[h.imp λE σ H zz=>cZ zz λM s as R L q kk =>
 #[M,s,as,_,L,q,λd s1 z3q M1 H1 v L1 E1 rv=>by
  let(k,h1,q1):=z3q;let(a,g1,g2):=L1.own i k h1;show#[.ref a,g2,M1,s1,as,_,L1,q1,λdi s2 z4q M2 H2 w Lb E2 rw=>?_];let(xs,z,j,h2,e,hj,q2):=z4q;subst e;let((o,f1,f2),nm,ng,h0):=Lb.obj k _ a h2 g1;cases o with
  | lst us =>
   have f2:ay X.K H2 M2 xs us:=f2;have rw:w=.int z:=rw;subst rw;have rv2:=E2.rep L1 rv;have hG:dW M H M2 (upd H2 a (.lst (us.set j v))):=(E1.grow L).trans ((E2.grow L1).trans ((Ext.kG (c:=c) (M:=M2) (d:=.lst (xs.set j d)) h2 g1).grow Lb));exact#[a,us,z,j,U,U,f1,by rw[f2.length];exact hj,kk.nx _ as M2 σ _ q2 (Lb.kG h2 g1 (show cF X.K H2 M2 (.lst _) (.lst _) from f2.set rv2 j)) hG]
  | _=>exact f2.elim]]
def Mz(i:Nat):kD:=λs Q=>∃ k xs,s.sl[i]?=some (.own k)/\s.os[k]?=some (some (.lst xs))/\Q (not xs.isEmpty) s
theorem ma{α β:Type}{l:!α}{m:!β}(h:l.length=m.length):l.isEmpty=m.isEmpty:=by
 cases l<;>cases m<;>first | rfl | simp at h
theorem EX{i:Nat}{e:Ch}(he:PE X e (bR i))(hw:∀ whole,isTrue e X.env whole=(do let v <- whole;standAt e.pos;holding [v] (truthy v)):=by intro _;rfl):DT X c e (Mz i):=#[(uV he hw).imp λσ H Q z5q=>by
 let(M,s,as,R,L,(k,xs,h1,h2,q),kk):=z5q;let(a,o,g1,g2,g3,g4):=L.slot h1 h2;cases o with
 | lst us =>
  have g4:ay X.K H M xs us:=g4;show#[_,g2,(not us.isEmpty),.inl #[us,.of g3,U],?_];rw[ma g4.length];exact kk _ s q M H L .refl
 | _=>exact g4.elim]
def jh(k:Nat)(d:D):Sl->Sl
 | .own j=>if j=k then .dat d else .own j
 | x=>x
def DS.freeze(s:DS)(k:Nat)(d:D):DS:=#[s.sl.map (jh k d),s.os.set k none]
def MS(i:Nat):aZ:=λs Q=>∃ k d,s.sl[i]?=some (.own k)/\s.os[k]?=some (some d)/\Q d (s.freeze k d)
theorem P4{i:Nat}{e:Ch}(h:PE X e (bR i)):DE X c e (MS i):=#[h.imp λσ H Q z6q=>by
 let(M,s,as,R,L,(k,d,h1,h2,q),kk):=z6q;let(a,o,g1,g2,g3,g4):=L.slot h1 h2;let(_,nm,ng,h0):=L.obj k d a h2 g1;show#[_,g2,?_];have mk:∀ b u,M b->H b=some u->H b=some u:=λ_ _ _ e=>e;have ra:Rep X.K H (λb=>M b\/b=a) d (.ref a):=(g4.mono (λ_ m=>.inl m) mk).rep g3 (.inr U);have pV:∀ {l:Nat} {e:D},(s.freeze k d).os[l]?=some (some e)->l≠k/\s.os[l]?=some (some e):=λ{l e} h=>by
  rcases cC h with ⟨rfl,hl,q⟩ | ⟨ne,q⟩
  .cases q
  .exact#[λz=>ne z.symm,q]
 show kk d _ q (λb=>M b\/b=a) H (.ref a) #[#[L.base.pI,L.base.fr,λb m=>?_,λb m=>?_,λb m=>.inl (L.base.m0 b m),λb m=>?_],?_,?_,λj e he=>?_,λj l hj=>?_,λl e b e1 e2=>?_,λl m e f b e1 e2 f1 f2=>?_,L.lt] #[λ_ m=>.inl m,λb m=>?_,λ_ _ e _ _=>e,λb z7q=>by let(l,e,e1,e2):=z7q;exact#[l,e,(pV e1).2,e2]] ra
 .rcases m with m | rfl
  .exact L.base.md b m
  .exact#[o,g3]
 .rcases m with m | rfl
  .exact L.base.mo b m
  .exact ng
 .rcases m with m | rfl
  .exact L.base.mn b m
  .exact .inr (.inl h0)
 .show (s.sl.map _).length=_;rw[Wk];exact L.len
 .show as.length=(s.os.set k none).length;rw[Xa];exact L.dX
 .have he:(s.sl.map (jh k d))[j]?=some (.dat e):=he;rw[WZ] at he;let(x,hx,hy):=WD.mp he;cases x with
  | no=>cases hy
  | dat y =>
   cases hy;let(v,w1,w2):=L.dat j e hx;exact#[v,w1,Rep.mono (λ_ m=>.inl m) mk e v w2]
  | own l =>
   replace hy:(if l=k then Sl.dat d else Sl.own l)=.dat e:=hy
   by_cases z:l=k
   .rw[if_pos z] at hy;cases hy;subst z;let(b,w1,w2):=L.own j l hx;rw[g1] at w1;cases w1;exact#[_,w2,ra]
   .rw[if_neg z] at hy;cases hy
 .have hj:(s.sl.map (jh k d))[j]?=some (.own l):=hj;rw[WZ] at hj;let(x,hx,hy):=WD.mp hj;cases x with
  | no=>cases hy
  | dat y=>cases hy
  | own l' =>
   replace hy:(if l'=k then Sl.dat d else Sl.own l')=.own l:=hy
   by_cases z:l'=k
   .rw[if_pos z] at hy;cases hy
   .rw[if_neg z] at hy;cases hy;exact L.own j l hx
 .let(ne,e1'):=pV e1;let((u,w1,w2),w3,w4):=L.obj l e b e1' e2;show#[#[u,w1,w2.mono (λ_ m=>.inl m) mk],λm=>?_,w4];rcases m with m | rfl
  .exact w3 m
  .exact ne (L.inj l k e d b e1' h2 e2 g1)
 .exact L.inj l m e f b (pV e1).2 (pV e2).2 f1 f2
 .rcases m with m | rfl
  .exact .inl m
  .exact .inr (.inr #[k,d,h2,g1])]
def L9(i:Nat):aZ:=λs Q=>∃ k xs,s.sl[i]?=some (.own k)/\s.os[k]?=some (some (.lst xs))/\Q (.int xs.length) s
theorem Hr{i:Nat}{e:Ch}(h:PE X e (Df (λxs H Q=>∃ p ys,xs=[.ref p]/\(dO X.K H p ys\/iu X.K H p ys)/\Q (.int ys.length) H) (iI (bR i) sY))):DE X c e (L9 i):=#[h.imp λσ H Q z8q=>by
 let(M,s,as,R,L,(k,xs,h1,h2,q),kk):=z8q;let(a,o,g1,g2,g3,g4):=L.slot h1 h2;cases o with
 | lst us =>
  have g4:ay X.K H M xs us:=g4;show#[_,g2,a,us,U,.inl (.of g3),?_];rw[g4.length];exact kk _ s q M H _ L .refl U
 | _=>exact g4.elim]
def PM(i:Nat)(ti:aZ):aZ:=λs Q=>∃ k,s.sl[i]?=some (.own k)/\ti s λdi s1=>∃ xs z d,s1.os[k]?=some (some (.lst xs))/\di=.int z/\gR xs z=some d/\Q d s1
theorem Kh{i:Nat}{e:Ch}{ti:aZ}(h:PE X e (iG (Il X.K) (bR i) (tE X.K c ti))):DE X c e (PM i ti):=#[h.imp λσ H Q z9q=>by
 let(M,s,as,R,L,(k,h1,q),kk):=z9q;let(a,g1,g2):=L.own i k h1;show#[_,g2,M,s,as,_,L,q,λdi s1 z0q M1 H1 v L1 E1 rv=>?_];let(xs,z,d,e1,e2,e3,q1):=z0q;subst e2;have rv:v=.int z:=rv;subst rv;let((o,f1,f2),nm,ng,h0):=L1.obj k _ a e1 g1;cases o with
 | lst us =>
  have f2:ay X.K H1 M1 xs us:=f2;let(w,w1,w2):=f2.at e3;exact#[a,us,z,w,U,U,.of f1,w1,kk _ s1 q1 M1 H1 w L1 E1 w2]
 | _=>exact f2.elim]
def AO:D->Option Key
 | .int i=>some (.inl i)
 | .str x=>some (.inr x)
 | _=>none
def qG:!D->Option (!Key)
 | []=>some []
 | d::r=>match AO d,qG r with
  | some k,some ks=>some (k::ks)
  | _,_=>none
theorem oA{K:Frag}{H:Hp}{M:AC->Prop}{d:D}{k:Key}{v:V}(h:AO d=some k)(r:Rep K H M d v):v=kV k:=by
 cases d<;>first | (cases h;exact r) | cases h
theorem lV{K:Frag}{H:Hp}{M:AC->Prop}:∀ {ds:!D} {ks:!Key} {vs:!V},qG ds=some ks->ay K H M ds vs->vs=ks.map kV
 | [],ks,vs,h,r=>by
  cases h;exact r
 | d::ds,ks,vs,h,r=>by
  let(x,xr,rfl,r1,r2):=r;unfold qG at h;cases e1:AO d with
  | none=>rw[e1] at h;cases h
  | some k =>
   cases e2:qG ds with
   | none=>rw[e1,e2] at h;cases h
   | some l =>
    rw[e1,e2] at h;cases h;rw[oA e1 r1,lV e2 r2,Wu]
section
variable{κ:Type}[DecidableEq κ]
def bM:!κ->!D->κ->Option D
 | k::ks,d::ds,q=>if k=q then some d else bM ks ds q
 | _,_,_=>none
def tF(ks:!κ)(q:κ):Bool:=ks.any λk=>decide (k=q)
def me:!κ->!D->κ->D->!D
 | k::ks,d::ds,q,x=>(if k=q then x else d)::me ks ds q x
 | _,_,_,_=>[]
def gf(ks:!κ)(q:κ):!κ:=if tF ks q=true then ks else ks++[q]
def g6(ks:!κ)(vs:!D)(q:κ)(x:D):!D:=if tF ks q=true then me ks vs q x else vs++[x]
variable{K:Frag}{H:Hp}{M:AC->Prop}
theorem rF{q:κ}:∀ {kvs:!(κ×V)} {ks:!κ} {vs:!D},kvs.map (·.1)=ks->ay K H M vs (kvs.map (·.2))->(fH kvs q=none/\bM ks vs q=none)\/∃ v d,fH kvs q=some v/\bM ks vs q=some d/\Rep K H M d v
 | [],ks,vs,h,r=>by
  subst h;exact .inl #[U,by cases vs<;>rfl]
 | p::kvs,ks,vs,h,r=>by
  subst h;cases vs with
  | nil=>exact absurd (show (p::kvs).map (·.2)=[] from r) (by simp)
  | cons d ds =>
   let(x,xr,e,r1,r2):=r;rw[Wu] at e;cases e;by_cases z:p.1=q
   .refine .inr #[p.2,d,fD z,?_,r1];change (if p.1=q then some d else _)=_;rw[if_pos z]
   .rw[dD z];have e2:bM (((p::kvs).map (·.1))) (d::ds) q=bM (kvs.map (·.1)) ds q:=by
     change (if p.1=q then some d else _)=_;rw[if_neg z]
    rw[e2];exact rF U r2
theorem has_any{q:κ}:∀ {kvs:!(κ×V)},(kvs.any λkv=>decide (kv.1=q))=tF (kvs.map (·.1)) q
 | []=>rfl
 | p::kvs=>by
  unfold tF;rw[XS,Wu,XS,has_any (kvs:=kvs)]
  rfl
theorem BB{q:κ}{x:D}{y:V}(ry:Rep K H M x y){kvs:!(κ×V)}{vs:!D}(r:ay K H M vs (kvs.map (·.2))):(putK kvs q y).map (·.1)=gf (kvs.map (·.1)) q/\ay K H M (g6 (kvs.map (·.1)) vs q x) ((putK kvs q y).map (·.2)):=by
 unfold putK gf g6;rw[has_any];by_cases h:tF (kvs.map (·.1)) q=true
 .rw[if_pos h,if_pos h,if_pos h];clear h;show#[?_,?_]
  .rw[WV];show Yf λp _=>?_;change (if p.1=q then (p.1,y) else p).1=p.1;split<;>rfl
  .induction kvs generalizing vs with
   | nil =>
    cases vs with
    | nil=>rfl
    | cons d ds =>
     let(_,_,e,_):=r;cases e
   | cons p kvs ih =>
    cases vs with
    | nil=>exact absurd (show (p::kvs).map (·.2)=[] from r) (by simp)
    | cons d ds =>
     let(v,vr,e,r1,r2):=r;rw[Wu] at e;cases e;show#[_,_,U,?_,ih r2];change Rep K H M (if p.1=q then x else d) (if p.1=q then (p.1,y) else p).2;by_cases z:p.1=q
     .rw[if_pos z,if_pos z];exact ry
     .rw[if_neg z,if_neg z];exact r1
 .rw[if_neg h,if_neg h,if_neg h];rw[Wv,Wv];exact#[U,r.append (.one ry)]
end
def u3(d dy:D)(k:Option D->Prop):Prop:=(∃ ks vs q,d=.uJ ks vs/\AO dy=some q/\k (bM ks vs q))\/∃ ks vs ts q,d=.mE ks vs/\dy=.tup ts/\qG ts=some q/\k (bM ks vs q)
def KW(d dy x:D)(k:D->Prop):Prop:=(∃ ks vs q,d=.uJ ks vs/\AO dy=some q/\ks.length < FB/\k (.uJ (gf ks q) (g6 ks vs q x)))\/∃ ks vs ts q,d=.mE ks vs/\dy=.tup ts/\qG ts=some q/\ks.length < FB/\k (.mE (gf ks q) (g6 ks vs q x))
theorem nk{H:Hp}{M:AC->Prop}{d dy:D}{k:Option D->Prop}{a:AC}{o:HO}{y:V}(h:u3 d dy k)(ha:H a=some o)(ro:cF X.K H M d o)(ry:Rep X.K H M dy y):∃ ov od,fJ H a y ov/\k od/\((ov=none/\od=none)\/∃ v e,ov=some v/\od=some e/\Rep X.K H M e v):=by
 rcases h with ⟨ks,vs,q,rfl,hq,hk⟩ | ⟨ks,vs,ts,q,rfl,rfl,hq,hk⟩
 .cases o with
  | dK kvs =>
   let(e,r):=(show kvs.map (·.1)=ks/\ay X.K H M vs (kvs.map (·.2)) from ro);have ey:=oA hq ry;subst ey;show#[_,_,fJ.k ha,hk,?_];rcases rF (q:=q) e r with ⟨h1,h2⟩ | ⟨v,x,h1,h2,h3⟩
   .exact .inl #[h1,h2]
   .exact .inr #[v,x,h1,h2,h3]
  | _=>exact ro.elim
 .cases o with
  | dT kvs =>
   let(e,r):=(show kvs.map (·.1)=ks/\ay X.K H M vs (kvs.map (·.2)) from ro);let(b,xs,rfl,(m,hb),rx):=ry;have ex:=lV hq rx;subst ex;show#[_,_,fJ.t ha hb,hk,?_];rcases rF (q:=q) e r with ⟨h1,h2⟩ | ⟨v,x,h1,h2,h3⟩
   .exact .inl #[h1,h2]
   .exact .inr #[v,x,h1,h2,h3]
  | _=>exact ro.elim
theorem D6{H:Hp}{M:AC->Prop}{d dy x:D}{k:D->Prop}{a:AC}{o:HO}{y z:V}(h:KW d dy x k)(ha:H a=some o)(ro:cF X.K H M d o)(ry:Rep X.K H M dy y)(rz:Rep X.K H M x z):∃ d2 o2,lJ H a y z (upd H a o2)/\k d2/\cF X.K H M d2 o2:=by
 rcases h with ⟨ks,vs,q,rfl,hq,hl,hk⟩ | ⟨ks,vs,ts,q,rfl,rfl,hq,hl,hk⟩
 .cases o with
  | dK kvs =>
   let(e,r):=(show kvs.map (·.1)=ks/\ay X.K H M vs (kvs.map (·.2)) from ro);subst e;have ey:=oA hq ry;subst ey;exact#[_,_,lJ.k ha (by simpa using hl),hk,(show cF X.K H M (.uJ _ _) (.dK _) from BB rz r)]
  | _=>exact ro.elim
 .cases o with
  | dT kvs =>
   let(e,r):=(show kvs.map (·.1)=ks/\ay X.K H M vs (kvs.map (·.2)) from ro);subst e;let(b,xs,rfl,(m,hb),rx):=ry;have ex:=lV hq rx;subst ex;exact#[_,_,lJ.t ha hb (by simpa using hl),hk,(show cF X.K H M (.mE _ _) (.dT _) from BB rz r)]
  | _=>exact ro.elim
theorem IV{H:Hp}{M:AC->Prop}{d:D}{o:HO}{a:AC}(hd:tK d=true)(ha:H a=some o)(ro:cF X.K H M d o):PU H a:=by
 cases d<;>first | (cases hd;done) | (cases o<;>first | exact .inl #[_,.inl ha] | exact .inr #[_,.inl ha] | exact ro.elim)
def Ic(i:Nat)(ty tv:aZ):iZ:=λR s=>tv s λd s1=>∃ k,s1.sl[i]?=some (.own k)/\ty s1 λdy s2=>∃ d1,s2.os[k]?=some (some d1)/\KW d1 dy d λd2=>R.nx (s2.put k d2)
theorem Eg{i:Nat}{st:FM}{ty tv:aZ}(h:PS X st (uK (bR i) (tE X.K c ty) (tE X.K c tv))):pW X c st (Ic i ty tv):=#[h.imp λE σ H zz=>cZ zz λM s as R L q kk =>
 #[M,s,as,_,L,q,λd s1 z9r M1 H1 v L1 E1 rv=>by
  let(k,h1,q1):=z9r;let(a,g1,g2):=L1.own i k h1;show#[.ref a,g2,M1,s1,as,_,L1,q1,λdy s2 #[d1,h2,q2] M2 H2 w Lb E2 rw=>?_];let((o,f1,f2),nm,ng,h0):=Lb.obj k _ a h2 g1;let(d2,o2,p1,p2,p3):=D6 q2 f1 f2 rw (E2.rep L1 rv);exact#[a,_,U,p1,kk.nx _ as M2 σ _ p2 (Lb.kG h2 g1 p3) ((E1.grow L).trans ((E2.grow L1).trans ((Ext.kG (c:=c) (M:=M2) (d:=d2) h2 g1).grow Lb)))]]]
theorem Rep.dc{K:Frag}{H:Hp}{M:AC->Prop}{d:D}{v:V}(h:tK d=true)(r:Rep K H M d v):∃ a o,v=.ref a/\H a=some o/\cF K H M d o:=by
 cases d<;>first | (cases h;done) | (let(a,kvs,e,(m,ha),h1,h2):=r;exact#[a,_,e,ha,h1,h2])
def Fw(td ty:aZ):aZ:=λs Q=>td s λd s1=>ty s1 λdy s2=>tK d=true/\u3 d dy λod=>∃ x,od=some x/\Q x s2
theorem eQ{e:Ch}{td ty:aZ}(h:PE X e (kg (tE X.K c td) (tE X.K c ty))):DE X c e (Fw td ty):=#[h.imp λσ H Q zz=>cZ zz λM s as R L q kk =>
 #[M,s,as,_,L,q,λd s1 q1 M1 H1 v L1 E1 rv=>#[M1,s1,as,_,L1,q1,λdy s2 z0r M2 H2 y Lb E2 ry=>by
  let(hd,q2):=z0r;let(a,o,rfl,f1,f2):=(E2.rep L1 rv).dc hd;let(ov,od,w1,(x,e2,w2),w3):=nk q2 f1 f2 ry;subst e2;rcases w3 with ⟨rfl,z⟩ | ⟨v,x,rfl,z,rx⟩
  .cases z
  .cases z;exact#[a,v,U,w1,kk _ s2 w2 M2 H2 v Lb (E1.trans L1.base E2) rx]]]]
def Hx(td ty tx:aZ):aZ:=λs Q=>td s λd s1=>tK d=true/\ty s1 λdy s2=>tx s2 λdz s3=>u3 d dy λod=>Q (od.getD dz) s3
theorem IY{e:Ch}{td ty tx:aZ}(h:PE X e (CU (tE X.K c td) (tE X.K c ty) (tE X.K c tx))):DE X c e (Hx td ty tx):=#[h.imp λσ H Q zz=>cZ zz λM s as R L q kk =>
 #[M,s,as,_,L,q,λd s1 z1r M1 H1 v L1 E1 rv=>by
  let(hd,q1):=z1r;let(a,o,rfl,f1,f2):=rv.dc hd;show#[a,U,IV hd f1 f2,M1,s1,as,_,L1,q1,λdy s2 q2 M2 H2 y Lb E2 ry=>#[M2,s2,as,_,Lb,q2,λdz s3 q3 M3 H3 z Lc E3 rz=>?_]];let(a',o',e',f1',f2'):=((E2.trans Lb.base E3).rep L1 rv).dc hd;cases e';let(ov,od,w1,w2,w3):=nk q3 f1' f2' (E3.rep Lb ry);show#[ov,w1,?_];have Ea:=(E1.trans L1.base E2).trans Lb.base E3;rcases w3 with ⟨rfl,rfl⟩ | ⟨v,x,rfl,rfl,rx⟩
  .exact kk _ s3 w2 M3 H3 z Lc Ea rz
  .exact kk _ s3 w2 M3 H3 v Lc Ea rx]]
def xZ(neg:Bool)(ty td:aZ):aZ:=λs Q=>ty s λdy s1=>td s1 λd s2=>tK d=true/\u3 d dy λod=>Q (.bl (if neg then (not od.isSome) else od.isSome)) s2
def Jo:aZ:=λs Q=>Q (.mE [] []) s
theorem Ep{pos:Pos}:DN X c (.Dict [] [] pos) Jo:=#[Cy.imp λσ H Q zz=>cZ zz λM s as R L q k=>λp hp=>jO (d:=.mE [] []) L L .refl hp (show cF X.K H M (.mE [] []) (.dT []) from #[U,U]) (k _ s q)]
end
end DL
namespace FZ
open PySem Sem
open PySem.AutoSeq1 (wpAny_loadPart')
section
variable{prog:Fa}{w:FS}{A:Fk}{E:Yy}{s:Da}
theorem kf{it t:AC}{i:Nat}{items:Array AT}{x:AT}{Q:Yy}(hit:s.heap.IsTupleIter it t i)(ht:s.heap.IsTuple t items)(hx:items[i]?=some x)(hQ:∀ h',h'.IsTupleIter it t (i+1)->Ev.SameBut it s.heap h'->Q x { s with heap:=h' }) :
  EQ (model prog w) A (GE.SmallTypes.nextOf (.ref it)) Q E s:=by
 let(o,ho,hc,hd):=id hit;let(ol,hol,_,nl,hdl):=ht;unfold GE.SmallTypes.nextOf;show Db (wpAny_callSpecial?_slot (name:=Str.ofString "__next__") hit.typeIs F.slot_tuple_iterator_next
  (SZ F.slot_tuple_iterator_next hit.typeIs F.entry_tuple_iterator_next ?_ (F.args_tuple_iterator_next_1 _)))
 change EQ _ _ (field (.ref it) 0 >>= _) _ _ s;show Db (KF ho hd (x:=.ref t) U ?_);change EQ _ _ (if (AT.ref t == AT.none)=true then _ else _) _ _ s;rw[if_neg (show ¬ ((AT.ref t == AT.none)=true) from WC)];change EQ _ _ (field (.ref it) 1 >>= _) _ _ s;show Db (KF ho hd (x:=.int i 0) U ?_);change EQ _ _ (seqItems? (.ref t) >>= _) _ _ s;show Db (SL hol hdl ?_);simp only[Int.toNat_natCast,hx];show Db (wpAny_setField ho hd (by simp) (Fr #[x,U,Fr (hQ _ ?_ (Ev.SameBut.update ..))]));exact#[_,Xu _ ho (Obj.isFreed_of_fields (Obj.data_mapFields hd _)),(Obj.cls_mapFields ..).trans hc,by
  rw[Obj.data_mapFields hd];simp[KM]]
theorem eC{it t:AC}{i:Nat}{items:Array AT}{Q:Yy}(hh:A.handled=none)(hit:s.heap.IsTupleIter it t i)(ht:s.heap.IsTuple t items)(hx:items[i]?=none)(hE:∀ h' e,Ev.ExtBut it s.heap h'->(∃ o,h'.get? e=some o/\o.cls=.type "StopIteration")->E (.ref e) { s with heap:=h' }) :
  EQ (model prog w) A (GE.SmallTypes.nextOf (.ref it)) Q E s:=by
 let(o,ho,hc,hd):=id hit;let(ol,hol,_,nl,hdl):=ht;unfold GE.SmallTypes.nextOf;show Db (wpAny_callSpecial?_slot (name:=Str.ofString "__next__") hit.typeIs F.slot_tuple_iterator_next
  (SZ F.slot_tuple_iterator_next hit.typeIs F.entry_tuple_iterator_next ?_ (F.args_tuple_iterator_next_1 _)))
 change EQ _ _ (field (.ref it) 0 >>= _) _ _ s;show Db (KF ho hd (x:=.ref t) U ?_);change EQ _ _ (if (AT.ref t == AT.none)=true then _ else _) _ _ s;rw[if_neg (show ¬ ((AT.ref t == AT.none)=true) from WC)];change EQ _ _ (field (.ref it) 1 >>= _) _ _ s;show Db (KF ho hd (x:=.int i 0) U ?_);change EQ _ _ (seqItems? (.ref t) >>= _) _ _ s;show Db (SL hol hdl ?_);simp only[Int.toNat_natCast,hx];show Db (wpAny_rule (Db (wpAny_setField ho hd (by simp) ?_)));change EQ _ _ (newExc (.type "StopIteration") [] >>= _) _ _ _;show Db ?_;simp only[newExc,newTuple];show Db (ST ?_ (by size_fits));show Db (m:=firstArgMember _ _) (wpAny_of_eq (a:=AT.none) (by first | rfl | (simp only[firstArgMember];rfl)) ?_);show ST ?_ (by size_fits);simp only[raiseNew];show Db (wpAny_handled ?_)
 first | rw[show A.in1.handled=none from hh] | rw[hh]
 show Db (Fr (wpAny_throw ?_));exact hE _ _ (((Ev.SameBut.update ..).extBut.push _).push _) #[_,Wz _ U,U]
theorem ll{e it l:AC}{i:Nat}{items:Array AT}{old:AT}{Q:Option AT->Da->Prop}(hh:A.handled=none)(he:IsEnum s.heap e it i old)(hit:s.heap.IsTupleIter it l i)(hl:s.heap.IsTuple l items)(hx:items[i]?=none)(hQ:∀ h',Ev.ExtBut it s.heap h'->Q none { s with heap:=h' }):EQ (model prog w) A (pyNext (.ref e)) Q E s:=by
 have hT:s.TypeIs (.ref e) "enumerate":=#[_,he,U];unfold pyNext;show Db (wpAny_attempt (wpAny_callSpecial?_slot (name:=Str.ofString "__next__") hT F.slot_enumerate_next
  (SZ F.slot_enumerate_next hT F.entry_enumerate_next ?_ (F.args_enumerate_next_1 _))))
 change EQ _ _ (field (.ref e) 2 >>= _) _ _ _;show Db (KF he U (x:=.ref it) U ?_);show Db (eC hh hit hl hx λh' x he' hx'=>?_);let(o,ho,hc):=hx';show Db (wpAny_isInstance (T:="StopIteration") (b:=true) #[o,ho,hc] isSubtype_stop ?_);exact Fr (hQ _ he')
theorem AR(hh:A.handled=none)(it l:AC)(oJ:l≠it)(items:Array AT) :
  Draws prog w A it [it,l] items.size (λi v=>items[i]?=some v) (λi h=>h.IsTupleIter it l i/\h.IsTuple l items) where
 live:=λ_ _ st=>let #[o,ho,_]:=st.1;#[o,ho]
 frame:=λ_ _ _ st hk=>#[st.1.at λo e=>hk it (by simp) o e,let #[o,e,r]:=st.2;#[o,hk l (by simp) o e,r]]
 item:=λi s Q E hi st hQ=>by
  show kf st.1 st.2 (x:=items[i]) (by simp[hi]) λh' hit' Dd=>?_;exact hQ _ h' s.toks (by simp[hi]) #[hit',let #[o,e,r]:=st.2;#[o,Dd.extBut l o oJ e,r]] Dd
 done:=λs Q E st hE=>eC hh st.1 st.2 (by simp) hE
theorem i6(l:AC)(items:Array AT)(n:Nat)(Rr:Option AC)(sl:Array (Option AT)) :
  Meets (GE.«enumerate.__new__» #[[.type "enumerate",.ref l],[]]) (λ_ R s=>s.heap.get? l=some { cls:=.type "tuple",dict:=Rr,data:=.seq items n,slots:=sl } /\
   R (.ok (.ret (.ref (s.heap.push { cls:=.type "tuple_iterator",data:=.fields #v[.ref l,.int 0 0] }).objs.size)))
    { s with heap:=(s.heap.push { cls:=.type "tuple_iterator",data:=.fields #v[.ref l,.int 0 0] }).push { cls:=.type "enumerate",data:=.fields #v[.none,.bool false,.ref ↑s,KM 0,.none,.none] } }) :=
 .of_wp λprog w A R s h=>by
  let(hp,g,d,tk,os):=s;let(hl,h):=h;have hsub:=sub_enumerate;have hL:Ev.IsTuple (Da.heap #[hp,g,d,tk,os]) l items:=#[_,hl,U,n,U]
  wp_walk using wpAny_loadPart' hl
  show wpAny_stack_any λst=>Fr ?_;split
  .rename_i c _ _ _ _ _
   cases (c == AT.type "enumerate")
   .wp_walk using wpAny_loadPart' hl,wpAny_pyIter_tuple hL
    exact#[_,U,h]
   .wp_walk using wpAny_loadPart' hl,wpAny_pyIter_tuple hL
    exact#[_,U,h]
  .wp_walk using wpAny_loadPart' hl,wpAny_pyIter_tuple hL
   exact#[_,U,h]
theorem iC{l:AC}{items:Array AT}{Q:Yy}(hL:s.heap.IsTuple l items)(h:∀ h',IsEnum h' (↑s+1) ↑s 0 .none->h'.IsTupleIter ↑s l 0->h'.objs.size=↑s+2 ->
   (∀ b o,s.heap.get? b=some o->h'.get? b=some o)->Q (.ref (↑s+1)) { s with heap:=h' }) :
  EQ (model prog w) A (call (.type "enumerate") [.ref l]) Q E s:=by
 let((c,Rr,dt,sl),hl,hc,n,hd):=hL
 replace hc:c=.type "tuple":=hc
 replace hd:dt=.seq items n:=hd
 subst hc hd;show callType_new F.called_enumerate () (F.typeCall_enumerate_1 _) (F.newCall_enumerate_1 _) (λobj=>F.args_object_init_2 obj _) F.entry_enumerate_new
  (i6 l items n Rr sl) #[hl,?_]
 have hz:(s.heap.push { cls:=.type "tuple_iterator",data:=.fields #v[.ref l,.int 0 0] }).objs.size=↑s+1:=W9 ..;change _/\_;rw[hz];have he:IsEnum ((s.heap.push { cls:=.type "tuple_iterator",data:=.fields #v[.ref l,.int 0 0] }).push
   { cls:=.type "enumerate",data:=.fields #v[.none,.bool false,.ref ↑s,KM 0,.none,.none] }) (↑s+1) ↑s 0 .none:=by
  have:=Wz (s.heap.push { cls:=.type "tuple_iterator",data:=.fields #v[.ref l,.int 0 0] })
   (o:={ cls:=.type "enumerate",data:=.fields #v[.none,.bool false,.ref ↑s,KM 0,.none,.none] }) U
  rw[hz] at this;exact this
 show#[#[_,he,U],h _ he #[_,Wl _ (Wz _ U),U,U] (by rw[W9,hz]) λb o x=>Wl _ (Wl _ x)]
end
end FZ
namespace L2
open PySem PySem.Spec
open PyProof.Rows hiding St
def t7(K:Frag)(tup:Bool)(H:Hp)(a:AC)(xs:!V):Prop:=if tup=true then iu K H a xs else dO K H a xs
def Ox(K:Frag)(tup:Bool)(a:AC):It :=
 #[λi H=>∃ xs x,t7 K tup H a xs/\xs[i]?=some x,λi H x H'=>∃ p,H p=none/\x=.ref p/\∀ xs,t7 K tup H a xs->∃ y,xs[i]?=some y/\H'=upd H p (.tup [.int i,y]),λi H=>∃ xs,t7 K tup H a xs/\xs.length<=i]
section
variable{P:Fa}{w:FS}{K:Frag}
theorem ni{X:Cx}{TW:Yz}{σ:St}{H:Hp}{s:Da}{a:AC}{tup:Bool}{xs ys:!V}(I:Inv X TW σ H s)(h:t7 X.K tup H a xs)(h':t7 X.K tup H a ys):ys=xs:=by
 cases tup with
 | true=>exact I.qO (show iu X.K H a ys from h') h
 | false=>exact I.vf (show dO X.K H a ys from h') h
theorem Inv.xH{X:Cx}{TW:Yz}{σ:St}{H:Hp}{s:Da}{h':Ev}{t':Nat}{fp:!AC}{a:AC}{o:HO}(I:Inv X TW σ H s)(k:∀ b u,b∉fp->s.heap.get? b=some u->h'.get? b=some u)(hf:∀ b∈fp,iq X TW H b)(hp:↑s<=a)(new:cj X.prog X.w (upd H a o) h' a o):Inv X TW σ (upd H a o) { s with heap:=h',toks:=t' }:=by
 have hn:H a=none:=I.bf.fresh hp;have nit:∀ b u,H b=some u->b∉fp:=λb u e z=>by rw[(hf b z).1] at e;cases e
 have up:∀ b u,H b=some u->upd H a o b=some u:=λb u e=>by rw[au (aD e hn)];exact e
 show I.step (g':=s.gens) (d':=s.drawn) (ch:=fp) (λb hb=>?_) (λb ob _ _ hc e _=>k b ob hc e) (λb ob _ _ hc e _=>#[ob.slots,k b ob hc e]) (λb ob _ e n=>?_)
  (λb ob hc e=>#[ob,k b ob hc e]) (λb xs e=>up b _ e) (λb ob u e=>up b _ e) (λb ps e=>#[#v[],by rw[up b _ e];simp]) (λm hm=>?_) (λb u e=>?_) I.bare
 .let(f0,f1,f2,f3,f4,f5):=hf b hb;exact#[f3,f1,f4,f5]
 .rw[au (WK (WB (Ww e) hp))];exact n
 .let(ob,es,ep,ho,r):=hm;exact#[ob,es,ep,k _ ob (λz=>(hf _ z).2.1 U) ho,r]
 .by_cases hb:b=a
  .subst hb;rw[ax] at e;cases e;exact new
  .rw[au hb] at e;show (I.bf b u e).sI (λq v hq w=>k q v ?_ w) (λq w=>up q _ w) λq _ w=>up q _ w;rcases hq with z | z
   .rw[z];exact nit b u e
   .exact nit q _ z
theorem Inv.kJ{X:Cx}{TW:Yz}{σ:St}{H:Hp}{s:Da}{h':Ev}{t':Nat}{fp:!AC}(I:Inv X TW σ H s)(k:∀ b u,b∉fp->s.heap.get? b=some u->h'.get? b=some u)(hf:∀ b∈fp,iq X TW H b) :
  Inv X TW σ H { s with heap:=h',toks:=t' }:=by
 have nit:∀ b u,H b=some u->b∉fp:=λb u e z=>by rw[(hf b z).1] at e;cases e
 show I.step (g':=s.gens) (d':=s.drawn) (ch:=fp) (λb hb=>?_) (λb ob _ _ hc e _=>k b ob hc e) (λb ob _ _ hc e _=>#[ob.slots,k b ob hc e]) (λb ob _ e n=>n)
  (λb ob hc e=>#[ob,k b ob hc e]) (λb xs e=>e) (λb ob u e=>e) (λb ps e=>#[#v[],by rw[e];simp]) (λm hm=>?_) (λb u e=>?_) I.bare
 .let(f0,f1,f2,f3,f4,f5):=hf b hb;exact#[f3,f1,f4,f5]
 .let(ob,es,ep,ho,r):=hm;exact#[ob,es,ep,k _ ob (λz=>(hf _ z).2.1 U) ho,r]
 .refine (I.bf b u e).sI (λq v hq w=>k q v ?_ w) (λq w=>w) λq _ w=>w;rcases hq with z | z
  .rw[z];exact nit b u e
  .exact nit q _ z
def jQ(tup:Bool)(h:Ev)(it a:AC)(i:Nat):Prop:=if tup=true then h.IsTupleIter it a i else h.IsListIter it a i
theorem jQ.at{tup:Bool}{h h':Ev}{it a:AC}{i:Nat}(x:jQ tup h it a i)(k:∀ o,h.get? it=some o->h'.get? it=some o):jQ tup h' it a i:=by
 cases tup with
 | true=>exact Ev.IsTupleIter.at (show h.IsTupleIter it a i from x) k
 | false=>exact Ev.IsListIter.at (show h.IsListIter it a i from x) k
theorem jQ.obj{tup:Bool}{h:Ev}{it a:AC}{i:Nat}(x:jQ tup h it a i):∃ o,h.get? it=some o/\∀ v,o.data≠.cell v:=by
 cases tup with
 | true =>
  let(o,e,c,d):=(show h.IsTupleIter it a i from x);exact#[o,e,λv z=>by rw[d] at z;cases z]
 | false =>
  let(o,e,c,d):=(show h.IsListIter it a i from x);exact#[o,e,λv z=>by rw[d] at z;cases z]
theorem qj(tup:Bool){elts:!Ch}{k:Nat}{kc:Pos}(a it e:AC)(NN:e≠it):Turn P w K (.Tuple elts k kc) (Ox K tup a) [e,it] e (λi h=>(∃ old,IsEnum h e it i old)/\jQ tup h it a i) where
 mem:=by simp
 obj:=λi h st b hb=>by
  rcases WI.mp hb with rfl | hb
  .let((old,he),_):=st;exact#[_,he,λv z=>by
    have z':Data.fields _=Data.cell v:=z;cases z']
  .rw[WA.mp hb];exact st.2.obj
 keep:=λi h h' st kk=>#[let #[old,he]:=st.1;#[old,kk e (by simp) _ he],st.2.at λo x=>kk it (by simp) o x]
 item:=by
  intro X hP hw hK hc i TW s σ H E I hf st hg;subst hP hw hK;let((old,he),hit):=st;let(f0,f1,f2,f3,f4,f5):=hf e (by simp);let(g0,g1,g2,g3,g4,g5):=hf it (by simp);let(xs,x,hq,hx):=hg;have hd:(X.A.in1).handled=none:=I.ok.hd hc;have helt:e < ↑s:=Ww he;have fin:∀ (u:AT) (h':Ev) (tk:Nat),RelV x u->IsEnumOut h' e it ((i:Int)+1) u ↑s->jQ tup h' it a (i+1)->h'.get? ↑s=some { cls:=.type "tuple",data:=.seq #v[.int i tk,u] }->h'.objs.size=↑s+1 ->
    (∀ b o,b≠e->b≠it->s.heap.get? b=some o->h'.get? b=some o)->(∀ zs,t7 X.K tup H a zs->zs=xs) ->
    ∃ v,some (AT.ref ↑s)=some v/\EQ (model X.prog X.w) X.A (letOwnedTupleGo (.Tuple elts k kc) (.ref e) v) (λ_ s2=>∃ x H',Inv X TW σ H' s2/\RelV x v/\(Ox X.K tup a).JZ i H x H'/\((∃ old,IsEnum s2.heap e it (i+1:Nat) old)/\jQ tup s2.heap it a (i+1))/\∀ b∈[e,it],H' b=none) E { s with heap:=h',toks:=tk+1 }:=by
   intro u h' tk ru ho Dd hT hsz hk hinj;show#[_,U,?_];show wpAny_letOwnedTupleGo_enum (s:={ s with heap:=h',toks:=tk+1 }) ho λh2 he2 tU=>?_;have hkeep:∀ b o,b≠e->b≠it->s.heap.get? b=some o->h2.get? b=some o:=λb o h1 h2' h3=>(tU.2 b h1).trans (hk b o h1 h2' h3);have Fe:↑s≠e:=Xx helt;have vq:H ↑s=none:=I.bf.fresh (Wo _);have I1:Inv X TW σ (upd H ↑s (.tup [.int i,x])) { s with heap:=h2,toks:=tk+1 } :=
    Inv.xH I (λb o hb q=>hkeep b o (λz=>hb (by simp[z])) (λz=>hb (by simp[z])) q) hf (Nat.le_refl _)
     #[by change 2<=FB;decide,[.int i tk,u],.cons #[tk,U] (.cons ru .nil),#[_,(tU.2 _ Fe).trans hT,U,_,U,U]]
   show#[.ref ↑s,_,I1,U,#[↑s,vq,U,λzs hz=>#[x,by rw[hinj zs hz];exact hx,U]],#[#[u,by simpa using he2],Dd.at λo y=>(tU.2 it NN.symm).trans y],λb hb=>?_];have hb':b < ↑s:=by
    rcases WI.mp hb with rfl | hb
    .exact helt
    .rw[WA.mp hb];let(o,y,_):=hit.obj;exact Ww y
   rw[au (WK hb')];exact (hf b hb).1
  have hef:e∉[it,a]:=λhm=>by
   rcases WI.mp hm with z | hm
   .exact NN z
   .have z:e=a:=WA.mp hm;subst z;cases tup with
    | false =>
     let(_,_,p,_):=I.list (show dO X.K H e xs from hq);let(o,_,e1,c1,_):=p;rw[he] at e1;cases e1;exact absurd c1 (by change ¬ AT.type "enumerate"=AT.type "list";decide)
    | true =>
     let(_,_,p,_):=I.tuple (show iu X.K H e xs from hq);let(o,e1,c1,_):=p;rw[he] at e1;cases e1;exact absurd c1 (by change ¬ AT.type "enumerate"=AT.type "tuple";decide)
  have hai:a≠it:=λz=>by
   subst z;cases tup with
   | false =>
    let(_,_,p,_):=I.list (show dO X.K H a xs from hq);let(o,_,e1,c1,_):=p;let(o',e2,c2,_):=(show s.heap.IsListIter a a i from hit);rw[e1] at e2;cases e2;rw[c1] at c2;exact absurd c2 ()
   | true =>
    let(_,_,p,_):=I.tuple (show iu X.K H a xs from hq);let(o,e1,c1,_):=p;let(o',e2,c2,_):=(show s.heap.IsTupleIter a a i from hit);rw[e1] at e2;cases e2;rw[c1] at c2;exact absurd c2 ()
  cases tup with
  | true =>
   let(its,rv,p,hz):=I.tuple (show iu X.K H a xs from hq);let(u,hu,ru):=rv.get hx;have hi:i < its.toArray.size:=by
    have:=(Wn.mp hu).1;simpa using this
   show wpAny_pyNext_enum_itemD (FZ.AR hd it a hai its.toArray) he #[hit,p] hi NN hef λy h' tk hy ho Dd hT hsz hk=>?_;have e:y=u:=by
    have hy':its[i]?=some y:=by simpa using hy
    rw[hu] at hy';exact (WU hy').symm
   subst e;exact fin y h' tk ru ho Dd.1 hT hsz hk λzs hz=>ni I hq hz
  | false =>
   let(its,rv,p,hz):=I.list (show dO X.K H a xs from hq);let(u,hu,ru):=rv.get hx;have hi:i < its.toArray.size:=by
    have:=(Wn.mp hu).1;simpa using this
   show wpAny_pyNext_enum_itemD (Draws.list hd it a hai its.toArray) he #[hit,p.isList] hi NN hef λy h' tk hy ho Dd hT hsz hk=>?_;have e:y=u:=by
    have hy':its[i]?=some y:=by simpa using hy
    rw[hu] at hy';exact (WU hy').symm
   subst e;exact fin y h' tk ru ho Dd.1 hT hsz hk λzs hz=>ni I hq hz
 done:=by
  intro X hP hw hK hc i TW s σ H E I hf st hg;subst hP hw hK;let((old,he),hit):=st;let(xs,hq,hx):=hg;have hd:(X.A.in1).handled=none:=I.ok.hd hc;cases tup with
  | true =>
   let(its,rv,p,hz):=I.tuple (show iu X.K H a xs from hq);have hn:its.toArray[i]?=none:=by
    have:=rv.length;simp;cbv
   exact FZ.ll (I.ok.hd hc) he hit p hn λh' eb=>#[U,Inv.kJ (t':=s.toks) I (λb o hb q=>eb b o (λz=>hb (by simp[z])) q) hf]
  | false =>
   let(its,rv,p,hz):=I.list (show dO X.K H a xs from hq);have hn:its.toArray[i]?=none:=by
    have:=rv.length;simp;cbv
   exact wpAny_pyNext_enum_end (I.ok.hd hc) he hit p.isList hn λh' eb=>#[U,Inv.kJ (t':=s.toks) I (λb o hb q=>eb b o (λz=>hb (by simp[z])) q) hf]
 self:=λ_ _ _ _ _ st h=>by
  let((old,he),_):=st;exact wpAny_pyIter_enum he h
section
variable{X:Cx}
def Kg(K:Frag)(t:TA):TI:=λσ H R=>t σ H λvs H1=>∃ a tup xs,vs=[.ref a]/\t7 K tup H1 a xs/\(xs.length<=FB->R (Ox K tup a) H1)
theorem Du{elts:!Ch}{k:Nat}{kc p pos:Pos}{a:Ch}{t:TA}(hg:Gl X "enumerate")(hm:X.mg "enumerate"=none)(ha:PA X [a] t)(hs:(Go [a] X.env=[(false,eval a X.env)])⁻¹):PI X (.Tuple elts k kc) (.Call (.Name "enumerate" p) [a] [] pos) (Kg X.K t):=by
 intro TW s σ H R I h;show Call_ (iH I hg hm (u:=.type "enumerate") (by decide+kernel) (PyProof.Rows.callWith_type1 (bW (ha pos TW s σ H _ I h) λus s1 zz=>el2 zz λvs H1 I1 r1 q1=>?_) hs U));let(a,tup,xs,e,hq,q):=q1;subst e;let(u,rfl,ru):=Vals.one r1;cases ru;have fp:∀ b∈[↑s1+1,↑s1],iq X TW H1 b:=λb hb=>by
  have hle:↑s1<=b:=by
   rcases WI.mp hb with rfl | hb
   .cbv
   .rw[WA.mp hb];exact Wo _
  exact I1.rK hle (I1.bf.fresh hle)
 cases tup with
 | true =>
  let(its,rv,pp,hz):=I1.tuple (show iu X.K H1 a xs from hq);show FZ.iC (items:=its.toArray) pp λh' he hit hsz hk=>?_;show wpAny_pyIter_enum he ?_;exact#[↑s1+1,_,_,_,H1,U,I1.kept (t':=s1.toks) hk,qj true a ↑s1 (↑s1+1) (Nat.succ_ne_self _),#[#[_,he],hit],fp,q hz]
 | false =>
  let(its,rv,pp,hz):=I1.list (show dO X.K H1 a xs from hq);show call_enumerate_list (items:=its.toArray) pp.isList λh' he hit hsz hk=>?_;show wpAny_pyIter_enum he ?_;exact#[↑s1+1,_,_,_,H1,U,I1.kept (t':=s1.toks) hk,qj false a ↑s1 (↑s1+1) (Nat.succ_ne_self _),#[#[_,he],hit],fp,q hz]
end
end
end L2
namespace DL
open PySem PySem.Spec L2
open PyProof.Rows hiding St
section
variable{X:Cx}{c:Ent}
def l7(ds:!D):!D:=(List.range ds.length).zipWith (λi d=>.tup [.int (i:Nat),d]) ds
def Ir(t:d8):d8:=λs Q=>t s λas s1=>∃ ds,(as=[.lst ds]\/as=[.tup ds])/\Q (l7 ds) s1
theorem zB{ds:!D}{i:Nat}{d:D}(h:(l7 ds)[i]?=some d):∃ x,ds[i]?=some x/\d=.tup [.int i,x]:=by
 unfold l7 at h;rw[List.getElem?_zipWith] at h;cases e:ds[i]? with
 | none =>
  rw[e] at h;cases e2:(List.range ds.length)[i]? with
  | none=>rw[e2] at h;cases h
  | some j=>rw[e2] at h;cases h
 | some x =>
  have hl:=(Wn.mp e).1;rw[e,List.getElem?_range hl] at h;cases h;exact#[x,U,U]
theorem jf{ds:!D}:(l7 ds).length=ds.length:=by simp[l7]
theorem GX{elts:!Ch}{k:Nat}{kc p pos:Pos}{a:Ch}{t:d8}(hg:Gl X "enumerate")(hm:X.mg "enumerate"=none)(ha:DA X c [a] t)(hs:(Go [a] X.env=[(false,eval a X.env)])⁻¹):DI X c (.Tuple elts k kc) (.Call (.Name "enumerate" p) [a] [] pos) (Ir t) :=
 #[λTW s σ H R I zz=>cZ zz λM s0 as R0 L q k=>Du hg hm ha.pa hs TW s σ H R I
  #[M,s0,as,_,L,q,λads s1 z2r M1 H1 vs L1 E1 rv _=>by
   let(ds,hd,q1):=z2r;have go:∀ {a tup xs},ay X.K H1 M1 ds xs->(∀ M2 H2,dW M1 H1 M2 H2->t7 X.K tup H2 a xs/\ay X.K H2 M2 ds xs)->GO X.K M1 H1 (l7 ds) (Ox X.K tup a):=λ{a tup xs} r h M2 H2 G=>by
    let(h2,r2):=h M2 H2 G;show#[λi hi=>#[xs,h2,by rw[r.length];rw[jf] at hi;exact hi],λi d hd=>?_];let(y,hy,rfl):=zB hd;let(v,g1,g2):=r2.get hy;show#[#[xs,v,h2,g1],λx H3 #[b,hb,ex,hx]=>.inr ?_];let(w,w1,w2):=hx xs h2;rw[g1] at w1;cases w1;subst w2;exact#[b,_,hb,U,b,_,ex,#[.inr U,ax],#[_,_,U,U,_,_,U,vC hb g2,U]]
   rcases hd with rfl | rfl
   .let(v,rfl,a,xs,rfl,(m,h),r):=cU rv;exact#[a,false,xs,U,.of h,λhl=>k _ s1 q1 M1 H1 _ L1 E1 (go r λM2 H2 G=>#[.of ((G a m).2 _ h),G.tR r]) (by rw[jf,<- r.length];exact hl)]
   .let(v,rfl,a,xs,rfl,h,r):=cU rv;exact#[a,true,xs,U,h.sq,λhl=>k _ s1 q1 M1 H1 _ L1 E1 (go r λM2 H2 G=>#[(h.mono (λb m=>(G b m).1) λb o m e=>(G b m).2 o e).sq,G.tR r]) (by rw[jf,<- r.length];exact hl)]]]
end
mutual
noncomputable def toP:D->GM
 | .br=>.none
 | .bl b=>.bool b
 | .int i=>.int i
 | .str x=>.str x
 | .tup ds=>.tuple (toPs ds)
 | .lst ds=>.list (toPs ds)
 | .cT _=>.none
 | .ty _=>.none
 | .uJ _ _=>.none
 | .mE _ _=>.none
 | .F8 _ _=>.none
 | .ob _ _ _=>.none
noncomputable def toPs:!D->!GM
 | []=>[]
 | d::ds=>toP d::toPs ds
end
mutual
noncomputable def mU:D->Bool
 | .br=>true
 | .bl _=>true
 | .int _=>true
 | .str x=>GM.strOk x
 | .tup ds=>mP ds
 | .lst ds=>mP ds
 | .cT _=>false
 | .ty _=>false
 | .uJ _ _=>false
 | .mE _ _=>false
 | .F8 _ _=>false
 | .ob _ _ _=>false
noncomputable def mP:!D->Bool
 | []=>true
 | d::ds=>mU d&&mP ds
end
mutual
theorem oM:∀ d:D,mU d=true->(toP d).canLay0=true
 | .br,_=>rfl
 | .bl _,_=>rfl
 | .int _,_=>rfl
 | .str x,h=>by
  change GM.canLay0 (.str x)=true;simpa [GM.canLay0,mU] using h
 | .tup ds,h=>by
  change GM.canLay0 (.tuple (toPs ds))=true;simpa [GM.canLay0] using rj ds h
 | .lst ds,h=>by
  change GM.canLay0 (.list (toPs ds))=true;simpa [GM.canLay0] using rj ds h
 | .cT _,h=>by cases h
 | .ty _,h=>by cases h
 | .uJ _ _,h=>by cases h
 | .mE _ _,h=>by cases h
 | .F8 _ _,h=>by cases h
 | .ob _ _ _,h=>by cases h
theorem rj:∀ ds:!D,mP ds=true->GM.canLayAll0 (toPs ds)=true
 | [],_=>rfl
 | d::ds,h=>by
  have h:(mU d&&mP ds)=true:=h;rw[W4] at h;change GM.canLayAll0 (toP d::toPs ds)=true;simp[GM.canLayAll0,oM d h.1,rj ds h.2]
end
section
variable{X:Cx}{TW:Yz}{σ:St}{H:Hp}{s:Da}{M:AC->Prop}
mutual
theorem iO(I:Inv X TW σ H s):∀ (d:D) (v:V) (u:AT),mU d=true->Rep X.K H M d v->RelV v u->∃ as,Reads s.heap u (toP d) as
 | .br,v,u,_,r,q=>by
  have r:v=.br:=r;subst r;cases (show u=AT.none from q);exact#[_,.none]
 | .bl b,v,u,_,r,q=>by
  have r:v=.bl b:=r;subst r;cases (show u=AT.bool b from q);exact#[_,.bool b]
 | .int i,v,u,_,r,q=>by
  have r:v=.int i:=r;subst r;let(t,rfl):=(show ∃ t,u=AT.int i t from q);exact#[_,.int i t]
 | .str x,v,u,_,r,q=>by
  have r:v=.str x:=r;subst r;let(t,rfl):=(show ∃ t,u=AT.str x t from q);exact#[_,.str x t]
 | .tup ds,v,u,h,r,q=>by
  let(a,xs,rfl,(m,ha),r):=r;cases (show u=AT.ref a from q);let(_,its,rv,o,e,hc,n,hd,_):=I.bf a _ ha;let(as,hr):=lO I ds xs its h r rv;exact#[_,.tuple e hc hd (by simpa using hr)]
 | .lst ds,v,u,h,r,q=>by
  let(a,xs,rfl,(m,ha),r):=r;cases (show u=AT.ref a from q);let(_,its,n,rv,e):=I.bf a _ ha;let(as,hr):=lO I ds xs its h r rv;exact#[_,.list e U U (by simpa using hr)]
 | .cT _,v,u,h,r,q=>by cases h
 | .ty _,v,u,h,r,q=>by cases h
 | .uJ _ _,v,u,h,r,q=>by cases h
 | .mE _ _,v,u,h,r,q=>by cases h
 | .F8 _ _,v,u,h,r,q=>by cases h
 | .ob _ _ _,v,u,h,r,q=>by cases h
theorem lO(I:Inv X TW σ H s):∀ (ds:!D) (vs:!V) (us:!AT),mP ds=true->ay X.K H M ds vs->Vals vs us->∃ as,ReadsAll s.heap us (toPs ds) as
 | [],vs,us,_,r,q=>by
  have r:vs=[]:=r;subst r;cases q;exact#[_,.nil]
 | d::ds,vs,us,h,r,q=>by
  have h:(mU d&&mP ds)=true:=h;rw[W4] at h;let(x,xr,rfl,r1,r2):=r;cases q with
  | cons q1 q2 =>
   let(as,h1):=iO I d x _ h.1 r1 q1;let(bs,h2):=lO I ds xr _ h.2 r2 q2;exact#[_,.cons h1 h2]
end
end
def FX(a b:D):Bool:=GM.eqv (toP a) (toP b)
def uF(d:D):Nat:=(toP d).depth
section
variable{X:Cx}{c:Ent}
def BR(K:Frag)(neg:Bool):R2:=λx y H Q=>∃ M dx dy,Rep K H M dx x/\Rep K H M dy y/\mU dx=true/\mU dy=true/\(uF dx<=150\/uF dy<=150)/\Q (.bl (if neg then (not (FX dx dy)) else FX dx dy)) H
theorem qd{m n u:Nat}(h:m<=150\/n<=150)(hu:u+150 < cLine):u+min m n < cLine:=by
 have:min m n<=150:=by cbv
 cbv
theorem vR(hu:X.A.units+150 < cLine):gF X (IR .Eq) (BR X.K false):=by
 intro TW s σ H x y v u Q I rx ry h;let(M,dx,dy,r1,r2,o1,o2,hd,q):=h;let(as,h1):=iO I dx x v o1 r1 rx;let(bs,h2):=iO I dy y u o2 r2 ry;exact SeqAt.compareEq_reads h1 h2 (oM dx o1) (oM dy o2) (qd hd hu) #[.bl _,H,I,U,q]
theorem sJ(hu:X.A.units+150 < cLine):gF X (IR .NotEq) (BR X.K true):=by
 intro TW s σ H x y v u Q I rx ry h;let(M,dx,dy,r1,r2,o1,o2,hd,q):=h;let(as,h1):=iO I dx x v o1 r1 rx;let(bs,h2):=iO I dy y u o2 r2 ry;exact SeqAt.compareNe_reads h1 h2 (oM dx o1) (oM dy o2) (qd hd hu) #[.bl _,H,I,U,q]
def Pb(neg:Bool):D->D->(D->Prop)->Prop:=λa b k=>(mU a=true/\mU b=true/\(uF a<=150\/uF b<=150))/\k (.bl (if neg then (not (FX a b)) else FX a b))
theorem qt{neg:Bool}:m7 X c (BR X.K neg) (Pb neg):=λM s as σ H x y dx dy k Q L rx ry #[#[o1,o2,hd],hk] kk=>#[M,dx,dy,rx,ry,o1,o2,hd,kk _ hk M H _ L .refl U]
mutual
theorem eqv_refl:∀ d:D,GM.eqv (toP d) (toP d)=true
 | .br=>rfl
 | .bl b=>by change GM.eqv (.bool b) (.bool b)=true;simp[GM.eqv]
 | .int i=>by change GM.eqv (.int i) (.int i)=true;simp[GM.eqv]
 | .str x=>by change GM.eqv (.str x) (.str x)=true;simp[GM.eqv]
 | .tup ds=>by change GM.eqv (.tuple (toPs ds)) (.tuple (toPs ds))=true;simpa [GM.eqv] using l3 ds
 | .lst ds=>by change GM.eqv (.list (toPs ds)) (.list (toPs ds))=true;simpa [GM.eqv] using l3 ds
 | .cT _=>rfl
 | .ty _=>rfl
 | .uJ _ _=>rfl
 | .mE _ _=>rfl
 | .F8 _ _=>rfl
 | .ob _ _ _=>rfl
theorem l3:∀ ds:!D,GM.eqvAll (toPs ds) (toPs ds)=true
 | []=>rfl
 | d::ds=>by change GM.eqvAll (toP d::toPs ds) (toP d::toPs ds)=true;simp[GM.eqvAll,eqv_refl d,l3 ds]
end
theorem oC(d:D):FX d d=true:=eqv_refl d
def IB:D->String->Option Bool
 | .int _,T=>if T="int" then some true else if T="bool"\/T="str"\/T="list"\/T="tuple" then some false else none
 | .bl _,T=>if T="int"\/T="bool" then some true else if T="str"\/T="list"\/T="tuple" then some false else none
 | .str _,T=>if T="str" then some true else if T="bool"\/T="int"\/T="list"\/T="tuple" then some false else none
 | .tup _,T=>if T="tuple" then some true else if T="bool"\/T="int"\/T="list"\/T="str" then some false else none
 | .lst _,T=>if T="list" then some true else if T="bool"\/T="int"\/T="tuple"\/T="str" then some false else none
 | _,_=>none
def Nc(K:Frag):!V->Hp->VK->Prop:=λxs H Q=>∃ M d v T b,xs=[v,.ty T]/\Rep K H M d v/\IB d T=some b/\Q (.bl b) H
theorem Ci:dB X (.builtin "isinstance") (Nc X.K):=by
 intro TW s σ H xs us Q I r h;let(M,d,v,T,b,rfl,rd,hb,q):=h;let(u,t,rfl,ru,rt):=r.two;cases (show t=AT.type T from rt);have fin:∀ n,EP X TW σ Q (.bool b) { s with toks:=n }:=λn=>#[.bl b,H,I.tok n,U,q];have fin0:EP X TW σ Q (.bool b) s:=#[.bl b,H,I,U,q];cases d with
 | int i =>
  cases (show v=.int i from rd);let(t,rfl):=ru
  replace hb:(if T="int" then some true else if T="bool"\/T="str"\/T="list"\/T="tuple" then some false else none)=some b:=hb
  split at hb
  .rename_i e;subst e;cases hb;exact IsiPair.int_int fin0
  .split at hb
   .rename_i e
    cases hb;rcases e with rfl | rfl | rfl | rfl
    .exact IsiPair.int_bool (fin _)
    .exact IsiPair.int_str (fin _)
    .exact IsiPair.int_list (fin _)
    .exact IsiPair.int_tuple (fin _)
   .cases hb
 | bl i =>
  cases (show v=.bl i from rd);cases (show u=AT.bool i from ru)
  replace hb:(if T="int"\/T="bool" then some true else if T="str"\/T="list"\/T="tuple" then some false else none)=some b:=hb
  split at hb
  .rename_i e
   cases hb;rcases e with rfl | rfl
   .exact IsiPair.bool_int fin0
   .exact IsiPair.bool_bool fin0
  .split at hb
   .rename_i e
    cases hb;rcases e with rfl | rfl | rfl
    .exact IsiPair.bool_str (fin _)
    .exact IsiPair.bool_list (fin _)
    .exact IsiPair.bool_tuple (fin _)
   .cases hb
 | str i =>
  cases (show v=.str i from rd);let(t,rfl):=ru
  replace hb:(if T="str" then some true else if T="bool"\/T="int"\/T="list"\/T="tuple" then some false else none)=some b:=hb
  split at hb
  .rename_i e;subst e;cases hb;exact IsiPair.str_str fin0
  .split at hb
   .rename_i e
    cases hb;rcases e with rfl | rfl | rfl | rfl
    .exact IsiPair.str_bool (fin _)
    .exact IsiPair.str_int (fin _)
    .exact IsiPair.str_list (fin _)
    .exact IsiPair.str_tuple (fin _)
   .cases hb
 | tup ds =>
  let(a,xs,rfl,(m,ha),r):=rd;cases (show u=AT.ref a from ru);let(_,its,rv,o,e,hc,n,hd,_):=I.bf a _ ha
  replace hb:(if T="tuple" then some true else if T="bool"\/T="int"\/T="list"\/T="str" then some false else none)=some b:=hb
  split at hb
  .rename_i e';subst e';cases hb;exact IsiPair.tuple_tuple e hc fin0
  .split at hb
   .rename_i e'
    cases hb;rcases e' with rfl | rfl | rfl | rfl
    .exact IsiPair.tuple_bool e hc (fin _)
    .exact IsiPair.tuple_int e hc (fin _)
    .exact IsiPair.tuple_list e hc (fin _)
    .exact IsiPair.tuple_str e hc (fin _)
   .cases hb
 | lst ds =>
  let(a,xs,rfl,(m,ha),r):=rd;cases (show u=AT.ref a from ru);let(_,its,n,rv,e):=I.bf a _ ha
  replace hb:(if T="list" then some true else if T="bool"\/T="int"\/T="tuple"\/T="str" then some false else none)=some b:=hb
  split at hb
  .rename_i e';subst e';cases hb;exact IsiPair.list_list e rfl fin0
  .split at hb
   .rename_i e'
    cases hb;rcases e' with rfl | rfl | rfl | rfl
    .exact IsiPair.list_bool e U (fin _)
    .exact IsiPair.list_int e U (fin _)
    .exact IsiPair.list_tuple e U (fin _)
    .exact IsiPair.list_str e U (fin _)
   .cases hb
 | _=>simp[IB] at hb
def Qz:YA:=λas k=>∃ d T b,as=[d,.ty T]/\IB d T=some b/\k (.bl b)
theorem Mo:yR X c (Nc X.K) Qz:=λM s as σ H xs ds k Q L r z3r kk=>by
 let(d,T,b,e,hb,hk):=z3r;subst e;let(v,w,rfl,r1,r2):=qK r;have r2:w=.ty T:=r2;subst r2;exact#[M,d,v,T,b,U,r1,hb,kk _ hk M H _ L .refl U]
end
end DL
namespace FZ
open PySem
section
variable{prog:Fa}{w:FS}{A:Fk}{E:Yy}{s:Da}{T:String}{r d:AC}{n:Nat}{P:Nat->AT->Prop}{OK:Ev->Prop}
end
end FZ
namespace L2
open PySem PySem.Spec
open PyProof.Rows hiding St
section
variable{X:Cx}
end
end L2
namespace DL
open PySem PySem.Spec L2
open PyProof.Rows hiding St
section
variable{X:Cx}{c:Ent}
end
end DL
namespace DL
open PySem PySem.Spec L2
set_option genSizeOf true in set_option genInjectivity true in inductive Fm where
 | nm (x:Str) | num (i:Int) | op (s:Str) | BO | lt (x:Str) | mk (c:Str) | ask (f:Str) | Fb (r:Str) (hs:!(Str×!Str)) | new (k:Str) (hs:!(Str×!Str))
set_option genSizeOf true in set_option genInjectivity true in inductive Tm where
 | node (f:Fm) (ks:!Tm)
def Fm.ar:Fm->Nat->Bool
 | .nm _,n=>n == 0
 | .num _,n=>n == 0
 | .op _,n=>n == 2
 | .BO,n=>n == 3
 | .lt _,n=>n == 2
 | .mk _,_=>true
 | .ask _,n=>1<=n
 | .Fb _ hs,n=>n == hs.length+1&&hs.all λh=>h.2.length<=8
 | .new _ hs,n=>n == hs.length&&hs.all λh=>h.2.length<=8
mutual
noncomputable def Tm.wf:Tm->Bool
 | .node f ks=>f.ar ks.length&&Kp ks
noncomputable def Kp:!Tm->Bool
 | []=>true
 | t::r=>t.wf&&Kp r
end
mutual
noncomputable def Tm.size:Tm->Nat
 | .node _ ks=>qA ks+1
noncomputable def qA:!Tm->Nat
 | []=>0
 | t::r=>t.size+qA r
end
mutual
noncomputable def Tm.dep:Tm->Nat
 | .node _ ks=>CB ks+1
noncomputable def CB:!Tm->Nat
 | []=>0
 | t::r=>max t.dep (CB r)
end
def Ng(ns:!Str):!D:=ns.map .str
def QF(h:Str×!Str)(k:D):D:=.tup [.str h.1,.tup (Ng h.2),k]
def AZ:!(Str×!Str)->!D->!D
 | h::hs,k::ks=>QF h k::AZ hs ks
 | _,_=>[]
def VR:Fm->!D->D
 | .nm x,_=>.tup [.str "name",.str x]
 | .num i,_=>.tup [.str "num",.int i]
 | .op s,ks=>.tup (.str "op"::.str s::ks)
 | .BO,ks=>.tup (.str "zero"::ks)
 | .lt x,ks=>.tup (.str "let"::.str x::ks)
 | .mk c,ks=>.tup [.str "make",.str c,.tup ks]
 | .ask f,ks=>.tup [.str "ask",ks.headD .br,.str f,.tup ks.tail]
 | .Fb r hs,ks=>.tup [.str "case",ks.headD .br,.str r,.tup (AZ hs ks.tail)]
 | .new k hs,ks=>.tup [.str "new",.str k,.tup (AZ hs ks)]
mutual
noncomputable def toD:Tm->D
 | .node f ks=>VR f (toDs ks)
noncomputable def toDs:!Tm->!D
 | []=>[]
 | t::r=>toD t::toDs r
end
theorem toDs_map:∀ ks:!Tm,toDs ks=ks.map toD
 | []=>rfl
 | t::r=>by rw[toDs,toDs_map r,Wu]
theorem gq{b:Bool}{A B:Prop}(h:b=false)(q:B):if b=true then A else B:=by
 subst h;exact sH q
theorem gC{b:Bool}{A B:Prop}(h:b=true)(q:A):if b=true then A else B:=by
 subst h;exact lM q
theorem len0{α:Type}{l:!α}(h:l.length=0):l=[]:=X3 h
theorem D0{α:Type}{l:!α}(h:1<=l.length):∃ a r,l=a::r:=by
 cases l with
 | nil=>simp at h
 | cons a r=>exact#[a,r,U]
theorem RE{α:Type}{l:!α}(h:l.length=2):∃ a b,l=[a,b]:=by
 let(a,r,rfl):=D0 (l:=l) (by cbv);let(b,r',rfl):=D0 (l:=r) (by simp at h;cbv);have:r'=[]:=len0 (by simpa using h);subst this;exact#[a,b,U]
theorem bA:16000000<=FB:=by decide
theorem bQ{α:Type}{x:α}{r:!α}:gR (x::r) 0=some x:=eZ (j:=0) U
theorem cy{α:Type}{nt:Nat}{us:!Nat}{g:o5}{te:aZ}(h f:α->D){Q:!D->DS->Prop}{s:DS}:∀ (xs:!α) {acc:!D},(∀ x∈xs,∀ k:D->DS->Prop,(∀ s':DS,s'.os=s.os->k (f x) s')->g (h x) (gw nt us s) λs1=>te s1 k)->Q (acc++xs.map f) s->b6 nt us g cV te (xs.map h) acc s Q
 | [],acc,_,q=>by
  rw[Xr,WH] at q;exact q
 | x::xs,acc,hx,q=>by
  change g (h x) (gw nt us s) λs1=>cV s1 λb s2=>if b=true then te s2 λy s3=>b6 nt us g cV te (xs.map h) (acc++[y]) #[s.sl,s3.os] Q else b6 nt us g cV te (xs.map h) acc #[s.sl,s2.os] Q;have:=hx x Wt (λy s3=>b6 nt us g cV te (xs.map h) (acc++[y]) #[s.sl,s3.os] Q) λs' e=>by
   rw[e];show cy h f xs (λy hy=>hx y (Wq _ hy)) ?_;rw[WN];exact q
  simpa [cV] using this
theorem bj{α:Type}{nt:Nat}{us:!Nat}{g:o5}{ti:kD}{te:aZ}(h f:α->D)(p:α->Bool){Q:!D->DS->Prop}{s:DS}:∀ (xs:!α) {acc:!D},
  (∀ x∈xs,∀ k:D->DS->Prop,∀ N:DS->Prop,(p x=true->∀ s':DS,s'.os=s.os->k (f x) s')->(p x=false->∀ s':DS,s'.os=s.os->N s')->g (h x) (gw nt us s) λs1=>ti s1 λb s2=>if b=true then te s2 k else N s2)->Q (acc++(xs.filter p).map f) s->b6 nt us g ti te (xs.map h) acc s Q
 | [],acc,_,q=>by
  rw[List.filter_nil,Xr,WH] at q;exact q
 | x::xs,acc,hx,q=>by
  show hx x Wt (λy s3=>b6 nt us g ti te (xs.map h) (acc++[y]) #[s.sl,s3.os] Q) (λs2=>b6 nt us g ti te (xs.map h) acc #[s.sl,s2.os] Q) (λhp s' e=>?_) λhp s' e=>?_
  .show b6 nt us g ti te (xs.map h) (acc++[f x]) #[s.sl,s'.os] Q;rw[e];show bj h f p xs (λy hy=>hx y (Wq _ hy)) ?_;rw[List.filter_cons_of_pos hp] at q;rw[WN];exact q
  .show b6 nt us g ti te (xs.map h) acc #[s.sl,s'.os] Q;rw[e];show bj h f p xs (λy hy=>hx y (Wq _ hy)) ?_;rw[List.filter_cons_of_neg (by rw[hp];exact WC)] at q;exact q
end DL
namespace DL
open PySem PySem.Spec L2
open PyProof.Rows hiding St
section
variable{X:Cx}{c:Ent}
theorem oZ{A:Fk}{k:Nat}(hr:bU k A):A.units+150 < cLine:=by have:=hr.un;cbv
def J9:D->D->(D->Prop)->Prop:=λa b k=>∃ x y,a=.str x/\b=.str y/\(x.length+y.length<=FB)/\k (.str (x++y))
end
theorem fj{P:Fa}{w:FS}{K:Frag}{mg:Str->Option AT}{base:Ev}{k:Nat}{f:AC}{fd:Gc}{ps:!Str}{g:zE}:bY P w K mg base bu k f fd ps (cA K g λ_ _=>False) :=
 #[λvs H Q E h=>by let(_,_,_,_,_,h,_):=h;exact h.elim,λA outer s H args us vs Q E hr he hb hv h=>by let(_,_,_,_,_,h,_):=h;exact h.elim]
def gb(d:AC):YA:=λds R=>∃ m:Int,ds=[.cT d,.int m]/\(0 < m/\m < 9223372036854775808)/\∀ r:Int,0<=r->r < m->R (.int r)
theorem EW{P:Fa}{w:FS}{K:Frag}{mg:Str->Option AT}{base:Ev}{k:Nat}{f d l:AC}{fd:Gc}{ps:!Str}(F:bY P w K mg base bu k f fd ps cP.vL):bY P w K mg base bu k f fd ps (cA K (aT d l) (gb d)) :=
 F.imp λvs H Q E h=>by
  let(M,ds,R,B,r,(m,rfl,(h1,h2),k),kk):=h;let(v,w,rfl,e1,e2):=qK r;cases (show v=.ref d from e1);cases (show w=.int m from e2);show#[d,l,m,U,B.pI,h1,h2,λq H' q1 q2 A' bt=>kk _ (k q q1 q2) M H' _ #[A',λb o e g=>bt b o e (λz=>g (.inl z)) λz=>g (.inr z),λb m=>?_,B.mo,λ_ m=>m,λ_ m=>.inl m] rfl];let(o,e):=B.md b m;exact#[o,bt b o e (λz=>B.mo b m (.inl z)) λz=>B.mo b m (.inr z)]
section
variable{X:Cx}{c:Ent}
def O8(i:Nat):aZ:=λs Q=>(∃ d,s.sl[i]?=some (.dat d)/\Q d s)\/∃ k d,s.sl[i]?=some (.own k)/\s.os[k]?=some (some d)/\Q d (s.freeze k d)
theorem za{i:Nat}{e:Ch}(h:PE X e (bR i)):DE X c e (O8 i):=#[λTW s0 σ H Q I zz=>cZ zz λM s as R L q kk=>by
 rcases q with q | q
 .exact (dv (c:=c) h).pe TW s0 σ H Q I #[M,s,as,R,L,q,kk]
 .exact (P4 (c:=c) h).pe TW s0 σ H Q I #[M,s,as,R,L,q,kk]]
def K7(neg:Bool)(i:Nat)(tb:aZ):aZ:=λs Q=>∃ k d0,s.sl[i]?=some (.own k)/\s.os[k]?=some (some d0)/\tb s λb s1=>∃ d,s1.os[k]?=some (some d)/\(mU d=true/\mU b=true/\(uF d<=150\/uF b<=150))/\Q (.bl (if neg then (not (FX d b)) else FX d b)) s1
theorem Ho{neg:Bool}{i:Nat}{tb:aZ}{σ:St}{H:Hp}{Q:VK}:tE X.K c (K7 neg i tb) σ H Q->iG (BR X.K neg) (bR i) (tE X.K c tb) σ H Q:=λz1q=>by
 let(M,s,as,R,L,(k,d0,h1,h2,q),kk):=z1q;let(a,o,g1,g2,g3,g4):=L.slot h1 h2;show#[_,g2,M,s,as,_,L,q,λb s1 z2q M1 H1 v L1 E1 rv=>?_];let(d,e1,(o1,o2,hd),q1):=z2q;let((o',f1,f2),nm,ng,h0):=L1.obj k _ a e1 g1;exact#[λb=>M1 b\/b=a,d,b,(f2.mono (λ_ m=>.inl m) λ_ _ _ e=>e).rep f1 (.inr U),Rep.mono (λ_ m=>.inl m) (λ_ _ _ e=>e) _ _ rv,o1,o2,hd,kk _ s1 q1 M1 H1 _ L1 E1 U]
theorem Jt{neg:Bool}{i:Nat}{a b:Ch}{op:CmpOp}{tb:aZ}{pos:Pos}(ho:gF X (IR op) (BR X.K neg))(ha:PE X a (bR i))(hb:DE X c b tb)(hm:behindInMarks op b=false):DT X c (.Compare a [op] [b] pos) (FE (K7 neg i tb)):=#[(hJ ho ha hb.pe hm).imp λ_ _ _=>gT Ho]
theorem bp:m7 X c (λx y H Q=>∃ i j,x=.str i/\y=.str j/\i.length+j.length<=FB/\Q (.str (i++j)) H) J9:=λM s as σ H x y dx dy k Q L rx ry z4r kk=>by
 let(i,j,e1,e2,h,hk):=z4r;subst e1;subst e2;exact#[i,j,rx,ry,h,kk _ hk M H _ L .refl U]
def Nv:D->D->(D->Prop)->Prop:=λa b k=>∃ z n,a=.str z/\b=.int n/\MulOk z n/\k (.str (Txt.mul z n))
theorem vW:m7 X c (λx y H Q=>∃ z n,x=.str z/\y=.int n/\MulOk z n/\Q (.str (Txt.mul z n)) H) Nv:=λM s as σ H x y dx dy k Q L rx ry z5r kk=>by
 let(i,j,e1,e2,h,hk):=z5r;subst e1;subst e2;exact#[i,j,rx,ry,h,kk _ hk M H _ L .refl U]
def Qv(te:aZ)(tl th:Ei):aZ:=λs Q=>te s λa s1=>tl s1 λl s2=>th s2 λu s3=>∃ z,a=.str z/\z.length<=FB/\Q (.str (Txt.slice z l u)) s3
theorem aY{e:Ch}{lo hi:Option Ch}{te:aZ}{tl th:Ei}{p2 pos:Pos}(he:DE X c e te)(hl:DO X c lo tl)(hu:DO X c hi th):DE X c (.Subscript e (.Slice lo hi none p2) pos) (Qv te tl th):=#[(i3 Hz he.pe hl.po hu.po).imp λσ H Q zz=>cZ zz λM s as R L q k =>
 #[M,s,as,_,L,q,λd s1 q1 M1 H1 v L1 E1 rv=>#[M1,s1,as,_,L1,q1,λl s2 q2 M2 H2 Lb E2=>#[M2,s2,as,_,Lb,q2,λu s3 q3 M3 H3 Lc E3=>by
  let(z,e,hz,q):=q3;subst e;have E13:=E2.trans Lb.base E3;exact#[z,rv,hz,k _ s3 q M3 H3 _ Lc (E1.trans L1.base E13) U]]]]]
theorem uR{K:Frag}{H:Hp}{M:AC->Prop}:∀ {bs:!Str} {vs:!V},ay K H M (bs.map .str) vs->vs=bs.map V.str
 | [],vs,r=>r
 | b::bs,vs,r=>by
  let(x,xr,rfl,r1,r2):=r;have r1:x=.str b:=r1;rw[r1,uR r2,Wu]
def Mq(to:aZ)(t:d8):aZ:=λs Q=>to s λa s1=>∃ z,a=.str z/\t s1 λds s2=>∃ zs,ds=[.lst (zs.map .str)]/\(zs.map (·.length)).sum+zs.length * z.length<=16777216/\Q (.str (Txt.join z zs)) s2
theorem tu{o e:Ch}{es:!Ch}{to:aZ}{t:d8}{apos bX:Pos}(ho:DE X c o to)(ha:DA X c (e::es) t)(fF:(attributeBase o "join" X.env (eval o X.env)=eval o X.env)⁻¹)(oE:(((Ix bX (Go (e::es) X.env)).all (λx=>(not x.1))&&(Re bX (Rs [] X.env)).all (λx=>x.1.isSome)
   && decide ((e::es).length+([]:!NE).length+(if ([]:!NE).isEmpty then 0 else 1) < 30))=true)⁻¹)(dF:((apos.endLine == bX.line)=true)⁻¹)(hs:(YB X.env e es)⁻¹)(fG:((Ix bX (Go es X.env)).any (·.1)=false)⁻¹) :
  DE X c (.Call (.Attribute o "join" apos) (e::es) [] bX) (Mq to t):=#[(yH PySem.F.plainAttrs_str PySem.F.slot_str_join PySem.F.type_str_join Ej ho.pe ha.pa fF oE dF hs fG).imp λσ H Q zz=>cZ zz λM s as R L q kk=>by
 show#[M,s,as,_,L,q,λd s1 #[z,e,q1] M1 H1 v L1 E1 rv=>?_];subst e;cases (show v=.str z from rv);show#[U,M1,s1,as,_,L1,q1,λds s2 #[zs,e2,hz,q2] M2 H2 vs L2 E2 rvs hl=>?_];subst e2;let(w,rfl,p,ys,rfl,(m,h),r'):=cU rvs;rw[uR r'] at h;exact#[z,p,zs,U,U,.of h,hz,kk _ s2 q2 M2 H2 _ L2 (E1.trans L1.base E2) U]]
def Jd(zs:!Str):d8:=λs Q=>Q (zs.map .str) s
theorem qv{K:Frag}{H:Hp}{M:AC->Prop}:∀ (zs:!Str),ay K H M (zs.map .str) (zs.map V.str)
 | []=>rfl
 | z::zs=>#[_,_,U,U,qv zs]
theorem xS{es:!Ch}{zs:!Str}(h:ou es=true)(h2:ua es=zs)(h3:es.length=zs.length):DA X c es (Jd zs):=#[(by subst h2;exact (xM h).imp λσ H Q zz=>cZ zz λM s as R L q k=>k _ s q M H _ L .refl (qv _) (by rw[Wk];exact h3.symm))]
def Ks(neg:Bool)(te:aZ)(i:Nat):aZ:=λs Q=>te s λa s1=>∃ k ds,s1.sl[i]?=some (.own k)/\s1.os[k]?=some (some (.lst ds))/\(gy a=true/\ds.all gy=true)/\Q (.bl (if neg then (not (y0 (fv a) (ds.map fv))) else y0 (fv a) (ds.map fv))) s1
theorem II{neg:Bool}{i:Nat}{te:aZ}{σ:St}{H:Hp}{Q:VK}:tE X.K c (Ks neg te i) σ H Q->iG (JR X.K neg) (tE X.K c te) (bR i) σ H Q:=λzz=>cZ zz λM s as R L q kk =>
 #[M,s,as,_,L,q,λd s1 z5q M1 H1 v L1 E1 rv=>by
  let(k,ds,h1,h2,(f1,f2),q1):=z5q;let(a,o,g1,g2,g3,g4):=L1.slot h1 h2;cases o with
  | lst us =>
   have g4:ay X.K H1 M1 ds us:=g4;have e1:=rv.flat f1;subst e1;let(e,f):=g4.flat f2;show#[_,g2,a,us,U,.inl (.of g3),pF f1,f,?_];rw[e];exact kk _ s1 q1 M1 H1 _ L1 E1 U
  | _=>exact g4.elim]
theorem HQ{neg:Bool}{i:Nat}{a b:Ch}{op:CmpOp}{ta:aZ}{pos:Pos}(ho:gF X (IR op) (JR X.K neg))(ha:DE X c a ta)(hb:PE X b (bR i))(hm:behindInMarks op b=false):DT X c (.Compare a [op] [b] pos) (FE (Ks neg ta i)):=#[(hJ ho ha.pe hb hm).imp λ_ _ _=>gT II]
end
end DL
namespace DL
open PySem PySem.Spec L2
section
variable{κ:Type}[DecidableEq κ]
theorem xR{ks:!κ}{q:κ}:tF ks q=true↔q∈ks:=by
 unfold tF;rw[List.any_eq_true];constructor
 .rintro⟨k,h1,h2⟩;rw[<- of_decide_eq_true h2];exact h1
 .intro h;exact#[q,h,decide_eq_true U]
theorem ow:∀ {ks:!κ} {vs:!D} {q:κ} {x:D} (r:κ),ks.length=vs.length->q∈ks->bM ks (me ks vs q x) r=if r=q then some x else bM ks vs r
 | [],vs,q,x,r,_,h=>by cases h
 | k::ks,[],q,x,r,e,_=>by simp at e
 | k::ks,v::vs,q,x,r,e,h=>by
  change (if k=r then some (if k=q then x else v) else bM ks (me ks vs q x) r)=if r=q then some x else if k=r then some v else bM ks vs r;by_cases h1:k=r
  .subst h1;rw[if_pos U,if_pos U];by_cases h2:k=q
   .rw[if_pos h2,if_pos h2]
   .rw[if_neg h2,if_neg h2]
  .rw[if_neg h1,if_neg h1];by_cases h3:q∈ks
   .exact ow r (by simpa using e) h3
   .have h4:q=k:=by
     rcases WI.mp h with h | h
     .exact h
     .exact absurd h h3
    have h5:¬ r=q:=λz=>h1 (h4.symm.trans z.symm);rw[if_neg h5];have:∀ {ks:!κ} {vs:!D},ks.length=vs.length->q∉ks->bM ks (me ks vs q x) r=bM ks vs r:=by
     intro ks vs
     induction ks generalizing vs with
     | nil=>intro e _;cases vs<;>first | rfl | simp at e
     | cons k ks ih =>
      intro e hn;cases vs with
      | nil=>simp at e
      | cons v vs =>
       change (if k=r then some (if k=q then x else v) else bM ks (me ks vs q x) r)=if k=r then some v else bM ks vs r;have hk:¬ k=q:=λz=>hn (by rw[z];exact Wt);rw[if_neg (c:=k=q) hk,ih (by simpa using e) λz=>hn (List.mem_cons_of_mem _ z)]
    exact this (by simpa using e) h3
theorem qS:∀ {ks:!κ} {vs:!D} {q:κ} {x:D} (r:κ),ks.length=vs.length->q∉ks->bM (ks++[q]) (vs++[x]) r=if r=q then some x else bM ks vs r
 | [],[],q,x,r,_,h=>by
  change (if q=r then some x else none)=_;by_cases h1:r=q
  .rw[if_pos h1,if_pos h1.symm]
  .rw[if_neg h1,if_neg (Ne.symm h1)]
   rfl
 | [],_::_,q,x,r,e,_=>by simp at e
 | _::_,[],q,x,r,e,_=>by simp at e
 | k::ks,v::vs,q,x,r,e,h=>by
  change (if k=r then some v else bM (ks++[q]) (vs++[x]) r)=if r=q then some x else if k=r then some v else bM ks vs r;have hk:k≠q:=λz=>h (by rw[z];exact Wt);by_cases h1:k=r
  .subst h1;rw[if_pos U,if_neg hk,if_pos U]
  .rw[if_neg h1,if_neg h1];exact qS r (by simpa using e) λz=>h (List.mem_cons_of_mem _ z)
theorem Bj{ks:!κ}{vs:!D}{q:κ}{x:D}(r:κ)(e:ks.length=vs.length):bM (gf ks q) (g6 ks vs q x) r=if r=q then some x else bM ks vs r:=by
 unfold gf g6;by_cases h:tF ks q=true
 .rw[if_pos h,if_pos h];exact ow r e (xR.mp h)
 .rw[if_neg h,if_neg h];exact qS r e λz=>h (xR.mpr z)
theorem qe:∀ {ks:!κ} {vs:!D} {q:κ} {x:D},ks.length=vs.length->(me ks vs q x).length=vs.length
 | [],[],q,x,_=>rfl
 | [],_::_,q,x,e=>by simp at e
 | _::_,[],q,x,e=>by simp at e
 | k::ks,v::vs,q,x,e=>by
  change (me ks vs q x).length+1=vs.length+1;rw[qe (by simpa using e)]
theorem yq{ks:!κ}{vs:!D}{q:κ}{x:D}(e:ks.length=vs.length):(gf ks q).length=(g6 ks vs q x).length/\(gf ks q).length<=ks.length+1:=by
 unfold gf g6;by_cases h:tF ks q=true
 .rw[if_pos h,if_pos h,qe e];exact#[e,Xw _]
 .rw[if_neg h,if_neg h];simp[e]
end
def Fm.strs:Fm->!Str
 | .nm x=>[x]
 | .num _=>[]
 | .op s=>[s]
 | .BO=>[]
 | .lt x=>[x]
 | .mk c=>[c]
 | .ask f=>[f]
 | .Fb r hs=>r::(hs.map λh=>h.1::h.2).flatten
 | .new k hs=>k::(hs.map λh=>h.1::h.2).flatten
mutual
noncomputable def Tm.Jq:Tm->Bool
 | .node f ks=>f.strs.all GM.strOk&&CG ks
noncomputable def CG:!Tm->Bool
 | []=>true
 | t::r=>t.Jq&&CG r
end
theorem yI:∀ {ks:!Tm} {n:Nat},(∀ k∈ks,k.dep<=n)->CB ks<=n
 | [],n,_=>WG _
 | t::r,n,h=>by
  have h1:=h t Wt;have h2:=yI (n:=n) λk hk=>h k (Wq _ hk);change max t.dep (CB r)<=n;cbv
end DL
namespace DL
open PySem PySem.Spec L2
open PyProof.Rows hiding St
def Lw(x:Str):Prop:=∀ ch∈x.cps.toList,97<=ch/\ch<=122
noncomputable instance (x:Str):Decidable (Lw x):=by unfold Lw;infer_instance
theorem Lw.app{x y:Str}(h:Lw x)(k:Lw y):Lw (x++y):=λch hc=>by
 have e:(x++y).cps.toList=x.cps.toList++y.cps.toList:=by change (x.cps++y.cps).toList=_;simp
 rw[e,WS] at hc;rcases hc with hc | hc
 .exact h ch hc
 .exact k ch hc
theorem Lw.slice{x:Str}(h:Lw x)(l u:Option Int):Lw (Txt.slice x l u):=by
 unfold Txt.slice;split
 .exact h
 .intro ch hc;simp only[List.mem_filterMap] at hc;let(i,_,e):=hc;let(hi,e):=Xl.mp e;exact h ch (by rw[<- e];simp)
theorem pj:∀ (cs:!Nat),(Txt.join ("":Str) (cs.map λc=>(#[#v[c]]:Str))).cps.toList=cs
 | []=>by unfold Txt.join;rw[PySem.StrLaws.glued_eq_join];rfl
 | [c]=>by unfold Txt.join;rw[PySem.StrLaws.glued_eq_join];rfl
 | c::d::r=>by
  have ih:=pj (d::r);have e:(Txt.join ("":Str) ((c::d::r).map λc=>(#[#v[c]]:Str)))=(#[#v[c]]:Str)++("":Str)++Txt.join ("":Str) ((d::r).map λc=>(#[#v[c]]:Str)):=by
   unfold Txt.join;rw[XM,XM]
   rfl
  rw[e];change ((#v[c]++#v[])++(Txt.join ("":Str) ((d::r).map λc=>(#[#v[c]]:Str))).cps).toList=_;rw[Array.toList_append,ih]
  rfl
theorem Lw.strOk{x:Str}(h:Lw x):GM.strOk x=true:=by
 unfold GM.strOk;rw[Array.all_eq_true];intro i hi;have:=h x.cps[i] (by simp);simp;cbv
theorem nK{nt:Nat}{us:!Nat}{g:o5}{te:aZ}(Pd:D->Prop){Q:!D->DS->Prop}{s:DS}:∀ (xs:!D) {acc:!D},(∀ x∈xs,∀ k:D->DS->Prop,(∀ (y:D) (s':DS),Pd y->s'.os=s.os->k y s')->g x (gw nt us s) λs1=>te s1 k)->(∀ ys:!D,ys.length=xs.length->(∀ y∈ys,Pd y)->Q (acc++ys) s)->b6 nt us g cV te xs acc s Q
 | [],acc,_,q=>by
  have:=q [] rfl (λ_ h=>absurd h (by simp));rw[WH] at this;exact this
 | x::xs,acc,hx,q=>by
  have:=hx x Wt (λy s3=>b6 nt us g cV te xs (acc++[y]) #[s.sl,s3.os] Q) λy s' hy e=>by
   change b6 nt us g cV te xs (acc++[y]) #[s.sl,s'.os] Q;rw[e];show nK Pd xs (λz hz=>hx z (Wq _ hz)) λys hl hp=>?_;rw[WN];show q ([y]++ys) (by simp[hl]) λz hz=>?_;rcases WI.mp hz with rfl | hz
   .exact hy
   .exact hp z hz
  rw[b6];simpa [cV] using this
def yj(K:Frag):Sp:=λvs H Q _=>∃ (a:AC) (ns:!Int),vs=[.ref a]/\dO K H a (ns.map V.int)/\ns.length<=63/\∀ H',Q (.bl true) H'
def uN:!Str:=["made","asked","def","tab","cross","to","number"]
def qU:!Str:=["zero","let","make","ask","case","new"]
def Nm(x:Str):Prop:=Lw x/\1<=x.length/\x.length<=8/\x∉uN/\x∉qU
noncomputable instance (x:Str):Decidable (Nm x):=by unfold Nm;infer_instance
theorem D7:∀ z∈cP.near,Nm z:=by decide+kernel
theorem Dx:∀ z∈uN,(z++("q":Str))∉uN/\(z++("q":Str))∉qU/\z.length<=6:=by decide+kernel
theorem ET:∀ z∈qU,(z++("q":Str))∉uN/\(z++("q":Str))∉qU/\z.length<=6:=by decide+kernel
theorem eJ{w:Str}:∀ {zs:!Str},y0 (.str w) (zs.map V.str)=decide (w∈zs)
 | []=>rfl
 | z::zs=>by
  have ih:=eJ (w:=w) (zs:=zs);unfold y0 at ih ⊢;rw[Wu,XS,ih];rw[show DJ (V.str z) (V.str w)=decide (z=w) from U];by_cases h:z=w
  .simp[h]
  .simp[h,Ne.symm h]
def wl(pre post:!Nat)(tn k e:Nat):!Nat:=pre++(97+(tn+7 * k) % 26)::(post++(List.replicate (k % 2) 120++(List.replicate (k / 26) 121++List.replicate e 113)))
theorem IT{pre post:!Nat}{tn k k' e e':Nat}(h:wl pre post tn k e=wl pre post tn k' e'):k=k':=by
 unfold wl at h;have h:=Yl h;injection h with h1 h2;have h2:=Yl h2;have h3:k % 26=k' % 26:=by cbv
 have h4:k % 2=k' % 2:=by cbv
 rw[h4] at h2;have h2:=Yl h2;have h5:=congrArg (List.count 121) h2;simp[List.count_append,List.count_replicate] at h5;cbv
theorem kB(x y:Str):(x++y).cps.toList=x.cps.toList++y.cps.toList:=by change (x.cps++y.cps).toList=_;simp
theorem xl{r:Int}(h0:0<=r)(h1:r < 26):gR cP.KN.cps.toList r=some (97+r.toNat):=by
 have hn:∀ n:Fin 26,cP.KN.cps.toList[n.val]?=some (97+n.val):=by decide+kernel
 have hj:r.toNat < 26:=by cbv
 have e:(r.toNat:Int)=r:=Int.toNat_of_nonneg h0;have q:=eZ (xs:=cP.KN.cps.toList) (j:=r.toNat) (v:=97+r.toNat) (hn #[r.toNat,hj]);rw[e] at q;exact q
theorem xi{c:Nat}{n:Int}(h0:0<=n)(h1:n<=2):(Txt.mul (#[#v[c]]:Str) n).cps.toList=List.replicate n.toNat c/\MulOk (#[#v[c]]:Str) n:=by
 have:n=0\/n=1\/n=2:=by cbv
 rcases this with rfl | rfl | rfl
 .exact#[U,U,λh=>absurd () h,λh=>absurd () h]
 .exact#[U,U,λ_ h=>absurd h (by simp),λ_ h=>absurd h (by simp)]
 .exact#[U,U,λ_ _=>by change ¬ ((1:Nat):Int) > (2 ^ 63 - 1) / 2;decide,λ_ _=>by change PySem.Builtin.Str.tooLong (1 * 2)=false;decide]
theorem qX{α:Type}{z:α}:∀ {ws:!α} (i:Nat),ws.Nodup->z∉ws->(ws.set i z).Nodup
 | [],i,h,hz=>by simpa using h
 | w::ws,0,h,hz=>by
  rw[List.set_cons_zero];rw[Xy] at h ⊢;exact#[λm=>hz (Wq _ m),h.2]
 | w::ws,i+1,h,hz=>by
  rw[List.set_cons_succ];rw[Xy] at h ⊢;show#[λm=>?_,qX i h.2 λm=>hz (Wq _ m)];rcases List.mem_or_eq_of_mem_set m with m | e
  .exact h.1 m
  .exact hz (by rw[<- e];exact Wt)
open PySem.Builtin PySem.Builtin.Str in
theorem ur(x:Str)(l u:Option Int):(Txt.slice x l u).length<=(strSliceIndices l u 1 x.length).length:=by
 unfold Txt.slice;split
 .rename_i h
  simp at h;cbv
 .show (List.filterMap _ (strSliceIndices l u 1 x.length)).toArray.size<=_;rw[WL];exact List.length_filterMap_le _ _
open PySem.Builtin PySem.Builtin.Str in
theorem zi{x:Str}{i:Int}(h0:0<=i)(h1:i<=x.length):(Txt.slice x none (some i)).length+(Txt.slice x (some i) none).length<=x.length:=by
 have a:=ur x none (some i);have b:=ur x (some i) none;have ha:(strSliceIndices none (some i) 1 x.length).length<=i.toNat:=by
  unfold strSliceIndices sliceRange;simp only[show (1:Int) > 0 by decide,if_true,List.length_map,List.length_range]<;>(split<;>(try split)<;>(try split)<;>(try simp only[Int.ediv_one])<;>cbv)
 have hb:(strSliceIndices (some i) none 1 x.length).length<=x.length - i.toNat:=by
  unfold strSliceIndices sliceRange;simp only[show (1:Int) > 0 by decide,if_true,List.length_map,List.length_range]<;>(split<;>(try split)<;>(try split)<;>(try simp only[Int.ediv_one])<;>cbv)
 cbv
def uC(pre post:!Nat)(tn:Nat)(ws:!Str):Prop:=∀ (j:Nat) (w:Str),ws[j]?=some w->Nm w/\∃ e,w.cps.toList=wl pre post tn j e
theorem uC.nodup{pre post:!Nat}{tn:Nat}{ws:!Str}(h:uC pre post tn ws):ws.Nodup:=by
 rw[Ye,List.pairwise_iff_getElem];intro i j hi hj Si e;let(_,e1,h1):=h i ws[i] (Wy hi);let(_,e2,h2):=h j ws[j] (Wy hj);rw[e,h2] at h1;have:=IT h1;cbv
theorem uC.snoc{pre post:!Nat}{tn:Nat}{ws:!Str}{u:Str}{e:Nat}(h:uC pre post tn ws)(hu:Nm u)(he:u.cps.toList=wl pre post tn ws.length e):uC pre post tn (ws++[u]):=λj w q=>by
 by_cases hj:j < ws.length
 .rw[Xo hj] at q;exact h j w q
 .rw[Xk (by cbv)] at q;let(h1,h2):=Wn.mp q;simp at h1;have:j=ws.length:=by cbv
  subst this;simp at h2;subst h2;exact#[hu,e,he]
theorem uC.nm{pre post:!Nat}{tn:Nat}{ws:!Str}(h:uC pre post tn ws):∀ w∈ws,Nm w:=λw m=>by
 let(j,hj,e):=XE m;exact (h j w (by rw[Wy hj,e])).1
def BL(d:AC):YA:=λds R=>∃ m:Int,ds=[.cT d,.int m]/\(0 < m/\m<=60)/\∀ ws:!Str,ws.length=m.toNat->ws.Nodup->(∀ x∈ws,Nm x)->R (.lst (ws.map .str))
section
variable{X:Cx}{c:Ent}
def rX:D->Bool
 | .br=>true
 | _=>false
theorem Rep.Fg{K:Frag}{H:Hp}{M:AC->Prop}{d:D}{v:V}(r:Rep K H M d v):decide (v=.br)=rX d:=by
 cases d with
 | br=>rw[show v=.br from r];rfl
 | bl b=>rw[show v=.bl b from r];rfl
 | int b=>rw[show v=.int b from r];rfl
 | str b=>rw[show v=.str b from r];rfl
 | cT b=>rw[show v=.ref b from r];rfl
 | ty b=>rw[show v=.ty b from r];rfl
 | tup _=>let(a,xs,rfl,_):=r;rfl
 | lst _=>let(a,xs,rfl,_):=r;rfl
 | uJ _ _=>let(a,xs,rfl,_):=r;rfl
 | mE _ _=>let(a,xs,rfl,_):=r;rfl
 | F8 _ _=>let(a,o,xs,ts,rfl,_):=r;rfl
 | ob _ _ _=>let(a,dx,xs,rfl,_):=r;rfl
def Ra:D->D->(D->Prop)->Prop:=λa b k=>b=.br/\k (.bl (rX a))
def Me:D->D->(D->Prop)->Prop:=λa b k=>b=.br/\k (.bl (not (rX a)))
theorem qo:m7 X c (λx y H Q=>y=.br/\Q (.bl (decide (x=.br))) H) Ra:=λM s as σ H x y dx dy k Q L rx ry z6r kk=>by
 let(e,hk):=z6r;subst e;show#[ry,?_];rw[rx.Fg];exact kk _ hk M H _ L .refl U
theorem Ip:m7 X c (λx y H Q=>y=.br/\Q (.bl (not (decide (x=.br)))) H) Me:=λM s as σ H x y dx dy k Q L rx ry z7r kk=>by
 let(e,hk):=z7r;subst e;show#[ry,?_];rw[rx.Fg];exact kk _ hk M H _ L .refl U
def PJ:YA:=λas k=>∃ i j,as=[.int i,.int j]/\k (.int (if j < i then j else i))
theorem Nw:yR X c (λxs H Q=>∃ i j,xs=[.int i,.int j]/\Q (.int (if j < i then j else i)) H) PJ:=λM s as σ H xs ds k Q L r z8r kk=>by
 let(i,j,e,hk):=z8r;subst e;let(v,w,rfl,e1,e2):=qK r;have e1:v=.int i:=e1;have e2:w=.int j:=e2;subst e1;subst e2;exact#[i,j,U,kk _ hk M H _ L .refl U]
end
end DL
namespace PyZ
open PySem Sem
section
variable{prog:Fa}{w:FS}{A:Fk}{E:Yy}{s:Da}{z TI TO i1 i2:AC}{f1 f2:!AC}{n1 n2:Nat}{P1 P2:Nat->AT->Prop}{S1 S2:Nat->Ev->Prop}
structure Apart(z TI TO i1 i2:AC)(f1 f2:!AC):Prop where
 TIz:TI≠z
 TOz:TO≠z
 i1z:i1≠z
 i2z:i2≠z
 TITO:TI≠TO
 TIi1:TI≠i1
 TIi2:TI≠i2
 TOi1:TO≠i1
 TOi2:TO≠i2
 z1:z∉f1
 z2:z∉f2
 o1:TO∉f1
 o2:TO∉f2
 a1:i2∉f1
 a2:i1∉f2
structure Zip(S1 S2:Nat->Ev->Prop)(z TI TO i1 i2:AC)(f0:AT)(k1 k2:Nat)(h:Ev):Prop where
 zip:IsZip h z TI TO f0
 ins:Os h TI (.ref i1) (.ref i2)
 out:∃ a b,Os h TO a b
 Ku:S1 k1 h
 Jw:S2 k2 h
theorem but{c:AC}{f:!AC}{h h':Ev}{S:Nat->Ev->Prop}{it:AC}{n k:Nat}{P:Nat->AT->Prop}(D:Draws prog w A it f n P S)(x:Ev.SameBut c h h')(hc:c∉f)(st:S k h):S k h' :=
 D.frame _ _ _ st λb hb o e=>x.extBut _ _ (λq=>hc (q▸hb)) e
theorem next_item{k:Nat}{Q:Yy}(X:Apart z TI TO i1 i2 f1 f2)(D1:Draws prog w A i1 f1 n1 P1 S1)(D2:Draws prog w A i2 f2 n2 P2 S2)(Z:Zip S1 S2 z TI TO i1 i2 .none k k s.heap)(h1:k < n1)(h2:k < n2)(hQ:∀ x y h' tk,P1 k x->P2 k y->Zip S1 S2 z TI TO i1 i2 (KM ↑s) (k+1) (k+1) h'->Os h' ↑s x y->h'.objs.size=↑s+1 ->
   (∀ c o,c≠z->c≠TO->c≠i1->c≠i2->s.heap.get? c=some o->h'.get? c=some o)->Q (.ref ↑s) { s with heap:=h',toks:=tk }) :
  EQ (model prog w) A (GE.«zip.__next__» #[[.ref z],[]]) (λfin s'=>∃ v,fin=.done (.ret v)/\Q v s') E s:=by
 let(hz,hTI,(a,b,hTO),t1,t2):=Z;change EQ _ _ (field (.ref z) 2 >>= _) _ _ _;show Db (KF hz U (x:=.bool false) U ?_);change EQ _ _ (field (.ref z) 3 >>= _) _ _ _;show Db (KF hz U (x:=.ref TI) U (Db (SL hTI U ?_)));change EQ _ _ (GE.SmallTypes.ownedTupleIsFree (.ref z) >>= _) _ _ _;show Db ?_;unfold GE.SmallTypes.ownedTupleIsFree;show Db (KF hz U (x:=.none) U (Fr ?_));simp only[if_true];show Db (wpAny_rule (Db (KF hz U (x:=.ref TO) U (Db (wpAny_setField_rec hz (by simp) λha hza sa=>?_)))))
 replace hza:IsZip ha z TI TO .ellipsis:=hza
 show Db ?_;simp only[List.zipIdx_cons,List.zipIdx_nil,List.forIn_cons,List.forIn_nil];show Db (Db (wpAny_onRaise ?_));change EQ _ _ (GE.SmallTypes.nextOf (.ref i1) >>= _) _ _ _;show Db (D1.item k _ _ _ h1 (but D1 sa X.z1 t1) λx hb tk1 px t1b sb=>Fr ?_);have ob:Os hb TO a b:=sb.extBut _ _ X.TOi1 (sa.extBut _ _ X.TOz hTO);show Db (SL ob U (Db (wpAny_updateSeq_pair ob λhc oc sc=>Db (wpAny_letGo (Fr ?_)))))
 replace oc:Os hc TO x b:=oc
 show Db (Db (wpAny_onRaise ?_));change EQ _ _ (GE.SmallTypes.nextOf (.ref i2) >>= _) _ _ _;show Db (D2.item k _ _ _ h2 (but D2 sc X.o2 (but D2 sb X.a2 (but D2 sa X.z2 t2))) λy hd tk2 py t2d sd=>Fr ?_);have od:Os hd TO x b:=sd.extBut _ _ X.TOi2 oc;show Db (SL od U (Db (wpAny_updateSeq_pair od λhe oe se=>Db (wpAny_letGo (Fr (Fr ?_))))))
 replace oe:Os he TO x y:=oe
 show Db (SL oe U (Db (wpAny_newTuple ?_)));have hsz:he.objs.size=↑s:=by rw[se.1,sd.1,sc.1,sb.1,sa.1]
 have ze:IsZip he z TI TO .ellipsis:=se.extBut _ _ X.TOz.symm (sd.extBut _ _ X.i2z.symm (sc.extBut _ _ X.TOz.symm (sb.extBut _ _ X.i1z.symm hza)));have ke:∀ c o,c≠z->c≠TO->c≠i1->c≠i2->s.heap.get? c=some o->he.get? c=some o:=λc o c1 c2 c3 c4 e =>
  se.extBut _ _ c2 (sd.extBut _ _ c4 (sc.extBut _ _ c2 (sb.extBut _ _ c3 (sa.extBut _ _ c1 e))))
 have t1e:S1 (k+1) he:=but D1 se X.o1 (but D1 sd X.a1 (but D1 sc X.o1 t1b));have t2e:S2 (k+1) he:=but D2 se X.o2 t2d;have hzlt:z < he.objs.size:=Ww ze;change EQ _ _ (GE.SmallTypes.ownedTupleHandOut (.ref z) (.ref he.objs.size) >>= _) _ _ _;show Db ?_;unfold GE.SmallTypes.ownedTupleHandOut;have zf:IsZip (he.push { cls:=.type "tuple",data:=.seq #v[x,y] }) z TI TO .ellipsis:=Wl _ ze;show Db (wpAny_setField_rec zf (by simp) λhg zg sg=>?_)
 replace zg:IsZip hg z TI TO (KM he.objs.size):=zg
 show wpAny_setField_rec zg (by simp) λhh zh sh=>?_
 replace zh:IsZip hh z TI TO (KM he.objs.size):=zh
 have up:∀ c o,c≠z->he.get? c=some o->hh.get? c=some o:=λc o c1 e=>sh.extBut _ _ c1 (sg.extBut _ _ c1 (Wl _ e));have pT:Os hh he.objs.size x y:=sh.extBut _ _ (Xx hzlt) (sg.extBut _ _ (Xx hzlt) (Wz _ U));have z8:hh.objs.size=he.objs.size+1:=by rw[sh.1,sg.1,W9]
 rw[hsz] at zh pT z8;show Fr #[_,U,?_];change Q (.ref he.objs.size) _;rw[hsz];show hQ x y hh _ px py #[zh,up _ _ X.TIz (ke _ _ X.TIz X.TITO X.TIi1 X.TIi2 hTI),#[_,_,up _ _ X.TOz oe],?_,?_] pT z8 λc o c1 c2 c3 c4 e=>up c o c1 (ke c o c1 c2 c3 c4 e)
 .exact D1.frame _ _ _ t1e λq hq o e=>up q o (λr=>X.z1 (r▸hq)) e
 .exact D2.frame _ _ _ t2e λq hq o e=>up q o (λr=>X.z2 (r▸hq)) e
def Ends(prog:Fa)(w:FS)(A:Fk)(it:AC)(S:Ev->Prop):Prop:=∀ (s:Da) (Q:Yy) (E:Yy),S s.heap ->
  (∀ h' e,Ev.ExtBut it s.heap h'->(∃ o,h'.get? e=some o/\o.cls=.type "StopIteration")->E (.ref e) { s with heap:=h' })->EQ (model prog w) A (GE.SmallTypes.nextOf (.ref it)) Q E s
theorem next_end{k:Nat}{Q:PySem.Fin->Da->Prop}(X:Apart z TI TO i1 i2 f1 f2)(D1:Draws prog w A i1 f1 n1 P1 S1)(D2:Draws prog w A i2 f2 n2 P2 S2)(Z:Zip S1 S2 z TI TO i1 i2 .none k k s.heap)(hk:Ends prog w A i1 (S1 k)\/(k < n1/\Ends prog w A i2 (S2 k)))(hE:∀ h' e tk,(∀ c o,c≠z->c≠TO->c≠i1->c≠i2->s.heap.get? c=some o->h'.get? c=some o)->(∃ o,h'.get? e=some o/\o.cls=.type "StopIteration")->E (.ref e) { s with heap:=h',toks:=tk }) :
  EQ (model prog w) A (GE.«zip.__next__» #[[.ref z],[]]) Q E s:=by
 let(hz,hTI,(a,b,hTO),t1,t2):=Z;change EQ _ _ (field (.ref z) 2 >>= _) _ _ _;show Db (KF hz U (x:=.bool false) U ?_);change EQ _ _ (field (.ref z) 3 >>= _) _ _ _;show Db (KF hz U (x:=.ref TI) U (Db (SL hTI U ?_)));change EQ _ _ (GE.SmallTypes.ownedTupleIsFree (.ref z) >>= _) _ _ _;show Db ?_;unfold GE.SmallTypes.ownedTupleIsFree;show Db (KF hz U (x:=.none) U (Fr ?_));simp only[if_true];show Db (wpAny_rule (Db (KF hz U (x:=.ref TO) U (Db (wpAny_setField_rec hz (by simp) λha hza sa=>?_)))))
 replace hza:IsZip ha z TI TO .ellipsis:=hza
 show Db ?_;simp only[List.zipIdx_cons,List.zipIdx_nil,List.forIn_cons,List.forIn_nil];show Db (Db (wpAny_onRaise ?_));change EQ _ _ (GE.SmallTypes.nextOf (.ref i1) >>= _) _ _ _;rcases hk with d1 | ⟨h1,d2⟩
 rotate_left
 .refine Db (D1.item k _ _ _ h1 (but D1 sa X.z1 t1) λx hb tk1 px t1b sb=>Fr ?_);have ob:Os hb TO a b:=sb.extBut _ _ X.TOi1 (sa.extBut _ _ X.TOz hTO);show Db (SL ob U (Db (wpAny_updateSeq_pair ob λhc oc sc=>Db (wpAny_letGo (Fr ?_)))));show Db (Db (wpAny_onRaise ?_));change EQ _ _ (GE.SmallTypes.nextOf (.ref i2) >>= _) _ _ _;show Db (d2 _ _ _ (but D2 sc X.o2 (but D2 sb X.a2 (but D2 sa X.z2 t2))) λhd e sd he=>?_);let(oe,hoe,hce):=he;have zd:IsZip hd z TI TO .ellipsis:=sd _ _ X.i2z.symm (sc.extBut _ _ X.TOz.symm (sb.extBut _ _ X.i1z.symm hza));have hez:e≠z:=λx=>by subst x;rw[zd] at hoe;cases hoe;simp at hce
  exact wpAny_setField_rec zd (by simp) λhf _ sf=>hE hf e _ (λc o c1 c2 c3 c4 x=>sf.extBut _ _ c1 (sd _ _ c4 (sc.extBut _ _ c2 (sb.extBut _ _ c3 (sa.extBut _ _ c1 x))))) #[oe,sf.extBut _ _ hez hoe,hce]
 .refine Db (d1 _ _ _ (but D1 sa X.z1 t1) λhb e sb he=>?_);let(oe,hoe,hce):=he;have zb:IsZip hb z TI TO .ellipsis:=sb _ _ X.i1z.symm hza;have hez:e≠z:=λx=>by subst x;rw[zb] at hoe;cases hoe;simp at hce
  exact wpAny_setField_rec zb (by simp) λhf _ sf=>hE hf e _ (λc o c1 _ c3 _ x=>sf.extBut _ _ c1 (sb _ _ c3 (sa.extBut _ _ c1 x))) #[oe,sf.extBut _ _ hez hoe,hce]
theorem Ey{k:Nat}{Q:Option AT->Da->Prop}(X:Apart z TI TO i1 i2 f1 f2)(D1:Draws prog w A.in1 i1 f1 n1 P1 S1)(D2:Draws prog w A.in1 i2 f2 n2 P2 S2)(Z:Zip S1 S2 z TI TO i1 i2 .none k k s.heap)(h1:k < n1)(h2:k < n2)(hQ:∀ x y h' tk,P1 k x->P2 k y->Zip S1 S2 z TI TO i1 i2 (KM ↑s) (k+1) (k+1) h'->Os h' ↑s x y->h'.objs.size=↑s+1 ->
   (∀ c o,c≠z->c≠TO->c≠i1->c≠i2->s.heap.get? c=some o->h'.get? c=some o)->Q (some (.ref ↑s)) { s with heap:=h',toks:=tk }):EQ (model prog w) A (pyNext (.ref z)) Q E s:=by
 have hT:s.TypeIs (.ref z) "zip":=#[_,Z.zip,U];unfold pyNext;exact Db (wpAny_attempt (wpAny_callSpecial?_slot (name:=Str.ofString "__next__") hT F.slot_zip_next
  (SZ F.slot_zip_next hT F.entry_zip_next (next_item X D1 D2 Z h1 h2 λx y h' tk a1 a2 a3 a4 a5 a6=>Fr (hQ x y h' tk a1 a2 a3 a4 a5 a6)) (F.args_zip_next_1 _))))
theorem HX{k:Nat}{Q:Option AT->Da->Prop}(X:Apart z TI TO i1 i2 f1 f2)(D1:Draws prog w A.in1 i1 f1 n1 P1 S1)(D2:Draws prog w A.in1 i2 f2 n2 P2 S2)(Z:Zip S1 S2 z TI TO i1 i2 .none k k s.heap)(hk:Ends prog w A.in1 i1 (S1 k)\/(k < n1/\Ends prog w A.in1 i2 (S2 k)))(hQ:∀ h' tk,(∀ c o,c≠z->c≠TO->c≠i1->c≠i2->s.heap.get? c=some o->h'.get? c=some o)->Q none { s with heap:=h',toks:=tk }):EQ (model prog w) A (pyNext (.ref z)) Q E s:=by
 have hT:s.TypeIs (.ref z) "zip":=#[_,Z.zip,U];unfold pyNext;show Db (wpAny_attempt (wpAny_callSpecial?_slot (name:=Str.ofString "__next__") hT F.slot_zip_next
  (SZ F.slot_zip_next hT F.entry_zip_next (next_end X D1 D2 Z hk λh' e tk kk he=>?_) (F.args_zip_next_1 _))))
 let(o,ho,hc):=he;show Db (wpAny_isInstance (T:="StopIteration") (b:=true) #[o,ho,hc] isSubtype_stop ?_);exact Fr (hQ _ _ kk)
end
end PyZ
namespace PyZ
open PySem Sem L2
def t5(t:Bool)(h:Ev)(l:AC)(xs:Array AT):Prop:=if t=true then h.IsTuple l xs else h.IsList l xs
def Iq(t:Bool)(l:AC):Obj:={ cls:=.type (if t=true then "tuple_iterator" else "list_iterator"),data:=.fields #v[.ref l,.int 0 0] }
theorem t5.at{t:Bool}{h h':Ev}{l:AC}{xs:Array AT}(x:t5 t h l xs)(k:∀ o,h.get? l=some o->h'.get? l=some o):t5 t h' l xs:=by
 cases t with
 | true =>
  let(o,e,r):=(show h.IsTuple l xs from x);exact#[o,k o e,r]
 | false=>exact Ev.IsList.at (show h.IsList l xs from x) k
section
variable{prog:Fa}{w:FS}{A:Fk}{E:Yy}{s:Da}
theorem CK{t:Bool}{l:AC}{xs:Array AT}{Q:Yy}(hl:t5 t s.heap l xs)(h:Q (.ref ↑s) { s with heap:=s.heap.push (Iq t l) }):EQ (model prog w) A (pyIter (.ref l)) Q E s:=by
 cases t with
 | true=>exact wpAny_pyIter_tuple (show s.heap.IsTuple l xs from hl) h
 | false=>exact wpAny_pyIter_list (show s.heap.IsList l xs from hl) h
theorem nz(t:Bool)(hh:A.handled=none)(it l:AC)(oJ:l≠it)(xs:Array AT):Draws prog w A it [it,l] xs.size (λi v=>xs[i]?=some v) (λi h=>jQ t h it l i/\t5 t h l xs):=by
 cases t with
 | true=>exact FZ.AR hh it l oJ xs
 | false=>exact Draws.list hh it l oJ xs
end
theorem Cr{prog:Fa}{w:FS}{A:Fk}(t:Bool)(hh:A.handled=none){it l:AC}{xs:Array AT}{k:Nat}(hk:xs.size<=k):Ends prog w A it (λh=>jQ t h it l k/\t5 t h l xs):=λs Q E z9r hE=>by
 let(a,b):=z9r;have hn:xs[k]?=none:=Array.getElem?_eq_none hk;cases t with
 | true=>exact FZ.eC hh (show s.heap.IsTupleIter it l k from a) (show s.heap.IsTuple l xs from b) hn hE
 | false=>exact wpAny_nextOf_list_end hh (show s.heap.IsListIter it l k from a) (show s.heap.IsList l xs from b) hn hE
abbrev q1(t1:Bool)(h:Ev)(l1:AC):Ev:=h.push (Iq t1 l1)
abbrev q2(t1 t2:Bool)(h:Ev)(l1 l2:AC):Ev:=(q1 t1 h l1).push (Iq t2 l2)
abbrev q3(t1 t2:Bool)(h:Ev)(l1 l2:AC):Ev:=(q2 t1 t2 h l1 l2).push { cls:=.type "tuple",data:=.seq #v[.ref h.objs.size,.ref (q1 t1 h l1).objs.size] }
abbrev q4(t1 t2:Bool)(h:Ev)(l1 l2:AC):Ev:=(q3 t1 t2 h l1 l2).push { cls:=.type "tuple",data:=.seq #v[.none,.none] }
abbrev q5(t1 t2:Bool)(h:Ev)(l1 l2:AC):Ev:=(q4 t1 t2 h l1 l2).push { cls:=.type "zip",data:=.fields #v[.none,.bool false,.bool false,.ref (q2 t1 t2 h l1 l2).objs.size,.ref (q3 t1 t2 h l1 l2).objs.size] }
theorem y8(t1 t2:Bool)(l1 l2:AC)(xs ys:Array AT) :
  Meets (GE.«zip.__new__» #[[.type "zip",.ref l1,.ref l2],[]]) (λ_ R s=>t5 t1 s.heap l1 xs/\t5 t2 s.heap l2 ys /\
   R (.ok (.ret (.ref (q4 t1 t2 s.heap l1 l2).objs.size))) { s with heap:=q5 t1 t2 s.heap l1 l2 }) :=
 .of_wp λprog w A R s h=>by
  let(hp,g,d,tk,os):=s;let(AB,JO,h):=h;have hsub:=sub_zip;have hL1:t5 t1 (Da.heap #[hp,g,d,tk,os]) l1 xs:=AB;have hL2:t5 t2 (Da.heap #[hp.push (Iq t1 l1),g,d,tk,os]) l2 ys:=t5.at JO λo e=>Wl _ e
  wp_walk using CK hL1,CK hL2
  exact#[_,U,h]
section
variable{prog:Fa}{w:FS}{A:Fk}{E:Yy}{s:Da}
theorem uS{t:Bool}{h:Ev}{it l:AC}(e:h.get? it=some (Iq t l)):jQ t h it l 0:=by
 cases t with
 | true=>exact (show h.IsTupleIter it l 0 from #[_,e,U,U])
 | false=>exact (show h.IsListIter it l 0 from #[_,e,U,U])
theorem Ak{t1 t2:Bool}{l1 l2:AC}{xs ys:Array AT}{Q:Yy}(AB:t5 t1 s.heap l1 xs)(JO:t5 t2 s.heap l2 ys)(h:∀ h',IsZip h' (↑s+4) (↑s+2) (↑s+3) .none->Os h' (↑s+2) (.ref ↑s) (.ref (↑s+1)) ->
   Os h' (↑s+3) .none .none->jQ t1 h' ↑s l1 0->jQ t2 h' (↑s+1) l2 0->h'.objs.size=↑s+5 ->
   (∀ c o,s.heap.get? c=some o->h'.get? c=some o)->Q (.ref (↑s+4)) { s with heap:=h' }) :
  EQ (model prog w) A (call (.type "zip") [.ref l1,.ref l2]) Q E s:=by
 show callType_new F.called_zip () (F.typeCall_zip_2 _ _) (F.newCall_zip_2 _ _) (λobj=>F.args_object_init_3 obj _ _) F.entry_zip_new (y8 t1 t2 l1 l2 xs ys) #[AB,JO,?_];have z1:(q1 t1 s.heap l1).objs.size=↑s+1:=W9 ..;have z2:(q2 t1 t2 s.heap l1 l2).objs.size=↑s+2:=by rw[W9,z1]
 have z3:(q3 t1 t2 s.heap l1 l2).objs.size=↑s+3:=by rw[W9,z2]
 have z4:(q4 t1 t2 s.heap l1 l2).objs.size=↑s+4:=by rw[W9,z3]
 have z5:(q5 t1 t2 s.heap l1 l2).objs.size=↑s+5:=by rw[W9,z4]
 have g5:(q5 t1 t2 s.heap l1 l2).get? (q4 t1 t2 s.heap l1 l2).objs.size=some _:=Wz _ U;have g4:(q5 t1 t2 s.heap l1 l2).get? (q3 t1 t2 s.heap l1 l2).objs.size=some _:=Wl _ (Wz _ U);have g3:(q5 t1 t2 s.heap l1 l2).get? (q2 t1 t2 s.heap l1 l2).objs.size=some _:=Wl _ (Wl _ (Wz _ U));have g2:(q5 t1 t2 s.heap l1 l2).get? (q1 t1 s.heap l1).objs.size=some (Iq t2 l2):=Wl _ (Wl _ (Wl _ (Wz _ U)));have g1:(q5 t1 t2 s.heap l1 l2).get? ↑s=some (Iq t1 l1):=Wl _ (Wl _ (Wl _ (Wl _ (Wz _ U))));change _/\_;rw[z2,z3,z4] at g5;rw[z1,z2] at g3;rw[z3] at g4;rw[z1] at g2;rw[z4];exact#[#[_,g5,U],h _ g5 g3 g4 (uS g1) (uS g2) z5 λc o x =>
  Wl _ (Wl _ (Wl _ (Wl _ (Wl _ x))))]
end
end PyZ
namespace L2
open PySem PySem.Spec PyZ
open PyProof.Rows hiding St
def SM(K:Frag)(t1 t2:Bool)(a b:AC):It :=
 #[λi H=>∃ xs ys x y,(t7 K t1 H a xs/\t7 K t2 H b ys)/\xs[i]?=some x/\ys[i]?=some y,
  λi H x H'=>∃ p,H p=none/\x=.ref p/\∀ xs ys,t7 K t1 H a xs->t7 K t2 H b ys->∃ u v,xs[i]?=some u/\ys[i]?=some v/\H'=upd H p (.tup [u,v]),
  λi H=>∃ xs ys,(t7 K t1 H a xs/\t7 K t2 H b ys)/\min xs.length ys.length<=i]
section
variable{P:Fa}{w:FS}{K:Frag}
theorem lu{X:Cx}{TW:Yz}{σ:St}{H:Hp}{s:Da}{a:AC}{t:Bool}{xs:!V}(I:Inv X TW σ H s)(h:t7 X.K t H a xs):∃ its:!AT,Vals xs its/\t5 t s.heap a its.toArray/\xs.length<=FB:=by
 cases t with
 | true =>
  let(its,r,p,hz):=I.tuple (show iu X.K H a xs from h);exact#[its,r,p,hz]
 | false =>
  let(its,r,p,hz):=I.list (show dO X.K H a xs from h);exact#[its,r,p.isList,hz]
structure Mw(t1 t2:Bool)(z TI TO i1 i2 a b:AC)(i:Nat)(h:Ev):Prop where
 zip:IsZip h z TI TO .none
 ins:Os h TI (.ref i1) (.ref i2)
 out:∃ u v,Os h TO u v
 e1:jQ t1 h i1 a i
 e2:jQ t2 h i2 b i
theorem BA(t1 t2:Bool){elts:!Ch}{k:Nat}{kc:Pos}{z TI TO i1 i2 a b:AC}(Y:Apart z TI TO i1 i2 [i1,a] [i2,b])(ha:a≠i1)(hb:b≠i2):Turn P w K (.Tuple elts k kc) (SM K t1 t2 a b) [z,TI,TO,i1,i2] z (Mw t1 t2 z TI TO i1 i2 a b) where
 mem:=by simp
 obj:=λi h st c hc=>by
  simp only[List.mem_cons,List.not_mem_nil,or_false] at hc;rcases hc with rfl | rfl | rfl | rfl | rfl
  .exact#[_,st.zip,λv q=>by
    have q':Data.fields _=Data.cell v:=q;cases q']
  .exact#[_,st.ins,λv q=>by
    have q':Data.seq _ _=Data.cell v:=q;cases q']
  .let(u,v,e):=st.out;exact#[_,e,λv q=>by
    have q':Data.seq _ _=Data.cell v:=q;cases q']
  .exact st.e1.obj
  .exact st.e2.obj
 keep:=λi h h' st kk=>#[kk z (by simp) _ st.zip,kk TI (by simp) _ st.ins,let #[u,v,e]:=st.out;#[u,v,kk TO (by simp) _ e],st.e1.at λo x=>kk i1 (by simp) o x,st.e2.at λo x=>kk i2 (by simp) o x]
 item:=by
  intro X hP hw hK hc i TW s σ H E I hf st hg;subst hP hw hK;let(xs,ys,x,y,(hx,hy),ex,ey):=hg;let(its1,r1,p1,_):=lu I hx;let(its2,r2,p2,_):=lu I hy;let(u,hu,ru):=r1.get ex;let(v,hv,rv):=r2.get ey;have hd:(X.A.in1).handled=none:=I.ok.hd hc;show Ey Y (nz t1 hd i1 a ha its1.toArray) (nz t2 hd i2 b hb its2.toArray) #[st.zip,st.ins,st.out,#[st.e1,p1],#[st.e2,p2]] ?_ ?_ λu' v' h' tk pu pv Z pT hsz hk=>?_
  .have:=(Wn.mp hu).1;simpa using this
  .have:=(Wn.mp hv).1;simpa using this
  have e1:u'=u:=by
   have q:its1[i]?=some u':=by simpa using pu
   rw[hu] at q;exact (WU q).symm
  have e2:v'=v:=by
   have q:its2[i]?=some v':=by simpa using pv
   rw[hv] at q;exact (WU q).symm
  subst e1;subst e2;show#[_,U,wpAny_letOwnedTupleGo_zip (s:={ s with heap:=h',toks:=tk }) Z.zip λh2 z2 s2=>?_];have hzlt:z < ↑s:=Ww st.zip;have keep:∀ c o,c∉[z,TI,TO,i1,i2]->s.heap.get? c=some o->h2.get? c=some o:=λc o hc q=>by
   simp only[List.mem_cons,List.not_mem_nil,or_false,not_or] at hc;exact s2.extBut _ _ hc.1 (hk c o hc.1 hc.2.2.1 hc.2.2.2.1 hc.2.2.2.2 q)
  have vq:H ↑s=none:=I.bf.fresh (Wo _);have I1:Inv X TW σ (upd H ↑s (.tup [x,y])) { s with heap:=h2,toks:=tk } :=
   Inv.xH I keep hf (Wo _) #[by change 2<=FB;decide,[u',v'],.cons ru (.cons rv .nil),#[_,s2.extBut _ _ (Xx hzlt) pT,U,_,U,U]]
  show#[.ref ↑s,_,I1,U,#[↑s,vq,U,λzs ws q1 q2=>#[x,y,?_,?_,U]],#[z2,s2.extBut _ _ Y.TIz Z.ins,let #[p,q,e]:=Z.out;#[p,q,s2.extBut _ _ Y.TOz e],Z.Ku.1.at λo e=>s2.extBut _ _ Y.i1z e,Z.Jw.1.at λo e=>s2.extBut _ _ Y.i2z e],λc hc=>?_]
  .rw[ni I hx q1];exact ex
  .rw[ni I hy q2];exact ey
  .have hZ:c < ↑s:=by
    simp only[List.mem_cons,List.not_mem_nil,or_false] at hc;rcases hc with rfl | rfl | rfl | rfl | rfl
    .exact hzlt
    .exact Ww st.ins
    .let(_,_,e):=st.out;exact Ww e
    .let(o,e,_):=st.e1.obj;exact Ww e
    .let(o,e,_):=st.e2.obj;exact Ww e
   rw[au (WK hZ)];exact (hf c hc).1
 done:=by
  intro X hP hw hK hc i TW s σ H E I hf st hg;subst hP hw hK;let(xs,ys,(hx,hy),hm):=hg;let(its1,r1,p1,_):=lu I hx;let(its2,r2,p2,_):=lu I hy;have l1:=r1.length;have l2:=r2.length;have hd:(X.A.in1).handled=none:=I.ok.hd hc;show HX Y (nz t1 hd i1 a ha its1.toArray) (nz t2 hd i2 b hb its2.toArray) #[st.zip,st.ins,st.out,#[st.e1,p1],#[st.e2,p2]] ?_ λh' tk hk=>#[U,Inv.kJ (t':=tk) I (λc o hc q=>?_) hf]
  .by_cases h1:i < its1.length
   .exact .inr #[by simpa using h1,Cr t2 hd (by simp;cbv)]
   .exact .inl (Cr t1 hd (by simp;cbv))
  .simp only[List.mem_cons,List.not_mem_nil,or_false,not_or] at hc;exact hk c o hc.1 hc.2.2.1 hc.2.2.2.1 hc.2.2.2.2 q
 self:=λ_ _ _ _ _ st h=>wpAny_pyIter_zip st.zip h
end
section
variable{X:Cx}
theorem t5.lt{t:Bool}{h:Ev}{l:AC}{xs:Array AT}(x:t5 t h l xs):l < h.objs.size:=by
 cases t with
 | true =>
  let(o,e,_):=(show h.IsTuple l xs from x);exact Ww e
 | false =>
  let(o,e,_):=(show h.IsList l xs from x);exact Ww e
theorem apart_new{n l1 l2:Nat}(h1:l1 < n)(h2:l2 < n):Apart (n+4) (n+2) (n+3) n (n+1) [n,l1] [n+1,l2]:=by
 have ne:∀ (a b:Nat),¬ a=b->¬ ((n+a:Nat):AC)=(n+b:Nat):=λa b h e=>h (Nat.add_left_cancel (show n+a=n+b from e));have nl:∀ {l:Nat} (a:Nat),l < n->¬ ((n+a:Nat):AC)=l:=λ{l} a h e=>X1 l (WB h (Wr (Nat.le_add_right n a) (Yu e)));have two:∀ {x a b:AC},¬ x=a->¬ x=b->x∉[a,b]:=λh k z=>(WI.mp z).elim h λz=>k (WA.mp z);exact#[ne 2 4 (),ne 3 4 (),ne 0 4 (),ne 1 4 (),ne 2 3 (),ne 2 0 (),ne 2 1 (),ne 3 0 (),ne 3 1 (),two (ne 4 0 ()) (nl 4 h1),two (ne 4 1 ()) (nl 4 h2),two (ne 3 0 ()) (nl 3 h1),two (ne 3 1 ()) (nl 3 h2),two (ne 1 0 ()) (nl 1 h1),two (ne 0 1 ()) (nl 0 h2)]
def Qp(K:Frag)(t:TA):TI:=λσ H R=>t σ H λvs H1=>∃ a b t1 t2 xs ys,vs=[.ref a,.ref b]/\(t7 K t1 H1 a xs/\t7 K t2 H1 b ys)/\(xs.length<=FB->R (SM K t1 t2 a b) H1)
theorem HG{elts:!Ch}{k:Nat}{kc p pos:Pos}{a b:Ch}{t:TA}(hg:Gl X "zip")(hm:X.mg "zip"=none)(ha:PA X [a,b] t)(hs:(Go [a,b] X.env=[(false,eval a X.env),(false,eval b X.env)])⁻¹)(tU:(Go [b] X.env=[(false,eval b X.env)])⁻¹):PI X (.Tuple elts k kc) (.Call (.Name "zip" p) [a,b] [] pos) (Qp X.K t):=by
 intro TW s σ H R I h;show Call_ (iH I hg hm (u:=.type "zip") (by decide+kernel) (PyProof.Rows.callWith_type1 (bW (ha pos TW s σ H _ I h) λus s1 zz=>el2 zz λvs H1 I1 r1 q1=>?_) (by rw[hs,tU]) (by rw[tU];rfl)));let(l1,l2,t1,t2,xs,ys,e,(hx,hy),q):=q1;subst e;let(u,v,rfl,ru,rv):=Vals.two r1;cases ru;cases rv;let(its1,v1,p1,z1):=lu I1 hx;let(its2,v2,p2,z2):=lu I1 hy;have b1:=t5.lt p1;have b2:=t5.lt p2;show Ak p1 p2 λh' hz hI hO e1 e2 hsz hk=>wpAny_pyIter_zip hz ?_;show#[↑s1+4,[↑s1+4,↑s1+2,↑s1+3,↑s1,↑s1+1],_,_,H1,U,I1.kept (t':=s1.toks) hk,
  BA t1 t2 (apart_new b1 b2) (WK b1) (WK (Nat.lt_succ_of_lt b2)),#[hz,hI,#[_,_,hO],e1,e2],λc hc=>?_,q z1]
 .have hle:↑s1<=c:=by
   simp only[List.mem_cons,List.not_mem_nil,or_false] at hc;rcases hc with e | e | e | e | e<;>(rw[e];first | exact Wo _ | exact Nat.le_add_right _ _)
  exact I1.rK hle (I1.bf.fresh hle)
end
end L2
namespace DL
open PySem PySem.Spec L2
open PyProof.Rows hiding St
section
variable{X:Cx}{c:Ent}
def wJ(xs ys:!D):!D:=xs.zipWith (λx y=>.tup [x,y]) ys
def Hh:D->Option (!D)
 | .lst ds=>some ds
 | .tup ds=>some ds
 | _=>none
def MZ(t:d8):d8:=λs Q=>t s λas s1=>∃ d e xs ys,as=[d,e]/\(Hh d=some xs/\Hh e=some ys)/\Q (wJ xs ys) s1
theorem uk{xs ys:!D}:(wJ xs ys).length=min xs.length ys.length:=by simp[wJ]
theorem CH{xs ys:!D}{i:Nat}{d:D}(h:(wJ xs ys)[i]?=some d):∃ x y,xs[i]?=some x/\ys[i]?=some y/\d=.tup [x,y]:=by
 unfold wJ at h;rw[List.getElem?_zipWith] at h;cases e:xs[i]? with
 | none=>rw[e] at h;cases h
 | some x =>
  cases e2:ys[i]? with
  | none=>rw[e,e2] at h;cases h
  | some y =>
   rw[e,e2] at h;cases h;exact#[x,y,U,U,U]
theorem xV{K:Frag}{M1:AC->Prop}{H1:Hp}{d:D}{xs:!D}{v:V}(h:Hh d=some xs)(r:Rep K H1 M1 d v):∃ a t vs,v=.ref a/\ay K H1 M1 xs vs/\∀ M2 H2,dW M1 H1 M2 H2->t7 K t H2 a vs/\ay K H2 M2 xs vs:=by
 cases d with
 | lst ds =>
  cases h;let(a,vs,rfl,(m,e),r):=r;exact#[a,false,vs,U,r,λM2 H2 G=>#[dO.of ((G a m).2 _ e),G.tR r]]
 | tup ds =>
  cases h;let(a,vs,rfl,e,r):=r;exact#[a,true,vs,U,r,λM2 H2 G=>#[(e.mono (λb m=>(G b m).1) λb o m e=>(G b m).2 o e).sq,G.tR r]]
 | _=>cases h
theorem LP{elts:!Ch}{k:Nat}{kc p pos:Pos}{a b:Ch}{t:d8}(hg:Gl X "zip")(hm:X.mg "zip"=none)(ha:DA X c [a,b] t)(hs:(Go [a,b] X.env=[(false,eval a X.env),(false,eval b X.env)])⁻¹)(tU:(Go [b] X.env=[(false,eval b X.env)])⁻¹):DI X c (.Tuple elts k kc) (.Call (.Name "zip" p) [a,b] [] pos) (MZ t) :=
 #[λTW s σ H R I zz=>cZ zz λM s0 as R0 L q k=>HG hg hm ha.pa hs tU TW s σ H R I
  #[M,s0,as,_,L,q,λads s1 z0r M1 H1 vs L1 E1 rv _=>by
   let(d,e,xs,ys,ead,(hd,he),q1):=z0r;subst ead;let(u,v,rfl,ru,rw):=qK rv;let(a,t1,us,rfl,r1,g1):=xV hd ru;let(b,t2,ws,rfl,r2,g2):=xV he rw;have G0:dW M1 H1 M1 H1:=λb m=>#[m,λ_ h=>h];show#[a,b,t1,t2,us,ws,U,#[(g1 M1 H1 G0).1,(g2 M1 H1 G0).1],λhl=>k _ s1 q1 M1 H1 _ L1 E1 (λM2 H2 G=>?_) (by rw[uk,<- r1.length];cbv)];let(h1,y1):=g1 M2 H2 G;let(h2,y2):=g2 M2 H2 G;show#[λi hi=>#[us,ws,#[h1,h2],by rw[r1.length,r2.length];rw[uk] at hi;exact hi],λi d hd=>?_];let(x,y,ex,ey,rfl):=CH hd;let(v1,c1,c2):=y1.get ex;let(v2,c3,c4):=y2.get ey;show#[#[us,ws,v1,v2,#[h1,h2],c1,c3],λx H3 #[b,hb,ex,hx]=>.inr ?_];let(w1,w2,m1,m2,m3):=hx us ws h1 h2;rw[c1] at m1;rw[c3] at m2;cases m1;cases m2;subst m3;exact#[b,_,hb,U,b,_,ex,#[.inr U,ax],#[_,_,U,vC hb c2,_,_,U,vC hb c4,U]]]]
theorem aA.over{K:Frag}{c:Ent}{M:AC->Prop}{s:DS}{as:!AC}{σ:St}{H:Hp}{p:AC}{o:HO}{ys:!(Key×V)}(L:aA K c M s as σ H)(hq:H p=some (.dK ys))(n1:¬ M p)(n2:¬ c.g.own p)(n3:¬ eO s as p)(n4:c.H0 p=none):aA K c M s as σ (upd H p o):=by
 have ne:∀ b,M b->b≠p:=λb m q=>n1 (q▸m);have ng:∀ b,c.g.own b->b≠p:=λb m q=>n2 (q▸m);have n0:∀ b u,c.H0 b=some u->b≠p:=λb u e q=>by rw[q,n4] at e;cases e
 show#[#[c.g.loc H _ L.base.pI λb u g e=>?_,λb u e g=>?_,λb m=>?_,L.base.mo,L.base.m0,L.base.mn],L.len,L.dX,λi d e=>?_,L.own,λk d a e1 e2=>?_,L.inj,L.lt]
 .rw[au (g.elim (ng b) λ#[φ,f] z=>by subst f;rw[z,hq] at e;cases e)];exact e
 .rw[au (n0 b u e)];exact L.base.fr b u e g
 .let(u,e):=L.base.md b m;exact#[u,by rw[au (ne b m)];exact e]
 .let(v,h1,h2):=L.dat i d e;exact#[v,h1,Rep.mono (λ_ h=>h) (λb u m e=>by rw[au (ne b m)];exact e) d v h2]
 .let((u,q,r),q1):=L.obj k d a e1 e2;show#[#[u,?_,cF.mono (λ_ h=>h) (λb u m e=>by rw[au (ne b m)];exact e) r],q1];have na:a≠p:=λz=>n3 #[k,d,e1,z▸e2];rw[au na];exact q
def vG:!(Str×aZ)->d8
 | [],s,Q=>Q [] s
 | kt::r,s,Q=>kt.2 s λd s1=>vG r s1 λds s2=>Q (d::ds) s2
def AK(K:Frag)(c:Ent)(jw:!(Str×aZ)):!(TE×TE):=jw.map λkt=>(tC (.str kt.1),tE K c kt.2)
structure Mb(X:Cx)(c:Ent)(pos:Pos)(keys:!(Option Ch))(values:!Ch)(jw:!(Str×aZ)):Prop where
 pp:Mm X pos keys values (AK X.K c jw)
 kl:keys.length=jw.length
theorem xt{pos:Pos}:Mb X c pos [] [] []:=#[yC,U]
theorem iK{pos pk:Pos}{k:Str}{j}{v:Ch}{ks:!(Option Ch)}{vs:!Ch}{te:aZ}{jw:!(Str×aZ)}(hv:DE X c v te)(hr:Mb X c pos ks vs jw):Mb X c pos (some (.Constant (.str k) j pk)::ks) (v::vs) ((k,te)::jw):=#[kE cD hv.pe hr.pp,by rw[Ws,Ws,hr.kl]]
def kU:!(Str×aZ)->!V->!(Key×V)
 | kt::r,v::vs=>(.inr kt.1,v)::kU r vs
 | _,_=>[]
theorem vo{σ:St}{as:!AC}:∀ (jw:!(Str×aZ)) {M:AC->Prop} {s:DS} {H:Hp} {R:!D->DS->Prop} {Q:!(V×V)->Hp->Prop},aA X.K c M s as σ H->vG jw s R ->
  (∀ ds s',R ds s'->∀ M' H' vs,aA X.K c M' s' as σ H'->Ext c as M s H M' s' H'->ay X.K H' M' ds vs->ds.length=jw.length->Q ((kU jw vs).map λkv=>(kV kv.1,kv.2)) H')->o8 (AK X.K c jw) σ H Q
 | [],M,s,H,R,Q,L,q,k=>k [] s q M H [] L .refl U U
 | kt::r,M,s,H,R,Q,L,q,k=>by
  change tC (.str kt.1) σ H λx H1=>tE X.K c kt.2 σ H1 λy H2=>o8 (AK X.K c r) σ H2 λps H3=>Q ((x,y)::ps) H3;show#[M,s,as,_,L,q,λd s1 q1 M1 H1 v L1 E1 rv=>?_];show vo r L1 q1 λds s2 q2 M2 H2 vs Lb E2 rvs hl=>?_;exact k (d::ds) s2 q2 M2 H2 (v::vs) Lb (E1.trans L1.base E2) #[v,vs,U,E2.rep L1 rv,rvs] (by rw[Ws,Ws,hl])
theorem mi:∀ (more kvs:!(Key×V)),(∀ a∈kvs,∀ b∈more,a.1≠b.1)->(more.map (·.1)).Nodup->gg kvs more=kvs++more
 | [],kvs,_,_=>by simp[gg]
 | b::more,kvs,h,nd=>by
  rw[Wu,Xy] at nd;have hp:putK kvs b.1 b.2=kvs++[b]:=by
   unfold putK;rw[if_neg];intro q;let(a,m,e):=List.any_eq_true.mp q;exact h a m b Wt (of_decide_eq_true e)
  change gg (putK kvs b.1 b.2) more=_;rw[hp,mi more (kvs++[b]) (λa ha x hx=>?_) nd.2,WN]
  .rfl
  .rcases WS.mp ha with ha | ha
   .exact h a ha x (Wq _ hx)
   .rw[WA] at ha;subst ha;exact λe=>nd.1 (e▸WJ hx)
theorem n9:∀ (jw:!(Str×aZ)) (vs:!V),vs.length=jw.length->(kU jw vs).map (·.1)=jw.map λkt=>Sum.inr kt.1
 | [],[],_=>rfl
 | [],_::_,h=>by simp at h
 | _::_,[],h=>by simp at h
 | kt::r,v::vs,h=>by rw[kU,List.map_cons,List.map_cons,n9 r vs (by simpa using h)]
theorem o7:∀ (jw:!(Str×aZ)) (vs:!V),vs.length=jw.length->(kU jw vs).map (·.2)=vs
 | [],[],_=>rfl
 | [],_::_,h=>by simp at h
 | _::_,[],h=>by simp at h
 | kt::r,v::vs,h=>by rw[kU,List.map_cons,o7 r vs (by simpa using h)]
def BU(jw:!(Str×aZ)):aZ:=λs Q=>vG jw s λds s1=>Q (.uJ (jw.map λkt=>Sum.inr kt.1) ds) s1
theorem Ay{pos:Pos}{keys:!(Option Ch)}{values:!Ch}{jw:!(Str×aZ)}(h:Mb X c pos keys values jw)(nd:(jw.map λkt=>(Sum.inr kt.1:Key)).Nodup)(Be:(keys.all (·.isSome)=true)⁻¹)(hl:(keys.length=values.length)⁻¹)(h0:keys≠[]:=by simp)(Fz: ~~~(keys.length<=15)):DN X c (.Dict keys values pos) (BU jw) :=
 #[(xk h.pp Be hl h0 Fz).imp λσ H Q z5q p hp=>by
   let(M,s,as,R,L,q,k):=z5q;let(n1,n2,n3,n4):=notM L hp;show vo jw (L.laid (o:=.dK []) hp) q λds s1 q1 M1 H1 vs L1 E1 rvs hd=>?_;have e1:H1 p=some (.dK []):=E1.keep p _ ax n2 n3;have m1:¬ M1 p:=λm=>by
    rcases E1.new p m with z | (z | ⟨_,z⟩) | z
    .exact n1 z
    .rw[ax] at z;cases z
    .rw[ax] at z;cases z
    .exact n3 z
   have w1:¬ eO s1 as p:=λz=>n3 (E1.jz p z);have hv:vs.length=jw.length:=by rw[rvs.length];exact hd
   have hk:=n9 jw vs hv;show#[e1,kU jw vs,U,?_,?_]
   .have:=congrArg List.length hk;rw[Wk,Wk] at this;rw[this,<- h.kl];exact Fz
   .rw[mi _ [] (λa ha=>absurd ha (by simp)) (by rw[hk];exact nd),List.nil_append];have up:∀ b u,M1 b->H1 b=some u->upd H1 p (.dK (kU jw vs)) b=some u:=λb u m e=>by
     have hb:b≠p:=λq=>m1 (q▸m);rw[au hb];exact e
    show k _ s1 q1 M1 _ p (.dK (kU jw vs)) (L1.over e1 m1 n2 w1 n4) ?_ ax #[hk,?_] m1 n2 w1 n4 (.inl hp)
    .refine#[E1.sub,λb m=>?_,λb u e g z=>?_,E1.jz]
     .rcases E1.new b m with z | (z | ⟨xs,z⟩) | z
      .exact .inl z
      .by_cases hb:b=p
       .exact .inr (.inl (.inl (hb▸hp)))
       .rw[au hb] at z;exact .inr (.inl (.inl z))
      .by_cases hb:b=p
       .exact .inr (.inl (.inl (hb▸hp)))
       .rw[au hb] at z;exact .inr (.inl (.inr #[xs,z]))
      .exact .inr (.inr z)
     .have hb:b≠p:=aD e hp;rw[au hb];exact E1.keep b u (by rw[au hb];exact e) g z
    .rw[o7 jw vs hv];exact ay.mono (λ_ h=>h) up _ _ rvs]
end
end DL
namespace L2
open PySem PySem.Spec PyProof.Rows
section
variable{X:Cx}
theorem Al(items:Array AT):slicePick items none none (some 1)=items:=by
 have hb:sliceBounds none none (some 1) items.size=(0,(items.size:Int),1):=by first | rfl | simp[sliceBounds]
 unfold slicePick;rw[hb];change ((sliceRange 0 (items.size:Int) 1).filterMap (items[·]?)).toArray=_;have hr:sliceRange 0 (items.size:Int) 1=List.range items.size:=by
  unfold sliceRange;simp only[show (1:Int) > 0 by decide,if_true];by_cases h:(items.size:Int) > 0
  .simp only[h,if_true];apply List.ext_getElem
   .simp
   .intro i h1 h2;simp
  .have e:items.size=0:=by cbv
   rw[e];simp
 rw[hr,PySem.W.krv_all]
def la(w:Int){α:Type}(xs:!α):!α:=if w=1 then xs else xs.reverse
def GQ(K:Frag)(te tw:TE):TE:=λσ H Q=>te σ H λx H1=>tw σ H1 λy H2=>∃ a xs w,x=.ref a/\y=.int w/\(w=1\/w=-1)/\dO K H2 a xs/\∀ l,H2 l=none->Q (.ref l) (upd H2 l (.lst (la w xs)))
theorem Av{e st:Ch}{te tw:TE}{p2 pos:Pos}(he:PE X e te)(nq:PE X st tw):PE X (.Subscript e (.Slice none none (some st) p2) pos) (GQ X.K te tw):=by
 intro TW s σ H Q I h;show Subscript_ (bW (he TW s σ H _ I h) λv s1 z3q=>?_);let(x,H1,I1,r1,q1):=z3q;show wpAny_Slice ?_;rw[evalPart_none];show Fr ?_;show Fr ?_;rw[evalPart_some];show bW (nq TW s1 σ H1 _ I1 q1) λu s2 z4q=>?_;let(y,H2,I2,r2,a,xs,w,ex,ey,hw,hq,q):=z4q;subst ex ey;cases r1;let(t,rfl):=r2;let(its,r,ht,hz):=I2.list hq;have hlen:=r.length;have I3:Inv X TW σ H2 { s2 with heap:=s2.heap.push { cls:=.type "slice",data:=.fields #v[.none,.none,.int w t] } }:=I2.kept (t':=s2.toks) λb ob q=>Wl _ q;change EQ (model X.prog X.w) X.A (subscriptTail e (.Slice none none (some st) p2) (.ref a) (.ref ↑s2)) (EP X TW σ Q) X.xe { s2 with heap:=s2.heap.push { cls:=.type "slice",data:=.fields #v[.none,.none,.int w t] } };show tail_any (ops:=[.ref a,.ref ↑s2]) (ht.isList.push _).typeIs slot_list_getitem.lookup ?_ (by with_unfolding_all rfl);have hw0:(some w:Option Int)≠some 0:=by rcases hw with rfl | rfl<;>decide
 show wpAny_getItem_list_slice (ht.isList.push _) (Ev.IsSliceOf.new ..) .none .none (.int w t) hw0 ?_ (by rw[WL];cbv);rcases hw with rfl | rfl
 .rw[Al];show#[.ref _,_,I3.laid (t':=s2.toks) (o:=.lst xs) (λb ob q=>Wl _ q) (Wo _) ?_,U,q _ (I3.bf.fresh (Wo _))];exact#[hz,its,0,r,Wz _ U]
 .rw[PySem.W.krv_pick];show#[.ref _,_,I3.laid (t':=s2.toks) (o:=.lst xs.reverse) (λb ob q=>Wl _ q) (Wo _) ?_,U,q _ (I3.bf.fresh (Wo _))];exact#[by rw[List.length_reverse];exact hz,_,0,by simpa using r.reverse,Ev.get?_push_size _ U]
end
end L2
namespace DL
open PySem PySem.Spec L2
open PyProof.Rows hiding St
section
variable{X:Cx}{c:Ent}
def Qe:D->D->(D->Prop)->Prop:=λa b k=>∃ ds w,a=.lst ds/\b=.int w/\(w=1\/w=-1)/\k (.lst (la w ds))
def QV(C:D->D->(D->Prop)->Prop)(ta tb:aZ):aZ:=λs Q=>ta s λa s1=>tb s1 λb s2=>C a b λd=>Q d s2
theorem Fp{e st:Ch}{te tw:aZ}{p2 pos:Pos}(he:DE X c e te)(nq:DE X c st tw):DN X c (.Subscript e (.Slice none none (some st) p2) pos) (QV Qe te tw):=#[(Av he.pe nq.pe).imp λσ H Q zz=>cZ zz λM s as R L q k =>
 #[M,s,as,_,L,q,λd s1 q1 M1 H1 v L1 E1 rv=>#[M1,s1,as,_,L1,q1,λd2 s2 z1r M2 H2 v2 Lb E2 rv2=>by
  let(ds,w,e,e2,hw,q2):=z1r;subst e e2;let(p,xs,rfl,(m,t),r):=E2.rep L1 rv;show#[p,xs,w,U,rv2,hw,.of t,λb hb=>jO (d:=.lst _) L Lb (E1.trans L1.base E2) hb ?_ (k _ s2 q2)];change ay _ _ _ (la w ds) (la w xs);unfold la;split
  .exact r
  .exact r.reverse]]]
end
end DL
namespace PySem.F
end PySem.F
namespace PyZ
open PySem Sem
section
variable{prog:Fa}{w:FS}{A:Fk}{E:Yy}{s:Da}{z TI TO i1 i2:AC}{f1 f2:!AC}{n1 n2:Nat}{P1 P2:Nat->AT->Prop}{S1 S2:Nat->Ev->Prop}
end
end PyZ
namespace L2
open PySem PySem.Spec PyZ
open PyProof.Rows hiding St
section
variable{X:Cx}{TW:Yz}{σ:St}
end
end L2
namespace DL
open PySem PySem.Spec L2
open PyProof.Rows hiding St
section
variable{X:Cx}{c:Ent}
theorem IK{ty td:aZ}{σ:St}{H:Hp}{Q:VK}:tE X.K c (xZ false ty td) σ H Q->Kn (tE X.K c ty) (tE X.K c td) σ H Q:=λzz=>cZ zz λM s as R L q kk =>
 #[M,s,as,_,L,q,λdy s1 q1 M1 H1 y L1 E1 ry=>#[M1,s1,as,_,L1,q1,λd s2 z2r M2 H2 v Lb E2 rv=>by
  let(hd,q2):=z2r;let(a,o,rfl,f1,f2):=rv.dc hd;let(ov,od,w1,w2,w3):=nk q2 f1 f2 (E2.rep L1 ry);show#[a,ov,U,w1,?_];have e:ov.isSome=od.isSome:=by
   rcases w3 with ⟨rfl,rfl⟩ | ⟨v,x,rfl,rfl,rx⟩<;>rfl
  rw[e];exact kk _ s2 w2 M2 H2 _ Lb (E1.trans L1.base E2) U]]
theorem Ag{i o:Ch}{pos:Pos}{ty td:aZ}(hu:X.A.units+1 < cLine)(hi:DE X c i ty)(ho:DE X c o td)(h1:(behindInMarks .In o=false)⁻¹):DT X c (.Compare i [.In] [o] pos) (FE (xZ false ty td)) :=
 #[(BY (G5 hu hi.pe ho.pe) h1).imp λσ H Q q=>gT IK q]
end
end DL
namespace DL
open PySem PySem.Spec L2
structure fO where
 name:Str
 fs:!(Str×Str)
structure jL where
 name:Str
 ps:!(Str×Str)
 res:Str
structure Kd where
 asked:Bool
 name:Str
 bK:!fO
 dM:!jL
structure bZ where
 kinds:!Kd
 vars:!Str
 heads:!Str
 inner:Bool
 words:!Str
def bC(b:Bool):Str:=if b=true then "asked" else "made"
def pairD(p:Str×Str):D:=.tup [.str p.1,.str p.2]
def et(ps:!(Str×Str)):D:=.tup (ps.map pairD)
def dG(m:fO):D:=.tup [.str m.name,et m.fs]
def gj(a:jL):D:=.tup [.str a.name,et a.ps,.str a.res]
def l6(k:Kd):D:=.tup [.str (bC k.asked),.str k.name,.tup (k.bK.map dG),.tup (k.dM.map gj)]
def qz(W:bZ)(k:Str):Prop:=k="number"\/∃ kd∈W.kinds,kd.bK≠[]/\kd.name=k
def Iz(W:bZ)(ns:!Str)(ps:!(Str×Str)):Prop:=ps.length<=3/\ps.map (·.1)=ns.take ps.length/\∀ p∈ps,qz W p.2
structure fb(W:bZ):Prop where
 kl:W.kinds.length<=5
 kn:(W.kinds.map Kd.name).Nodup
 kw:∀ k∈W.kinds,Nm k.name/\k.bK.length<=5/\k.dM.length<=5
 mn:(W.kinds.flatMap λk=>k.bK.map fO.name).Nodup
 an:(W.kinds.flatMap λk=>k.dM.map jL.name).Nodup
 mo:∀ k∈W.kinds,∀ m∈k.bK,Nm m.name/\Iz W (W.heads.take 3) m.fs
 ao:∀ k∈W.kinds,∀ a∈k.dM,Nm a.name/\Iz W (W.heads.drop 3) a.ps/\qz W a.res
 ft:∀ k∈W.kinds,∀ m r,k.bK=m::r->∀ p∈m.fs,p.2="number"
 hl:W.heads.length=6
 vl:W.vars.length=15
 nd:(W.heads++W.vars).Nodup
 nm:∀ x∈W.heads++W.vars,Nm x
structure jW(W:bZ)(sc:!(Str×Str)):Prop where
 len:sc.length<=15
 nd:(sc.map (·.1)).Nodup
 ok:∀ p∈sc,qz W p.2/\(p.1∈W.heads\/∃ j,j < sc.length/\W.vars[j]?=some p.1)
def zQ(W:bZ)(sc:!(Str×Str))(ns:!Str):Prop:=ns.Nodup/\(∀ x∈ns,x∉sc.map (·.1))/\∀ x∈ns,x∈W.heads\/∃ j,j < sc.length+ns.length/\W.vars[j]?=some x
inductive sZ(W:bZ)(sc:!(Str×Str)):Str->Fm->!(!(Str×Str)×Str)->Prop
 | nm {x k:Str}:(x,k)∈sc->sZ W sc k (.nm x) []
 | num {i:Int}:0<=i->i < 1000000->sZ W sc "number" (.num i) []
 | op {o:Str}:o∈(["+","-","*"]:!Str)->sZ W sc "number" (.op o) [([],"number"),([],"number")]
 | BO {k:Str}:sZ W sc k .BO [([],"number"),([],k),([],k)]
 | lt {x k k':Str}:zQ W sc [x]->qz W k'->sZ W sc k (.lt x) [([],k'),([(x,k')],k)]
 | mk {kd:Kd} {m:fO}:kd∈W.kinds->m∈kd.bK->sZ W sc kd.name (.mk m.name) (m.fs.map λp=>([],p.2))
 | ask {kd:Kd} {a:jL}:kd∈W.kinds->kd.bK≠[]->a∈kd.dM->sZ W sc a.res (.ask a.name) (([],kd.name)::a.ps.map λp=>([],p.2))
 | Fb {k:Str} {kd:Kd} {sub:!(fO×!Str)}:kd∈W.kinds->kd.bK≠[]->kd.asked=false->(sub.map (·.1)).Sublist kd.bK->(∀ p∈sub,p.2.length=p.1.fs.length/\zQ W sc p.2) ->
   sZ W sc k (.Fb k (sub.map λp=>(p.1.name,p.2))) (([],kd.name)::sub.map λp=>(p.2.zip (p.1.fs.map (·.2)),k))
 | new {kd:Kd} {sub:!(jL×!Str)}:kd∈W.kinds->kd.bK≠[]->kd.asked=true->(sub.map (·.1)).Sublist kd.dM->(∀ p∈sub,p.2.length=p.1.ps.length/\zQ W sc p.2) ->
   sZ W sc kd.name (.new kd.name (sub.map λp=>(p.1.name,p.2))) (sub.map λp=>(p.2.zip (p.1.ps.map (·.2)),p.1.res))
mutual
noncomputable def Ty(W:bZ):!(Str×Str)->Str->Tm->Prop
 | sc,k,.node f ts=>∃ sp,sZ W sc k f sp/\jk W sc sp ts
noncomputable def jk(W:bZ):!(Str×Str)->!(!(Str×Str)×Str)->!Tm->Prop
 | sc,sp,[]=>sp=[]
 | sc,sp,t::ts=>∃ e r,sp=e::r/\Ty W (sc++e.1) e.2 t/\jk W sc r ts
end
theorem jk.len{W:bZ}{sc:!(Str×Str)}:∀ {sp:!(!(Str×Str)×Str)} {ts:!Tm},jk W sc sp ts->ts.length=sp.length
 | sp,[],h=>by
  have h:sp=[]:=h;rw[h];rfl
 | sp,t::ts,h=>by
  let(e,r,rfl,_,h):=(show ∃ e r,sp=e::r/\Ty W (sc++e.1) e.2 t/\jk W sc r ts from h);rw[Ws,Ws,jk.len h]
theorem Ty.mk{W:bZ}{sc:!(Str×Str)}{k:Str}{f:Fm}{ts:!Tm}{sp:!(!(Str×Str)×Str)}(h:sZ W sc k f sp)(r:jk W sc sp ts):Ty W sc k (.node f ts):=#[sp,h,r]
theorem jk.nil{W:bZ}{sc:!(Str×Str)}:jk W sc [] []:=rfl
theorem jk.cons{W:bZ}{sc ex:!(Str×Str)}{k:Str}{t:Tm}{ts:!Tm}{sp:!(!(Str×Str)×Str)}(h:Ty W (sc++ex) k t)(r:jk W sc sp ts):jk W sc ((ex,k)::sp) (t::ts):=#[(ex,k),sp,U,h,r]
theorem jk.uM{W:bZ}{sc:!(Str×Str)}{k:Str}{t:Tm}{ts:!Tm}{sp:!(!(Str×Str)×Str)}(h:Ty W sc k t)(r:jk W sc sp ts):jk W sc (([],k)::sp) (t::ts):=jk.cons (by rw[WH];exact h) r
theorem Nm.ok{x:Str}(h:Nm x):GM.strOk x=true:=h.1.strOk
theorem xu{W:bZ}(w:fb W){j:Nat}{x:Str}(h:W.vars[j]?=some x):x∈W.vars:=WX h
theorem zQ.nm{W:bZ}(w:fb W){sc:!(Str×Str)}{ns:!Str}(b:zQ W sc ns):∀ x∈ns,Nm x:=λx hx=>by
 rcases b.2.2 x hx with h | ⟨j,_,h⟩
 .exact w.nm x (W7 _ h)
 .exact w.nm x (WR _ (xu w h))
theorem jW.nm{W:bZ}(w:fb W){sc:!(Str×Str)}(h:jW W sc):∀ p∈sc,Nm p.1:=λp hp=>by
 rcases (h.ok p hp).2 with h | ⟨j,_,h⟩
 .exact w.nm _ (W7 _ h)
 .exact w.nm _ (WR _ (xu w h))
theorem qz.ok{W:bZ}(w:fb W){k:Str}(h:qz W k):GM.strOk k=true:=by
 rcases h with rfl | ⟨kd,hk,_,rfl⟩
 .decide+kernel
 .exact (w.kw kd hk).1.ok
theorem jW.more{W:bZ}{sc:!(Str×Str)}(h:jW W sc){ns ks:!Str}(b:zQ W sc ns)(hl:ns.length=ks.length)(hk:∀ k∈ks,qz W k)(Fz:sc.length+ns.length<=15):jW W (sc++ns.zip ks):=by
 have e1:(ns.zip ks).map (·.1)=ns:=Yp (by cbv);have e2:(ns.zip ks).length=ns.length:=by rw[Yv];cbv
 show#[by rw[Wm,e2];exact Fz,?_,λp hp=>?_]
 .rw[Wv,e1,W6];exact#[h.nd,b.1,λx hx y hy e=>b.2.1 y hy (e▸hx)]
 .rcases WS.mp hp with hp | hp
  .let(h1,h2):=h.ok p hp;show#[h1,h2.imp id λ#[j,hj,e]=>#[j,by rw[Wm];cbv,e]]
  .have m1:p.1∈ns:=e1▸WJ (f:=(·.1)) hp;have m2:p.2∈ks:=by
    have:(ns.zip ks).map (·.2)=ks:=List.map_snd_zip (by cbv);exact this▸WJ (f:=(·.2)) hp
   show#[hk _ m2,(b.2.2 p.1 m1).imp id λ#[j,hj,e]=>#[j,by rw[Wm,e2];exact hj,e]]
theorem fg{α β:Type}{nt:Nat}{us:!Nat}{g:o5}{te:aZ}(h:α->D)(f:β->D)(Rl:α->β->Prop){Q:!D->DS->Prop}{s:DS}:∀ (xs:!α) {acc:!D},(∀ x∈xs,∀ k:D->DS->Prop,(∀ (y:β) (s':DS),Rl x y->s'.os=s.os->k (f y) s')->g (h x) (gw nt us s) λs1=>te s1 k)->(∀ ys:!β,Paired Rl xs ys->Q (acc++ys.map f) s)->b6 nt us g cV te (xs.map h) acc s Q
 | [],acc,_,q=>by
  have:=q [] .nil;rw[Xr,WH] at this;exact this
 | x::xs,acc,hx,q=>by
  have:=hx x Wt (λy s3=>b6 nt us g cV te (xs.map h) (acc++[y]) #[s.sl,s3.os] Q) λy s' hy e=>by
   change b6 nt us g cV te (xs.map h) (acc++[f y]) #[s.sl,s'.os] Q;rw[e];show fg h f Rl xs (λz hz=>hx z (Wq _ hz)) λys hp=>?_;rw[WN];exact q (y::ys) (.cons hy hp)
  rw[Wu,b6];simpa [cV] using this
theorem fB{α β:Type}{F:α->β->Prop}:∀ {l₁:!α} {l₂:!β},Paired F l₁ l₂->l₂.length=l₁.length
 | _,_,.nil=>rfl
 | _,_,.cons _ t=>by rw[Ws,Ws,fB t]
theorem fC{α β:Type}{F:α->β->Prop}:∀ {l₁:!α} {l₂:!β},Paired F l₁ l₂->∀ y∈l₂,∃ x∈l₁,F x y
 | _,_,.nil,y,h=>nomatch h
 | _,_,.cons r t,y,h=>by
  rcases WI.mp h with rfl | h
  .exact#[_,Wt,r]
  .let(x,hx,q):=fC t y h;exact#[x,Wq _ hx,q]
theorem B8{α β:Type}{F:α->β->Prop}:∀ {l₁:!α} {l₂:!β},Paired F l₁ l₂->∀ {i:Nat} {x:α},l₁[i]?=some x->∃ y,l₂[i]?=some y/\F x y
 | _,_,.nil,i,x,h=>by simp at h
 | _,_,.cons r t,0,x,h=>by
  simp at h;subst h;exact#[_,U,r]
 | _,_,.cons r t,i+1,x,h=>by
  let(y,h1,h2):=B8 t (i:=i) (x:=x) (by simpa using h);exact#[y,by simpa using h1,h2]
theorem rM{β γ:Type}{F:Nat->β->Prop}{v:β->γ}{ns:!γ}(h:∀ i y,F i y->ns[i]?=some (v y)){n:Nat}{ys:!β}(p:Paired F (List.range n) ys):ys.map v=ns.take ys.length:=by
 have hl:=fB p;rw[XX] at hl;apply List.ext_getElem?;intro i;rw[WZ,List.getElem?_take];by_cases hi:i < n
 .let(y,e,f):=B8 p (i:=i) (x:=i) (by simp[hi]);rw[e,if_pos (by cbv),h i y f]
  rfl
 .rw[if_neg (by cbv),List.getElem?_eq_none (by cbv)]
  rfl
theorem BM{α β γ:Type}{F:α->β->Prop}{u:α->γ}{v:β->γ}(h:∀ x y,F x y->v y=u x):∀ {l₁:!α} {l₂:!β},Paired F l₁ l₂->l₂.map v=l₁.map u
 | _,_,.nil=>rfl
 | _,_,.cons r t=>by rw[Wu,Wu,h _ _ r,BM h t]
theorem pf{α:Type}{f:α->D}{xs:!α}{r:Int}(h0:0<=r)(h1:r < xs.length):∃ x,xs[r.toNat]?=some x/\gR (xs.map f) r=some (f x):=by
 have hj:r.toNat < xs.length:=by cbv
 show#[xs[r.toNat],Wy hj,?_];have e:(r.toNat:Int)=r:=Int.toNat_of_nonneg h0;have q:=eZ (xs:=xs.map f) (j:=r.toNat) (v:=f xs[r.toNat]) (by simp[hj]);rw[e] at q;exact q
theorem iS{α:Type}{f:α->D}{xs:!α}{r:Int}(h0:0<=r)(h1:r < xs.length):∃ x,x∈xs/\gR (xs.map f) r=some (f x):=by
 let(x,h,e):=pf (f:=f) h0 h1;exact#[x,WX h,e]
theorem hW(n:Nat):ee 0 n=(List.range n).map λ(i:Nat)=>D.int (i:Int):=by
 unfold ee;show Yf λi _=>?_;rw[Int.zero_add]
theorem fk{α:Type}{f:α->D}{xs:!α}{lo hi:Option Int}:cutD (xs.map f) lo hi=((xs.drop (HT.cq xs.length 0 lo)).take (HT.cq xs.length xs.length hi - HT.cq xs.length 0 lo)).map f:=by
 unfold cutD;rw[Wk,<- List.map_drop,<- List.map_take]
theorem v5{f:Str->D}{ws:!Str}{n:Int}(h0:0<=n)(h1:n<=ws.length):∃ al:!Str,cutD (ws.map f) (some n) none++cutD (ws.map f) none (some n)=al.map f/\al.Perm ws:=by
 have e1:HT.cq ws.length 0 (some n)=n.toNat:=by
  unfold HT.cq;simp only[]
  repeat' split
  all_goals cbv
 have e2:HT.cq ws.length ws.length (some n)=n.toNat:=by
  unfold HT.cq;simp only[]
  repeat' split
  all_goals cbv
 have e3:HT.cq ws.length ws.length none=ws.length:=rfl;have e4:HT.cq ws.length 0 none=0:=rfl;show#[ws.drop n.toNat++ws.take n.toNat,?_,?_]
 .rw[fk,fk,e1,e2,e3,e4,List.drop_zero,Nat.sub_zero,List.map_append,List.take_of_length_le (by simp)]
 .refine List.perm_append_comm.trans ?_;rw[Xv]
def _root_.DL.Sl.pl:Sl->Bool
 | .own _=>false
 | _=>true
theorem cp{k i:Nat}{x:Sl}{r:!Sl}(h:x.pl=true):noRef k (i+1) (x::r)=noRef k i r:=by
 cases x with
 | own j=>cases h
 | _=>rfl
def yS(xs:!D)(j n:Nat):Prop:=j<=n/\xs=(List.range' j (n - j)).map λ(i:Nat)=>D.int (i:Int)
theorem yS.init(n:Nat):yS (ee 0 n) 0 n:=#[WG _,by rw[hW,Nat.sub_zero,List.range_eq_range']]
theorem yS.nil{j n:Nat}(h:yS [] j n):j=n:=by
 have:=congrArg List.length h.2;simp at this;have:=h.1;cbv
theorem yS.cons{x:D}{xs:!D}{j n:Nat}(h:yS (x::xs) j n):x=.int (j:Int)/\j < n/\yS xs (j+1) n:=by
 let(h1,h2):=h;have h3:=congrArg List.length h2;simp at h3;have e:n - j=(n - (j+1))+1:=by cbv
 rw[e,List.range'_succ,Wu] at h2;injection h2 with h4 h5;exact#[h4,by cbv,by cbv,h5]
def C9(ns ss:!Str)(ps:!(Str×Str)):Prop:=ps.length<=3/\ps.map (·.1)=ns.take ps.length/\∀ p∈ps,p.2∈ss
abbrev gJ:!Str:=["number"]
def dU(ks:!Kd):!Str:=ks.flatMap λk=>k.bK.map fO.name
def c8(ks:!Kd):!Str:=ks.flatMap λk=>k.dM.map jL.name
structure Np(ws ns:!Str)(k:Kd):Prop where
 m0:k.bK≠[]
 ml:k.bK.length<=5
 al:k.dM.length<=5
 mp:∀ m∈k.bK,C9 ((ws.drop 24).take 3) (ns++gJ) m.fs
 mf:∀ m r,k.bK=m::r->∀ p∈m.fs,p.2="number"
 ap:∀ a∈k.dM,C9 ((ws.drop 27).take 3) (ns++gJ) a.ps/\a.res∈ns++gJ
structure Fd(ws ns ML AL:!Str)(ks:!Kd):Prop where
 kl:ks.length<=ns.length
 kn:ks.map Kd.name=ns.take ks.length
 rg:∀ k∈ks,Np ws ns k
 mn:dU ks=ML.take (dU ks).length
 an:c8 ks=AL.take (c8 ks).length
 mb:(dU ks).length<=5 * ks.length
 ab:(c8 ks).length<=5 * ks.length
theorem Fd.nil{ws ns ML AL:!Str}:Fd ws ns ML AL []:=#[WG _,U,λ_ h=>(nomatch h),U,U,WG _,WG _]
theorem fR(ks:!Kd)(k:Kd):dU (ks++[k])=dU ks++k.bK.map fO.name:=by simp[dU]
theorem gc(ks:!Kd)(k:Kd):c8 (ks++[k])=c8 ks++k.dM.map jL.name:=by simp[c8]
theorem take_snoc{α:Type}{L A B:!α}(ha:A=L.take A.length)(hb:B=(L.drop A.length).take B.length):A++B=L.take (A++B).length:=by
 rw[Wm,List.take_add,<- ha,<- hb]
theorem Fd.snoc{ws ns ML AL:!Str}{ks:!Kd}(h:Fd ws ns ML AL ks){k:Kd}(r:Np ws ns k)(hk:ns[ks.length]?=some k.name)(hm:k.bK.map fO.name=(ML.drop (dU ks).length).take k.bK.length)(ha:k.dM.map jL.name=(AL.drop (c8 ks).length).take k.dM.length):Fd ws ns ML AL (ks++[k]):=by
 let(hZ,e):=Wn.mp hk;show#[by simp;cbv,?_,λx hx=>?_,?_,?_,?_,?_]
 .rw[Wv,h.kn,Wm,List.take_add]
  congr 1
  change [k.name]=(ns.drop ks.length).take 1;rw[W2 hZ,e]
  rfl
 .rcases WS.mp hx with hx | hx
  .exact h.rg x hx
  .rw[WA.mp hx];exact r
 .rw[fR];exact take_snoc h.mn (by rw[Wk];exact hm)
 .rw[gc];exact take_snoc h.an (by rw[Wk];exact ha)
 .have:=h.mb;have:=r.ml;rw[fR,Wm,Wm,Wk];simp;cbv
 .have:=h.ab;have:=r.al;rw[gc,Wm,Wm,Wk];simp;cbv
theorem b7{k:Nat}{d:D}{x:Sl}(h:x.pl=true):(jh k d x).pl=true:=by
 cases x with
 | own j=>cases h
 | _=>rfl
structure IW(ws ns L:!Str)(ms:!fO):Prop where
 nm:ms.map fO.name=L.take ms.length
 mp:∀ m∈ms,C9 ((ws.drop 24).take 3) (ns++gJ) m.fs
 mf:∀ m r,ms=m::r->∀ p∈m.fs,p.2="number"
theorem IW.nil{ws ns L:!Str}:IW ws ns L []:=#[U,λ_ h=>(nomatch h),λ_ _ h=>by simp at h]
theorem qP{α β:Type}{v:β->α}{L:!α}{ms:!β}{m:β}(h:ms.map v=L.take ms.length)(e:L[ms.length]?=some (v m)):(ms++[m]).map v=L.take (ms++[m]).length:=by
 let(hZ,e):=Wn.mp e;rw[Wv,h,Wm,List.take_add]
 congr 1
 change [v m]=(L.drop ms.length).take 1;rw[W2 hZ,e]
 rfl
theorem IW.snoc{ws ns L:!Str}{ms:!fO}(h:IW ws ns L ms){m:fO}(e:L[ms.length]?=some m.name)(hp:C9 ((ws.drop 24).take 3) (ns++gJ) m.fs)(hf:ms=[]->∀ p∈m.fs,p.2="number"):IW ws ns L (ms++[m]):=by
 show#[qP h.nm e,λx hx=>?_,λx r hx=>?_]
 .rcases WS.mp hx with hx | hx
  .exact h.mp x hx
  .rw[WA.mp hx];exact hp
 .cases ms with
  | nil =>
   injection hx with e1 e2;subst e1;exact hf U
  | cons y ys =>
   injection hx with e1 e2;subst e1;exact h.mf _ _ U
structure An(ws ns L:!Str)(as:!jL):Prop where
 nm:as.map jL.name=L.take as.length
 ap:∀ a∈as,C9 ((ws.drop 27).take 3) (ns++gJ) a.ps/\a.res∈ns++gJ
theorem An.nil{ws ns L:!Str}:An ws ns L []:=#[U,λ_ h=>nomatch h]
theorem An.snoc{ws ns L:!Str}{as:!jL}(h:An ws ns L as){a:jL}(e:L[as.length]?=some a.name)(hp:C9 ((ws.drop 27).take 3) (ns++gJ) a.ps)(hr:a.res∈ns++gJ):An ws ns L (as++[a]):=by
 show#[qP h.nm e,λx hx=>?_];rcases WS.mp hx with hx | hx
 .exact h.ap x hx
 .rw[WA.mp hx];exact#[hp,hr]
theorem C9.sub{ns ss tt:!Str}{ps:!(Str×Str)}(h:C9 ns ss ps)(hs:∀ x∈ss,x∈tt):C9 ns tt ps:=#[h.1,h.2.1,λp hp=>hs _ (h.2.2 p hp)]
theorem HI{L:!Str}{n j:Nat}(h:n+j < L.length):∃ x,L[n+j]?=some x/\(L.drop n)[j]?=some x/\seqIndex? 0 (((L.drop (n+j)).map D.str)).length=some 0/\((L.drop (n+j)).map D.str)[0]?=some (.str x)/\((L.drop (n+j)).map D.str).eraseIdx 0=(L.drop (n+(j+1))).map D.str:=by
 show#[L[n+j],Wy h,?_,?_,?_,?_]
 .rw[X2,Wy h]
 .rw[Wk,WY];exact PySem.seqIndex_of () (by cbv)
 .rw[WZ,X2,Nat.add_zero,Wy h]
  rfl
 .rw[List.eraseIdx_zero,<- List.map_tail,List.tail_drop]
  congr 1
theorem yb{r:Int}(h0:0<=r)(h1:r < 2):∃ b:Bool,gR [D.str "made",D.str "asked"] r=some (.str (bC b)):=by
 have:r=0\/r=1:=by cbv
 rcases this with rfl | rfl
 .exact#[false,U]
 .exact#[true,U]
def b5(ws:!Str)(ks:!Kd)(inner:Bool):bZ:=#[ks,ws.drop 30,(ws.drop 24).take 6,inner,ws]
theorem pE{ws:!Str}(h:ws.Nodup){n j:Nat}(hn:n<=j){x:Str}(e:ws[j]?=some x):(ws.take n++[x]).Nodup:=by
 let(hj,e):=Wn.mp e;have hs:(ws.take n++[x]).Sublist ws:=by
  have h1:(ws.take n++[x]).Sublist (ws.take n++ws.drop n):=by
   show List.Sublist.append (Xm _) (List.singleton_sublist.mpr ?_);have:(ws.drop n)[j - n]?=some x:=by
    rw[X2,show n+(j - n)=j by cbv,Wy hj,e]
   exact WX this
  rwa [Xv] at h1
 exact h.sublist hs
theorem iX{α:Type}{f:α->D}:∀ {l:!α},(∀ x∈l,mU (f x)=true)->mP (l.map f)=true
 | [],_=>rfl
 | x::l,h=>by
  change (mU (f x)&&mP (l.map f))=true;rw[h x Wt,iX λy hy=>h y (Wq _ hy)]
  rfl
theorem tV{W:bZ}(w:fb W){ns:!Str}(hn:∀ x∈ns,Nm x){ps:!(Str×Str)}(h:Iz W ns ps):mU (et ps)=true:=by
 show iX λp hp=>?_;have h1:p.1∈ns:=by
  have:p.1∈ps.map (·.1):=WJ hp;rw[h.2.1] at this;exact Xj this
 change (GM.strOk p.1&&(GM.strOk p.2&&true))=true;rw[(hn _ h1).ok,(h.2.2 p hp).ok w]
 rfl
theorem D9{W:bZ}(w:fb W){k:Kd}(hk:k∈W.kinds):mU (.tup (k.bK.map dG))=true:=by
 show iX λm hm=>?_;let(h1,h2):=w.mo k hk m hm;change (GM.strOk m.name&&(mU (et m.fs)&&true))=true;rw[h1.ok,tV w (λx hx=>w.nm x (W7 _ (Xj hx))) h2]
 rfl
def things(W:bZ):!Kd:=W.kinds.filter λk=>(not k.bK.isEmpty)
theorem g7{W:bZ}{k:Kd}:k∈things W↔k∈W.kinds/\k.bK≠[]:=by
 unfold things;rw[Xs];simp
theorem zQ.heads{W:bZ}(w:fb W){sc:!(Str×Str)}{al:!Str}(p:al.Perm (W.heads.filter λx=>(not (decide (x∈sc.map (·.1))))))(m:Nat):zQ W sc (al.take m):=by
 have mem:∀ x∈al.take m,x∈W.heads/\x∉sc.map (·.1):=λx hx=>by
  have:=p.mem_iff.mp (Xj hx);let(h1,h2):=Xs.mp this;exact#[h1,by simpa using h2]
 show#[?_,λx hx=>(mem x hx).2,λx hx=>.inl (mem x hx).1];have h1:W.heads.Nodup:=(W6.mp w.nd).1;exact (p.nodup_iff.mpr (h1.sublist List.filter_sublist)).sublist (Xe _ _)
theorem zQ.vars{W:bZ}(w:fb W){sc:!(Str×Str)}(s:jW W sc){m:Nat}{ns:!Str}(p:Paired (λk x=>W.vars[sc.length+k]?=some x) (List.range m) ns):zQ W sc ns:=by
 have hl:=fB p;rw[XX] at hl;have h2:W.vars.Nodup:=(W6.mp w.nd).2.1;have e:ns=(W.vars.drop sc.length).take ns.length:=by
  have:=rM (v:=id) (ns:=W.vars.drop sc.length) (λi y h=>by rw[X2];exact h) p;simpa using this
 show#[?_,λx hx hs=>?_,λx hx=>?_]
 .rw[e];exact h2.sublist ((Xe _ _).trans (XB _ _))
 .let(k,_,hk):=fC p x hx;let(q,hq,eq):=WO.mp hs;rcases (s.ok q hq).2 with h | ⟨j,hj,ej⟩
  .rw[eq] at h;exact (W6.mp w.nd).2.2 x h x (WX hk) U
  .rw[eq] at ej;let(l1,g1):=Wn.mp hk;let(l2,g2):=Wn.mp ej;have:=(X5 h2).mp (g1.trans g2.symm);cbv
 .let(k,hk,hv):=fC p x hx;have:=Xg.mp hk;exact .inr #[sc.length+k,by cbv,hv]
theorem zS{ws:!Str}:(ws.map D.str).all gy=true:=by
 rw[List.all_map];exact W5.mpr λ_ _=>rfl
theorem Eo{x:Str}{ws:!Str}:y0 (fv (.str x)) ((ws.map D.str).map fv)=decide (x∈ws):=by
 rw[WV];exact eJ
theorem bO{a b:Str}:decide (fv (.str a)=fv (.str b))=decide (a=b):=by
 change decide (V.str a=V.str b)=_;by_cases h:a=b
 .simp[h]
 .have:¬ V.str a=V.str b:=λe=>h (by injection e);rw[decide_eq_false this,decide_eq_false h]
theorem xX{W:bZ}(w:fb W){a b:Kd}(ha:a∈W.kinds)(hb:b∈W.kinds)(e:a.name=b.name):a=b:=by
 let(i,hi,rfl):=XE ha;let(j,hj,rfl):=XE hb;have:=Ye.mp w.kn;have h2:(W.kinds.map Kd.name)[i]'(by simpa using hi)=(W.kinds.map Kd.name)[j]'(by simpa using hj):=by simpa using e
 have:=(X5 w.kn).mp h2;subst this
 rfl
theorem jS{α:Type}{p:α->Bool}{a:α}:∀ {l:!α},a∈l->p a=true->(∀ x∈l,p x=true->x=a)->∃ n,l.filter p=List.replicate (n+1) a
 | [],h,_,_=>nomatch h
 | x::l,h,ha,hu=>by
  by_cases hx:p x=true
  .have e:=hu x Wt hx;subst e;rw[List.filter_cons_of_pos hx];by_cases hm:x∈l
   .let(n,e):=jS hm ha λy hy=>hu y (Wq _ hy);exact#[n+1,by rw[e];rfl]
   .refine#[0,?_];have:l.filter p=[]:=List.filter_eq_nil_iff.mpr λy hy hp=>hm (hu y (Wq _ hy) hp▸hy);rw[this]
    rfl
  .rw[List.filter_cons_of_neg hx];show jS ?_ ha λy hy=>hu y (Wq _ hy);rcases WI.mp h with rfl | h
   .exact absurd ha hx
   .exact h
theorem kinds_of{W:bZ}(w:fb W){k:Str}(h:qz W k)(hn:k≠"number"):∃ kd∈W.kinds,kd.bK≠[]/\kd.name=k/\∃ n,(W.kinds.filter λx=>decide (x.name=k))=List.replicate (n+1) kd:=by
 rcases h with h | ⟨kd,h1,h2,h3⟩
 .exact absurd h hn
 .exact#[kd,h1,h2,h3,jS h1 (by simpa using h3) λx hx hp=>xX w hx h1 (by rw[h3];simpa using hp)]
end DL
namespace DL
theorem jn{C G:Prop}(hrest:C)(h:C->G):G:=h hrest
end DL
namespace DL
open PySem L2
theorem vB{α:Type}{W:bZ}{sc:!(Str×Str)}{F:α->Tm->Prop}{v:α->Str}:∀ {ps:!α} {ts:!Tm},Paired F ps ts->(∀ p∈ps,∀ t,F p t->Ty W sc (v p) t)->jk W sc (ps.map λp=>([],v p)) ts
 | _,_,.nil,_=>jk.nil
 | _,_,.cons (a:=p) r t,h=>jk.uM (h _ Wt _ r) (vB t λq hq=>h q (Wq _ hq))
theorem yN{x:D}{xs:!D}:cutD (x::xs) (some 1) none=xs:=by
 unfold cutD;have e1:HT.cq (x::xs).length 0 (some 1)=1:=by
  unfold HT.cq;simp only[List.length_cons]
  repeat' split
  all_goals cbv
 have e2:HT.cq (x::xs).length (x::xs).length none=(x::xs).length:=rfl;rw[e1,e2,List.drop_succ_cons,List.drop_zero,List.take_of_length_le (by simp)]
theorem nZ{f:Fm}{ts:!Tm}{n:Nat}(h:∀ t∈ts,t.dep<=n):(Tm.node f ts).dep<=n+1:=by
 have:=yI h;change CB ts+1<=n+1;cbv
theorem Nl(t:Tm):(not (rX (toD t)))=true:=by
 cases t with
 | node f ks=>cases f<;>rfl
end DL
namespace DL
open PySem PySem.Spec L2
theorem sZ.ar{W:bZ}(w:fb W){sc:!(Str×Str)}{k:Str}{f:Fm}{sp:!(!(Str×Str)×Str)}(h:sZ W sc k f sp):f.ar sp.length=true:=by
 cases h with
 | nm _=>rfl
 | num _ _=>rfl
 | op _=>rfl
 | BO=>rfl
 | lt _ _=>rfl
 | mk _ _=>rfl
 | ask _ _ _=>simp[Fm.ar]
 | @Fb _ kd sub h1 h2 h3 h4 h5 =>
  simp only[Fm.ar,List.length_cons,List.length_map,beq_self_eq_true,Bool.true_and,List.all_eq_true,List.mem_map];rintro _ ⟨p,hp,rfl⟩;have hm:p.1∈kd.bK:=h4.subset (WJ hp);have:=(w.mo kd h1 p.1 hm).2.1;have:=(h5 p hp).1;simp;cbv
 | @new kd sub h1 h2 h3 h4 h5 =>
  simp only[Fm.ar,List.length_map,beq_self_eq_true,Bool.true_and,List.all_eq_true,List.mem_map];rintro _ ⟨p,hp,rfl⟩;have hm:p.1∈kd.dM:=h4.subset (WJ hp);have:=(w.ao kd h1 p.1 hm).2.1.1;have:=(h5 p hp).1;simp;cbv
theorem sZ.strs{W:bZ}(w:fb W){sc:!(Str×Str)}{k:Str}{f:Fm}{sp:!(!(Str×Str)×Str)}(u6:∀ p∈sc,GM.strOk p.1=true)(hk:GM.strOk k=true)(h:sZ W sc k f sp):f.strs.all GM.strOk=true/\∀ e∈sp,GM.strOk e.2=true/\∀ p∈e.1,GM.strOk p.1=true:=by
 have num:GM.strOk ("number":Str)=true:=by decide+kernel
 cases h with
 | @nm x _ hx=>exact#[by simp[Fm.strs,u6 _ hx],λ_ h=>by cases h]
 | num _ _=>exact#[U,λ_ h=>by cases h]
 | @op o ho =>
  show#[?_,λe he=>?_]
  .simp only[Fm.strs,List.all_cons,List.all_nil,Bool.and_true]
   revert o
   decide+kernel
  .simp at he;subst he;exact#[num,λ_ h=>by cases h]
 | BO =>
  show#[U,λe he=>?_];simp at he;rcases he with rfl | rfl
  .exact#[num,λ_ h=>by cases h]
  .exact#[hk,λ_ h=>by cases h]
 | @lt x _ k' hb hk' =>
  have hx:=(hb.nm w x (WA.mpr U)).ok;show#[by simp[Fm.strs,hx],λe he=>?_];simp at he;rcases he with rfl | rfl
  .exact#[hk'.ok w,λ_ h=>by cases h]
  .exact#[hk,λp hp=>by rw[WA.mp hp];exact hx]
 | @mk kd m h1 h2 =>
  let(m1,m2,m3,m4):=w.mo kd h1 m h2;show#[by simp[Fm.strs,m1.ok],λe he=>?_];let(p,hp,rfl):=WO.mp he;exact#[(m4 p hp).ok w,λ_ h=>by cases h]
 | @ask kd a h1 h2 h3 =>
  let(m1,(m2,m3,m4),m5):=w.ao kd h1 a h3;show#[by simp[Fm.strs,m1.ok],λe he=>?_];rcases WI.mp he with rfl | he
  .exact#[(w.kw kd h1).1.ok,λ_ h=>by cases h]
  let(p,hp,rfl):=WO.mp he;exact#[(m4 p hp).ok w,λ_ h=>by cases h]
 | @Fb _ kd sub h1 h2 h3 h4 h5 =>
  show#[?_,λe he=>?_]
  .simp only[Fm.strs,List.all_cons,hk,Bool.true_and,List.map_map,List.all_flatten,List.all_map,List.all_eq_true];intro p hp;have hm:p.1∈kd.bK:=h4.subset (WJ hp);simp only[Function.comp,List.all_cons,(w.mo kd h1 p.1 hm).1.ok,Bool.true_and,List.all_eq_true];exact λx hx=>((h5 p hp).2.nm w x hx).ok
  .rcases WI.mp he with rfl | he
   .exact#[(w.kw kd h1).1.ok,λ_ h=>by cases h]
   let(p,hp,rfl):=WO.mp he;show#[hk,λq hq=>?_];exact ((h5 p hp).2.nm w _ (Xt hq).1).ok
 | @new kd sub h1 h2 h3 h4 h5 =>
  show#[?_,λe he=>?_]
  .simp only[Fm.strs,List.all_cons,hk,Bool.true_and,List.map_map,List.all_flatten,List.all_map,List.all_eq_true];intro p hp;have hm:p.1∈kd.dM:=h4.subset (WJ hp);simp only[Function.comp,List.all_cons,(w.ao kd h1 p.1 hm).1.ok,Bool.true_and,List.all_eq_true];exact λx hx=>((h5 p hp).2.nm w x hx).ok
  .let(p,hp,rfl):=WO.mp he;have hm:p.1∈kd.dM:=h4.subset (WJ hp);show#[(w.ao kd h1 p.1 hm).2.2.ok w,λq hq=>?_];exact ((h5 p hp).2.nm w _ (Xt hq).1).ok
mutual
theorem Ty.good{W:bZ}(w:fb W):∀ (t:Tm) (sc:!(Str×Str)) (k:Str),(∀ p∈sc,GM.strOk p.1=true)->GM.strOk k=true->Ty W sc k t->t.wf=true/\t.Jq=true
 | .node f ts,sc,k,u6,hk,h=>by
  let(sp,hf,hr):=(show ∃ sp,sZ W sc k f sp/\jk W sc sp ts from h);let(s1,s2):=hf.strs w u6 hk;let(g1,g2):=jk.good w ts sc sp u6 s2 hr;show#[?_,?_]
  .show (f.ar ts.length&&Kp ts)=true;rw[hr.len,hf.ar w,g1]
   rfl
  .show (f.strs.all GM.strOk&&CG ts)=true;rw[s1,g2]
   rfl
theorem jk.good{W:bZ}(w:fb W):∀ (ts:!Tm) (sc:!(Str×Str)) (sp:!(!(Str×Str)×Str)),(∀ p∈sc,GM.strOk p.1=true)->(∀ e∈sp,GM.strOk e.2=true/\∀ p∈e.1,GM.strOk p.1=true)->jk W sc sp ts->Kp ts=true/\CG ts=true
 | [],sc,sp,u6,hs,h=>#[U,U]
 | t::ts,sc,sp,u6,hs,h=>by
  let(e,r,rfl,h1,h2):=(show ∃ e r,sp=e::r/\Ty W (sc++e.1) e.2 t/\jk W sc r ts from h);let(e1,e2):=hs e Wt;let(a1,a2):=Ty.good w t (sc++e.1) e.2 (λp hp=>(WS.mp hp).elim (u6 p) (e2 p)) e1 h1;let(b1,b2):=jk.good w ts sc r u6 (λx hx=>hs x (Wq _ hx)) h2;exact#[by change (t.wf&&Kp ts)=true;rw[a1,b1];rfl,by change (t.Jq&&CG ts)=true;rw[a2,b2];rfl]
end
structure PK where
 asked:Bool
 kd:Kd
 tabs:!(!(Str×Tm))
def vi(r:Str×Tm):D:=.tup [.str r.1,toD r.2]
def Nz(rs:!(Str×Tm)):D:=.tup (rs.map vi)
def jH(x:fO×!(Str×Tm)):D:=.tup [.str x.1.name,et x.1.fs,Nz x.2]
def ky(x:jL×!(Str×Tm)):D:=.tup [.str x.1.name,et x.1.ps,.str x.1.res,Nz x.2]
def AX(p:PK):!D:=if p.asked=true then (p.kd.bK.zip p.tabs).map jH else (p.kd.dM.zip p.tabs).map ky
def MO(p:PK):D:=if p.asked=true then .tup (p.kd.dM.map gj) else .tup (p.kd.bK.map dG)
def pN(p:PK):D:=.tup [.str (bC p.asked),.str p.kd.name,MO p,.tup (AX p)]
def Fc(p:PK):!(Str×!(Str×Tm)):=(if p.asked=true then p.kd.bK.map fO.name else p.kd.dM.map jL.name).zip p.tabs
def kQ(asked:Bool)(b:Str×!(Str×Tm)):!((Str×Str)×Tm):=b.2.map λr=>(if asked=true then (b.1,r.1) else (r.1,b.1),r.2)
def ents(p:PK):!((Str×Str)×Tm):=(Fc p).flatMap (kQ p.asked)
theorem CD{ms:!fO}{ts:!(!(Str×Tm))}(h:ts.length=ms.length){α:Type}(f:fO->α):(ms.zip ts).map (λx=>f x.1)=ms.map f:=by
 have:(ms.zip ts).map Prod.fst=ms:=Yp (by cbv);rw[show (λx:fO×!(Str×Tm)=>f x.1)=f∘Prod.fst from U,<- WV,this]
end DL
namespace DL
open PySem L2
theorem dY(b:Bool):decide (fv (.str (bC b))=fv (.str "made"))=(not b):=by cases b<;>decide+kernel
theorem bF(b:Bool):decide (fv (.str (bC b))=fv (.str "asked"))=b:=by cases b<;>decide+kernel
theorem rh{W:bZ}(w:fb W){kd:Kd}(hk:kd∈W.kinds){m:fO}(hm:m∈kd.bK){a:jL}(ha:a∈kd.dM):jW W (m.fs++a.ps):=by
 let(_,m2,m3,m4):=w.mo kd hk m hm;let(_,(a2,a3,a4),_):=w.ao kd hk a ha;have hh:W.heads.take 3++W.heads.drop 3=W.heads:=Xv _ _;have hn:W.heads.Nodup:=(W6.mp w.nd).1;have hs:((m.fs++a.ps).map (·.1)).Sublist W.heads:=by
  rw[Wv,m3,a3];have:=List.Sublist.append (Xe m.fs.length (W.heads.take 3)) (Xe a.ps.length (W.heads.drop 3))
  rwa [hh] at this
 show#[by rw[Wm];cbv,hn.sublist hs,λp hp=>#[?_,.inl (hs.subset (WJ hp))]];rcases WS.mp hp with h | h
 .exact m4 p h
 .exact a4 p h
theorem yF{α β:Type}{F:α->β->Prop}:∀ {l₁:!α} {l₂:!β} {a:α} {b:β},Paired F l₁ l₂->F a b->Paired F (l₁++[a]) (l₂++[b])
 | _,_,a,b,.nil,h=>.cons h .nil
 | _,_,a,b,.cons r t,h=>.cons r (yF t h)
end DL
namespace DL
open PySem PySem.Spec L2
theorem gS{α β:Type}{nt:Nat}{us:!Nat}{g:o5}{ti:kD}{te:aZ}(h:α->D)(f:β->D)(Rl:α->β->Prop){Q:!D->DS->Prop}{s:DS}:∀ (xs:!α) {acc:!D},
  (∀ x∈xs,∀ (k:D->DS->Prop) (N:DS->Prop),(∀ (y:β) (s':DS),Rl x y->s'.os=s.os->k (f y) s')->(∀ s':DS,s'.os=s.os->N s')->g (h x) (gw nt us s) λs1=>ti s1 λb s2=>if b=true then te s2 k else N s2)->(∀ (sub:!α) (ys:!β),sub.Sublist xs->Paired Rl sub ys->Q (acc++ys.map f) s)->b6 nt us g ti te (xs.map h) acc s Q
 | [],acc,_,q=>by
  have:=q [] [] (Xm _) .nil;rw[Xr,WH] at this;exact this
 | x::xs,acc,hx,q=>by
  show hx x Wt (λy s3=>b6 nt us g ti te (xs.map h) (acc++[y]) #[s.sl,s3.os] Q) (λs2=>b6 nt us g ti te (xs.map h) acc #[s.sl,s2.os] Q) (λy s' hy e=>?_) λs' e=>?_
  .show b6 nt us g ti te (xs.map h) (acc++[f y]) #[s.sl,s'.os] Q;rw[e];show gS h f Rl xs (λz hz=>hx z (Wq _ hz)) λsub ys hs hp=>?_;rw[WN];exact q (x::sub) (y::ys) (hs.cons_cons _) (.cons hy hp)
  .show b6 nt us g ti te (xs.map h) acc #[s.sl,s'.os] Q;rw[e];exact gS h f Rl xs (λz hz=>hx z (Wq _ hz)) λsub ys hs hp=>q sub ys (hs.cons _) hp
theorem qJ{α:Type}(w:Int)(xs:!α):(la w xs).Perm xs:=by
 unfold la;split
 .exact List.Perm.refl _
 .exact List.reverse_perm _
theorem uq{α β:Type}(f:α->β)(w:Int)(xs:!α):la w (xs.map f)=(la w xs).map f:=by
 unfold la;split
 .rfl
 .rw[List.map_reverse]
theorem yW(b:Bool)(x:Str×!(Str×Tm)):(kQ b x).length=x.2.length:=by unfold kQ;rw[List.length_map]
theorem kA{b:Bool}{bs:!(Str×!(Str×Tm))}{e:(Str×Str)×Tm}(h:e∈bs.flatMap (kQ b)):∃ x∈bs,∃ r∈x.2,e=(if b=true then (x.1,r.1) else (r.1,x.1),r.2):=by
 let(x,hx,he):=List.mem_flatMap.mp h;let(r,hr,e):=WO.mp he;exact#[x,hx,r,hr,e.symm]
theorem qy{b:Bool}:∀ {bs:!(Str×!(Str×Tm))},(bs.map (·.1)).Nodup->(∀ x∈bs,(x.2.map (·.1)).Nodup)->((bs.flatMap (kQ b)).map (·.1)).Nodup
 | [],_,_=>List.nodup_nil
 | x::bs,h1,h2=>by
  rw[Wu,Xy] at h1;rw[Xf,Wv,W6];show#[?_,qy h1.2 λy hy=>h2 y (Wq _ hy),?_]
  .have:=h2 x Wt;unfold kQ;rw[WV];rw[Ye,List.pairwise_map] at this ⊢;show this.imp λ{a c} hac e=>hac ?_;cases b with
   | true=>exact (Prod.mk.inj e).2
   | false=>exact (Prod.mk.inj e).1
  .intro k hk k' hk' e;subst e;let(a,ha,rfl):=WO.mp hk;let(c,hc,ec):=WO.mp hk';let(r,hr,rfl):=WO.mp ha;let(y,hy,r2,hr2,rfl):=kA hc;show h1.1 ?_;have:y.1=x.1:=by
    cases b with
    | true=>exact (Prod.mk.inj ec).1
    | false=>exact (Prod.mk.inj ec).2
   rw[<- this];exact WJ hy
theorem xG{b:Bool}:∀ {bs:!(Str×!(Str×Tm))},(∀ x∈bs,x.2.length<=5)->(bs.flatMap (kQ b)).length<=5 * bs.length
 | [],_=>WG _
 | x::bs,h=>by
  have h1:=h x Wt;have h2:=xG (b:=b) λy hy=>h y (Wq _ hy);rw[Xf,Wm,yW,Ws];cbv
theorem rQ{W:bZ}(w:fb W){kd:Kd}(hk:kd∈W.kinds):(kd.bK.map fO.name).Nodup:=by
 let(a,c,e):=List.append_of_mem hk;have:=w.mn;rw[e,List.flatMap_append,Xf] at this;exact (W6.mp (W6.mp this).2.1).1
theorem rB{W:bZ}(w:fb W){kd:Kd}(hk:kd∈W.kinds):(kd.dM.map jL.name).Nodup:=by
 let(a,c,e):=List.append_of_mem hk;have:=w.an;rw[e,List.flatMap_append,Xf] at this;exact (W6.mp (W6.mp this).2.1).1
theorem jg{W:bZ}(w:fb W){kd:Kd}(hk:kd∈W.kinds){m:fO}(hm:m∈kd.bK){a:jL}(ha:a∈kd.dM){t:Tm}(h:Ty W (m.fs++a.ps) a.res t):t.wf=true/\t.Jq=true :=
 Ty.good w t _ _ (λp hp=>((DL.rh w hk hm ha).nm w p hp).ok) ((w.ao kd hk a ha).2.2.ok w) h
end DL
namespace DL
open PySem L2
theorem map_one{α:Type}{f:α->Str}{l:!α}(h:(l.map f).Nodup){a b:α}(ha:a∈l)(hb:b∈l)(e:f a=f b):a=b:=by
 let(i,hi,rfl):=XE ha;let(j,hj,rfl):=XE hb;have h2:(l.map f)[i]'(by simpa using hi)=(l.map f)[j]'(by simpa using hj):=by simpa using e
 have:=(X5 h).mp h2;subst this
 rfl
theorem ub{α β:Type}{l:!α}{m:!β}{a:α}{b:β}(h:m.length=l.length):(l++[a]).zip (m++[b])=l.zip m++[(a,b)]:=by
 rw[List.zip_append (by cbv)]
 rfl
end DL
namespace JC
open PySem Sem
open PySem.AutoSeq1 (wpAny_loadPart')
section
variable{prog:Fa}{w:FS}{A:Fk}{E:Yy}{s:Da}
end
end JC
namespace L2
open PySem PySem.Spec
open PyProof.Rows hiding St
section
variable{P:Fa}{w:FS}{K:Frag}
section
variable{M:Model}{A:Fk}{E:Yy}{s:Da}{env:Env}
end
section
variable{X:Cx}
end
end
end L2
namespace DL
open PySem PySem.Spec L2
open PyProof.Rows hiding St
section
variable{X:Cx}{c:Ent}
end
end DL
namespace JC
open PySem Sem
section
variable{prog:Fa}{w:FS}{A:Fk}{E:Yy}{h:Ev}{g:Array GenState}{d:Drawn}{t:Nat}{os:OsState}{a:AC}{o:Obj}
theorem oV:isSubtype (.type "AttributeError") (.type "AttributeError")=Pure.pure true:=by rw[isSubtype_type];kernel_rfl
theorem wF(vs:!AT):firstArgMember (.type "AttributeError") vs=Pure.pure .none:=by
 unfold firstArgMember;have e:((Manifest.find? "AttributeError").elim false λt=>t.mro.contains "StopIteration"||t.mro.contains "SystemExit")=false:=by decide+kernel
 simp only[pure_bind,e]
 rfl
theorem wc{α:Type}{h2:Ev}{e:AC}{p v:AT}{nm:Str}{sl:Array (Option AT)}{Q:α->Da->Prop}(hh:A.handled=none)(he:h2.get? e=some #[.type "AttributeError",none,.fields #v[p,.none,.none,.none,.bool false,.none,unsetMember,unsetMember],sl])(hq:∀ h3 t',(∀ b u,b≠e->h2.get? b=some u->h3.get? b=some u)->(∃ u,h3.get? e=some u/\u.cls=.type "AttributeError")->E (.ref e) #[h3,g,d,t',os]) :
  EQ (model prog w) A (mkText nm >>= λn=>noteAttr (.ref e) v n >>= λ_=>raiseNew (.ref e)) Q E #[h2,g,d,t,os]:=by
 have hT:∀ t',(#[h2,g,d,t',os]:Da).TypeIs (.ref e) "AttributeError":=λ_=>#[_,he,U];have hT1:=hT (t+1);have f6:=oV;unfold noteAttr raiseNew
 repeat (any_goals (first | assumption | wp_step))
 exact hq _ _ (λb u hb x=>(Ev.get?_update_ne _ _ _ _ hb).trans x) #[_,Xu _ he (Obj.isFreed_of_fields (Obj.data_mapFields U _)),(Obj.cls_mapFields ..).trans U]
theorem vP{α:Type}{v:AT}{nm msg:Str}{Q:α->Da->Prop}(hh:A.handled=none)(hz:msg.length<=FB)(hq:∀ h' e t',(∀ b u,h.get? b=some u->h'.get? b=some u)->(∃ u,h'.get? e=some u/\u.cls=.type "AttributeError")->E (.ref e) #[h',g,d,t',os]) :
  EQ (model prog w) A (raiseAttrError v nm msg) Q E #[h,g,d,t,os]:=by
 unfold raiseAttrError;simp only[newExc,newTuple];show Db (wpAny_mkStr ?_ hz);show Db (Db (ST ?_ (by size_fits)));show Db (m:=firstArgMember _ _) (wpAny_of_eq (wF _) ?_);show ST ?_ (by size_fits);dsimp only;show wc (sl:=#v[]) hh (Wz _ U) λh3 t' k c=>hq h3 _ t' (λb u x=>k b u (WK (WB (Ww x) ?_)) (Wl _ (Wl _ x))) c;rw[W9];exact Xw _
end
end JC
namespace L2
open PySem PySem.Spec
open PyProof.Rows hiding St
section
variable{X:Cx}{TW:Yz}{σ:St}
theorem qC:entryFor table "dict.update.loop"=some GE.«dict.update.loop»:=entryFor_of_tree (by kernel_rfl)
end
end L2
namespace DL
open PySem PySem.Spec L2
section
variable{X:Cx}{c:Ent}
end
end DL
namespace HT
open PySem PySem.Spec PyProof.Rows
open PySem.AutoSeq1
section
variable{prog:Fa}{w:FS}{A:Fk}{E:Yy}{s:Da}
end
end HT
namespace L2
open PySem PySem.Spec PyProof.Rows
section
variable{X:Cx}
end
end L2
namespace DL
open PySem PySem.Spec L2
section
variable{X:Cx}{c:Ent}
end
end DL
namespace DL
open PySem PySem.Spec L2
open PyProof.Rows hiding St
section
variable{K:Frag}{H:Hp}{M:AC->Prop}{a:AC}
end
section
variable{X:Cx}{c:Ent}{k:Nat}{f:AC}{fd:Gc}{ps:!Str}{t:YA}{x:Str}{p pos:Pos}{e ex:Ch}{te:aZ}
end
end DL
namespace DL
open PySem L2
end DL
namespace DL
open PySem PySem.Spec L2
open PyProof.Rows hiding St
section
variable{K:Frag}{d l r:AC}{M:AC->Prop}{H:Hp}
end
section
variable{P:Fa}{w:FS}{K:Frag}{mg:Str->Option AT}{base:Ev}{d l r:AC}
end
section
variable{X:Cx}{c:Ent}{st:FM}{e:Ch}{te:aZ}{pos:Pos}
def Nd(te:aZ):iZ:=λR s=>te s λx s1=>R.rs x s1
theorem GG(he:DE X c e te):pW X c (.Return (some e) pos) (Nd te):=#[(iW he.pe).imp λE σ H zz=>cZ zz λM s as R L q k =>
 #[M,s,as,_,L,q,λd s1 r M' H' v L' E' rv=>k.rs d s1 as M' σ H' v r L' rv]]
end
section
variable{K:Frag}{c:Ent}{M M':AC->Prop}{s:DS}{as:!AC}{σ:St}{H H':Hp}{d l r:AC}
end
section
variable{X:Cx}{k:Nat}{f d l r:AC}{M0:AC->Prop}{H0:Hp}{fd:Gc}{ps:!Str}{x:Str}{p pos:Pos}{e:Ch}{es:!Ch}{ta:d8}
end
end DL
namespace HT
open PySem PySem.Spec PyProof.Rows
open PySem.AutoSeq1
section
variable{prog:Fa}{w:FS}{A:Fk}{E:Yy}{s:Da}
end
end HT
namespace L2
open PySem PySem.Spec PyProof.Rows
section
variable{X:Cx}
end
end L2
namespace DL
open PySem PySem.Spec L2
section
variable{X:Cx}{c:Ent}
theorem qr{nt:Nat}{us:!Nat}{g:o5}{te:aZ}{sl:!Sl}{Q:!D->DS->Prop}(I:!D->!D->!(Option D)->Prop)(step:∀ x xs acc os,I (x::xs) acc os->∀ k:D->DS->Prop,(∀ (y:D) (s':DS),I xs (acc++[y]) s'.os->k y s')->g x (gw nt us #[sl,os]) λs1=>te s1 k)(fin:∀ acc os,I [] acc os->Q acc #[sl,os]):∀ (xs acc:!D) (os:!(Option D)),I xs acc os->b6 nt us g cV te xs acc #[sl,os] Q
 | [],acc,os,h=>fin acc os h
 | x::xs,acc,os,h=>by
  rw[b6];exact step x xs acc os h (λy s3=>b6 nt us g cV te xs (acc++[y]) #[sl,s3.os] Q) λy s' h'=>qr I step fin xs (acc++[y]) s'.os h'
end
end DL
namespace DL
open PySem L2
def Ht(x:Str):Prop:=Nm x\/x="number"
def MG(hs:!(Str×!Str)):Prop:=hs.length<=5/\∀ h∈hs,Nm h.1/\h.2.length<=3/\∀ n∈h.2,Nm n
def K6:Fm->Nat->Prop
 | .nm x,n=>Nm x/\n=0
 | .num i,n=>(0<=i/\i < 1000000)/\n=0
 | .op s,n=>(s="+"\/s="-"\/s="*")/\n=2
 | .BO,n=>n=3
 | .lt x,n=>Nm x/\n=2
 | .mk c,n=>Nm c/\n<=3
 | .ask f,n=>Nm f/\1<=n/\n<=4
 | .Fb r hs,n=>Ht r/\MG hs/\n=hs.length+1
 | .new k hs,n=>Ht k/\MG hs/\n=hs.length
def Fm.w:Fm->Nat
 | .nm _=>0
 | .num _=>0
 | _=>1
mutual
noncomputable def Tm.gt:Tm->Prop
 | .node f ks=>K6 f ks.length/\Qd ks
noncomputable def Qd:!Tm->Prop
 | []=>True
 | t::r=>t.gt/\Qd r
end
mutual
noncomputable def Tm.Dc:Tm->Nat
 | .node f ks=>f.w+zx ks
noncomputable def zx:!Tm->Nat
 | []=>0
 | t::r=>t.Dc+zx r
end
theorem qz.Kb{W:bZ}(w:fb W){k:Str}(h:qz W k):Ht k:=by
 rcases h with rfl | ⟨kd,hkd,_,rfl⟩
 .exact .inr U
 .exact .inl (w.kw kd hkd).1
theorem sZ.fm{W:bZ}(w:fb W){sc:!(Str×Str)}{k:Str}{f:Fm}{sp:!(!(Str×Str)×Str)}(u6:∀ p∈sc,Nm p.1)(hk:Ht k)(h:sZ W sc k f sp):K6 f sp.length/\∀ e∈sp,Ht e.2/\∀ p∈e.1,Nm p.1:=by
 have none:∀ p:Str×Str,p∈([]:!(Str×Str))->Nm p.1:=λ_ h=>by cases h
 cases h with
 | @nm x _ hx=>exact#[#[u6 _ hx,U],λ_ h=>by cases h]
 | num h0 h1=>exact#[#[#[h0,h1],U],λ_ h=>by cases h]
 | @op o ho =>
  show#[#[by simpa using ho,U],λe he=>?_];simp at he;subst he;exact#[.inr U,none]
 | BO =>
  show#[U,λe he=>?_];simp at he;rcases he with rfl | rfl
  .exact#[.inr U,none]
  .exact#[hk,none]
 | @lt x _ k' hb hk' =>
  have hx:=hb.nm w x (WA.mpr U);show#[#[hx,U],λe he=>?_];simp at he;rcases he with rfl | rfl
  .exact#[hk'.Kb w,none]
  .exact#[hk,λp hp=>by rw[WA.mp hp];exact hx]
 | @mk kd m h1 h2 =>
  let(m1,m2,m3,m4):=w.mo kd h1 m h2;show#[#[m1,by rw[Wk];exact m2],λe he=>?_];let(p,hp,rfl):=WO.mp he;exact#[(m4 p hp).Kb w,none]
 | @ask kd a h1 h2 h3 =>
  let(m1,(m2,m3,m4),m5):=w.ao kd h1 a h3;show#[#[m1,by simp,by rw[List.length_cons,List.length_map];cbv],λe he=>?_];rcases WI.mp he with rfl | he
  .exact#[.inl (w.kw kd h1).1,none]
  let(p,hp,rfl):=WO.mp he;exact#[(m4 p hp).Kb w,none]
 | @Fb _ kd sub h1 h2 h3 h4 h5 =>
  have hl:=h4.length_le;have hl5:=(w.kw kd h1).2.1;rw[Wk] at hl;show#[#[hk,#[by rw[List.length_map];cbv,λh hh=>?_],by simp],λe he=>?_]
  .let(p,hp,rfl):=WO.mp hh;have hm:p.1∈kd.bK:=h4.subset (WJ hp);let(m1,m2,_):=w.mo kd h1 p.1 hm;show#[m1,?_,λx hx=>(h5 p hp).2.nm w x hx];change p.2.length<=3;rw[(h5 p hp).1];exact m2
  .rcases WI.mp he with rfl | he
   .exact#[.inl (w.kw kd h1).1,none]
   let(p,hp,rfl):=WO.mp he;exact#[hk,λq hq=>(h5 p hp).2.nm w _ (Xt hq).1]
 | @new kd sub h1 h2 h3 h4 h5 =>
  have hl:=h4.length_le;have hl5:=(w.kw kd h1).2.2;rw[Wk] at hl;show#[#[hk,#[by rw[List.length_map];cbv,λh hh=>?_],by simp],λe he=>?_]
  .let(p,hp,rfl):=WO.mp hh;have hm:p.1∈kd.dM:=h4.subset (WJ hp);let(m1,(m2,_),_):=w.ao kd h1 p.1 hm;show#[m1,?_,λx hx=>(h5 p hp).2.nm w x hx];change p.2.length<=3;rw[(h5 p hp).1];exact m2
  .let(p,hp,rfl):=WO.mp he;have hm:p.1∈kd.dM:=h4.subset (WJ hp);exact#[(w.ao kd h1 p.1 hm).2.2.Kb w,λq hq=>(h5 p hp).2.nm w _ (Xt hq).1]
mutual
theorem Ty.LD{W:bZ}(w:fb W):∀ (t:Tm) (sc:!(Str×Str)) (k:Str),(∀ p∈sc,Nm p.1)->Ht k->Ty W sc k t->t.gt
 | .node f ts,sc,k,u6,hk,h=>by
  let(sp,hf,hr):=(show ∃ sp,sZ W sc k f sp/\jk W sc sp ts from h);let(s1,s2):=hf.fm w u6 hk;show#[?_,jk.LD w ts sc sp u6 s2 hr];rw[hr.len];exact s1
theorem jk.LD{W:bZ}(w:fb W):∀ (ts:!Tm) (sc:!(Str×Str)) (sp:!(!(Str×Str)×Str)),(∀ p∈sc,Nm p.1)->(∀ e∈sp,Ht e.2/\∀ p∈e.1,Nm p.1)->jk W sc sp ts->Qd ts
 | [],sc,sp,u6,hs,h=>trivial
 | t::ts,sc,sp,u6,hs,h=>by
  let(e,r,rfl,h1,h2):=(show ∃ e r,sp=e::r/\Ty W (sc++e.1) e.2 t/\jk W sc r ts from h);let(e1,e2):=hs e Wt;exact#[Ty.LD w t (sc++e.1) e.2 (λp hp=>(WS.mp hp).elim (u6 p) (e2 p)) e1 h1,jk.LD w ts sc r u6 (λx hx=>hs x (Wq _ hx)) h2]
end
theorem jW.V8{W:bZ}(w:fb W){sc:!(Str×Str)}(h:jW W sc):∀ p∈sc,Nm p.1:=λp hp=>by
 rcases (h.ok p hp).2 with z | ⟨j,_,z⟩
 .exact w.nm _ (W7 _ z)
 .exact w.nm _ (WR _ (WX z))
end DL
namespace DL
open PySem PySem.Spec L2
def VE:!Key:=[.inr "kinds",.inr "vars",.inr "heads",.inr "inner"]
def j5(W:bZ):D:=.uJ VE [.lst (W.kinds.map l6),.lst (W.vars.map .str),.lst (W.heads.map .str),.bl W.inner]
theorem c9{W:bZ}{k:Option D->Prop}(h:k (some (.lst (W.kinds.map l6)))):tK (j5 W)=true/\u3 (j5 W) (.str "kinds") k:=#[U,.inl #[_,_,_,U,U,h]]
theorem qF{W:bZ}{k:Option D->Prop}(h:k (some (.lst (W.vars.map .str)))):tK (j5 W)=true/\u3 (j5 W) (.str "vars") k:=#[U,.inl #[_,_,_,U,U,h]]
theorem v8{W:bZ}{k:Option D->Prop}(h:k (some (.lst (W.heads.map .str)))):tK (j5 W)=true/\u3 (j5 W) (.str "heads") k:=#[U,.inl #[_,_,_,U,U,h]]
theorem oF{W:bZ}{k:Option D->Prop}(h:k (some (.bl W.inner))):tK (j5 W)=true/\u3 (j5 W) (.str "inner") k:=#[U,.inl #[_,_,_,U,U,h]]
structure qH(ws:!Str)(ks:!Kd):Prop where
 ex:∃ (ns ML AL:!Str) (pZ:!Kd),ns=ws.take ns.length/\1<=ns.length/\ns.length<=3/\ML.Perm ws/\AL.Perm ws/\pZ.length=ns.length/\Fd ws ns ML AL pZ /\
  (ks=pZ\/∃ kd:Kd,ks=pZ++[kd]/\kd.bK=[]/\ws[3]?=some kd.name/\kd.dM.length<=2/\An ws [] (AL.drop (c8 pZ).length) kd.dM)
theorem qH.bG{ws:!Str}{ks:!Kd}(inner:Bool)(h:qH ws ks)(hl:ws.length=45)(hn:ws.Nodup)(hm:∀ x∈ws,Nm x):fb (b5 ws ks inner):=by
 let(ns,ML,AL,pZ,e1,n1,n3,pM,pA,rl,I,hk):=h.ex;have hML:ML.Nodup:=pM.nodup_iff.mpr hn;have hAL:AL.Nodup:=pA.nodup_iff.mpr hn;have rk:pZ.map Kd.name=ns:=by rw[I.kn,rl,List.take_length]
 have hh:(ws.drop 24).take 6++ws.drop 30=ws.drop 24:=by
  have:=Xv 6 (ws.drop 24)
  rwa [X4] at this
 have h3:((ws.drop 24).take 6).take 3=(ws.drop 24).take 3:=by rw[List.take_take];rfl
 have h4:((ws.drop 24).take 6).drop 3=(ws.drop 27).take 3:=by rw[List.drop_take,X4]
 have mem:∀ k∈ks,k∈pZ\/(k.bK=[]/\ws[3]?=some k.name/\k.dM.length<=2/\An ws [] (AL.drop (c8 pZ).length) k.dM):=λk hkk=>by
  rcases hk with rfl | ⟨kd,rfl,a,b,c,d⟩
  .exact .inl hkk
  .rcases WS.mp hkk with z | z
   .exact .inl z
   .rw[WA.mp z];exact .inr #[a,b,c,d]
 have sub:∀ k∈pZ,k∈ks:=λk hkk=>by
  rcases hk with rfl | ⟨kd,rfl,_⟩
  .exact hkk
  .exact W7 _ hkk
 have inML:∀ x∈ML,Nm x:=λx hx=>hm x (pM.mem_iff.mp hx);have inAL:∀ x∈AL,Nm x:=λx hx=>hm x (pA.mem_iff.mp hx);have mnm:∀ k∈pZ,∀ m∈k.bK,Nm m.name:=λk hkk m hmm=>by
  have:m.name∈dU pZ:=List.mem_flatMap.mpr #[k,hkk,WJ hmm];rw[I.mn] at this;exact inML _ (Xj this)
 have anm:∀ k∈pZ,∀ a∈k.dM,Nm a.name:=λk hkk a haa=>by
  have:a.name∈c8 pZ:=List.mem_flatMap.mpr #[k,hkk,WJ haa];rw[I.an] at this;exact inAL _ (Xj this)
 have kok:∀ x∈ns++gJ,qz (b5 ws ks inner) x:=λx hx=>by
  rcases WS.mp hx with hx | hx
  .rw[<- rk] at hx;let(k,hkk,e):=WO.mp hx;exact .inr #[k,sub k hkk,(I.rg k hkk).m0,e]
  .exact .inl (WA.mp hx)
 have kok0:∀ x∈([]:!Str)++gJ,qz (b5 ws ks inner) x:=λx hx=>.inl (WA.mp hx);show#[?_,?_,λk hkk=>?_,?_,?_,λk hkk m hmm=>?_,λk hkk a haa=>?_,λk hkk m r e=>?_,?_,?_,?_,λx hx=>?_]
 .rcases hk with rfl | ⟨kd,rfl,_⟩
  .show ks.length<=5;cbv
  .show (pZ++[kd]).length<=5;rw[Wm];simp;cbv
 .rcases hk with rfl | ⟨kd,rfl,_,b,_⟩
  .show (ks.map Kd.name).Nodup;rw[rk,e1];exact hn.sublist (Xe _ _)
  .show ((pZ++[kd]).map Kd.name).Nodup;rw[Wv,rk,e1];exact pE hn (by cbv) b
 .rcases mem k hkk with z | ⟨a,b,c,d⟩
  .refine#[?_,(I.rg k z).ml,(I.rg k z).al];have:k.name∈ns:=rk▸WJ z;rw[e1] at this;exact hm _ (Xj this)
  .exact#[hm _ (WX b),by rw[a];decide,by cbv]
 .have:dU ks=dU pZ:=by
   rcases hk with rfl | ⟨kd,rfl,a,_⟩
   .rfl
   .rw[fR,a,Xr,WH]
  change (dU ks).Nodup;rw[this,I.mn];exact hML.sublist (Xe _ _)
 .show (c8 ks).Nodup;rcases hk with rfl | ⟨kd,rfl,_,_,_,d⟩
  .rw[I.an];exact hAL.sublist (Xe _ _)
  .rw[gc];have:=take_snoc (A:=c8 pZ) (B:=kd.dM.map jL.name) I.an (by rw[Wk];exact d.nm);rw[this];exact hAL.sublist (Xe _ _)
 .rcases mem k hkk with z | ⟨a,_⟩
  .refine#[mnm k z m hmm,?_];let(q1,q2,q3):=(I.rg k z).mp m hmm;exact#[q1,by rw[show (b5 ws ks inner).heads.take 3=(ws.drop 24).take 3 from h3];exact q2,λp hp=>kok _ (q3 p hp)]
  .rw[a] at hmm;cases hmm
 .rcases mem k hkk with z | ⟨_,_,_,d⟩
  .refine#[anm k z a haa,?_];let((q1,q2,q3),q4):=(I.rg k z).ap a haa;exact#[#[q1,by rw[show (b5 ws ks inner).heads.drop 3=(ws.drop 27).take 3 from h4];exact q2,λp hp=>kok _ (q3 p hp)],kok _ q4]
  .let((q1,q2,q3),q4):=d.ap a haa;show#[?_,#[q1,by rw[show (b5 ws ks inner).heads.drop 3=(ws.drop 27).take 3 from h4];exact q2,λp hp=>kok0 _ (q3 p hp)],kok0 _ q4];have:a.name∈k.dM.map jL.name:=WJ haa;rw[d.nm] at this;exact inAL _ (X8 (Xj this))
 .rcases mem k hkk with z | ⟨a,_⟩
  .exact (I.rg k z).mf m r e
  .rw[a] at e;cases e
 .show ((ws.drop 24).take 6).length=6;simp[hl]
 .show (ws.drop 30).length=15;simp[hl]
 .show ((ws.drop 24).take 6++ws.drop 30).Nodup;rw[hh];exact hn.sublist (XB _ _)
 .have hx:x∈(ws.drop 24).take 6++ws.drop 30:=hx;rw[hh] at hx;exact hm x (X8 hx)
def T8:!Nat:=[4,4,25,26,51,52,76,77,103,104,105,127,154,177,178,179,207]
def TJ:!Nat:=[1,1,7,8,15,16,22,23,31,32,33,37,46,51,52,53,63]
def sz(r:Nat):Nat:=T8.getD r 207
def si(r:Nat):Nat:=TJ.getD r 63
theorem nh{a b:Nat}(h:a<=b)(hb:b<=16):sz a<=sz b/\si a<=si b:=by
 have:∀ b,b < 17->∀ a,a < 17->a<=b->sz a<=sz b/\si a<=si b:=by decide
 exact this b (by cbv) a (by cbv) h
def Ou(n q r:Nat):Prop:=n * sz q+1<=sz r/\n * si q+1<=si r
theorem wG{r n:Nat}(h:r<=16)(h2:2<=r)(hn:n<=4):Ou n ((r - 1) / max 1 n) r:=by
 have:∀ r,r < 17->2<=r->∀ n,n < 5->n * sz ((r - 1) / max 1 n)+1<=sz r/\n * si ((r - 1) / max 1 n)+1<=si r:=by decide
 exact this r (by cbv) h2 n (by cbv)
theorem Jx{r:Nat}(h:r<=16)(h2:2<=r):Ou 3 (r / 3) r:=by
 have:∀ r,r < 17->2<=r->3 * sz (r / 3)+1<=sz r/\3 * si (r / 3)+1<=si r:=by decide
 exact this r (by cbv) h2
theorem IP{r:Nat}(h:r<=16)(h2:2<=r):Ou 2 (r / 2) r:=by
 have:∀ r,r < 17->2<=r->2 * sz (r / 2)+1<=sz r/\2 * si (r / 2)+1<=si r:=by decide
 exact this r (by cbv) h2
theorem om{m:Nat}:∀ {ts:!Tm},(∀ t∈ts,t.size<=m)->qA ts<=ts.length * m
 | [],_=>WG _
 | t::ts,h=>by
  have h1:=h t Wt;have h2:=om λu hu=>h u (Wq _ hu);change t.size+qA ts<=(ts.length+1) * m;rw[Nat.add_mul];cbv
theorem rZ{m:Nat}:∀ {ts:!Tm},(∀ t∈ts,t.Dc<=m)->zx ts<=ts.length * m
 | [],_=>WG _
 | t::ts,h=>by
  have h1:=h t Wt;have h2:=rZ λu hu=>h u (Wq _ hu);change t.Dc+zx ts<=(ts.length+1) * m;rw[Nat.succ_mul];cbv
theorem Mr(f:Fm):f.w<=1:=by cases f<;>exact Nat.le_of_ble_eq_true U
def Tm.rq(n r:Nat)(t:Tm):Prop:=t.dep<=n/\t.size<=sz r/\t.Dc<=si r
theorem ka{f:Fm}{ts:!Tm}{n r q:Nat}(h:∀ t∈ts,t.rq n q)(hb:Ou ts.length q r):(Tm.node f ts).rq (n+1) r:=by
 show#[nZ λt ht=>(h t ht).1,?_,?_]
 .show qA ts+1<=_;exact Wr (Nat.add_le_add_right (om λt ht=>(h t ht).2.1) 1) hb.1
 .show f.w+zx ts<=_;have:=Mr f;have:=rZ λt ht=>(h t ht).2.2;have:=hb.2;cbv
def Tm.lf(n:Nat)(k:Str)(t:Tm):Prop:=t.dep<=n/\t.size<=4/\(k="number"->t.size<=1)/\t.Dc<=1/\(k="number"->t.Dc<=0)
theorem xF{f:Fm}{n:Nat}{k:Str}(hf:(f.w=0)⁻¹):(Tm.node f []).lf (n+1) k:=#[nZ λ_ h=>(nomatch h),by change 0+1<=4;cbv,λ_=>by change 0+1<=1;cbv,by change f.w+0<=1;cbv,λ_=>by change f.w+0<=0;cbv]
theorem Eh{f:Fm}{ts:!Tm}{n:Nat}{k:Str}(hk:k≠"number")(hl:ts.length<=3)(h:∀ t∈ts,t.lf n "number"):(Tm.node f ts).lf (n+1) k:=by
 show#[nZ λt ht=>(h t ht).1,?_,λe=>absurd e hk,?_,λe=>absurd e hk]
 .show qA ts+1<=4;have h2:=om λt ht=>(h t ht).2.2.1 U;cbv
 .show f.w+zx ts<=1;have h2:=rZ λt ht=>(h t ht).2.2.2.2 U;have:=Mr f;cbv
theorem Tm.lf.rq{n m r:Nat}{k:Str}{t:Tm}(h:t.lf n k)(hm:n<=m)(hr:r<=16):t.rq m r:=#[Wr h.1 hm,Wr h.2.1 (nh (WG r) hr).1,Wr h.2.2.2.1 (nh (WG r) hr).2]
end DL
namespace DL
open PySem L2 PyProof.Rows
abbrev D3:=Str×FM×!Str
def Own(K:Frag)(mg:Str->Option AT)(d:D3):Prop:=∃ f fd,ny K d.1 d.1 d.2.1 f fd/\mg d.1=some (.ref f)/\Binds K fd d.2.2 []
def C4(P:Fa)(w:FS)(K:Frag)(mg:Str->Option AT)(base:Ev)(CX:we)(d:D3)(k:Nat)(sp:Sp):Prop:=∃ f fd,bY P w K mg base CX k f fd d.2.2 sp/\ny K d.1 d.1 d.2.1 f fd/\mg d.1=some (.ref f)/\Binds K fd d.2.2 []
section
variable{P:Fa}{w:FS}{K:Frag}{mg:Str->Option AT}{base:Ev}{CX:we}{d:D3}{k:Nat}{sp LS:Sp}
theorem Own.c(o:Own K mg d)(h:∀ f fd,ny K d.1 d.1 d.2.1 f fd->bY P w K mg base CX k f fd d.2.2 sp):C4 P w K mg base CX d k sp :=
 let #[f,fd,F,m,b]:=o
 #[f,fd,h f fd F,F,m,b]
theorem C4.imp(c:C4 P w K mg base CX d k sp)(h:∀ f fd,bY P w K mg base CX k f fd d.2.2 sp->bY P w K mg base CX k f fd d.2.2 LS):C4 P w K mg base CX d k LS :=
 let #[f,fd,G,r]:=c
 #[f,fd,h f fd G,r]
theorem HS{h:Ev}{f:AC}{oc:AT}{od an:Option AC}{zU:Array (Option AT)}{kV doc pm bq ct:AT}(X:K.In h)(G:h.Ns GT mg)(a:nsIn K GT d.1=some (some (.ref f)))(l:K.lookup f=some #[oc,od,.func (fnOf d.1 d.1 (dk d.2.1) (aG d.2.1) (ag d.2.1) .none kV doc pm an bq ct),zU])(c:codeIn K bq d.1=true)(k:keepIn K (.ref f)=true)(b:∀ (kV doc pm:AT) (an:Option AC) (bq ct:AT) (us:!AT),us.length=d.2.2.length->bindArgs (fnOf d.1 d.1 (dk d.2.1) (aG d.2.1) (ag d.2.1) .none kV doc pm an bq ct) #[us,[]]=pure (d.2.2.zip us)):Own K mg d :=
 #[f,_,iF l c k,Xb X G a,(iF (st:=d.2.1) l c k).binds b]
end
section
variable{X:Cx}{c:Ent}{d:D3}{k m:Nat}{t:YA}{x:Str}{p pos:Pos}{e:Ch}{es:!Ch}{ta:d8}
theorem aq(hr:bU m X.A)(G:C4 X.prog X.w X.K X.mg X.base bu d k (cA X.K c.g t))(ha:DA X c (e::es) ta)(hx:(d.1=x)⁻¹)(hk:k<=m:=by ac_rfl)(hg:(Gl X x)⁻¹)(gH: ~~~(YD x))(he:(YB X.env e es)⁻¹)(eR:(YC X.env pos es)⁻¹) :
  DE X c (.Call (.Name x p) (e::es) [] pos) (lI t ta):=by
 subst hx;let(f,fd,G,F,M,b):=G;exact G6 (hr.mono hk) hg M F.kp b ha G gH he eR
theorem bh(hr:bU m X.A)(G:C4 X.prog X.w X.K X.mg X.base bu d k (cA X.K .no t))(ha:DA X c (e::es) ta)(hx:(d.1=x)⁻¹)(hk:k<=m:=by ac_rfl)(hg:(Gl X x)⁻¹)(gH: ~~~(YD x))(he:(YB X.env e es)⁻¹)(eR:(YC X.env pos es)⁻¹) :
  DE X c (.Call (.Name x p) (e::es) [] pos) (lI t ta):=by
 subst hx;let(f,fd,G,F,M,b):=G;exact Dt (hr.mono hk) hg M F.kp b ha G gH he eR
end
theorem gX{N P:!Str}{sc:Scope}(h1:(sc.kind=.function)⁻¹)(h2:(sc.isCoroutine=false)⁻¹)(h3:(sc.isGenerator=false)⁻¹)(h4:N.Nodup:=by decide+kernel)(h5:(N.take P.length=P)⁻¹)(h6:∀ x∈P,sc.names.lookup x=some .local\/sc.names.lookup x=some .cell:=by decide+kernel)(h7:∀ y∈sc.names,y.2≠.free:=by decide+kernel):aw N P sc:=#[h1,h2,h3,h4,h5,h6,h7]
theorem dq{g:o5}{tb:iZ}{R:iR}(I:!D->DS->Prop)(h0:∀ s,I [] s->R.nx s)(h1:∀ x xs s (E:iR),I (x::xs) s->(∀ s',I xs s'->E.nx s')->(∀ d,R.rt d->E.rt d)->g x s λs1=>tb E s1):∀ xs s,I xs s->lR g tb R xs s
 | [],s,h=>h0 s h
 | x::xs,s,h=>h1 x xs s { R with nx:=λs'=>lR g tb R xs s',ct:=λs'=>lR g tb R xs s',bk:=R.nx } h (λs' h'=>dq I h0 h1 xs s' h') λ_ h=>h
section
variable{X:Cx}{c:Ent}{x:Str}{pos p:Pos}
theorem vd(i:Nat)(hN:(X.N[i]?=some x)⁻¹)(hv:JG X.env.scope x:=by first | exact Or.inl U | exact Or.inr (Or.inl U) | exact Or.inr (Or.inr U))(hd: ~~~(YD x))(pU: ~~~((x == ("__classdict__":Str))=false)):DE X c (.Name x pos) (JD i):=dv (v7 hN hv hd pU)
theorem gN{n:Nat}(i:Nat)(hN:X.N.Nodup)(hi:(X.N[i]?=some x)⁻¹)(hx:Loc X.env.scope x:=by exact Or.inl U)(hf:YE X x:=by ac_nf)(hl: ~~~(i < n)):DG X c n (.Name x pos) (rR i):=j4 (er hN hi hx hf) hl
theorem gM{n:Nat}(i:Nat)(L:!Str)(hN:L.Nodup:=by decide+kernel)(hL:(X.N=L)⁻¹)(hi:(L[i]?=some x)⁻¹)(hx:Loc X.env.scope x:=by exact Or.inl U)(hf:YE X x:=by ac_nf)(hl: ~~~(i < n)):DG X c n (.Name x pos) (rR i):=j4 (er (hL▸hN) (hL▸hi) hx hf) hl
theorem sS{e:Ch}{te:aZ}(i:Nat)(hN:X.N.Nodup)(he:DE X c e te)(hi:(X.N[i]?=some x)⁻¹)(hx:Loc X.env.scope x:=by exact Or.inl U)(hs:(swapsWith e (some (.Name x p)) pos.line X.env=pure false)⁻¹)(hf:YE X x:=by ac_nf):pW X c (.Assign [.Name x p] e pos) (Ac i te):=kI (eM hN hi hx he.pe hs hf)
theorem sN{e:Ch}{te:aZ}(k i:Nat)(hN:X.N.Nodup)(he:DN X c e te)(hi:(X.N[i]?=some x)⁻¹)(hx:Loc X.env.scope x:=by exact Or.inl U)(hs:(swapsWith e (some (.Name x p)) pos.line X.env=pure false)⁻¹)(hf:YE X x:=by ac_nf)(hZ:c.g.pX.length<=k:=by first | exact WG _ | exact Wo _ | exact Yn (WG _)):pW X c (.Assign [.Name x p] e pos) (F0 i k te):=IZ (eM hN hi hx he.pe hs hf) hZ
variable{a b:Ch}{ta tb:aZ}
theorem fM(ha:DE X c a ta)(hb:DE X c b tb)(hs:nA b:=by exact λ_ _=>rfl):DE X c (.Subscript a b pos) (BV LI ta tb):=rV HH KO ha hb hs
theorem iz(ha:DE X c a ta)(hb:DE X c b tb)(hs:nA b:=by exact λ_ _=>rfl):DE X c (.Subscript a b pos) (BV Iv ta tb):=rV xU NF ha hb hs
theorem sF{tg iter:Ch}{body:!FM}{ti:d8}{g:o5}{tb:iZ}(hi:DI X c tg iter ti)(hg:DG X c 1000 tg g)(hb:l8 X c body tb)(hc:(X.calm=true)⁻¹)(hp:PassesOwn (model X.prog X.w) X.A X.env X.xe:=by exact PassesOwn.never)(hs:YF iter X.env:=by intro _;rfl):pW X c (.For tg iter body [] pos) (GC ti g tb):=MF hp hc hi hg hb hs
theorem wM{e:Ch}{es:!Ch}{t:d8}{apos bX:Pos}(i:Nat)(ha:DA X c (e::es) t)(hN:(X.N[i]?=some x)⁻¹)(hv:JG X.env.scope x:=by first | exact Or.inl U | exact Or.inr (Or.inl U) | exact Or.inr (Or.inr U))(hd: ~~~(YD x))(pU: ~~~((x == ("__classdict__":Str))=false))(fF:(attributeBase (.Name x p) "append" X.env (eval (.Name x p) X.env)=eval (.Name x p) X.env)⁻¹)(oE:(((Ix bX (Go (e::es) X.env)).all (λx=>(not x.1))&&(Re bX (Rs [] X.env)).all (λx=>x.1.isSome)
   && decide ((e::es).length+([]:!NE).length+(if ([]:!NE).isEmpty then 0 else 1) < 30))=true)⁻¹)(dF:((apos.endLine == bX.line)=true)⁻¹)(hs:(YB X.env e es)⁻¹)(fG:((Ix bX (Go es X.env)).any (·.1)=false)⁻¹)(Jy:(swapsWith (.Call (.Attribute (.Name x p) "append" apos) (e::es) [] bX) none pos.line X.env=pure false)⁻¹) :
  pW X c (.Expr (.Call (.Attribute (.Name x p) "append" apos) (e::es) [] bX) pos) (AE (OD i J3 t)):=eL (CT Yi Yj je Az (v7 hN hv hd pU) ha fF oE dF hs fG) Jy
end
section
variable{X:Cx}{c:Ent}{pos p:Pos}{e:Ch}{es:!Ch}{t:d8}
theorem gp(hm:X.mg "len"=none)(ha:DA X c (e::es) t)(hg:(Gl X "len")⁻¹)(he:(YB X.env e es)⁻¹)(eR:(YC X.env pos es)⁻¹):DE X c (.Call (.Name "len" p) (e::es) [] pos) (k7 HE t):=dQ eT NM hg hm Xi ha () () he eR
theorem jy(hm:X.mg "tuple"=none)(ha:DA X c (e::es) t)(hg:(Gl X "tuple")⁻¹)(he:(YB X.env e es)⁻¹)(eR:(YC X.env pos es)⁻¹):DE X c (.Call (.Name "tuple" p) (e::es) [] pos) (k7 HL t):=bB pL LR hg hm (by decide+kernel) ha () () he eR
variable{tg elt iter:Ch}{ifs:!Ch}{scope:Scope}{tx:d8}{g:o5}{ti:kD}{te:aZ}
theorem nC(ts:!Str)(us:!Nat)(hi:DI X c tg iter tx)(hg:∀ C s H fp,DG (X.comp ts us scope C s H fp) c ts.length tg g)(Bi:∀ C s H fp,Mj (X.comp ts us scope C s H fp) c ifs ti)(he:∀ C s H fp,DE (X.comp ts us scope C s H fp) c elt te)(S:bJ X ts us scope:=by exact#[U,U,U,U,U,U])(hc:(X.calm=true)⁻¹)(hs:YF iter X.env:=by intro _;rfl):DN X c (.ListComp elt [#[tg,iter,ifs,0]] scope pos) (oN ts.length us tx g ti te):=Iw S hc hi hg Bi he hs
end
section
variable{P:Fa}{w:FS}{K:Frag}{mg:Str->Option AT}{base:Ev}{q:D3}{k nos:Nat}{g:zE}{t:YA}{N:!Str}
theorem Own.d(o:Own K mg q)(S:aw N q.2.2 (ag q.2.1))(len:∀ ds R,t ds R->ds.length=q.2.2.length)(hb:∀ (f:AC) (bq:AT) (A:Fk) (outer:!Env) (s:Da) (H:Hp) (E:XK) (M:AC->Prop),bU k (A.deeper (envOfC q.1 (ag q.2.1) ↑s f bq)) ->
   ∃ tb,l8 (jT bu P w K mg base N q.1 (ag q.2.1) f bq A outer s H E).xp #[g,M,H] (aG q.2.1) tb/\∀ ds R,t ds R->tb { nx:=λ_=>R .br,rt:=R } (ei N.length nos ds))(hg:(g.pX=[])⁻¹):C4 P w K mg base bu q (k+1) (cA K g t):=o.c λf fd F=>Oc F S len (hb f) hg
end
end DL
namespace DL
open PySem PySem.Spec L2
open PyProof.Rows hiding St
section
variable{X:Cx}{k m:Nat}{d l r:AC}{M0:AC->Prop}{H0:Hp}{q:D3}{x:Str}{p pos:Pos}
end
end DL
namespace DL
open PySem L2
theorem wC{α:Type}{g:o5}{tb:iZ}{R:iR}(f:α->D)(I:!α->DS->Prop){l:!α}(h0:∀ s,I l s->R.nx s)(h1:∀ dn x td s (E:iR),l=dn++x::td->I dn s->(∀ s',I (dn++[x]) s'->E.nx s')->(∀ d,R.rt d->E.rt d)->g (f x) s λs1=>tb E s1)(s:DS)(h:I [] s):lR g tb R (l.map f) s:=by
 show dq (λxs s=>∃ dn td,l=dn++td/\xs=td.map f/\I dn s) ?_ ?_ _ s #[[],l,U,U,h]
 .rintro s ⟨dn,td,e,hx,hi⟩;cases td with
  | nil=>rw[WH] at e;subst e;exact h0 s hi
  | cons a b=>cases hx
 .rintro x xs s E ⟨dn,td,e,hx,hi⟩ hN hE;cases td with
  | nil=>cases hx
  | cons a td =>
   injection hx with e1 e2;subst e1 e2;exact h1 dn a td s E e hi (λs' hs=>hN s' #[dn++[a],td,by rw[e];simp,U,hs]) hE
section
variable{X:Cx}{c:Ent}{a b:Ch}{ta tb:aZ}{pos:Pos}
end
section
open PyProof.Rows
variable{P:Fa}{w:FS}{K:Frag}{mg:Str->Option AT}{base:Ev}{q:D3}{k nos:Nat}{g:zE}{t:YA}{N:!Str}
end
theorem jj{α:Type}{x y:α}{r:!α}:gR (x::y::r) 1=some y:=eZ (j:=1) U
abbrev cd(x:Str):!Nat:=x.cps.toList
abbrev aH(l:!Nat):Str:=#[l.toArray]
theorem ko{x y:Str}(h:cd x=cd y):x=y:=by
 obtain⟨a⟩:=x;obtain⟨b⟩:=y;have:a=b:=Array.toList_inj.mp h;rw[this]
theorem ij(x y:Str):cd (x++y)=cd x++cd y:=Array.toList_append
theorem gu(x:Str):aH (cd x)=x:=ko U
theorem bz(a:!Nat):(aH a).length=a.length:=by simp[Str.length]
theorem gi(x:Str):(cd x).length=x.length:=by simp[Str.length]
def cY(i:Int):Str:=toString i
theorem pD{i:Int}(h0:0<=i)(h1:i < 1000000):(cY i).length<=8:=by
 have:=PyProof.Rows.toString_length_le (k:=6) (v:=i) h0 () (by cbv);change (PySem.Str.ofString (toString i)).length<=8;cbv
end DL
namespace L2
open PySem PySem.Spec PyProof.Rows
section
variable{X:Cx}
theorem qM:dB X (.type "str") (λxs H Q=>(∃ i,xs=[.int i]/\i.natAbs.log2 < 1920/\Q (.str (toString i)) H)\/∃ z,xs=[.str z]/\Q (.str z) H):=by
 intro TW s σ H xs us Q I r h;rcases h with h | ⟨z,rfl,q⟩
 .exact sL TW s σ H xs us Q I r h
 .let(u,rfl,t,rfl):=vals1 r;exact PySem.P.str_of_str #[.str z,H,I,#[_,U],q]
theorem yT:dB X (.type "int") (λxs H Q=>∃ n:Int,xs=[.str (toString n)]/\0<=n/\n < 10 ^ 10/\Q (.int n) H):=by
 intro TW s σ H xs us Q I r h;let(n,rfl,h0,h1,q):=h;let(u,rfl,t,rfl):=vals1 r;exact PySem.W.KIN.call_num h0 h1 #[.int n,H,I.tok _,#[_,U],q]
theorem zc:JW X "str.startswith" (λx vs H Q=>∃ z y,x=.str z/\vs=[.str y]/\Q (.bl (Txt.startswith z y)) H):=by
 intro TW s σ H x vs v us Q I rx rv h;let(z,y,rfl,rfl,q):=h;let(t,rfl):=rx;let(u,rfl,t',rfl):=rv.one;exact PySem.SC.startswith #[.bl _,H,I,U,q]
end
end L2
namespace DL
open PySem PySem.Spec L2
section
variable{X:Cx}{c:Ent}
def Km:YA:=λas k=>(∃ i,as=[.int i]/\i.natAbs.log2 < 1920/\k (.str (toString i)))\/∃ z,as=[.str z]/\k (.str z)
theorem Cf:yR X c (λxs H Q=>(∃ i,xs=[.int i]/\i.natAbs.log2 < 1920/\Q (.str (toString i)) H)\/∃ z,xs=[.str z]/\Q (.str z) H) Km:=λM s as σ H xs ds k Q L r h kk=>by
 rcases h with ⟨i,rfl,hz,hk⟩ | ⟨i,rfl,hk⟩
 .let(v,rfl,e1):=cU r;have e1:v=.int i:=e1;subst e1;exact .inl #[i,U,hz,kk _ hk M H _ L .refl U]
 .let(v,rfl,e1):=cU r;have e1:v=.str i:=e1;subst e1;exact .inr #[i,U,kk _ hk M H _ L .refl U]
def KA:YA:=λas k=>∃ n:Int,as=[.str (toString n)]/\0<=n/\n < 10 ^ 10/\k (.int n)
theorem IA:yR X c (λxs H Q=>∃ n:Int,xs=[.str (toString n)]/\0<=n/\n < 10 ^ 10/\Q (.int n) H) KA:=λM s as σ H xs ds k Q L r h kk=>by
 let(i,rfl,h0,h1,hk):=h;let(v,rfl,e1):=cU r;have e1:v=.str (toString i):=e1;subst e1;exact#[i,U,h0,h1,kk _ hk M H _ L .refl U]
end
theorem Hg{i:Int}(h0:0<=i)(h1:i < 1000000):i.natAbs.log2 < 1920:=by
 have h:i.natAbs < 2 ^ 20:=by cbv
 by_cases z:i.natAbs=0
 .rw[z];decide
 .have:=(Nat.log2_lt z).mpr h;cbv
end DL
namespace DL
open PySem PySem.Spec L2
open PyProof.Rows hiding St
def gO(rs:!AC):zE:={ zE.no with pX:=rs }
def eu(H:Hp)(rs:!AC):Hp:=λb=>if b∈rs then none else H b
theorem ja{H:Hp}{rs:!AC}{b:AC}(h:b∉rs):eu H rs b=H b:=if_neg h
theorem sr{H:Hp}{rs:!AC}{b:AC}(h:b∈rs):eu H rs b=none:=if_pos h
theorem D5{H:Hp}{rs:!AC}{b:AC}{o:HO}(h:eu H rs b=some o):b∉rs/\H b=some o:=by
 by_cases q:b∈rs
 .rw[sr q] at h;cases h
 .rw[ja q] at h;exact#[q,h]
theorem uG{H:Hp}{x:AC}{o:HO}(h:H x=none):eu (upd H x o) [x]=H:=by
 funext b
 by_cases q:b=x
 .subst q;rw[sr (WA.mpr U),h]
 .rw[ja (λz=>q (WA.mp z)),au q]
structure rW(K:Frag)(H:Hp)(M:AC->Prop)(rs:!AC)(cs:!D):Prop where
 inj:∀ (k l:Nat) (r:AC),rs[k]?=some r->rs[l]?=some r->k=l
 len:rs.length=cs.length
 at_:∀ (k:Nat) (r:AC) (d:D),rs[k]?=some r->cs[k]?=some d->¬ M r/\∃ o,H r=some o/\cF K H M d o
def t8:!(Option D)->Option (!D)
 | []=>some []
 | none::_=>none
 | some d::r=>match t8 r with
  | some l=>some (d::l)
  | none=>none
theorem B6:∀ {l:!(Option D)} {cs:!D},t8 l=some cs->l=cs.map some
 | [],cs,h=>by cases h;rfl
 | none::r,cs,h=>by cases h
 | some d::r,cs,h=>by
  unfold t8 at h;cases e:t8 r with
  | none=>rw[e] at h;cases h
  | some l=>rw[e] at h;cases h;rw[B6 e];rfl
theorem MU{l:!(Option D)}{cs:!D}{n:Nat}(h:t8 (l.take n)=some cs):(∀ (k:Nat) (d:D),cs[k]?=some d->l[k]?=some (some d))/\(∀ (k:Nat),k < n->k < l.length->∃ d,cs[k]?=some d/\l[k]?=some (some d))/\cs.length=min n l.length:=by
 have e:=B6 h;have hl:cs.length=min n l.length:=by
  have:=congrArg List.length e;rw[Xc,Wk] at this;exact this.symm
 have g:∀ (k:Nat) (d:D),cs[k]?=some d->l[k]?=some (some d):=λk d hk=>by
  have h1:(l.take n)[k]?=some (some d):=by rw[e,WZ,hk];rfl
  rw[List.getElem?_take] at h1;split at h1
  .exact h1
  .cases h1
 show#[g,λk h1 h2=>?_,hl];have hk:k < cs.length:=by cbv
 exact#[cs[k],Wy hk,g k _ (Wy hk)]
abbrev Dh:=!AC->!D->!D->(D->!D->Prop)->Prop
def xc(K:Frag)(t:Dh):Sp:=λvs H Q _=>∃ rs M ds cs R,Base #[.no,M,H] M H/\rW K H M rs cs/\ay K H M ds vs/\t rs ds cs R /\
 ∀ x eP,R x eP->∀ M' H' v,Base #[.no,M,eu H rs] M' H'->rW K H' M' rs eP->Rep K H' M' x v->Q v H'
def i9(n nos:Nat)(ds cs:!D):DS:=#[ds.map .dat++List.replicate (n - ds.length) .no,cs.map some++List.replicate nos none]
section
variable{K:Frag}{M M' M0:AC->Prop}{H H' H0:Hp}{rs:!AC}{cs eP:!D}{s:DS}{as:!AC}{σ:St}{nos:Nat}
theorem Base.vt(B:Base #[gO rs,M0,H0] M H):Base #[.no,M0,H0] M H:=#[B.pI,B.fr,B.md,B.mo,B.m0,B.mn]
theorem aA.vt(L:aA K #[gO rs,M0,H0] M s as σ H):aA K #[.no,M0,H0] M s as σ H:=#[L.base.vt,L.len,L.dX,L.dat,L.own,L.obj,L.inj,λ_ _ h=>(nomatch h)]
theorem wm{k:Nat}{d:D}{a:AC}(hl:rs.length=cs.length)(h1:(cs.map some++List.replicate nos none)[k]?=some (some d))(h2:(rs++List.replicate nos 0)[k]?=some a):cs[k]?=some d/\rs[k]?=some a:=by
 by_cases hk:k < cs.length
 .rw[Xo (by rw[Wk];exact hk),WZ] at h1;rw[Xo (by rw[hl];exact hk)] at h2;let(x,q1,q2):=WD.mp h1;cases q2;exact#[q1,h2]
 .rw[Xk (by rw[Wk];cbv)] at h1;let(_,e):=Wn.mp h1;simp at e
theorem aA.hold(L:aA K #[.no,M0,H0] M s as σ H)(pV:s.os=[])(h:rW K H M rs cs)(hn:∀ r∈rs,H0 r=none):aA K #[gO rs,M0,H0] M #[s.sl,cs.map some++List.replicate nos none] (rs++List.replicate nos 0) σ H:=by
 show#[#[L.base.pI,L.base.fr,L.base.md,L.base.mo,L.base.m0,L.base.mn],L.len,by simp[h.len],L.dat,λi k e=>?_,λk d a e1 e2=>?_,λk l d e a e1 e2 g1 g2=>?_,λk a e=>?_]
 .let(a,z,_):=L.own i k e;have:=(Wn.mp z).1;rw[L.dX,pV] at this;exact absurd this (Nat.not_lt_zero _)
 .let(q1,q2):=wm h.len e1 e2;let(nm,o):=h.at_ k a d q2 q1;exact#[o,nm,λz=>z,hn a (WX q2)]
 .exact h.inj k l a (wm h.len e1 g1).2 (wm h.len e2 g2).2
 .have e:rs[k]?=some a:=e;rw[Xo (Wn.mp e).1];exact e
theorem iE{N:!Str}{ds:!D}{vs:!V}(B:Base #[.no,M,H] M H)(h:rW K H M rs cs)(r:ay K H M ds vs):aA K #[gO rs,M,eu H rs] M (i9 N.length nos ds cs) (rs++List.replicate nos 0) (L2.start N vs) H:=by
 have L0:=jZ (N:=N) (nos:=0) (g:=.no) B r U;have L1:aA K #[.no,M,eu H rs] M (ei N.length 0 ds) (List.replicate 0 0) (L2.start N vs) H:=#[#[trivial,λb o e _=>(D5 e).2,B.md,λ_ _ z=>z,λ_ m=>m,λ_ m=>.inl m],L0.len,L0.dX,L0.dat,L0.own,λk d a e=>by simp[ei] at e,L0.inj,L0.lt];exact L1.hold U h λr hr=>sr hr
theorem aA.there{n:Nat}(L:aA K #[gO rs,M0,H0] M s as σ H)(hn:rs.length=n):n<=s.os.length:=by
 cases n with
 | zero=>exact WG _
 | succ m =>
  have h:m < rs.length:=by cbv
  have:=(Wn.mp (L.lt m rs[m] (Wy h))).1;rw[L.dX] at this;exact this
theorem aA.at_{n:Nat}(L:aA K #[gO rs,M0,H0] M s as σ H)(hn:rs.length=n)(hc:t8 (s.os.take n)=some cs){k:Nat}{r:AC}(h:rs[k]?=some r):∃ d,cs[k]?=some d/\s.os[k]?=some (some d)/\as[k]?=some r:=by
 have hk:k < rs.length:=(Wn.mp h).1;let(d,h1,h2):=(MU hc).2.1 k (by cbv) (WB (by cbv) (L.there hn));exact#[d,h1,h2,L.lt k r h]
theorem aA.held{n:Nat}(L:aA K #[gO rs,M0,H0] M s as σ H)(hn:rs.length=n)(hc:t8 (s.os.take n)=some cs):rW K H M rs cs:=by
 show#[λk l r h1 h2=>?_,?_,λk r d h1 h2=>?_]
 .let(d,_,q2,q3):=L.at_ hn hc h1;let(e,_,p2,p3):=L.at_ hn hc h2;exact L.inj k l d e r q2 p2 q3 p3
 .have:=(MU hc).2.2;have:=L.there hn;cbv
 .let(d',q1,q2,q3):=L.at_ hn hc h1;rw[h2] at q1;cases q1;let(o,nm,_):=L.obj k d r q2 q3;exact#[nm,o]
def DS.back(s:DS)(n:Nat)(cs:!D):DS:=#[s.sl,cs.map some++s.os.drop n]
theorem ud{n k:Nat}{x:D}(hl:eP.length=n)(h:(s.back n eP).os[k]?=some (some x)):(k < n/\eP[k]?=some x)\/(n<=k/\s.os[k]?=some (some x)):=by
 have h:(eP.map some++s.os.drop n)[k]?=some (some x):=h;by_cases hk:k < n
 .rw[Xo (by rw[Wk];cbv),WZ] at h;let(y,q1,q2):=WD.mp h;cases q2;exact .inl #[hk,q1]
 .rw[Xk (by rw[Wk];cbv),Wk,hl,X2,show n+(k - n)=k by cbv] at h;exact .inr #[by cbv,h]
theorem aA.given(L:aA K #[gO rs,M0,H0] M s as σ H)(hc:t8 (s.os.take rs.length)=some cs)(B:Base #[.no,M,eu H rs] M' H')(h:rW K H' M' rs eP) :
  aA K #[gO rs,M0,H0] M' (s.back rs.length eP) as σ H'/\Ext #[gO rs,M0,H0] as M s H M' (s.back rs.length eP) H':=by
 have hl:eP.length=rs.length:=h.len.symm;have old:∀ {k:Nat} {x:D},(s.back rs.length eP).os[k]?=some (some x)->∃ y,s.os[k]?=some (some y):=λ{k x} e=>by
  rcases ud hl e with ⟨hk,_⟩ | ⟨_,q⟩
  .let(d,_,q2,_):=L.at_ U hc (Wy hk);exact#[d,q2]
  .exact#[x,q]
 have z0:∀ r∈rs,H0 r=none/\¬ M r/\¬ M' r/\eO s as r:=λr hr=>by
  let(k,hk):=X9 hr;let(d,_,q2,q3):=L.at_ U hc hk;let(_,nm,_,h0):=L.obj k d r q2 q3;obtain⟨d',hd'⟩:∃ d',eP[k]?=some d':=#[_,Wy (show k < eP.length by rw[hl];exact (Wn.mp hk).1)];exact#[h0,nm,(h.at_ k r d' hk hd').1,k,d,q2,q3]
 have kp:∀ b u,b∉rs->H b=some u->H' b=some u:=λb u nb e=>B.fr b u (by change eu H rs b=_;rw[ja nb];exact e) λz=>z;have km:∀ b u,M b->H b=some u->H' b=some u:=λb u m e=>kp b u (λz=>(z0 b z).2.1 m) e;have nu:∀ b,M' b->M b\/Nu H b:=λb m=>by
  rcases B.mn b m with z | z
  .exact .inl z
  .have z:Nu (eu H rs) b:=z;unfold Nu at z;rw[ja λq=>(z0 b q).2.2.1 m] at z;exact .inr z
 show#[#[#[trivial,λb u e g=>kp b u (λz=>?_) (L.base.fr b u e g),B.md,λ_ _ z=>z,λb m=>B.m0 b (L.base.m0 b m),λb m=>?_],L.len,?_,λi x e=>?_,L.own,λk x a h1 h2=>?_,λk l x y a h1 h2 g1 g2=>?_,L.lt],#[B.m0,λb m=>(nu b m).imp id .inl,λb u e _ w=>kp b u (λz=>w (z0 b z).2.2.2) e,λb #[k,x,h1,h2]=>?_]]
 .have e:H0 b=some u:=e;rw[(z0 b z).1] at e;cases e
 .rcases nu b m with m | n | ⟨xs,n⟩
  .exact L.base.mn b m
  .exact .inr (.inl (L.base.mH n))
  .refine .inr ?_;cases e:H0 b with
   | none=>exact .inl e
   | some o =>
    have:=L.base.fr b o e λz=>z;rw[n] at this;cases this;exact .inr #[xs,e]
 .show as.length=(eP.map some++s.os.drop rs.length).length;have:=L.there U;rw[L.dX,Wm,Wk,WY,hl];cbv
 .let(v,q1,q2):=L.dat i x e;exact#[v,q1,Rep.mono B.m0 km x v q2]
 .rcases ud hl h1 with ⟨hk,q⟩ | ⟨hk,q⟩
  .have hr:=Wy hk;have e2:=L.lt k _ hr;rw[h2] at e2;injection e2 with e2;let(nm,o):=h.at_ k _ x hr q;have m:=X7 hk;rw[<- e2] at nm o m;exact#[o,nm,λz=>z,(z0 a m).1]
  .let((o,q1,q2),nm,ng,hz):=L.obj k x a q h2;have na:a∉rs:=λz=>by
    let(j,hj):=X9 z;let(d,_,p2,p3):=L.at_ U hc hj;have:=L.inj j k d x a p2 q p3 h2;have:=(Wn.mp hj).1;cbv
   show#[#[o,kp a o na q1,q2.mono B.m0 km],λm=>?_,ng,hz];rcases nu a m with m | n | ⟨xs,n⟩
   .exact nm m
   .rw[n] at q1;cases q1
   .rw[n] at q1;cases q1;exact q2.Er
 .let(x',e1):=old h1;let(y',e2):=old h2;exact L.inj k l x' y' a e1 e2 g1 g2
 .let(x',e1):=old h1;exact#[k,x',e1,h2]
theorem jB.vt{R:iR}{E:Ends}(k:jB K #[.no,M0,H0] M H R E):jB K #[gO rs,M0,H0] M H R E :=
 #[λs as M' σ H' r L=>k.nx s as M' σ H' r L.vt,λs as M' σ H' r L=>k.bk s as M' σ H' r L.vt,λs as M' σ H' r L=>k.ct s as M' σ H' r L.vt,λd M' H' v r B=>k.rt d M' H' v r B.vt,λd M' H' a o r B=>k.rf d M' H' a o r B.vt,λd s as M' σ H' v r L=>k.rs d s as M' σ H' v r L.vt]
end
def zk(n:Nat)(R:D->!D->Prop):iR:={ nx:=λs=>∃ cs,t8 (s.os.take n)=some cs/\R .br cs,rt:=λ_=>False,rs:=λx s=>∃ cs,t8 (s.os.take n)=some cs/\R x cs }
section
variable{P:Fa}{w:FS}{K:Frag}{mg:Str->Option AT}{base:Ev}
theorem Tr{x qual:Str}{st:FM}{f:AC}{fd:Gc}{N ps:!Str}{k nos n:Nat}{t:Dh}(F:ny K x qual st f fd)(S:aw N ps (ag st))(len:∀ rs ds cs R,t rs ds cs R->ds.length=ps.length/\rs.length=n)(hb:∀ (bq:AT) (A:Fk) (outer:!Env) (s:Da) (H:Hp) (E:XK) (M:AC->Prop) (rs:!AC),bU k (A.deeper (envOfC qual (ag st) ↑s f bq))->rs.length=n ->
   ∃ tb,l8 (jT bu P w K mg base N qual (ag st) f bq A outer s H E).xp #[gO rs,M,eu H rs] (aG st) tb/\∀ ds cs R,t rs ds cs R->tb (zk n R) (i9 N.length nos ds cs)):bY P w K mg base bu (k+1) f fd ps (xc K t):=by
 show F.ok S (λvs H Q E h=>?_) λbq A outer s H vs Q E hr h=>?_
 .let(rs,M,ds,cs,R,B,hh,r,q,_):=h;rw[r.length];exact (len rs ds cs R q).1
 .let(rs,M,ds,cs,R,B,hh,r,q,kk):=h;have hn:=(len rs ds cs R q).2;let(tb,h1,h2):=hb bq A outer s H E M rs hr hn;show#[_,h1.ps,M,_,_,_,iE B hh r,h2 ds cs R q,#[λs as M' σ H' #[eP,hc,r'] L _=>?_,λ_ _ _ _ _ z=>z.elim,λ_ _ _ _ _ z=>z.elim,λ_ _ _ _ z=>z.elim,λ_ _ _ _ _ z=>z.elim,λx s as M' σ H' v #[eP,hc,r'] L rv=>?_]]
  .exact kk .br eP r' M' H' .br L.base.vt (L.held hn hc) U
  .exact kk x eP r' M' H' v L.base.vt (L.held hn hc) rv
theorem Own.o{q:D3}{N:!Str}{k nos n:Nat}{t:Dh}(o:Own K mg q)(S:aw N q.2.2 (ag q.2.1))(len:∀ rs ds cs R,t rs ds cs R->ds.length=q.2.2.length/\rs.length=n)(hb:∀ (f:AC) (bq:AT) (A:Fk) (outer:!Env) (s:Da) (H:Hp) (E:XK) (M:AC->Prop) (rs:!AC),bU k (A.deeper (envOfC q.1 (ag q.2.1) ↑s f bq))->rs.length=n ->
   ∃ tb,l8 (jT bu P w K mg base N q.1 (ag q.2.1) f bq A outer s H E).xp #[gO rs,M,eu H rs] (aG q.2.1) tb/\∀ ds cs R,t rs ds cs R->tb (zk n R) (i9 N.length nos ds cs)):C4 P w K mg base bu q (k+1) (xc K t):=o.c λf fd F=>Tr F S len (hb f)
def pR(K:Frag)(C:AC)(qual:Str)(d:D3):Prop:=∃ f fd,ny K d.1 qual d.2.1 f fd/\Meth K C d.1 f/\Binds K fd d.2.2 []
def Gj(P:Fa)(w:FS)(K:Frag)(mg:Str->Option AT)(base:Ev)(C:AC)(d:D3)(k:Nat)(sp:Sp):Prop:=∃ f fd,bY P w K mg base bu k f fd d.2.2 sp/\Meth K C d.1 f/\Binds K fd d.2.2 []
theorem pR.o{C:AC}{qual:Str}{q:D3}{N:!Str}{k nos n:Nat}{t:Dh}(o:pR K C qual q)(S:aw N q.2.2 (ag q.2.1))(len:∀ rs ds cs R,t rs ds cs R->ds.length=q.2.2.length/\rs.length=n)(hb:∀ (f:AC) (bq:AT) (A:Fk) (outer:!Env) (s:Da) (H:Hp) (E:XK) (M:AC->Prop) (rs:!AC),bU k (A.deeper (envOfC qual (ag q.2.1) ↑s f bq))->rs.length=n ->
   ∃ tb,l8 (jT bu P w K mg base N qual (ag q.2.1) f bq A outer s H E).xp #[gO rs,M,eu H rs] (aG q.2.1) tb/\∀ ds cs R,t rs ds cs R->tb (zk n R) (i9 N.length nos ds cs)):Gj P w K mg base C q (k+1) (xc K t):=by
 let(f,fd,F,m,b):=o;exact#[f,fd,Tr F S len (hb f),m,b]
end
section
variable{X:Cx}{k m n:Nat}{rs:!AC}{M0:AC->Prop}{H0:Hp}{q:D3}{x:Str}{p pos apos:Pos}{o e:Ch}{es:!Ch}{ta:d8}{te tv:aZ}{t:Dh}{C:AC}{ks:!Str}
def Ia(rs:!AC)(t:Dh)(ta:d8):aZ:=λs Q=>ta s λds s1=>∃ cs,t8 (s1.os.take rs.length)=some cs/\t rs ds cs λx eP=>Q x (s1.back rs.length eP)
theorem B3{M1:AC->Prop}{H1:Hp}{s1:DS}{as:!AC}{σ:St}{ds cs:!D}{vs:!V}{Q:VK}{E:XK}{R:D->!D->Prop}(L1:aA X.K #[gO rs,M0,H0] M1 s1 as σ H1)(hc:t8 (s1.os.take rs.length)=some cs)(r1:ay X.K H1 M1 ds vs)(q1:t rs ds cs R)(kk:∀ x eP,R x eP->∀ M' H' v,aA X.K #[gO rs,M0,H0] M' (s1.back rs.length eP) as σ H'->Ext #[gO rs,M0,H0] as M1 s1 H1 M' (s1.back rs.length eP) H'->Rep X.K H' M' x v->Q v H'):xc X.K t vs H1 Q E :=
 #[rs,M1,ds,cs,R,L1.base.qw,L1.held U hc,r1,q1,λx eP rx M' H' v B h rv=>kk x eP rx M' H' v (L1.given hc B h).1 (L1.given hc B h).2 rv]
theorem BW(hr:bU m X.A)(G:C4 X.prog X.w X.K X.mg X.base bu q k (xc X.K t))(ha:DA X #[gO rs,M0,H0] (e::es) ta)(hx:(q.1=x)⁻¹)(hk:k<=m:=by ac_rfl)(hg:(Gl X x)⁻¹)(gH: ~~~(YD x))(he:(YB X.env e es)⁻¹)(eR:(YC X.env pos es)⁻¹) :
  DE X #[gO rs,M0,H0] (.Call (.Name x p) (e::es) [] pos) (Ia rs t ta):=by
 subst hx;let(f,fd,G,F,hm,hb):=G;exact#[(jb G (hr.mono hk) hg hm F.kp hb .nil (E:=E0) pz ha.pa gH he eR).imp λσ H Q zz=>cZ zz λM s as R L q kk =>
  #[M,s,as,_,L,q,λds s1 #[cs,hc,q1] M1 H1 vs L1 E1 r1 hl=>B3 L1 hc (by rw[WH];exact r1) q1 λx eP rx M' H' v L2 E2 rv=>kk x _ rx M' H' v L2 (E1.trans L1.base E2) rv]]
theorem lF:∀ {fs:!(Str×V)} {f:Str},f∉fs.map (·.1)->fs.lookup f=none
 | [],f,h=>rfl
 | (g,x)::r,f,h=>by
  have hb:(f == g)=false:=beq_eq_false_iff_ne.mpr λz=>h (by rw[z];exact Wt);simp only[List.lookup,hb];exact lF λz=>h (Wq _ z)
def HV(rs:!AC)(k:Nat)(C:AC)(ks:!Str)(te:aZ)(t:Dh)(ta:d8):aZ:=λs Q=>te s λd s1=>∃ a vs,d=.cT a/\rs[k]?=some a/\s1.os[k]?=some (some (.ob C ks vs))/\ta s1 λds s2=>∃ cs,t8 (s2.os.take rs.length)=some cs/\t rs (d::ds) cs λx eP=>Q x (s2.back rs.length eP)
theorem lp{M:AC->Prop}{H:Hp}{s:DS}{as:!AC}{σ:St}{a:AC}{vs:!D}{j:Nat}(L:aA X.K #[gO rs,M0,H0] M s as σ H)(hr:rs[j]?=some a)(ho:s.os[j]?=some (some (.ob C ks vs))):∃ dx fs,H a=some (.ins C dx fs)/\fs.map (·.1)=ks/\ay X.K H M vs (fs.map (·.2)):=by
 let((o,h1,h2),_):=L.obj j _ a ho (L.lt j a hr);cases o with
 | ins C' dx fs =>
  let(rfl,h3,h4):=h2;exact#[dx,fs,h1,h3,h4]
 | _=>exact h2.elim
theorem sQ{pl:Sem Bool}{mm:Str}(j:Nat)(ks:!Str)(c:vy X.K C)(hr:bU m X.A)(G:Gj X.prog X.w X.K X.mg X.base C q k (xc X.K t))(ho:DE X #[gO rs,M0,H0] o te)(ha:DA X #[gO rs,M0,H0] (e::es) ta)(hx:(q.1=mm)⁻¹)(hk:k<=m:=by ac_rfl)(vx:mm∉ks:=by decide+kernel)(nq:(YB X.env e es)⁻¹)(eR:(YC X.env pos es)⁻¹)(ht:(eval (.Call (.Attribute o mm apos) (e::es) [] pos) X.env=(do
   let ov <- eval o X.env
   standAt apos.atName
   let (f,first) <- holding [ov] (getMethod ov mm pl)
   callWith pos f first (Ix pos (Go (e::es) X.env)) (Re pos (Rs [] X.env))))⁻¹) :
  DE X #[gO rs,M0,H0] (.Call (.Attribute o mm apos) (e::es) [] pos) (HV rs j C ks te t ta):=by
 subst hx;let(f,fd,G,hm,hb):=G;exact#[(xO ho.pe c hm G (hr.mono hk) hb .nil (E:=E0) pz ha.pa nq eR ht).imp λσ H Q zz=>cZ zz λM s as R L q kk =>
  #[M,s,as,_,L,q,λd s1 z M1 H1 v L1 E1 rv=>by
   let(a,vs,ed,hj,ho,q1):=z;subst ed;have rv:v=.ref a:=rv;subst rv;let(dx,fs,h1,h2,h3):=lp L1 hj ho;show#[a,dx,fs,U,h1,lF (by rw[h2];exact vx),M1,s1,as,_,L1,q1,λds s2 #[cs,hc,q2] M2 H2 vs L2 E2 r2 hl=>?_];exact B3 L2 hc (ds:=.cT a::ds) #[_,_,U,U,by rw[WH];exact r2] q2 λx eP rx M' H' v L3 E3 rv=>kk x _ rx M' H' v L3 ((E1.trans L1.base E2).trans L2.base E3) rv]]
def DC:!Str->Str->Option Nat
 | [],_=>none
 | k::r,f=>if k=f then some 0 else match DC r f with
  | some i=>some (i+1)
  | none=>none
theorem ug{k f:Str}{r:!Str}{i:Nat}(h:DC (k::r) f=some i):(k=f/\i=0)\/(k≠f/\∃ j,DC r f=some j/\i=j+1):=by
 unfold DC at h;by_cases e:k=f
 .rw[if_pos e] at h;cases h;exact .inl #[e,U]
 .rw[if_neg e] at h;cases q:DC r f with
  | none=>rw[q] at h;cases h
  | some j=>rw[q] at h;cases h;exact .inr #[e,j,U,U]
theorem Bc:∀ {fs:!(Str×V)} {f:Str} {i:Nat},DC (fs.map (·.1)) f=some i->fs.lookup f=(fs.map (·.2))[i]?
 | [],f,i,h=>by cases h
 | (g,x)::r,f,i,h=>by
  rcases ug h with ⟨e,rfl⟩ | ⟨ne,j,hj,rfl⟩
  .have hb:(f == g)=true:=beq_iff_eq.mpr (Eq.symm e);simp only[List.lookup,hb]
   rfl
  .have hb:(f == g)=false:=beq_eq_false_iff_ne.mpr λz=>ne (Eq.symm z);simp only[List.lookup,hb];rw[Bc hj]
   rfl
theorem FY(y:V):∀ {fs:!(Str×V)} {f:Str} {i:Nat},DC (fs.map (·.1)) f=some i->(eA f y fs).map (·.1)=fs.map (·.1)/\(eA f y fs).map (·.2)=(fs.map (·.2)).set i y
 | [],f,i,h=>by cases h
 | (g,x)::r,f,i,h=>by
  rcases ug h with ⟨e,rfl⟩ | ⟨ne,j,hj,rfl⟩
  .have e:g=f:=e;rw[show eA f y ((g,x)::r)=(if g=f then (g,y)::r else (g,x)::eA f y r) from U,if_pos e];exact#[U,U]
  .have ne:¬ g=f:=ne;rw[show eA f y ((g,x)::r)=(if g=f then (g,y)::r else (g,x)::eA f y r) from U,if_neg ne];let(h1,h2):=FY y hj;exact#[by rw[Wu,Wu,h1],by rw[Wu,Wu,h2];rfl]
theorem pb(y:V):∀ {fs:!(Str×V)} {f:Str},f∉fs.map (·.1)->eA f y fs=fs++[(f,y)]
 | [],f,h=>rfl
 | (g,x)::r,f,h=>by
  have ne:¬ g=f:=λz=>h (by rw[<- z];exact Wt);rw[show eA f y ((g,x)::r)=(if g=f then (g,y)::r else (g,x)::eA f y r) from U,if_neg ne,pb y λz=>h (Wq _ z)]
  rfl
def Mu(rs:!AC)(k:Nat)(C:AC)(ks:!Str)(i:Nat)(te:aZ):aZ:=λs Q=>te s λd s1=>∃ a vs y,d=.cT a/\rs[k]?=some a/\s1.os[k]?=some (some (.ob C ks vs))/\vs[i]?=some y/\Q y s1
theorem cW{f:Str}(j:Nat)(ks:!Str)(i:Nat)(c:vy X.K C)(hn:ef X.K C f)(ho:DE X #[gO rs,M0,H0] o te)(hi:DC ks f=some i:=by decide+kernel)(hb:(attributeBase o f X.env (eval o X.env)=eval o X.env)⁻¹):DE X #[gO rs,M0,H0] (.Attribute o f pos) (Mu rs j C ks i te) :=
 #[(IX ho.pe hb).imp λσ H Q zz=>cZ zz λM s as R L q kk=>#[M,s,as,_,L,q,λd s1 z M1 H1 v L1 E1 rv=>by
   let(a,vs,y,ed,hj,ho,hy,q1):=z;subst ed;have rv:v=.ref a:=rv;subst rv;let(dx,fs,h1,h2,h3):=lp L1 hj ho;let(v,h4,h5):=h3.get hy;exact#[a,C,dx,fs,v,U,h1,c,hn,by rw[Bc (by rw[h2];exact hi)];exact h4,kk y s1 q1 M1 H1 v L1 E1 h5]]]
def NA(rs:!AC)(k:Nat)(C:AC)(ks:!Str)(i:Nat)(te tv:aZ):iZ:=λR s=>tv s λy s1=>te s1 λd s2=>∃ a vs,d=.cT a/\rs[k]?=some a/\s2.os[k]?=some (some (.ob C ks vs))/\R.nx (s2.put k (.ob C ks (vs.set i y)))
theorem Af{f:Str}{value:Ch}{pos':Pos}(j:Nat)(ks:!Str)(i:Nat)(c:vy X.K C)(hn:ef X.K C f)(ho:DE X #[gO rs,M0,H0] o te)(hv:DE X #[gO rs,M0,H0] value tv)(hi:DC ks f=some i:=by decide+kernel)(hl: ~~~(ks.length < 1000))(hs:(swapsWith value (some (.Attribute o f pos')) pos.line X.env=pure false)⁻¹) :
  pW X #[gO rs,M0,H0] (.Assign [.Attribute o f pos'] value pos) (NA rs j C ks i te tv) :=
 #[(wY ho.pe hv.pe hs).imp λE σ H zz=>cZ zz λM s as R L q kk=>#[M,s,as,_,L,q,λy s1 q1 M1 H1 w L1 E1 rw=>#[M1,s1,as,_,L1,q1,λd s2 z M2 H2 v L2 E2 rv=>by
   let(a,vs,ed,hj,ho,q2):=z;subst ed;have rv:v=.ref a:=rv;subst rv;let(dx,fs,h1,h2,h3):=lp L2 hj ho;let(g1,g2):=FY w (fs:=fs) (by rw[h2];exact hi);show#[a,C,dx,fs,U,h1,c,hn,(by rw[<- Wk (f:=λx:Str×V=>x.1),h2];exact hl),?_];have E3:=(E1.trans L1.base E2).trans L2.base (Ext.kG (d:=.ob C ks (vs.set i y)) (o:=.ins C dx (eA f w fs)) ho (L2.lt j a hj));exact kk.nx _ as M2 σ _ q2 (L2.kG ho (L2.lt j a hj) #[U,by rw[g1,h2],by rw[g2];exact ay.set (E2.rep L1 rw) i h3]) (E3.grow L)]]]
def MT(rs:!AC)(k:Nat)(C:AC)(ks:!Str)(f:Str)(te tv:aZ):iZ:=λR s=>tv s λy s1=>te s1 λd s2=>∃ a vs,d=.cT a/\rs[k]?=some a/\s2.os[k]?=some (some (.ob C ks vs))/\R.nx (s2.put k (.ob C (ks++[f]) (vs++[y])))
theorem B0{f:Str}{value:Ch}{pos':Pos}(j:Nat)(ks:!Str)(c:vy X.K C)(hn:ef X.K C f)(ho:DE X #[gO rs,M0,H0] o te)(hv:DE X #[gO rs,M0,H0] value tv)(hi:f∉ks:=by decide+kernel)(hl: ~~~(ks.length < 1000))(hs:(swapsWith value (some (.Attribute o f pos')) pos.line X.env=pure false)⁻¹) :
  pW X #[gO rs,M0,H0] (.Assign [.Attribute o f pos'] value pos) (MT rs j C ks f te tv) :=
 #[(wY ho.pe hv.pe hs).imp λE σ H zz=>cZ zz λM s as R L q kk=>#[M,s,as,_,L,q,λy s1 q1 M1 H1 w L1 E1 rw=>#[M1,s1,as,_,L1,q1,λd s2 z M2 H2 v L2 E2 rv=>by
   let(a,vs,ed,hj,ho,q2):=z;subst ed;have rv:v=.ref a:=rv;subst rv;let(dx,fs,h1,h2,h3):=lp L2 hj ho;have g:=pb w (fs:=fs) (f:=f) (by rw[h2];exact hi);show#[a,C,dx,fs,U,h1,c,hn,(by rw[<- Wk (f:=λx:Str×V=>x.1),h2];exact hl),?_];have E3:=(E1.trans L1.base E2).trans L2.base (Ext.kG (d:=.ob C (ks++[f]) (vs++[y])) (o:=.ins C dx (eA f w fs)) ho (L2.lt j a hj));exact kk.nx _ as M2 σ _ q2 (L2.kG ho (L2.lt j a hj) #[U,by rw[g,Wv,h2];rfl,by rw[g,Wv];exact h3.append (ay.one (E2.rep L1 rw))]) (E3.grow L)]]]
def RQ(rs:!AC)(k:Nat)(C:D->!D->(D->D->Prop)->Prop)(te:aZ)(ta:d8):aZ:=λs Q=>te s λx s0=>∃ a d0,x=.cT a/\rs[k]?=some a/\s0.os[k]?=some (some d0)/\Pc d0=true/\ta s0 λds s1=>∃ d1,s1.os[k]?=some (some d1)/\C d1 ds λdr d2=>Q dr (s1.put k d2)
theorem Tj{r:V->!V->Hp->VK->Prop}{CC:D->!D->(D->D->Prop)->Prop}(ok:Dy X r CC){M M1:AC->Prop}{H H1:Hp}{s s1:DS}{as:!AC}{σ:St}{a:AC}{d1:D}{ds:!D}{vs:!V}{Q:VK}{R:D->DS->Prop}{j:Nat}(L1:aA X.K #[gO rs,M0,H0] M1 s1 as σ H1)(E1:Ext #[gO rs,M0,H0] as M s H M1 s1 H1)(r1:ay X.K H1 M1 ds vs)(hj:rs[j]?=some a)(e1:s1.os[j]?=some (some d1))(q1:CC d1 ds λdr d2=>R dr (s1.put j d2))(kk:∀ d s',R d s'->∀ M' H' v,aA X.K #[gO rs,M0,H0] M' s' as σ H'->Ext #[gO rs,M0,H0] as M s H M' s' H'->Rep X.K H' M' d v->Q v H'):r (.ref a) vs H1 Q:=by
 have g1:=L1.lt j a hj;let((o1,f1,f2),nm,ng,h0):=L1.obj j d1 a e1 g1;show ok M1 H1 a o1 d1 ds vs _ Q f1 f2 r1 nm q1 λdr d2 hk o' v ro rv=>?_;have E2:Ext #[gO rs,M0,H0] as M1 s1 H1 M1 (s1.put j d2) (upd H1 a o'):=Ext.kG e1 g1;exact kk dr _ hk M1 _ v (L1.kG e1 g1 ro) (E1.trans L1.base E2) (E2.rep L1 rv)
section
variable{name:Str}{bX:Pos}{id:String}{r:V->!V->Hp->VK->Prop}{CC:D->!D->(D->D->Prop)->Prop}
theorem Cw(j:Nat)(slot:Slot "list" name id)(yB:typeOf (.builtin id)=pure (.type "method_descriptor"))(hm:Kj X id r)(ok:Dy X r CC)(ho:DE X #[gO rs,M0,H0] o te)(ha:DA X #[gO rs,M0,H0] (e::es) ta)(fF:(attributeBase o name X.env (eval o X.env)=eval o X.env)⁻¹)(oE:(((Ix bX (Go (e::es) X.env)).all (λx=>(not x.1))&&(Re bX (Rs [] X.env)).all (λx=>x.1.isSome)
   && decide ((e::es).length+([]:!NE).length+(if ([]:!NE).isEmpty then 0 else 1) < 30))=true)⁻¹)(dF:((apos.endLine == bX.line)=true)⁻¹)(hs:(YB X.env e es)⁻¹)(fG:((Ix bX (Go es X.env)).any (·.1)=false)⁻¹) :
  DE X #[gO rs,M0,H0] (.Call (.Attribute o name apos) (e::es) [] bX) (RQ rs j CC te ta):=#[(yH X0 slot yB hm ho.pe ha.pa fF oE dF hs fG).imp λσ H Q zz=>cZ zz λM s as R L q kk=>#[M,s,as,_,L,q,λx s0 z M1 H1 v L1 E1 rv=>by
   let(a,d0,ed,hj,h2,h3,q):=z;subst ed;have rv:v=.ref a:=rv;subst rv;let((o,g3,g4),_):=L1.obj j d0 a h2 (L1.lt j a hj);let(xs,rfl):=vQ h3 g4;exact#[.inl #[U,xs,.of g3],M1,s0,as,_,L1,q,λds s1 #[d1,e1,q1] M2 H2 vs L2 E2 r2 hl=>Tj ok L2 (E1.trans L1.base E2) r2 hj e1 q1 kk]]]
theorem vI(j:Nat)(slot:Slot "list" name id)(yB:typeOf (.builtin id)=pure (.type "method_descriptor"))(hm:Kj X id r)(ok:Dy X r CC)(ho:DE X #[gO rs,M0,H0] o te)(fF:(attributeBase o name X.env (eval o X.env)=eval o X.env)⁻¹)(dF:((apos.endLine == bX.line)=true)⁻¹):DE X #[gO rs,M0,H0] (.Call (.Attribute o name apos) [] [] bX) (RQ rs j CC te NC) :=
 #[(Bo X0 slot yB hm ho.pe fF dF).imp λσ H Q zz=>cZ zz λM s as R L q kk=>#[M,s,as,_,L,q,λx s0 z M1 H1 v L1 E1 rv=>by
   let(a,d0,ed,hj,h2,h3,d1,e1,q1):=z;subst ed;have rv:v=.ref a:=rv;subst rv;let((o,g3,g4),_):=L1.obj j d0 a h2 (L1.lt j a hj);let(xs,rfl):=vQ h3 g4;exact#[.inl #[U,xs,.of g3],Tj (ds:=[]) ok L1 E1 U hj e1 q1 kk]]]
end
def NK(rs:!AC)(k:Nat)(te:aZ):kD:=λs Q=>te s λx s0=>∃ a xs,x=.cT a/\rs[k]?=some a/\s0.os[k]?=some (some (.lst xs))/\Q (not xs.isEmpty) s0
theorem DQ(j:Nat)(he:DE X #[gO rs,M0,H0] e te)(hw:∀ whole,isTrue e X.env whole=(do let v <- whole;standAt e.pos;holding [v] (truthy v)):=by intro _;rfl):DT X #[gO rs,M0,H0] e (NK rs j te):=#[(uV he.pe hw).imp λσ H Q zz=>cZ zz λM s as R L q kk=>#[M,s,as,_,L,q,λx s0 z M1 H1 v L1 E1 rv=>by
 let(a,xs,ed,hj,h2,q):=z;subst ed;have rv:v=.ref a:=rv;subst rv;let((o,g3,g4),_):=L1.obj j _ a h2 (L1.lt j a hj);cases o with
 | lst us =>
  have g4:ay X.K H1 M1 xs us:=g4;show#[(not us.isEmpty),.inl #[us,.of g3,U],?_];rw[ma g4.length];exact kk _ s0 q M1 H1 L1 E1
 | _=>exact g4.elim]]
end
abbrev NR:=(!AC->DS->Prop)->DS->Prop
def SQ(K:Frag)(M0:AC->Prop)(H0:Hp)(rs:!AC)(t:NR):TS:=λE σ H=>∃ M s as R,aA K #[gO rs,M0,H0] M s as σ H/\t R s/\∀ rs s as M' σ H',R rs s->aA K #[gO rs,M0,H0] M' s as σ H'->E.nx σ H'
structure JM(X:Cx)(M0:AC->Prop)(H0:Hp)(rs:!AC)(mX:!FM)(t:NR):Prop where
 ps:lQ X mX (SQ X.K M0 H0 rs t)
section
variable{X:Cx}{M0:AC->Prop}{H0:Hp}{rs:!AC}{st:FM}{mX:!FM}{t:iZ}{u:NR}{uu:AC->NR}{o value:Ch}{tv:aZ}{C:AC}{ks:!Str}{f:Str}{pos pos':Pos}
theorem Lp:JM X M0 H0 rs [] (λR s=>R rs s):=#[nB.imp λE σ H zz=>cZ zz λM s as R L q k=>k rs s as M σ H q L]
theorem Bb(h1:pW X #[gO rs,M0,H0] st t)(h2:JM X M0 H0 rs mX u):JM X M0 H0 rs (st::mX) (λR s=>t { nx:=u R,rt:=λ_=>False } s):=#[(bP h1.ps h2.ps).imp λE σ H zz=>cZ zz λM s as R L q k =>
 #[M,s,as,_,L,q,#[λs' ki M' σ' H' r L' G=>#[M',s',ki,R,L',r,k],λ_ _ _ _ _ z=>z.elim,λ_ _ _ _ _ z=>z.elim,λ_ _ _ _ z=>z.elim,λ_ _ _ _ _ z=>z.elim,λ_ _ _ _ _ _ _ z=>z.elim]]]
theorem Gk{i:Nat}(j:Nat)(ks:!Str)(c:vy X.K C)(hn:ef X.K C f)(ho:PE X o (bR i))(hv:DN X #[gO rs,M0,H0] value tv)(h2:∀ a,JM X M0 H0 (rs++[a]) mX (uu a))(hi:f∉ks:=by decide+kernel)(hl: ~~~(ks.length < 1000))(hs:(swapsWith value (some (.Attribute o f pos')) pos.line X.env=pure false)⁻¹) :
  JM X M0 H0 rs (.Assign [.Attribute o f pos'] value pos::mX) (λR s=>tv s λy s1=>∃ x vs,s1.sl[i]?=some (.dat (.cT x))/\rs[j]?=some x/\s1.os[j]?=some (some (.ob C ks vs))/\(s1.os[rs.length]?=some none/\noRef rs.length s1.sl.length s1.sl=true)/\∀ a,uu a R #[s1.sl,(s1.os.set rs.length (some y)).set j (some (.ob C (ks++[f]) (vs++[.cT a])))]):=by
 have h3:lQ X mX (λE σ H=>∃ a,SQ X.K M0 H0 (rs++[a]) (uu a) E σ H):=λTW s σ H E I #[a,q]=>(h2 a).ps TW s σ H E I q;show#[(bP (wY ho hv.pe hs) h3).imp λE σ H zz=>cZ zz λM s as R L q k=>#[M,s,as,_,L,q,λy s1 z M1 H1 a o L1 E1 ha ro nm ng nw h0 hn'=>?_]];let(x,vs,hx,hj,hob,(hfree,hnr),q1):=z;let(v,hv1,hv2):=L1.dat i _ hx;have hv2:v=.ref x:=hv2;subst hv2;let(dx,fs,g1,g2,g3):=lp L1 hj hob;have g:=pb (.ref a) (fs:=fs) (f:=f) (by rw[g2];exact hi);have hjl:j < rs.length:=(Wn.mp hj).1;have hnl:rs.length < s1.os.length:=(Wn.mp hfree).1;have hkl:rs.length < as.length:=by rw[L1.dX];exact hnl
 show#[_,hv1,x,C,dx,fs,U,g1,c,hn,(by rw[<- Wk (f:=λx:Str×V=>x.1),g2];exact hl),a,M1,_,as.set rs.length a,R,?_,q1 a,k];have Lm:aA X.K #[gO (rs++[a]),M0,H0] M1 #[s1.sl,s1.os.set rs.length (some y)] (as.set rs.length a) σ H1:=by
  show#[#[L1.base.pI,L1.base.fr,L1.base.md,L1.base.mo,L1.base.m0,L1.base.mn],L1.len,by simp[L1.dX],L1.dat,λl m e=>?_,λl d b e1 e2=>?_,λl m d e b e1 e2 f1 f2=>?_,λl b e=>?_]
  .let(b,p1,p2):=L1.own l m e;have nm:rs.length≠m:=λz=>by
    subst z;exact lT (Wo _) hnr e
   exact#[b,by rw[Wx nm];exact p1,p2]
  .rcases cC e1 with ⟨rfl,_,q⟩ | ⟨ne,q⟩
   .cases q;rw[WT hkl] at e2;cases e2;exact#[#[o,ha,ro],nm,ng,h0]
   .rw[Wx ne] at e2;exact L1.obj l d b q e2
  .rcases cC e1 with ⟨rfl,_,q⟩ | ⟨ne,q⟩
   .rcases cC e2 with ⟨rfl,_,q'⟩ | ⟨ne',q'⟩
    .rfl
    .rw[WT hkl] at f1;cases f1;rw[Wx ne'] at f2;exact absurd #[m,e,q',f2] nw
   .rcases cC e2 with ⟨rfl,_,q'⟩ | ⟨ne',q'⟩
    .rw[WT hkl] at f2;cases f2;rw[Wx ne] at f1;exact absurd #[l,d,q,f1] nw
    .rw[Wx ne] at f1;rw[Wx ne'] at f2;exact L1.inj l m d e b q q' f1 f2
  .have e:(rs++[a])[l]?=some b:=e;by_cases hlr:l < rs.length
   .rw[Xo hlr] at e;rw[Wx (by cbv)];exact L1.lt l b e
   .rw[Xk (by cbv)] at e;have:l=rs.length:=by
     have:=(Wn.mp e).1;simp at this;cbv
    subst this;rw[Nat.sub_self] at e;cases e;rw[WT hkl]
 have hob2:(s1.os.set rs.length (some y))[j]?=some (some (.ob C ks vs)):=by rw[Wx (by cbv)];exact hob
 exact Lm.kG (s:=#[s1.sl,s1.os.set rs.length (some y)]) hob2 (by rw[Wx (by cbv)];exact L1.lt j x hj) #[U,by rw[g,Wv,g2];rfl,by rw[g,Wv];exact g3.append (ay.one (show Rep X.K H1 M1 (.cT a) (.ref a) from U))]
end
abbrev NY:=!D->(!AC->!D->Prop)->Prop
def Lu(K:Frag)(C:AC)(t:NY):Sp:=λvs H Q _=>∃ x dx M ds R ws,vs=.ref x::ws/\H x=some (.ins C dx [])/\Base #[.no,M,H] M H/\¬ M x/\ay K H M ds ws/\t ds R /\
 ∀ rs cs,R rs cs->∀ M' H',Base #[.no,M,eu H [x]] M' H'->rW K H' M' rs cs->rs[0]?=some x->(∀ r∈rs,eu H [x] r=none)->Q .br H'
section
variable{P:Fa}{w:FS}{K:Frag}{mg:Str->Option AT}{base:Ev}
theorem U8{x qual:Str}{st:FM}{f C:AC}{fd:Gc}{N ps:!Str}{k nos:Nat}{t:NY}(F:ny K x qual st f fd)(S:aw N ps (ag st))(len:∀ ds R,t ds R->ds.length+1=ps.length)(hb:∀ (bq:AT) (A:Fk) (outer:!Env) (s:Da) (H:Hp) (E:XK) (M:AC->Prop) (x:AC),bU k (A.deeper (envOfC qual (ag st) ↑s f bq)) ->
   ∃ tb,JM (jT bu P w K mg base N qual (ag st) f bq A outer s H E).xp M (eu H [x]) [x] (aG st) tb/\∀ ds R,t ds R->tb (λrs s=>rs[0]?=some x/\∃ cs,t8 (s.os.take rs.length)=some cs/\R rs cs) (i9 N.length nos (.cT x::ds) [.ob C [] []])):bY P w K mg base bu (k+1) f fd ps (Lu K C t):=by
 show F.ok S (λvs H Q E h=>?_) λbq A outer s H vs Q E hr h=>?_
 .let(x,dx,M,ds,R,ws,rfl,_,_,_,r,q,_):=h;rw[Ws,r.length];exact len ds R q
 .let(x,dx,M,ds,R,ws,rfl,hx,B,nm,r,q,kk):=h;let(tb,h1,h2):=hb bq A outer s H E M x hr;show#[_,h1.ps,M,_,_,_,iE (nos:=nos) (rs:=[x]) (cs:=[.ob C [] []]) (ds:=.cT x::ds) B #[λk l r e1 e2=>?_,U,λk r d e1 e2=>?_] #[_,_,U,U,r],h2 ds R q,λrs s as M' σ H' z L=>?_]
  .match k,l,e1,e2 with
   | 0,0,_,_=>rfl
  .match k,e1,e2 with
   | 0,e1,e2 =>
    cases e1;cases e2;exact#[nm,_,hx,U,U,U]
  .let(hx0,cs,hc,hR):=z;show kk rs cs hR M' H' L.base.vt (L.held U hc) hx0 λr hr=>?_;let(k,hk):=X9 hr;let(d,_,q2,q3):=L.at_ U hc hk;exact (L.obj k d r q2 q3).2.2.2
end
section
variable{X:Cx}{k m i nos:Nat}{M0:AC->Prop}{H0:Hp}{q:D3}{x y:Str}{p p2 p3 pos:Pos}{e:Ch}{es:!Ch}{ta:d8}{t:NY}{C f:AC}{fd:Gc}{ps:!Str}{mX:!FM}{u:!AC->iZ}
theorem ER(nos:Nat)(UE:L2.Mk X.K C f)(F:bY X.prog X.w X.K X.mg X.base bu k f fd ps (Lu X.K C t))(hr:bU (k+1) X.A)(hm:X.mg x=some (.ref C))(hb:Binds X.K fd ps [])(hN:X.N.Nodup)(ha:DA X #[.no,M0,H0] (e::es) ta)(h2:∀ rs,l8 X #[gO rs,M0,H0] mX (u rs))(hg:(Gl X x)⁻¹)(hi:(X.N[i]?=some y)⁻¹)(hy:Loc X.env.scope y:=by exact Or.inl U)(gH: ~~~(YD x))(he:(YB X.env e es)⁻¹)(eR:((Ix p3 (Go es X.env)).any (·.1)=false)⁻¹)(hs:(swapsWith (.Call (.Name x p2) (e::es) [] p3) (some (.Name y p)) pos.line X.env=pure false)⁻¹)(hf:X.fn y=true\/X.env.scope.names.lookup y=some .local:=by ac_nf) :
  l8 X #[.no,M0,H0] (.Assign [.Name y p] (.Call (.Name x p2) (e::es) [] p3) pos::mX) (λR s=>ta s λds s1=>s1.os=[]/\t ds λrs cs=>∀ z,rs[0]?=some z->u rs R #[s1.sl.set i (.dat (.cT z)),cs.map some++List.replicate nos none]):=by
 have h3:lQ X mX (λE σ H=>∃ rs,tS X.K #[gO rs,M0,H0] (u rs) E σ H):=λTW s σ H E I #[rs,q]=>(h2 rs).ps TW s σ H E I q;show#[(bP (eM hN hi hy (EB UE F hr hg hm hb .nil (E:=E0) pz ha.pa gH he eR) hs hf) h3).imp λE σ H zz=>cZ zz λM s as R L q kk=>#[M,s,as,_,L,q,λds s1 z M1 H1 vs L1 E1 r1 hl x dx hx hdx oJ=>?_]];let(pV,q1):=z;have hx':upd H1 dx (.own x) x=none:=by rw[au (Ne.symm oJ)];exact hx
 have Ld:=L1.laid (o:=.own x) hdx;let(nm,_):=notM L1 hx;show#[x,dx,M1,ds,_,vs++[],U,ax,(Ld.laid (o:=.ins C dx []) hx').base.qw,nm,by rw[WH];exact qR hx' (qR hdx r1),q1,λrs cs hR M' H' B' hh h0 hz=>#[U,rs,M',_,rs++List.replicate nos 0,R,?_,hR x h0,?_]]
 .rw[uG hx'] at B' hz;have L2:=Ld.after B';exact (L2.hold (nos:=nos) pV hh λr hr=>Ld.base.mH (hz r hr)).zo i (show Rep X.K H' M' (.cT x) (.ref x) from U)
 .rw[uG hx'] at B';exact (kk.grow (((E1.trans L1.base (Ext.laid hdx)).trans Ld.base (Ext.after B')).grow L)).vt
end
end DL
namespace L2
open PySem PySem.Calls PyProof.Rows PyProof.V PySem.Spec
section
variable{X:Cx}{d:AC}{kvs:!(Str×AT)}
end
section
variable{X:Cx}
end
end L2
namespace JC
open PySem Sem
theorem pP:typeLookup (.type "tuple") "keys"=Pure.pure none:=by rw[typeLookup_type,builtinLookup_eq_fast];kernel_rfl
theorem uL:typeLookup (.type "tuple") "__getattr__"=Pure.pure none:=by rw[typeLookup_type,builtinLookup_eq_fast];kernel_rfl
section
variable{prog:Fa}{w:FS}{A:Fk}{E:Yy}{h:Ev}{g:Array GenState}{d:Drawn}{t:Nat}{os:OsState}{a:AC}{o:Obj}
theorem uA{tk:Tok}{items:Array AT}{n:Nat}{sl:Array (Option AT)}{Q:PySem.Fin->Da->Prop}(hh:A.handled=none)(hx:h.get? a=some #[.type "tuple",none,.seq items n,sl])(hq:∀ h' e t',(∀ b u,h.get? b=some u->h'.get? b=some u)->(∃ u,h'.get? e=some u/\u.cls=.type "AttributeError")->E (.ref e) #[h',g,d,t',os]) :
  EQ (model prog w) A (GE.«object.__getattribute__» #[[.ref a,.str "keys" tk],[]]) Q E #[h,g,d,t,os]:=by
 have hT:(#[h,g,d,t,os]:Da).TypeIs (.ref a) "tuple":=#[_,hx,U];have f4:=pP
 repeat (any_goals (first | assumption | with_reducible show vP hh (by decide+kernel) hq | wp_step))
theorem C5{tk:Tok}{items:Array AT}{n:Nat}{sl:Array (Option AT)}{Q:Yy}(hh:A.handled=none)(hx:h.get? a=some #[.type "tuple",none,.seq items n,sl])(hq:∀ h' e t',(∀ b u,h.get? b=some u->h'.get? b=some u)->(∃ u,h'.get? e=some u/\u.cls=.type "AttributeError")->E (.ref e) #[h',g,d,t',os]) :
  EQ (model prog w) A (getAttrBy (.ref a) (.str "keys" tk) false) Q E #[h,g,d,t,os]:=by
 have hT:(#[h,g,d,t,os]:Da).TypeIs (.ref a) "tuple":=#[_,hx,U];have f2:=F.slot_tuple_getattribute.lookup;have f3:=F.slot_tuple_getattribute.bind (.ref a);have f5:=uL
 repeat (any_goals (first | assumption | wp_step))
 show codeAny_call_builtin F.slot_tuple_getattribute.plain F.entry_tuple_ga (F.slot_tuple_getattribute.check _ _ _ _ _ _ _ _ hT (F.args_tuple_getattribute_2 _ _) (uA hh hx λh' e t' k c=>?_));let(u,hu,hc):=c;have hT2:(#[h',g,d,t',os]:Da).TypeIs (.ref e) "AttributeError":=#[u,hu,hc];have f6:=oV;change EQ _ _ (getattributeRaised (.ref a) (.str "keys" tk) (.type "tuple") (.ref e) none false false) _ _ _;have hE:=hq h' e t' k #[u,hu,hc]
 repeat (any_goals (first | assumption | wp_step))
theorem Bf{items:Array AT}{n:Nat}{sl:Array (Option AT)}{Q:Option AT->Da->Prop}(hh:A.handled=none)(hx:h.get? a=some #[.type "tuple",none,.seq items n,sl])(hq:∀ h' t',(∀ b u,h.get? b=some u->h'.get? b=some u)->Q none #[h',g,d,t',os]) :
  EQ (model prog w) A (getAttr? (.ref a) "keys") Q E #[h,g,d,t,os]:=by
 unfold getAttr? getAttrBy?;show Db ?_;have f6:=oV;unfold mkText
 repeat (any_goals (first | assumption | with_reducible apply C5 hh hx | wp_step))
 intro h' e t' k c;let(u,hu,hc):=c;have hT2:(#[h',g,d,t',os]:Da).TypeIs (.ref e) "AttributeError":=#[u,hu,hc];have hE:=hq h' t' k
 repeat (any_goals (first | assumption | wp_step))
end
end JC
namespace L2
open PySem PySem.Spec
open PyProof.Rows hiding St
section
variable{X:Cx}{TW:Yz}{σ:St}
def Cb(H:Hp)(x:V)(kv:Key×V):Prop:=∃ p,x=.ref p/\H p=some (.tup [kV kv.1,kv.2])
def jl(m:!(Key×V))(kvs:!(Key×V)):!(Key×V):=kvs.foldl (λm kv=>putK m kv.1 kv.2) m
theorem Cb.up{H:Hp}{x:V}{kv:Key×V}{a:AC}{m m':!(Key×V)}(e:H a=some (.dK m))(h:Cb H x kv):Cb (upd H a (.dK m')) x kv:=by
 let(p,e1,e2):=h;have n1:p≠a:=λz=>by subst z;rw[e] at e2;cases e2
 exact#[p,e1,by rw[au n1];exact e2]
theorem Cb.new{H:Hp}{x:V}{kv:Key×V}{a:AC}{o:HO}(e:H a=none)(h:Cb H x kv):Cb (upd H a o) x kv:=by
 let(p,e1,e2):=h;exact#[p,e1,by rw[au (aD e2 e)];exact e2]
theorem wB{H:Hp}{s:Da}{A:Fk}{E:Yy}{a:AC}{k:Key}{v:V}{kr r:AT}{m:!(Key×V)}{Q:Unit->Da->Prop}(I:Inv X TW σ H s)(e:H a=some (.dK m))(ry:RelV (kV k) kr)(l:m.length < FB)(rv:RelV v r)(h:∀ s',Inv X TW σ (upd H a (.dK (putK m k v))) s'->Ev.SameBut a s.heap s'.heap->Q Unit.unit s'):EQ (model X.prog X.w) A (dictSet a kr r) Q E s:=by
 let(z,hd,vs,rel,dd):=Cp I.bf e;have hz:vs.length<=FB:=by rw[<- rel.length];exact z
 have hl:(putK m k v).length<=FB:=by have:=eG m k v;cbv
 show wpAny_dictSet_pairs (hsz:=hz) (mJ ry) dd λh' dd' hs=>h _ ?_ hs;have he:∃ q,h'.get? a=some q:=let #[q,_,_,hq,_]:=dd';#[q,hq];exact nv I (by rw[e];exact True.intro) hs he (vX hl hd (rel.put k rv) dd')
theorem nX{A:Fk}{E:Yy}{a it l:AC}{xs:!V}{Q:Da->Prop}(hh:A.in1.handled=none):∀ (rest:!(Key×V)) (i:Nat) (acc:!(Key×V)) (H:Hp) (s:Da),
  Inv X TW σ H s->H a=some (.dK acc)->H l=some (.tup xs)->Paired (Cb H) (xs.drop i) rest->iq X TW H it->s.heap.IsTupleIter it l i->acc.length+rest.length < FB ->
  (∀ s',Inv X TW σ (upd H a (.dK (jl acc rest))) s'->Q s') ->
  codeAny (model X.prog X.w) A (.builtin "dict.update.loop" #[[.ref a,.ref it,KM i,.none],[]]) (wants (λr s2=>r=.none/\Q s2) E) s
 | [],i,acc,H,s,I,ha,hl,hp,hf,hit,hz,q=>by
  have hx:xs.drop i=[]:=X3 (Paired.length hp);let(its,rv,pl,_):=I.tuple (.of hl);have hn:its.toArray[i]?=none:=by
   have:=rv.length;have:=congrArg List.length hx;simp at this ⊢;cbv
  show codeAny_builtin qC ?_;rw[Fk.under_plain U U];change EQ _ _ (pyNext (.ref it) >>= _) _ _ _;show Db (wpAny_pyNext_tuple_end hh hit (show s.heap.IsTuple l its.toArray from pl) hn λh' eb=>?_);have I1:Inv X TW σ H { s with heap:=h' }:=Inv.kJ (t':=s.toks) (fp:=[it]) I (λb o hb z=>eb b o (λy=>hb (by simp[y])) z) λb hb=>by rw[List.mem_singleton.mp hb];exact hf
  change EQ _ _ (GE.Dict.addKeywords a [] >>= _) _ _ _;show Db (Fr (Fr #[U,q _ ?_]));have e:upd H a (.dK (jl acc []))=H:=by
   funext b
   by_cases hb:b=a
   .subst hb;rw[ax,ha]
    rfl
   .rw[au hb]
  rw[e];exact I1
 | kv::rest,i,acc,H,s,I,ha,hl,hp,hf,hit,hz,q=>by
  have hZ:i < xs.length:=by
   have:=Paired.length hp;rw[WY,Ws] at this;cbv
  rw[W2 hZ] at hp;cases hp with
  | cons hx hr =>
  let(p,e1,e2):=hx;let(its,rv,pl,_):=I.tuple (.of hl);let(u,hu1,ru):=rv.get (show xs[i]?=some xs[i] from Wy hZ);rw[e1] at ru;have ru:u=.ref p:=ru;subst ru;show codeAny_builtin qC ?_;rw[Fk.under_plain U U];change EQ _ _ (pyNext (.ref it) >>= _) _ _ _;show Db (wpAny_pyNext_tuple_item hit (show s.heap.IsTuple l its.toArray from pl) (by simpa using hu1) λh' hit' hs=>?_);have I1:Inv X TW σ H { s with heap:=h' }:=Inv.kJ (t':=s.toks) (fp:=[it]) I (λb o hb z=>(hs.2 b (λy=>hb (by simp[y]))).trans z) λb hb=>by rw[List.mem_singleton.mp hb];exact hf
  let(_,ps,rp,op,g1,g2,nn,g3,_):=(show cj X.prog X.w H h' p (.tup [kV kv.1,kv.2]) from I1.bf p _ e2);let(kr,vr,rfl,rk,rvv):=Vals.two rp;change EQ _ _ (holding [AT.ref p] _ >>= _) _ _ _;show Db (PP (Db (wpAny_tryCatch ?_)));have hT:Da.TypeIs { s with heap:=h' } (.ref p) "tuple":=#[op,g1,g2];unfold GE.Dict.pairItems;show Db (wpAny_typeOf hT ?_);rw[if_pos ()];show Db (SL g1 g3 (Fr ?_));change EQ _ _ (holding [kr,vr] (dictSet a kr vr)) _ _ _;have hzl:acc.length+(rest.length+1) < FB:=hz;show PP (wB I1 ha rk (by cbv) rvv λs2 I2 tU=>?_);have hia:it≠a:=λz=>by
   subst z;rw[hf.1] at ha;cases ha
  have hla:l≠a:=λz=>by
   subst z;rw[hl] at ha;cases ha
  show Fr #[Code.quiet_builtin _ (by decide+kernel),?_];have eR:=eG acc kv.1 kv.2;show nX hh rest (i+1) (putK acc kv.1 kv.2) (upd H a (.dK (putK acc kv.1 kv.2))) s2 I2 ax (by rw[au hla];exact hl) (Paired.zM hr λ_ _ z=>Cb.up ha z) #[by rw[au hia];exact hf.1,hf.2] (hit'.at λo z=>(tU.2 it hia).trans z) (by cbv) λs3 I3=>q s3 ?_;rw[rb] at I3;exact I3
theorem uY{H:Hp}{s:Da}{E:Yy}{l:AC}{xs:!V}{kvs:!(Key×V)}{Q:Yy}(hh:X.A.handled=none)(I:Inv X TW σ H s)(hl:H l=some (.tup xs))(hp:Paired (Cb H) xs kvs)(hz:kvs.length < FB)(h:∀ a s',H a=none->Inv X TW σ (upd H a (.dK (jl [] kvs))) s'->Q (.ref a) s'):EQ (model X.prog X.w) X.A (call (.type "dict") [.ref l]) Q E s:=by
 show callType_codes (Q₁:=λobj s₁=>obj=.ref ↑s/\s₁={ s with heap:=s.heap.push { cls:=.type "dict",data:=.dict #v[] } }) PySem.F.kt_called_dict (PySem.F.kt_typeCall_dict_1 _) PySem.F.entry_dict_init (kt_code_dict_new _ #[U,U]) λobj s₁ h₁=>?_;let(rfl,rfl):=h₁;have vq:H ↑s=none:=I.bf.fresh (Wo _);have I1:Inv X TW σ (upd H ↑s (.dK [])) { s with heap:=s.heap.push { cls:=.type "dict",data:=.dict #v[] } }:=I.laid (a:=↑s) (o:=.dK []) (t':=s.toks) (λ_ _ q=>Wl _ q) (Wo _) (uO s.heap I.big);have hT:Da.TypeIs { s with heap:=s.heap.push { cls:=.type "dict",data:=.dict #v[] } } (.ref ↑s) "dict":=#[_,Wz _ U,U];show#[hT,PySem.F.args_dict_init_2 _ _,?_];unfold GE.«dict.__init__»;show Db ?_;unfold GE.Dict.selfAndRest;show Db (wpAny_notOrdered_dict hT ?_);show Fr ?_;change EQ _ _ (GE.Dict.updateFrom "dict.__init__" ↑s (.ref l) [] .none) _ _ _;have AB:upd H ↑s (.dK []) l=some (.tup xs):=by rw[au (aD hl vq)];exact hl
 let(_,its,rv,(cl,od,dt,sl),x1,x2,nn,x4,x3):=(show cj X.prog X.w _ _ l (.tup xs) from I1.bf l _ AB)
 replace x2:cl=.type "tuple":=x2
 replace x3:od=none:=x3
 replace x4:dt=.seq its.toArray nn:=x4
 subst x2 x3 x4;have hTl:Da.TypeIs { s with heap:=s.heap.push { cls:=.type "dict",data:=.dict #v[] } } (.ref l) "tuple":=#[_,x1,U];unfold GE.Dict.updateFrom;show Db (wpAny_typeOf hTl ?_);rw[if_pos ()];have hhn:(X.A.in1.in1).handled=none:=hh;show Db (JC.Bf hhn x1 λh' t' k=>?_);have I2:Inv X TW σ (upd H ↑s (.dK [])) { s with heap:=h',toks:=t' }:=I1.kept (t':=t') k;have hL2:Ev.IsTuple h' l its.toArray:=#[_,k l _ x1,U,nn,U];change EQ _ _ (rule _ >>= _) _ _ _;show Db (wpAny_rule ?_);show Db (wpAny_pyIter_tuple (s:={ s with heap:=h',toks:=t' }) hL2 ?_);have I3:=I2.kept (h':=h'.push { cls:=.type "tuple_iterator",data:=.fields #v[.ref l,.int 0 0] }) (t':=t') λb u z=>Wl _ z;have hZ:↑s < h'.objs.size:=Ww (k _ _ (Wz _ U));have JS:upd H ↑s (.dK []) h'.objs.size=none:=by
  rw[au (Xx hZ)];exact I.bf.fresh (XY hZ)
 show Fr #[Code.quiet_builtin _ (by decide+kernel),?_];show nX (A:=X.A.in1) hh kvs 0 [] (upd H ↑s (.dK [])) _ I3 ax AB (by rw[List.drop_zero];exact Paired.zM hp λ_ _ z=>z.new vq) (I2.rK (Nat.le_refl _) JS) #[_,Ev.get?_push_size _ U,U,U] (by simpa using hz) λs' I4=>h _ s' vq ?_;rw[rb] at I4;exact I4
def AJ:!V->Hp->VK->Prop:=λvs H Q=>∃ l xs kvs,vs=[.ref l]/\H l=some (.tup xs)/\Paired (Cb H) xs kvs/\kvs.length < FB/\∀ a,H a=none->Q (.ref a) (upd H a (.dK (jl [] kvs)))
theorem wg(hc:X.calm=true):dB X (.type "dict") AJ:=by
 intro TW s σ H xs us Q I r h;let(l,ys,kvs,rfl,hl,hp,hz,q):=h;let(u,rfl,ru):=Vals.one r;cases ru;exact uY (I.ok.hd hc) I hl hp hz λa s' hn I2=>#[.ref a,_,I2,U,q a hn]
end
end L2
namespace DL
open PySem PySem.Spec L2
section
variable{X:Cx}{c:Ent}
theorem wk{kvs:!(Key×V)}{acc:!(Key×V)}(h:((acc++kvs).map (·.1)).Nodup):jl acc kvs=acc++kvs:=by
 induction kvs generalizing acc with
 | nil=>rw[WH];rfl
 | cons kv r ih =>
  change jl (putK acc kv.1 kv.2) r=_;have hv:fH acc kv.1=none:=by
   rw[Wv,W6] at h;cases e:fH acc kv.1 with
   | none=>rfl
   | some v =>
    exfalso;have:kv.1∈acc.map (·.1):=Ek e;exact h.2.2 _ this _ (by simp) U
  rw[ku kv.2 hv,ih (by rw[WN];exact h),WN]
  rfl
def Je(ds:!D)(k:D->Prop):Prop:=∃ qs:!(Str×D),ds=[.tup (qs.map λq=>.tup [.str q.1,q.2])]/\(qs.map (·.1)).Nodup/\qs.length < FB/\k (.uJ (qs.map λq=>.inr q.1) (qs.map (·.2)))
theorem CZ{K:Frag}{H:Hp}{M:AC->Prop}:∀ {qs:!(Str×D)} {xs:!V},ay K H M (qs.map λq=>.tup [.str q.1,q.2]) xs->∃ kvs:!(Key×V),Paired (Cb H) xs kvs/\kvs.map (·.1)=qs.map (λq=>.inr q.1)/\ay K H M (qs.map (·.2)) (kvs.map (·.2))
 | [],xs,r=>by
  have r:xs=[]:=r;subst r;exact#[[],.nil,U,U]
 | q::qs,xs,r=>by
  let(x,xr,rfl,(p,ys,rfl,t,r1),r2):=r;let(v,w,rfl,rv,rw'):=qK r1;have rv:v=.str q.1:=rv;subst rv;let(kvs,h1,h2,h3):=CZ r2;exact#[(.inr q.1,w)::kvs,.cons #[p,U,t.2] h1,by rw[Wu,Wu,h2],#[w,_,U,rw',h3]]
theorem AG:EG X c AJ Je:=λM s as σ H xs ds k Q L r z3r q=>by
 let(qs,e,hn,hz,hk):=z3r;subst e;let(v,rfl,p,ys,rfl,t,r1):=cU r;let(kvs,h1,h2,h3):=CZ r1;have hl:kvs.length=qs.length:=by simpa using congrArg List.length h2
 show#[p,ys,kvs,U,t.2,h1,by cbv,λa ha=>?_];rw[wk (acc:=[]) (by rw[WQ,h2];exact List.Pairwise.map _ (λa b hab z=>hab (Sum.inr.inj z)) (List.Pairwise.of_map _ (λa b hab=>hab) hn))];exact q _ hk a (.dK kvs) ha #[h2,h3]
end
section
variable{X:Cx}{c:Ent}{k i:Nat}{f:AC}{fd:Gc}{ps:!Str}{t:YA}{x:Str}{p pos:Pos}{e:Ch}{es:!Ch}{ta:d8}
end
end DL
namespace DF
open PySem PyProof.Rows
variable{prog:Fa}{w:FS}{A:Fk}{E:Yy}{s:Da}{it d:AC}{i ep:Nat}{es:Array Sc}{od:Obj}
end DF
namespace L2
open PySem PySem.Spec PyProof.Rows DL
section
variable{X:Cx}
end
end L2
namespace L2
open PySem PySem.Spec DL
open PyProof.Rows hiding St
section
variable{X:Cx}
end
end L2
namespace DL
open PySem PySem.Spec L2
open PyProof.Rows hiding St
section
variable{K:Frag}{c:Ent}{M M' M1:AC->Prop}{s s' s1:DS}{as:!AC}{σ:St}{H H' H1:Hp}{a q:AC}{o:HO}
end
section
variable{X:Cx}{c:Ent}{e:Ch}{te:aZ}
end
section
variable{X:Cx}{c:Ent}
end
end DL
namespace L2
open PySem PySem.Spec
open PyProof.Rows hiding St
section
variable{X:Cx}
end
end L2
namespace DL
open PySem PySem.Spec L2
open PyProof.Rows hiding St
section
variable{X:Cx}{c:Ent}
end
end DL
namespace L2
open PySem PySem.Spec
open PyProof.Rows hiding St
section
variable{X:Cx}{TW:Yz}{σ:St}{H:Hp}
end
end L2
namespace DL
open PySem PySem.Spec L2
section
variable{X:Cx}{c:Ent}
end
end DL
namespace DL
open PySem L2
section
variable{X:Cx}{c:Ent}{a b e:Ch}{pos:Pos}{ta tb tc:aZ}
def xA(C C':D->D->(D->Prop)->Prop)(ta tb tc:aZ):aZ:=λs Q=>ta s λa s1=>tb s1 λb s2=>C a b λd=>∃ k,d=.bl k/\if k=true then tc s2 λe s3=>C' b e λz=>Q z s3 else Q (.bl false) s2
theorem IS{r r':R2}{C C':D->D->(D->Prop)->Prop}(k:m7 X c r C)(k':m7 X c r' C'){σ:St}{H:Hp}{Q:VK}:tE X.K c (xA C C' ta tb tc) σ H Q->vA r r' (tE X.K c ta) (tE X.K c tb) (tE X.K c tc) σ H Q:=λzz=>cZ zz λM s as R L q kk =>
 #[M,s,as,_,L,q,λda s1 q1 M1 H1 x L1 E1 r1=>#[M1,s1,as,_,L1,q1,λdb s2 q2 M2 H2 y Lb E2 r2 =>
  k M2 s2 as σ H2 x y da db _ _ Lb (E2.rep L1 r1) r2 q2 λd rd M' H' v L' E' rv=>by
   let(kb,rfl,rd):=rd;show#[kb,rv,?_];have E4:=(E1.trans L1.base E2).trans Lb.base E';cases kb with
   | false=>exact kk (.bl false) s2 rd M' H' _ L' E4 U
   | true=>exact#[M',s2,as,_,L',rd,λde s3 q3 M3 H3 w Lc E3 r3=>k' M3 s3 as σ H3 y w db de (λd=>R d s3) Q Lc (E3.rep L' (E'.rep Lb r2)) r3 q3 λd rd M4 H4 v L4 E5 rv=>kk d s3 rd M4 H4 v L4 ((E4.trans L'.base E3).trans Lc.base E5) rv]]]
theorem Ap{op Ce:CmpOp}{r r':R2}{C C':D->D->(D->Prop)->Prop}(ho:gF X (IR op) r)(yO:gF X (IR Ce) r')(k:m7 X c r C)(k':m7 X c r' C')(ha:DE X c a ta)(hb:DE X c b tb)(hc:DE X c e tc)(hm:lastMarks [op,Ce] [b,e]=false:=by with_unfolding_all rfl):DT X c (.Compare a [op,Ce] [b,e] pos) (FE (xA C C' ta tb tc)):=#[(vj ho yO ha.pe hb.pe hc.pe hm).imp λ_ _ _=>gT (IS k k')]
end
end DL
namespace DL
open PySem PySem.Spec L2
open PyProof.Rows hiding St
section
variable{X:Cx}{c:Ent}
theorem DU{ty td:aZ}{σ:St}{H:Hp}{Q:VK}:tE X.K c (xZ true ty td) σ H Q->yG (tE X.K c ty) (tE X.K c td) σ H Q:=λzz=>cZ zz λM s as R L q kk =>
 #[M,s,as,_,L,q,λdy s1 q1 M1 H1 y L1 E1 ry=>#[M1,s1,as,_,L1,q1,λd s2 z4r M2 H2 v Lb E2 rv=>by
  let(hd,q2):=z4r;let(a,o,rfl,f1,f2):=rv.dc hd;let(ov,od,w1,w2,w3):=nk q2 f1 f2 (E2.rep L1 ry);show#[a,ov,U,w1,?_];have e:ov.isSome=od.isSome:=by
   rcases w3 with ⟨rfl,rfl⟩ | ⟨v,x,rfl,rfl,rx⟩<;>rfl
  rw[e];exact kk _ s2 w2 M2 H2 _ Lb (E1.trans L1.base E2) U]]
theorem DB{i o:Ch}{pos:Pos}{ty td:aZ}(hu:X.A.units+1 < cLine)(hi:DE X c i ty)(ho:DE X c o td)(h1:(behindInMarks .NotIn o=false)⁻¹):DT X c (.Compare i [.NotIn] [o] pos) (FE (xZ true ty td)) :=
 #[(BY (zq hu hi.pe ho.pe) h1).imp λσ H Q q=>gT DU q]
def OV:D->D->(D->Prop)->Prop:=λa b k=>∃ i j,a=.str i/\b=.str j/\k (.bl (not (decide (j.cps.toList < i.cps.toList))))
theorem FD:m7 X c (λx y H Q=>∃ i j,x=.str i/\y=.str j/\Q (.bl (not (decide (j.cps.toList < i.cps.toList)))) H) OV:=λM s as σ H x y dx dy k Q L rx ry z5r kk=>by
 let(i,j,e1,e2,hk):=z5r;subst e1 e2;exact#[i,j,rx,ry,kk _ hk M H _ L .refl U]
end
end DL
namespace DL
open PySem L2
section
variable{X:Cx}{c:Ent}{k:Nat}{p pos:Pos}{a b e:Ch}{es:!Ch}{tf:aZ}{ta:d8}
end
end DL
namespace DL
open PySem L2 PyProof.Rows
def Pq(H:Hp)(dd:Option AC)(fs:!(Str×V)):Prop:=(fs=[]/\dd=none)\/∃ d,dd=some d/\H d=some (xf d fs)
def He(C:AC):Sp:=λvs H Q _=>∃ ea,vs=[.ref ea]/\H ea=some (xo ea C none true)/\Q .br H
abbrev XD:=AC->!(Str×V)->Prop
def XT(E:XK)(c:Ent)(RX:XD):Prop:=∀ C fs,RX C fs->∀ M' H' dd,Base c M' H'->Pq H' dd fs->E (.ref C) dd H'
def MY(K:Frag)(t:!D->(D->Prop)->XD->Prop):Sp:=λvs H Q E=>∃ M ds R RX,Base #[.no,M,H] M H/\ay K H M ds vs/\t ds R RX/\(∀ d,R d->∀ M' H' v,Base #[.no,M,H] M' H'->Rep K H' M' d v->Q v H')/\XT E #[.no,M,H] RX
theorem Base.same{M0 M:AC->Prop}{H0 H H':Hp}(B:Base #[.no,M0,H0] M H)(S:dh H H'):Base #[.no,M0,H0] M H' :=
 #[trivial,λb o e n=>S b o (B.fr b o e n),λb m=>let #[o,e]:=B.md b m;#[o,S b o e],B.mo,B.m0,B.mn]
theorem IE{H:Hp}{ea:AC}{o1 o4:HO}(h1:H ea=none):dh H (upd (upd H ea o1) ea o4):=λb u e=>by
 have n1:=aD e h1;rw[au n1,au n1];exact e
section
variable{P:Fa}{w:FS}{K:Frag}{mg:Str->Option AT}{base:Ev}
theorem fnX{x qual:Str}{st:FM}{f:AC}{fd:Gc}{N ps:!Str}{k nos:Nat}{t:!D->(D->Prop)->XD->Prop}(F:ny K x qual st f fd)(S:aw N ps (ag st))(len:∀ ds R RX,t ds R RX->ds.length=ps.length)(hb:∀ (bq:AT) (A:Fk) (outer:!Env) (s:Da) (H:Hp) (E:XK) (M:AC->Prop) (RX:XD),bU k (A.deeper (envOfC qual (ag st) ↑s f bq))->XT E #[.no,M,H] RX ->
   ∃ tb,l8 (Dk P w K mg base N qual (ag st) f bq A outer s H E) #[.no,M,H] (aG st) tb/\∀ ds R,t ds R RX->tb { nx:=λ_=>R .br,rt:=R } (ei N.length nos ds)):bY P w K mg base (pJ P w) (k+1) f fd ps (MY K t):=by
 show F.SK S (λvs H Q E h=>?_) λbq A outer s H vs Q E hr h=>?_
 .let(M,ds,R,RX,B,r,q,_):=h;rw[r.length];exact len ds R RX q
 .let(M,ds,R,RX,B,r,q,kk,hX):=h;let(tb,h1,h2):=hb bq A outer s H E M RX hr hX;exact#[_,h1.ps,M,_,_,_,jZ B r U,h2 ds R q,#[λs as M' σ H' r L _=>kk .br r M' H' .br L.base U,λ_ _ _ _ _ z=>z.elim,λ_ _ _ _ _ z=>z.elim,λd M' H' v r B' rv=>kk d r M' H' v B' rv,λ_ _ _ _ _ z=>z.elim,λ_ _ _ _ _ _ _ z=>z.elim]]
end
section
variable{X:Cx}{M0:AC->Prop}{H0:Hp}{E:XK}{RX:XD}{C f:AC}{fd:Gc}{x:Str}{p p2 pos:Pos}{e:Ch}{es:!Ch}{te:aZ}{ta:d8}{k:Nat}{ps:!Str}
end
abbrev Dj:=!AC->!D->!D->(D->!D->Prop)->XD->Prop
def lK(K:Frag)(t:Dj):Sp:=λvs H Q E=>∃ rs M ds cs R RX,Base #[.no,M,H] M H/\rW K H M rs cs/\ay K H M ds vs/\t rs ds cs R RX /\
 (∀ x eP,R x eP->∀ M' H' v,Base #[.no,M,eu H rs] M' H'->rW K H' M' rs eP->Rep K H' M' x v->Q v H')/\XT E #[.no,M,eu H rs] RX
section
variable{P:Fa}{w:FS}{K:Frag}{mg:Str->Option AT}{base:Ev}
theorem ME{x qual:Str}{st:FM}{f:AC}{fd:Gc}{N ps:!Str}{k nos n:Nat}{t:Dj}(F:ny K x qual st f fd)(S:aw N ps (ag st))(len:∀ rs ds cs R RX,t rs ds cs R RX->ds.length=ps.length/\rs.length=n)(hb:∀ (bq:AT) (A:Fk) (outer:!Env) (s:Da) (H:Hp) (E:XK) (M:AC->Prop) (rs:!AC) (RX:XD),bU k (A.deeper (envOfC qual (ag st) ↑s f bq))->rs.length=n->XT E #[.no,M,eu H rs] RX ->
   ∃ tb,l8 (Dk P w K mg base N qual (ag st) f bq A outer s H E) #[gO rs,M,eu H rs] (aG st) tb/\∀ ds cs R,t rs ds cs R RX->tb (zk n R) (i9 N.length nos ds cs)):bY P w K mg base (pJ P w) (k+1) f fd ps (lK K t):=by
 show F.SK S (λvs H Q E h=>?_) λbq A outer s H vs Q E hr h=>?_
 .let(rs,M,ds,cs,R,RX,B,hh,r,q,_):=h;rw[r.length];exact (len rs ds cs R RX q).1
 .let(rs,M,ds,cs,R,RX,B,hh,r,q,kk,hX):=h;have hn:=(len rs ds cs R RX q).2;let(tb,h1,h2):=hb bq A outer s H E M rs RX hr hn hX;show#[_,h1.ps,M,_,_,_,iE B hh r,h2 ds cs R q,#[λs as M' σ H' #[eP,hc,r'] L _=>?_,λ_ _ _ _ _ z=>z.elim,λ_ _ _ _ _ z=>z.elim,λ_ _ _ _ z=>z.elim,λ_ _ _ _ _ z=>z.elim,λx s as M' σ H' v #[eP,hc,r'] L rv=>?_]]
  .exact kk .br eP r' M' H' .br L.base.vt (L.held hn hc) U
  .exact kk x eP r' M' H' v L.base.vt (L.held hn hc) rv
end
section
variable{X:Cx}{k m n:Nat}{rs:!AC}{M0:AC->Prop}{H0:Hp}{E:XK}{RX:XD}{q:D3}{x:Str}{p p2 pos apos:Pos}{o e:Ch}{es:!Ch}{ta:d8}{te tv:aZ}{t:Dj}{C f:AC}{fd:Gc}{ks:!Str}
def E7(rs:!AC)(t:Dj)(RX:XD)(ta:d8):aZ:=λs Q=>ta s λds s1=>∃ cs,t8 (s1.os.take rs.length)=some cs/\t rs ds cs (λx eP=>Q x (s1.back rs.length eP)) RX
theorem yQ{M1 M':AC->Prop}{H1 H':Hp}{s1:DS}{as:!AC}{σ:L2.St}{cs:!D}(L1:aA X.K #[gO rs,M0,H0] M1 s1 as σ H1)(hc:t8 (s1.os.take rs.length)=some cs)(B:Base #[.no,M1,eu H1 rs] M' H'):Base #[.no,M0,H0] M' H' :=
by
 have z0:∀ r∈rs,H0 r=none/\¬ M1 r:=λr hr=>by
  let(k,hk):=X9 hr;let(d,_,q2,q3):=L1.at_ U hc hk;let(_,nm,_,h0):=L1.obj k d r q2 q3;exact#[h0,nm]
 have kp:∀ b u,b∉rs->H1 b=some u->H' b=some u:=λb u nb e=>B.fr b u (by change eu H1 rs b=_;rw[ja nb];exact e) λz=>z;show#[True.intro,λb u e g=>kp b u (λz=>?_) (L1.base.fr b u e λz=>z),B.md,λ_ _ z=>z,λb m=>B.m0 b (L1.base.m0 b m),λb m=>?_]
 .have e:H0 b=some u:=e;rw[(z0 b z).1] at e;cases e
 .by_cases hb:b∈rs
  .exact .inr (.inl (z0 b hb).1)
  rcases B.mn b m with m | n
  .exact L1.base.mn b m
  .have n:Nu (eu H1 rs) b:=n;unfold Nu at n;rw[ja hb] at n;rcases n with n | ⟨xs,n⟩
   .exact .inr (.inl (L1.base.mH n))
   .refine .inr ?_;cases e:H0 b with
    | none=>exact .inl e
    | some o =>
     have:=L1.base.fr b o e λz=>z;rw[n] at this;cases this;exact .inr #[xs,e]
def XO(RX:XD)(M0:AC->Prop)(H0:Hp):XK:=λcv dd H'=>∃ C fs M',cv=.ref C/\RX C fs/\Base #[.no,M0,H0] M' H'/\Pq H' dd fs
theorem xB{M1:AC->Prop}{H1:Hp}{s1:DS}{as:!AC}{σ:L2.St}{ds cs:!D}{vs:!V}{Q:VK}{R:D->!D->Prop}(L1:aA X.K #[gO rs,M0,H0] M1 s1 as σ H1)(hc:t8 (s1.os.take rs.length)=some cs)(r1:ay X.K H1 M1 ds vs)(q1:t rs ds cs R RX)(kk:∀ x eP,R x eP->∀ M' H' v,aA X.K #[gO rs,M0,H0] M' (s1.back rs.length eP) as σ H'->Ext #[gO rs,M0,H0] as M1 s1 H1 M' (s1.back rs.length eP) H'->Rep X.K H' M' x v->Q v H'):lK X.K t vs H1 Q (XO RX M0 H0) :=
 #[rs,M1,ds,cs,R,RX,L1.base.qw,L1.held U hc,r1,q1,λx eP rx M' H' v B h rv=>kk x eP rx M' H' v (L1.given hc B h).1 (L1.given hc B h).2 rv,λC fs hx M' H' dd B fa=>#[C,fs,M',U,hx,yQ L1 hc B,fa]]
theorem qI(hp:∀ E':XK,(∀ c dd H',E' c dd H'->E c dd H')->Passes (pJ X.prog X.w) X E')(hX:XT E #[.no,M0,H0] RX)(hr:bU m X.A)(G:C4 X.prog X.w X.K X.mg X.base (pJ X.prog X.w) q k (lK X.K t))(ha:DA X #[gO rs,M0,H0] (e::es) ta)(hx:(q.1=x)⁻¹)(hk:k<=m:=by ac_rfl)(hg:(Gl X x)⁻¹)(gH: ~~~(YD x))(he:(YB X.env e es)⁻¹)(eR:(YC X.env pos es)⁻¹) :
  DE X #[gO rs,M0,H0] (.Call (.Name x p) (e::es) [] pos) (E7 rs t RX ta):=by
 subst hx;let(f,fd,G,F,hm,hb):=G;exact#[(jb G (hr.mono hk) hg hm F.kp hb .nil (E:=XO RX M0 H0) (hp _ λcv dd H' z=>by let(C,fs,M',e,h1,h2,h3):=z;subst e;exact hX C fs h1 M' H' dd h2 h3) ha.pa gH he eR).imp λσ H Q zz=>cZ zz λM s as R L q kk =>
  #[M,s,as,_,L,q,λds s1 #[cs,hc,q1] M1 H1 vs L1 E1 r1 hl=>xB L1 hc (by rw[WH];exact r1) q1 λx eP rx M' H' v L2 E2 rv=>kk x _ rx M' H' v L2 (E1.trans L1.base E2) rv]]
def vp(P:Fa)(w:FS)(K:Frag)(mg:Str->Option AT)(base:Ev)(C:AC)(d:D3)(k:Nat)(sp:Sp):Prop:=∃ f fd,bY P w K mg base (pJ P w) k f fd d.2.2 sp/\Meth K C d.1 f/\Binds K fd d.2.2 []
def ED(rs:!AC)(k:Nat)(C:AC)(ks:!Str)(te:aZ)(t:Dj)(RX:XD)(ta:d8):aZ:=λs Q=>te s λd s1=>∃ a vs,d=.cT a/\rs[k]?=some a/\s1.os[k]?=some (some (.ob C ks vs))/\ta s1 λds s2=>∃ cs,t8 (s2.os.take rs.length)=some cs/\t rs (d::ds) cs (λx eP=>Q x (s2.back rs.length eP)) RX
theorem xI{pl:Sem Bool}{mm:Str}(j:Nat)(ks:!Str)(c:vy X.K C)(hp:∀ E':XK,(∀ c dd H',E' c dd H'->E c dd H')->Passes (pJ X.prog X.w) X E')(hX:XT E #[.no,M0,H0] RX)(hr:bU m X.A)(G:vp X.prog X.w X.K X.mg X.base C q k (lK X.K t))(ho:DE X #[gO rs,M0,H0] o te)(ha:DA X #[gO rs,M0,H0] (e::es) ta)(hx:(q.1=mm)⁻¹)(hk:k<=m:=by ac_rfl)(vx:mm∉ks:=by decide+kernel)(nq:(YB X.env e es)⁻¹)(eR:(YC X.env pos es)⁻¹)(ht:(eval (.Call (.Attribute o mm apos) (e::es) [] pos) X.env=(do
   let ov <- eval o X.env
   standAt apos.atName
   let (f,first) <- holding [ov] (getMethod ov mm pl)
   callWith pos f first (Ix pos (Go (e::es) X.env)) (Re pos (Rs [] X.env))))⁻¹) :
  DE X #[gO rs,M0,H0] (.Call (.Attribute o mm apos) (e::es) [] pos) (ED rs j C ks te t RX ta):=by
 subst hx;let(f,fd,G,hm,hb):=G;exact#[(xO ho.pe c hm G (hr.mono hk) hb .nil (E:=XO RX M0 H0) (hp _ λcv dd H' z=>by let(C,fs,M',e,h1,h2,h3):=z;subst e;exact hX C fs h1 M' H' dd h2 h3) ha.pa nq eR ht).imp λσ H Q zz=>cZ zz λM s as R L q kk =>
  #[M,s,as,_,L,q,λd s1 z M1 H1 v L1 E1 rv=>by
   let(a,vs,ed,hj,ho,q1):=z;subst ed;have rv:v=.ref a:=rv;subst rv;let(dx,fs,h1,h2,h3):=lp L1 hj ho;show#[a,dx,fs,U,h1,lF (by rw[h2];exact vx),M1,s1,as,_,L1,q1,λds s2 #[cs,hc,q2] M2 H2 vs L2 E2 r2 hl=>?_];exact xB L2 hc (ds:=.cT a::ds) #[_,_,U,U,by rw[WH];exact r2] q2 λx eP rx M' H' v L3 E3 rv=>kk x _ rx M' H' v L3 ((E1.trans L1.base E2).trans L2.base E3) rv]]
theorem nY(hc:X.calm=true)(hR:Raises X E)(hX:XT E #[.no,M0,H0] RX)(M:Kc X.K C f)(G:bY X.prog X.w X.K X.mg X.base bu 1 f fd ["self"] (He C))(hr:bU 2 X.A)(hg:Gl X x)(hm:X.mg x=some (.ref C))(b:Binds X.K fd ["self"] [])(gH: ~~~(YD x)):pW X #[gO rs,M0,H0] (.Raise (some (.Call (.Name x p) [] [] p2)) none pos) (λ_ _=>RX C []) :=
 #[(CQ hc hR (yK M G hr hg hm b gH)).imp λE σ H z6q=>by let(M',s,as,R,L,q,_):=z6q;exact#[by change 0<=1000;decide,λea tZ=>#[ea,U,ax,U,ea,_,_,U,ax,M.toExC,hX C [] q M' _ none (L.base.vt.same (IE tZ)) (.inl #[U,U])]]]
end
end DL
namespace L2
open PySem PyProof.Rows
section
variable{X:Cx}
end
end L2
namespace DL
open PySem L2 PyProof.Rows
section
variable{X:Cx}{M0:AC->Prop}{H0:Hp}{f:AC}{fd:Gc}{x xn:Str}{p p2 p3 p5 p6 pos:Pos}{a e:Ch}{es:!Ch}{t0:aZ}{ta:d8}{k i:Nat}{ps:!Str}{th:Gq}
end
end DL
namespace L2
open PySem PyProof.Rows
section
variable{X:Cx}
theorem oY:∀ {as:!AC} {us:!AT},Vals (as.map V.ref) us->us=as.map AT.ref
 | [],_,.nil=>rfl
 | a::as,u::us,.cons h r=>by
  obtain rfl:u=AT.ref a:=h;rw[oY r]
  rfl
def Ga(K:Frag)(as:!AC):!V->Hp->VK->Prop:=λxs H Q=>∃ ea C dd fr b p,xs=[.ref ea,.ref p]/\iu K H p (as.map V.ref)/\H ea=some (xo ea C dd fr)/\df H dd/\MB K C/\kitAny K (.ref C) (as.map AT.ref)=some b/\Q (.bl b) H
theorem zT{K:Frag}{as:!AC}(hK:X.K=K):dB X (.builtin "isinstance") (Ga K as):=by
 subst hK;intro TW s σ H xs us Q I r h;let(ea,C,dd,fr,b,p,rfl,ht,e,D,t,k,q):=h;cases r with
 | @cons _ u _ us' ru rr =>
  cases rr with
  | @cons _ u2 _ us2 ru2 rr2 =>
   cases rr2;obtain rfl:u=AT.ref ea:=ru;obtain rfl:u2=AT.ref p:=ru2;let(its,rv,(o,ho,hc,n,hs),_):=I.tuple ht;let(oc,od',odt,zU):=o;cases hc;cases hs;rw[oY rv] at ho;let(ox,od,J):=yt I e (D.at I);exact PySem.W.kia_tup (uW t.toExC t.cc) I.lz J ho k (λz=>nomatch z) λtk=>#[.bl b,H,I.tok _,U,q]
end
end L2
namespace DL
open PySem L2 PyProof.Rows
section
variable{K:Frag}{M0 M M':AC->Prop}{H0 H H':Hp}{s s':DS}{as ki:!AC}{σ σ':L2.St}
theorem aA.down(L:aA K #[.no,M0,H0] M s as σ H)(pV:∀ (k:Nat) (d:D),s.os[k]?≠some (some d)):aA K #[.no,M,H] M s as σ H :=
 #[L.base.qw,L.len,L.dX,L.dat,L.own,λk d a e _=>absurd e (pV k d),λk l d e a h1=>absurd h1 (pV _ _),L.lt]
theorem aA.up(L:aA K #[.no,M0,H0] M s as σ H)(L':aA K #[.no,M,H] M' s' ki σ' H'):aA K #[.no,M0,H0] M' s' ki σ' H' :=
 #[(L.after L'.base).base,L'.len,L'.dX,L'.dat,L'.own,λk d a e1 e2=>by
   let(h1,h2,h3,h4):=L'.obj k d a e1 e2;exact#[h1,h2,h3,L.base.mH h4],L'.inj,L'.lt]
theorem aA.Ma{c:Ent}{x:Option V}(L:aA K c M s as σ H)(i:Nat):aA K c M (s.set i .no) as (σ.set i x) H:=by
 have ne:∀ {j:Nat} {y:Sl},(s.set i .no).sl[j]?=some y->y≠.no->s.sl[j]?=some y/\j≠i:=λ{j y} e n=>by
  have e:(s.sl.set i .no)[j]?=some y:=e;by_cases h:i=j
  .subst h;rw[List.getElem?_set] at e;simp at e;exact absurd e.2.symm n
  .rw[Wx h] at e;exact#[e,Ne.symm h]
 show#[L.base,?_,L.dX,λj d e=>?_,λj k e=>?_,L.obj,L.inj,L.lt]
 .show (s.sl.set i .no).length=(σ.set i x).length;rw[Xa,Xa];exact L.len
 .let(e,n):=ne e (by simp);let(v,h1,h2):=L.dat j d e;exact#[v,by rw[Wx (Ne.symm n)];exact h1,h2]
 .let(e,n):=ne e (by simp);let(a,h1,h2):=L.own j k e;exact#[a,h1,by rw[Wx (Ne.symm n)];exact h2]
end
section
variable{X:Cx}{M0:AC->Prop}{H0:Hp}{i:Nat}{ea C d:AC}{dd:Option AC}{fr b:Bool}{e:Ch}{fs:!(Str×V)}{f:Str}{r:Int}
def Se(i:Nat)(ea:AC)(d:D):aZ:=λs Q=>s.sl[i]?=some (.dat (.cT ea))/\Q d s
theorem GA{c:AT}{cv:V}(hc:RelV cv c)(hH:H0 ea=some (xo ea C dd fr))(hD:df H0 dd)(hT:MB X.K C)(hk:kitOne X.K (.ref C) c=some b)(h:PE X e (Df (Ke X.K c) (iI (bR i) (iI (tC cv) sY)))):DE X #[.no,M0,H0] e (Se i ea (.bl b)) :=
 #[h.imp λσ H Q z7q=>by
  let(M,s,as,R,L,(hi,q),kk):=z7q;let(v,h1,h2):=L.dat i _ hi;have h2:v=.ref ea:=h2;subst h2;exact#[_,h1,ea,C,dd,fr,b,cv,U,hc,L.base.fr ea _ hH λz=>z,λd e=>let #[fs,z]:=hD d e;#[fs,L.base.fr d _ z λz=>z],hT,hk,kk _ s q M H _ L .refl U]]
def J0:!AC->TA
 | []=>sY
 | a::as=>iI (tC (.ref a)) (J0 as)
theorem BI:∀ {cs:!AC} {σ:L2.St} {H:Hp} {Q:!V->Hp->Prop},Q (cs.map V.ref) H->J0 cs σ H Q
 | [],_,_,_,h=>h
 | a::cs,σ,H,Q,h=>BI (cs:=cs) (Q:=λxs H2=>Q (.ref a::xs) H2) h
theorem Ib{cs:!AC}(hl:cs.length<=1000)(hH:H0 ea=some (xo ea C dd fr))(hD:df H0 dd)(hT:MB X.K C)(hk:kitAny X.K (.ref C) (cs.map AT.ref)=some b)(h:PE X e (Df (Ga X.K cs) (iI (bR i) (iI (MC (J0 cs)) sY)))):DE X #[.no,M0,H0] e (Se i ea (.bl b)) :=
 #[h.imp λσ H Q z6r=>by
  let(M,s,as,R,L,(hi,q),kk):=z6r;let(v,h1,h2):=L.dat i _ hi;have h2:v=.ref ea:=h2;subst h2;show#[_,h1,BI #[by rw[Wk];exact XY (l4 hl),λp hp=>?_]];have up:∀ b o,H b=some o->upd H p (.tup (cs.map V.ref)) b=some o:=λb o e=>by rw[au (aD e hp)];exact e
  exact#[ea,C,dd,fr,b,p,U,.inl (.inl ax),up _ _ (L.base.fr ea _ hH λz=>z),λd e=>let #[fs,z]:=hD d e;#[fs,up _ _ (L.base.fr d _ z λz=>z)],hT,hk,kk _ s q _ _ _ (L.fresh hp) (Ext.fresh hp) U]]
theorem AF{H:Hp}(h:Pq H dd fs):df H dd:=λd e=>by
 rcases h with ⟨_,h⟩ | ⟨d',h,z⟩
 .rw[h] at e;cases e
 .rw[h] at e;cases e;exact#[_,z]
end
section
variable{P:Fa}{w:FS}{K:Frag}{mg:Str->Option AT}{base:Ev}{q:D3}{N:!Str}{k nos:Nat}{t:!D->(D->Prop)->XD->Prop}
theorem Own.x(o:Own K mg q)(S:aw N q.2.2 (ag q.2.1))(len:∀ ds R RX,t ds R RX->ds.length=q.2.2.length)(hb:∀ (f:AC) (bq:AT) (A:Fk) (outer:!Env) (s:Da) (H:Hp) (E:XK) (M:AC->Prop) (RX:XD),bU k (A.deeper (envOfC q.1 (ag q.2.1) ↑s f bq))->XT E #[.no,M,H] RX ->
   ∃ tb,l8 (Dk P w K mg base N q.1 (ag q.2.1) f bq A outer s H E) #[.no,M,H] (aG q.2.1) tb/\∀ ds R,t ds R RX->tb { nx:=λ_=>R .br,rt:=R } (ei N.length nos ds)):C4 P w K mg base (pJ P w) q (k+1) (MY K t):=o.c λf fd F=>fnX F S len (hb f)
end
section
variable{X:Cx}{M0:AC->Prop}{H0:Hp}{E:XK}{RX:XD}{q:D3}{x:Str}{p p2 pos:Pos}{e:Ch}{es:!Ch}{ta:d8}{k m:Nat}{t:!D->(D->Prop)->XD->Prop}
end
end DL
namespace DL
open PySem PySem.Spec L2
open PyProof.Rows hiding St
section
variable{P:Fa}{w:FS}{K:Frag}{mg:Str->Option AT}{base:Ev}
theorem Own.ox{q:D3}{N:!Str}{k nos n:Nat}{t:Dj}(o:Own K mg q)(S:aw N q.2.2 (ag q.2.1))(len:∀ rs ds cs R RX,t rs ds cs R RX->ds.length=q.2.2.length/\rs.length=n)(hb:∀ (f:AC) (bq:AT) (A:Fk) (outer:!Env) (s:Da) (H:Hp) (E:XK) (M:AC->Prop) (rs:!AC) (RX:XD),bU k (A.deeper (envOfC q.1 (ag q.2.1) ↑s f bq))->rs.length=n->XT E #[.no,M,eu H rs] RX ->
   ∃ tb,l8 (Dk P w K mg base N q.1 (ag q.2.1) f bq A outer s H E) #[gO rs,M,eu H rs] (aG q.2.1) tb/\∀ ds cs R,t rs ds cs R RX->tb (zk n R) (i9 N.length nos ds cs)):C4 P w K mg base (pJ P w) q (k+1) (lK K t):=o.c λf fd F=>ME F S len (hb f)
theorem pR.ox{C:AC}{qual:Str}{q:D3}{N:!Str}{k nos n:Nat}{t:Dj}(o:pR K C qual q)(S:aw N q.2.2 (ag q.2.1))(len:∀ rs ds cs R RX,t rs ds cs R RX->ds.length=q.2.2.length/\rs.length=n)(hb:∀ (f:AC) (bq:AT) (A:Fk) (outer:!Env) (s:Da) (H:Hp) (E:XK) (M:AC->Prop) (rs:!AC) (RX:XD),bU k (A.deeper (envOfC qual (ag q.2.1) ↑s f bq))->rs.length=n->XT E #[.no,M,eu H rs] RX ->
   ∃ tb,l8 (Dk P w K mg base N qual (ag q.2.1) f bq A outer s H E) #[gO rs,M,eu H rs] (aG q.2.1) tb/\∀ ds cs R,t rs ds cs R RX->tb (zk n R) (i9 N.length nos ds cs)):vp P w K mg base C q (k+1) (lK K t):=by
 let(f,fd,F,m,b):=o;exact#[f,fd,ME F S len (hb f),m,b]
end
theorem jB.down{K:Frag}{M0 M M1:AC->Prop}{H0 H H1:Hp}{s:DS}{as:!AC}{σ:L2.St}{R:iR}{E:Ends}(k:jB K #[.no,M0,H0] M H R E)(L:aA K #[.no,M0,H0] M1 s as σ H1)(G:dW M H M1 H1):jB K #[.no,M1,H1] M1 H1 R E :=
 #[λs' ki M' σ' H' r L' G'=>k.nx s' ki M' σ' H' r (L.up L') (G.trans G'),λs' ki M' σ' H' r L' G'=>k.bk s' ki M' σ' H' r (L.up L') (G.trans G'),λs' ki M' σ' H' r L' G'=>k.ct s' ki M' σ' H' r (L.up L') (G.trans G'),λd M' H' v r B rv=>k.rt d M' H' v r (L.after B).base rv,
  λd M' H' a o r B h1 h2 h3 h4 h5=>k.rf d M' H' a o r (L.after B).base h1 h2 h3 h4 (L.base.mH h5),λd s' ki M' σ' H' v r L' rv=>k.rs d s' ki M' σ' H' v r (L.up L') rv]
section
variable{X:Cx}{M0:AC->Prop}{H0:Hp}{q:D3}{x xn sx en cn:Str}{p p1 p2 p3 p4 p5 p6 p7 p8 pos:Pos}{e:Ch}{es:!Ch}{ta:d8}{k m:Nat}{t:!D->(D->Prop)->XD->Prop}{mX:!FM}{u1:iZ}{u2:AC->iZ}{aS C0:AC}
theorem EF(i ie ic:Nat)(UH:PySem.W.exmOne X.K (.ref C0) (.ref aS)=some true)(h1:X.stack=X.env::X.outer)(h2:X.env.frame=some X.env.locals)(hN:X.N.Nodup)(hi:X.N[i]?=some xn)(VW:X.N[ie]?=some en)(TY:X.N[ic]?=some cn)(hx:Loc X.env.scope xn)(Wg:Loc X.env.scope cn)(hle:X.env.scope.names.lookup en=some .local)(VG:Gl X sx)(Vi:X.mg sx=some (.ref aS))(hn:∀ ev,PE (X.hand ev) (.Name en p4) (bR ie))(hr:bU m X.A)(G:C4 X.prog X.w X.K X.mg X.base (pJ X.prog X.w) q k (MY X.K t))(ha:DA X.xp #[.no,M0,H0] (e::es) ta)(hrest:l8 X #[.no,M0,H0] mX u1)(GZ:∀ (M1:AC->Prop) (H1:Hp) (ea:AC) (dd:Option AC),H1 ea=some (xo ea C0 dd false)->df H1 dd->l8 X #[.no,M1,H1] mX (u2 ea))(hq:(q.1=x)⁻¹)(hk:k<=m:=by ac_rfl)(hg:(Gl X x)⁻¹)(gH: ~~~(YD x))(V2: ~~~((sx == ("__debug__":Str))=false))(he:(YB X.env e es)⁻¹)(eR:((Ix p2 (Go es X.env)).any (·.1)=false)⁻¹)(Jy:(swapsWith (.Call (.Name x p) (e::es) [] p2) (some (.Name xn p3)) p6.line X.env=pure false)⁻¹)(Pn:∀ ev,swapsWith (.Name en p4) (some (.Name cn p5)) p7.line (X.hand ev).env=pure false:=by intro _;rfl)(hf:X.fn xn=true\/X.env.scope.names.lookup xn=some .local:=by ac_nf)(Ux:∀ ev,(X.hand ev).fn cn=true\/(X.hand ev).env.scope.names.lookup cn=some .local:=by first | exact λ_=>.inl U | exact λ_=>.inr U)(oJ: ~~~(ie≠ic)) :
  l8 X #[.no,M0,H0] (.Try [.Assign [.Name xn p3] (.Call (.Name x p) (e::es) [] p2) p6] [.ExceptHandler (some (.Name sx p1)) (some en) [.Assign [.Name cn p5] (.Name en p4) p7] p8] [] [] pos::mX)
   (λD s=>ta s λds s1=>s1.os=[]/\ie < s1.sl.length/\t ds (λd=>u1 D (s1.set i (.dat d))) (λC fs=>C=C0/\fs=[]/\∀ ea,u2 ea D (((s1.set ie (.dat (.cT ea))).set ic (.dat (.cT ea))).set ie .no))):=by
 subst hq;let(f,fd,G,F,mg,hb):=G;have h3:lQ X mX (λE σ H=>tS X.K #[.no,M0,H0] u1 E σ H\/∃ M1 H1 ea dd,H1 ea=some (xo ea C0 dd false)/\df H1 dd/\tS X.K #[.no,M1,H1] (u2 ea) E σ H):=λTW s σ H E I z=>by
  rcases z with z | ⟨M1,H1,ea,dd,z1,z2,z⟩
  .exact hrest.ps TW s σ H E I z
  .exact (GZ M1 H1 ea dd z1 z2).ps TW s σ H E I z
 show#[(bP (IJ h1 h2 (DR hN hi hx (Ct G (hr.mono hk) hg mg F.kp hb ha.pa gH he eR) Jy hf) (L8 (i:=ie) VG Vi hN VW hle (λev=>eh (eM (X:=X.hand ev) (i:=ic) hN TY Wg (hn ev) (Pn ev) (Ux ev))) Hj V2)) h3).imp λE σ H zz=>cZ zz λM s as R L q kk=>#[M,s,as,_,L,q,λds s1 q1 M2 H2 vs L2 E2 r2 hl=>?_]];let(pV,hie1,q1):=q1;show#[M2,ds,_,_,L2.base.qw,r2,q1,λd rd M' H' y B ry=>?_,λC fs hx M' H' dd B fa=>?_]
 .have L3:=L2.after (L2.base.zN B);have E3:=E2.trans L2.base (Ext.after (L2.base.zN B));exact .inl #[M',_,as,R,L3.zo i ry,rd,kk.grow (E3.grow L)]
 .let(rfl,rfl,hu):=hx;show#[C,U,λea tZ=>#[true,UH,lM ?_]];have L3:=L2.after (L2.base.zN B);have E3:=E2.trans L2.base (Ext.after (L2.base.zN B));have L4:=L3.down λk d e=>by rw[pV] at e;cases e
  show#[.ref ea,?_,.inr #[M',H',ea,dd,tZ,AF fa,M',_,as,R,((L4.zo ie (d:=.cT ea) U).zo ic (d:=.cT ea) U).Ma ie,hu ea,kk.down L3 (E3.grow L)]];rw[WT (by rw[<- L3.len];exact hie1)]
end
section
variable{X:Cx}{c:Ent}
def OB:D->D->(D->Prop)->Prop:=λa b k=>∃ i j,a=.str i/\b=.str j/\k (.bl (not ((GE.Str.occurrences j i 0 j.length 1).isEmpty)))
theorem Gm:m7 X c (λx y H Q=>∃ i j,x=.str i/\y=.str j/\Q (.bl (not ((GE.Str.occurrences j i 0 j.length 1).isEmpty))) H) OB:=λM s as σ H x y dx dy k Q L rx ry z7r kk=>by
 let(i,j,e1,e2,hk):=z7r;subst e1;subst e2;exact#[i,j,rx,ry,kk _ hk M H _ L .refl U]
abbrev R7(x:Str):!Str:=x.cps.toList.map λc=>(#[#v[c]]:Str)
def LH(te:aZ):d8:=λs Q=>te s λd s1=>∃ z,d=.str z/\z.length<=FB/\Q ((R7 z).map .str) s1
theorem LC{tg e:Ch}{te:aZ}(he:DE X c e te):DI X c tg e (LH te):=#[λTW s σ H R I zz=>cZ zz λM s0 as R0 L q k=>Cd he.pe TW s σ H R I
 #[M,s0,as,_,L,q,λd s1 z8r M1 H1 v L1 E1 rv=>by
  let(z,hd,hz,q1):=z8r;subst hd;show#[z,rv,k _ s1 q1 M1 H1 _ L1 E1 (λM2 H2 G=>#[λi hi=>?_,λi d hd=>?_]) (by rw[Wk,Wk];exact hz)]
  .rw[Wk,Wk] at hi;exact hi
  .rw[WZ,WZ] at hd;let(y,hy,rfl):=WD.mp hd;let(c,hc,rfl):=WD.mp hy;rw[XN] at hc;show#[(Xl.mp hc).1,λx H3 hx=>.inl ?_];let(e,c',hc',rfl):=hx;rw[hc] at hc';cases hc';exact#[e,U]]]
end
end DL
namespace L2
open PySem PySem.Spec PyProof.Rows
section
variable{X:Cx}
theorem lY:dB X (.type "int") (λxs H Q=>∃ z:Str,xs=[.str z]/\(NumText.AllDigits z.cps.toList/\z.cps.toList≠[]/\z.length<=640)/\Q (.int (NumText.digitsVal z.cps.toList:Nat)) H):=by
 intro TW s σ H xs us Q I r h;let(z,rfl,(h0,h1,h2),q):=h;let(u,rfl,t,rfl):=vals1 r;exact PySem.W.KIN.call_text (PySem.intText_digits h0 h1 (Wr h2 ())) h2 #[.int _,H,I.tok _,#[_,U],q]
end
end L2
namespace DL
open PySem PySem.Spec L2
open PyProof.Rows hiding St
section
variable{X:Cx}{c:Ent}
def K4:YA:=λas k=>∃ z:Str,as=[.str z]/\(NumText.AllDigits z.cps.toList/\z.cps.toList≠[]/\z.length<=640)/\k (.int (NumText.digitsVal z.cps.toList:Nat))
theorem wj:yR X c (λxs H Q=>∃ z:Str,xs=[.str z]/\(NumText.AllDigits z.cps.toList/\z.cps.toList≠[]/\z.length<=640)/\Q (.int (NumText.digitsVal z.cps.toList:Nat)) H) K4:=λM s as σ H xs ds k Q L r h kk=>by
 let(i,rfl,h0,hk):=h;let(v,rfl,e1):=cU r;have e1:v=.str i:=e1;subst e1;exact#[i,U,h0,kk _ hk M H _ L .refl U]
def A8:!(Option Ch)->!Ch->Option (!(Str×Str))
 | [],[]=>some []
 | some (.Constant (.str k) _ _)::ks,.Constant (.str v) _ _::vs=>(A8 ks vs).map ((k,v)::·)
 | _,_=>none
theorem uX{pos:Pos}:∀ {keys:!(Option Ch)} {values:!Ch} {kvs:!(Str×Str)},A8 keys values=some kvs->Mb X c pos keys values (kvs.map λp=>(p.1,F9 (.str p.2)))/\keys.all (·.isSome)=true/\keys.length=kvs.length/\keys.length=values.length
 | [],[],kvs,h=>by cases h;exact#[xt,U,U,U]
 | some (.Constant (.str k) _ _)::ks,.Constant (.str v) _ _::vs,kvs,h=>by
  let(r,h1,rfl):=WD.mp h;let(a1,a2,a3,a4):=uX (pos:=pos) h1;exact#[iK ak a1,by rw[Ym,a2];rfl,by rw[Ws,a3,Ws],by rw[Ws,a4,Ws]]
theorem Dr{pos:Pos}{keys:!(Option Ch)}{values:!Ch}(kvs:!(Str×Str))(h:A8 keys values=some kvs)(nd:(kvs.map λp=>(Sum.inr p.1:Key)).Nodup)(h0:kvs.length≠0)(Fz:kvs.length<=15):DN X c (.Dict keys values pos) (BU (kvs.map λp=>(p.1,F9 (.str p.2)))):=by
 let(a1,a2,a3,a4):=uX (X:=X) (c:=c) (pos:=pos) h;exact Ay a1 (by rw[WV];exact nd) a2 a4 (λz=>h0 (by rw[<- a3,z];rfl)) (by rw[a3];exact Fz)
def EC(to:aZ)(t:d8):aZ:=λs Q=>to s λa s1=>∃ z,a=.str z/\t s1 λds s2=>∃ y,ds=[.str y]/\Q (.bl (Txt.startswith z y)) s2
theorem lg{o e:Ch}{es:!Ch}{to:aZ}{t:d8}{apos bX:Pos}(ho:DE X c o to)(ha:DA X c (e::es) t)(fF:(attributeBase o "startswith" X.env (eval o X.env)=eval o X.env)⁻¹)(oE:(((Ix bX (Go (e::es) X.env)).all (λx=>(not x.1))&&(Re bX (Rs [] X.env)).all (λx=>x.1.isSome)
   && decide ((e::es).length+([]:!NE).length+(if ([]:!NE).isEmpty then 0 else 1) < 30))=true)⁻¹)(dF:((apos.endLine == bX.line)=true)⁻¹)(hs:(YB X.env e es)⁻¹)(fG:((Ix bX (Go es X.env)).any (·.1)=false)⁻¹) :
  DE X c (.Call (.Attribute o "startswith" apos) (e::es) [] bX) (EC to t):=#[(yH PySem.F.plainAttrs_str PySem.F.slot_str_startswith PySem.F.type_str_startswith zc ho.pe ha.pa fF oE dF hs fG).imp λσ H Q zz=>cZ zz λM s as R L q kk=>by
 show#[M,s,as,_,L,q,λd s1 z M1 H1 v L1 E1 rv=>?_];let(z,rfl,q1):=z;cases (show v=.str z from rv);show#[U,M1,s1,as,_,L1,q1,λds s2 y M2 H2 vs Lb E2 rvs hl=>?_];let(y,rfl,q2):=y;let(u,rfl,e):=cU rvs;cases (show u=.str y from e);exact#[z,y,U,U,kk _ s2 q2 M2 H2 _ Lb (E1.trans L1.base E2) U]]
end
def nP(K:Frag)(a:AC)(xs:!V)(d l:AC)(H0:Hp):Prop:=(Rd H0 a (.lst xs)/\a≠d/\a≠l)\/∀ H,dO K H a xs
theorem nP.sq{K:Frag}{a d l:AC}{xs:!V}{M0 M:AC->Prop}{H0 H:Hp}(h:nP K a xs d l H0)(B:Base #[aT d l,M0,H0] M H):dO K H a xs:=by
 rcases h with ⟨h,h1,h2⟩ | h
 .have no:¬ (aT d l).own a:=λz=>z.elim h1 h2;rcases h with h | ⟨o,h⟩
  .exact .inl (.inl (B.fr a _ h no))
  .exact .inl (.inr #[o,B.fr a _ h no])
 .exact h H
theorem nP.of{K:Frag}{a d l:AC}{xs:!V}{H H':Hp}(h:dO K H a xs)(hd:H d=none)(hl:H l=none)(s:dh H H'):nP K a xs d l H':=by
 rcases h with h | h
 .refine .inl ?_;rcases h with h | ⟨o,h⟩
  .exact#[.inl (s a _ h),aD h hd,aD h hl]
  .exact#[.inr #[o,s a _ h],aD h hd,aD h hl]
 .exact .inr λH=>.inr h
theorem B4{X:Cx}{mX:!FM}{t:AC->iZ}{F:AC->AC->Hp->Prop}(h:∀ d l M0 H0,F d l H0->l8 X #[aT d l,M0,H0] mX (t d)):lQ X mX (λE σ H=>∃ d l M0 H0,F d l H0/\tS X.K #[aT d l,M0,H0] (t d) E σ H):=λTW s σ H E I #[d,l,M0,H0,f,q]=>(h d l M0 H0 f).ps TW s σ H E I q
def Pg(i:Nat)(a:AC)(n:Nat):aZ:=λs Q=>s.sl[i]?=some (.dat (.cT a))/\Q (.int n) s
theorem Ki{X:Cx}{i:Nat}{a d l:AC}{xs:!V}{M0:AC->Prop}{H0:Hp}{e:Ch}{n:Nat}{m:Int}(f:nP X.K a xs d l H0)(hn:(jU xs none (some m)).length=n)(h:PE X e (Df (λxs H Q=>∃ p ys,xs=[.ref p]/\(dO X.K H p ys\/iu X.K H p ys)/\Q (.int ys.length) H) (iI (Qo (Hd X.K) (bR i) xq (xQ (tC (.int m)))) sY))):DE X #[aT d l,M0,H0] e (Pg i a n) :=
 #[h.imp λσ H Q zz=>cZ zz λM s as R L q kk=>by
  let(hi,q):=q;let(v,h1,h2):=L.dat i _ hi;have h2:v=.ref a:=h2;subst h2;show#[_,h1,m,U,a,xs,U,f.sq L.base,λp hp=>#[p,_,U,.inl (dO.of ax),?_]];rw[hn];exact kk _ s q M _ _ (L.laid hp) (Ext.laid hp) U]
theorem Ef{K:Frag}{a d l:AC}{H:Hp}{t:AC->iZ}{E:Ends}{σ:St}{n nos:Nat}{F:AC->AC->Hp->Prop}(f:F d l H)(D1:cP.At H d l)(hl:σ.length=n+2)(h0:σ[0]?=some (some (.ref a)))(h1:σ[1]?=some (some (.ref d)))(q:t d { nx:=λ_=>False,rt:=λx=>x=.bl true } #[.dat (.cT a)::.dat (.cT d)::List.replicate n .no,List.replicate nos none])(k:∀ H',E.rt (.bl true) H'):∃ d l M0 H0,F d l H0/\tS K #[aT d l,M0,H0] (t d) E σ H:=by
 show#[d,l,λ_=>False,H,f,λ_=>False,_,List.replicate nos 0,_,?_,q,?_]
 .refine#[#[D1,λb o e _=>e,λb m=>m.elim,λb m=>m.elim,λb m=>m.elim,λb m=>m.elim],by simp[hl],by simp,λi x e=>?_,λi k e=>?_,λk x a e=>?_,λk _ x _ a e=>?_,λk a e=>(nomatch e)]
  .match i,e with
   | 0,e =>
    simp at e;subst e;exact#[_,h0,U]
   | 1,e =>
    simp at e;subst e;exact#[_,h1,U]
   | i+2,e =>
    let(_,e):=Wn.mp e;simp at e
  .match i,e with
   | 0,e=>simp at e
   | 1,e=>simp at e
   | i+2,e =>
    let(_,e):=Wn.mp e;simp at e
  .let(_,e):=Wn.mp e;simp at e
  .let(_,e):=Wn.mp e;simp at e
 .refine#[λ_ _ _ _ _ z=>z.elim,λ_ _ _ _ _ z=>z.elim,λ_ _ _ _ _ z=>z.elim,λx M' H' v r B' rv=>?_,λ_ _ _ _ _ z=>z.elim,λ_ _ _ _ _ _ _ z=>z.elim];cases (show x=.bl true from r);cases (show v=.bl true from rv);exact k H'
end DL
namespace DL
open PySem L2
section
variable{X:Cx}{c:Ent}
end
inductive Vn where
 | w (x:Str) | p (a b:Int)
inductive Vl where
 | num (i:Int) | ir (k:Bool) (n:Vn) (as:!Vl)
def RU:Vn->D
 | .w x=>.str x
 | .p a b=>.tup [.int a,.int b]
mutual
noncomputable def vD:Vl->D
 | .num i=>.int i
 | .ir k n as=>.tup [.str (bC k),RU n,.tup (yA as)]
noncomputable def yA:!Vl->!D
 | []=>[]
 | v::r=>vD v::yA r
end
mutual
noncomputable def Vl.th:Vl->Nat
 | .num _=>0
 | .ir _ _ as=>1+lq as
noncomputable def lq:!Vl->Nat
 | []=>0
 | v::r=>v.th+lq r
end
mutual
noncomputable def Vl.dp:Vl->Nat
 | .num _=>0
 | .ir _ _ as=>1+qf as
noncomputable def qf:!Vl->Nat
 | []=>0
 | v::r=>max v.dp (qf r)
end
mutual
noncomputable def Vl.sz:Vl->Nat
 | .num _=>1
 | .ir _ _ as=>1+t6 as
noncomputable def t6:!Vl->Nat
 | []=>0
 | v::r=>v.sz+t6 r
end
def cK(c:Nat):!(!Nat)->!Nat
 | []=>[]
 | a::l=>a++l.flatMap (c::·)
def oB:Vn->!Nat
 | .w x=>cd x
 | .p a b=>cd (cY a)++46::cd (cY b)
def zY(k:Bool)(n:!Nat)(ts:!(!Nat)):!Nat:=if k=true then 91::(cK 32 (n::ts)++[93]) else n++40::(cK 44 ts++[41])
mutual
noncomputable def Vl.T:Vl->!Nat
 | .num i=>cd (cY i)
 | .ir k n as=>zY k (oB n) (d4 as)
noncomputable def d4:!Vl->!(!Nat)
 | []=>[]
 | v::r=>v.T::d4 r
end
def Vn.G:Vn->Prop
 | .w x=>x.length<=8/\GM.strOk x=true
 | .p a b=>(0<=a/\a < 1000000)/\0<=b/\b < 1000000
mutual
noncomputable def Vl.G:Vl->Prop
 | .num i=>0<=i/\i < 1000000
 | .ir _ n as=>n.G/\as.length<=3/\JY as
noncomputable def JY:!Vl->Prop
 | []=>True
 | v::r=>v.G/\JY r
end
theorem eW:∀ as:!Vl,yA as=as.map vD
 | []=>rfl
 | v::r=>by rw[yA,eW r];rfl
theorem m9:∀ as:!Vl,d4 as=as.map Vl.T
 | []=>rfl
 | v::r=>by rw[d4,m9 r];rfl
theorem xE:∀ {as:!Vl} {v:Vl},v∈as->v.sz<=t6 as
 | [],v,h=>nomatch h
 | u::r,v,h=>by
  change _<=u.sz+t6 r;rcases WI.mp h with rfl | h
  .cbv
  .have:=xE h;cbv
theorem yu:∀ a b:!Vl,lq (a++b)=lq a+lq b
 | [],b=>by rw[List.nil_append];simp[lq]
 | u::r,b=>by
  change u.th+lq (r++b)=u.th+lq r+lq b;rw[yu r b];cbv
mutual
theorem FA:∀ v:Vl,v.G->v.sz<=4 * v.th+1/\v.th<=v.sz/\v.dp<=v.th
 | .num _,_=>#[Wo _,WG _,Wo _]
 | .ir k n as,h=>by
  let(h1,h2,h3):=yo as h.2.2;have:=h.2.1;change 1+t6 as<=4 * (1+lq as)+1/\1+lq as<=1+t6 as/\1+qf as<=1+lq as;cbv
theorem yo:∀ as:!Vl,JY as->t6 as<=4 * lq as+as.length/\lq as<=t6 as/\qf as<=lq as
 | [],_=>#[Wo _,Wo _,Wo _]
 | v::r,h=>by
  let(h1,h2,h3):=FA v h.1;let(h4,h5,h6):=yo r h.2;change v.sz+t6 r<=4 * (v.th+lq r)+(r.length+1)/\v.th+lq r<=v.sz+t6 r/\max v.dp (qf r)<=v.th+lq r;cbv
end
theorem yc:∀ {as:!Vl} {v:Vl},v∈as->v.dp<=qf as
 | [],v,h=>nomatch h
 | u::r,v,h=>by
  change _<=max u.dp (qf r);rcases WI.mp h with rfl | h
  .cbv
  .have:=yc h;cbv
theorem xj{n:Vn}(h:n.G):(oB n).length<=17:=by
 cases n with
 | w x =>
  rw[oB,gi];exact Wr h.1 ()
 | p a b =>
  have h1:=pD h.1.1 h.1.2;have h2:=pD h.2.1 h.2.2;rw[oB,Wm,Ws,gi,gi];cbv
theorem uU(c:Nat):∀ ts:!(!Nat),(ts.flatMap (c::·)).length=(ts.map List.length).sum+ts.length
 | []=>rfl
 | t::r=>by
  rw[Xf,Wm,uU c r,Wu,XC,Ws,Ws];cbv
theorem jr(c:Nat)(ts:!(!Nat)):(cK c ts).length<=(ts.map List.length).sum+ts.length:=by
 cases ts with
 | nil=>exact Wo _
 | cons t r =>
  rw[cK,Wm,uU,Wu,XC,Ws];cbv
theorem Eu(k:Bool)(n:!Nat)(ts:!(!Nat)):(zY k n ts).length<=n.length+(ts.map List.length).sum+ts.length+3:=by
 unfold zY;cases k with
 | true =>
  rw[if_pos U,Ws,Wm];have:=jr 32 (n::ts);rw[Wu,XC,Ws] at this;simp only[List.length_cons,List.length_nil];cbv
 | false =>
  rw[if_neg (),Wm,Ws,Wm];have:=jr 44 ts;simp only[List.length_cons,List.length_nil];cbv
mutual
theorem Fx:∀ v:Vl,v.G->v.T.length<=30 * v.sz
 | .num i,h=>by
  change (cd (cY i)).length<=30 * 1;rw[gi];exact Wr (pD h.1 h.2) ()
 | .ir k n as,h=>by
  have h1:=xj h.1;have h2:=tW as h.2.2;have h3:=h.2.1;have h4:=Eu k (oB n) (d4 as);have h5:(d4 as).length=as.length:=by rw[m9,Wk]
  change (zY k (oB n) (d4 as)).length<=30 * (1+t6 as);cbv
theorem tW:∀ as:!Vl,JY as->((d4 as).map List.length).sum<=30 * t6 as
 | [],_=>Wo _
 | v::r,h=>by
  have h1:=Fx v h.1;have h2:=tW r h.2;change v.T.length+((d4 r).map List.length).sum<=30 * (v.sz+t6 r);cbv
end
theorem vn(c:Nat):∀ zs:!(!Nat),Txt.join (aH [c]) (zs.map aH)=aH (cK c zs)
 | []=>rfl
 | a::l=>by
  show ko ?_;change cd (GE.Str.glued (aH [c]) ((a::l).map aH))=_;rw[StrLaws.glued_eq_join]
  induction l generalizing a with
  | nil=>simp[PySem.Str.join,cK]
  | cons b l ih =>
   change cd (aH a++aH [c]++PySem.Str.join (aH [c]) ((b::l).map aH))=_;rw[ij,ij,ih b];change a++[c]++(b++l.flatMap (c::·))=a++(c::b++l.flatMap (c::·));simp
def uh(c:!Nat):D:=.tup [.str "sign",.str (aH c)]
def C7(k:Str):D:=.tup [.str "value",.str k]
def stop(c:Nat):Prop:=c < 48\/(57 < c/\c < 97)\/122 < c
mutual
noncomputable def VK(W:bZ):Str->Vl->Prop
 | k,.num i=>k="number"/\0<=i/\i < 1000000
 | k,.ir b n as=>∃ kd∈W.kinds,∃ m∈kd.bK,kd.name=k/\b=kd.asked/\n=.w m.name/\zt W (m.fs.map (·.2)) as
noncomputable def zt(W:bZ):!Str->!Vl->Prop
 | ks,[]=>ks=[]
 | ks,v::r=>∃ k ks',ks=k::ks'/\VK W k v/\zt W ks' r
end
theorem sy{W:bZ}:∀ {ks:!Str} {as:!Vl},zt W ks as->as.length=ks.length
 | ks,[],h=>by have h:ks=[]:=h;rw[h];rfl
 | ks,v::r,h=>by
  let(k,ks',rfl,_,h2):=h;rw[Ws,Ws,sy h2]
mutual
theorem EJ{W:bZ}(w:fb W):∀ {k:Str} (v:Vl),VK W k v->v.G
 | k,.num i,h=>h.2
 | k,.ir b n as,h=>by
  let(kd,hkd,m,hm,_,_,rfl,hs):=h;let((lw,h1,h8,_),hp):=w.mo kd hkd m hm;show#[#[h8,lw.strOk],?_,FK w as hs];rw[sy hs,Wk];exact hp.1
theorem FK{W:bZ}(w:fb W):∀ {ks:!Str} (as:!Vl),zt W ks as->JY as
 | ks,[],h=>trivial
 | ks,v::r,h=>by
  let(k,ks',_,h1,h2):=h;exact#[EJ w v h1,FK w r h2]
end
def wU(k:Bool)(fs:!(Str×Str)):!D:=if k=true then fs.flatMap (λf=>[uh [32],C7 f.2]) else match fs with
 | []=>[]
 | f::r=>C7 f.2::r.flatMap (λf=>[uh [44],C7 f.2])
theorem Ba(k:Bool)(dn:!(Str×Str))(f:Str×Str):wU k (dn++[f])=wU k dn++(if k=true then [uh [32]] else if dn.isEmpty=true then [] else [uh [44]])++[C7 f.2]:=by
 unfold wU;cases k with
 | true=>simp
 | false =>
  cases dn with
  | nil=>simp
  | cons a r=>simp
theorem EI(dn:!(Str×Str)):(wU false dn).isEmpty=dn.isEmpty:=by cases dn<;>rfl
theorem sM{α β:Type}{a b:α->β}:∀ l:!α,(l.flatMap λx=>[a x,b x]).length=2 * l.length
 | []=>rfl
 | x::r=>by
  rw[Xf,Wm,sM r];change 2+2 * r.length=2 * (r.length+1);cbv
theorem tD(k:Bool)(dn:!(Str×Str)):(wU k dn).length<=2 * dn.length:=by
 unfold wU;cases k with
 | true=>rw[if_pos U,sM];exact Wo _
 | false =>
  cases dn with
  | nil=>exact Wo _
  | cons a r =>
   change (r.flatMap _).length+1<=2 * (r.length+1);rw[sM];cbv
def AQ(k:Bool)(fs:!(Str×Str)):!D:=if k=true then wU k fs++[uh [93]] else uh [40]::(wU k fs++[uh [41]])
end DL
namespace DL
open PySem L2
open PySem.Builtin.Str
theorem yw(l:!Nat):∀ m:Nat,(List.range m).filterMap (λk=>l[k]?)=l.take m
 | 0=>rfl
 | m+1=>by
  rw[List.range_succ,List.filterMap_append,yw l m,List.take_succ];rw[List.filterMap_cons];cases l[m]?<;>rfl
theorem FH{l:!Nat}{u:Option Int}{i m:Nat}(h:strSliceIndices (some (i:Int)) u 1 l.length=(List.range m).map (·+i))(hm:i+m<=l.length):Txt.slice (aH l) (some (i:Int)) u=aH ((l.drop i).take m):=by
 unfold Txt.slice;rw[bz,h];split
 .rename_i e
  have e2:m=l.length:=by simpa using e
  have e3:i=0:=by cbv
  subst e3;rw[XG,List.take_of_length_le (by cbv)]
 .refine ko ?_;change ((List.range m).map (·+i)).filterMap (l.toArray[·]?)=_;rw[List.filterMap_map];rw[show ((l.toArray[·]?)∘(·+i))=λk=>(l.drop i)[k]? from funext λk=>by simp[Nat.add_comm]];rw[yw]
theorem Br{a b:Nat}(h:a<=b):sliceRange (a:Int) (b:Int) 1=(List.range (b - a)).map (·+a):=by
 have hc:(if (a:Int) < (b:Int) then ((b:Int) - a+1 - 1) / 1 else 0).toNat=b - a:=by
  split
  .rw[Int.ediv_one];cbv
  .cbv
 change (List.range (if (a:Int) < (b:Int) then ((b:Int) - a+1 - 1) / 1 else 0).toNat).map (λ(k:Nat)=>((a:Int)+1 * (k:Int)).toNat)=_;rw[hc];show Yf λk _=>?_;cbv
theorem ip{l:!Nat}{i:Nat}(hi:i<=l.length):Txt.slice (aH l) (some (i:Int)) none=aH (l.drop i):=by
 rw[FH (m:=l.length - i) ?_ (by cbv),List.take_of_length_le (by simp)];change sliceRange (max 0 (min (i:Int) (l.length:Nat))) ((l.length:Nat):Int) 1=_;rw[show max 0 (min (i:Int) ((l.length:Nat):Int))=(i:Int) by cbv];exact Br hi
theorem BK{l:!Nat}{i j:Nat}(hi:i<=l.length)(hj:i<=j):Txt.slice (aH l) (some (i:Int)) (some (j:Int))=aH ((l.drop i).take (j - i)):=by
 rw[FH (m:=min j l.length - i) ?_ (by cbv)]
 .rw[List.take_eq_take_iff.mpr (show min (min j l.length - i) (l.drop i).length=min (j - i) (l.drop i).length by rw[WY];cbv)]
 .show sliceRange (max 0 (min (i:Int) (l.length:Nat))) (max 0 (min (j:Int) ((l.length:Nat):Int))) 1=_;rw[show max 0 (min (i:Int) ((l.length:Nat):Int))=(i:Int) by cbv,show max 0 (min (j:Int) ((l.length:Nat):Int))=((min j l.length:Nat):Int) by cbv];exact Br (by cbv)
end DL
namespace DL
open PySem L2
def bg(c:Nat):Bool:=decide (48<=c)&&decide (c<=57)
def aR(c:Nat):Bool:=decide (97<=c)&&decide (c<=122)
open Classical in
noncomputable def mZ (w:!Nat):Option Int:=if h:∃ i:Int,(0<=i/\i < 1000000)/\w=cd (cY i) then some h.choose else none
def cL(c z:!Nat):Option (!Nat):=if z.take 1=c then some (z.drop 1) else none
def fz(rd:Str->!Nat->Option (Vl×!Nat))(b:Bool):Bool->!Str->!Nat->Option (!Vl×!Nat)
 | _,[],z=>some ([],z)
 | f,k::ks,z=>(if b=true then cL [32] z else if f=true then some z else cL [44] z).bind λz1=>(rd k z1).bind λq=>(fz rd b false ks q.2).map λp=>(q.1::p.1,p.2)
noncomputable def cJ (W:bZ):Nat->Str->!Nat->Option (Vl×!Nat)
 | 0,_,_=>none
 | n+1,k,z =>
  if k="number" then (mZ (z.takeWhile bg)).map λi=>(.num i,z.dropWhile bg)
  else (W.kinds.find? λkd=>decide (kd.name=k)).bind λkd =>
   (if kd.asked=true then cL [91] z else some z).bind λz1 =>
   (kd.bK.find? λm=>decide (cd m.name=z1.takeWhile aR)).bind λm =>
   (if kd.asked=true then some (z1.dropWhile aR) else cL [40] (z1.dropWhile aR)).bind λz2 =>
   (fz (cJ W n) kd.asked true (m.fs.map (·.2)) z2).bind λq =>
   (cL (if kd.asked=true then [93] else [41]) q.2).map λz3=>(.ir kd.asked (.w m.name) q.1,z3)
def cR(z:!Nat):Nat:=z.countP λc=>decide (c=40)||decide (c=91)
theorem k8{a b:!Nat}(h:a.Sublist b):cR a<=cR b:=h.countP_le
theorem uv(z:!Nat)(n:Nat):cR (z.drop n)<=cR z:=k8 (XB _ _)
theorem iU(p:Nat->Bool)(z:!Nat):cR (z.dropWhile p)<=cR z:=k8 (XH _)
theorem iy{c z z':!Nat}(h:cL c z=some z'):cR z'<=cR z/\z'.length<=z.length:=by
 unfold cL at h;split at h
 .cases h;exact#[uv _ _,by rw[WY];cbv]
 .cases h
theorem lL{a:Nat}{z z':!Nat}(ha:a=40\/a=91)(h:cL [a] z=some z'):cR z' < cR z:=by
 unfold cL at h;split at h
 .cases h
  rename_i e
  cases z with
  | nil=>cases e
  | cons x r =>
   have e:[x]=[a]:=e;cases e;change cR r < cR (_::r);unfold cR;rw[Ya];rcases ha with rfl | rfl<;>simp
 .cases h
theorem vH{rd:Str->!Nat->Option (Vl×!Nat)}{b:Bool}:∀ {ks:!Str} {f:Bool} {z:!Nat} {q:!Vl×!Nat},(∀ k z' q,cR z'<=cR z->rd k z'=some q->cR q.2<=cR z')->fz rd b f ks z=some q->cR q.2<=cR z/\q.1.length=ks.length
 | [],f,z,q,_,h=>by cases h;exact#[Wo _,U]
 | k::ks,f,z,q,hr,h=>by
  let(z1,h1,h):=WE.mp h;let(q1,h2,h):=WE.mp h;let(p,h3,rfl):=WD.mp h;have hz:cR z1<=cR z:=by
   split at h1
   .exact (iy h1).1
   .split at h1
    .cases h1;exact Wo _
    .exact (iy h1).1
  have h4:=hr _ _ _ hz h2;have h5:=vH (λk z' q hz' h=>hr k z' q (by cbv) h) h3;exact#[by change cR p.2<=_;cbv,by change p.1.length+1=_;rw[h5.2];rfl]
theorem tP{W:bZ}:∀ {n:Nat} {k:Str} {z:!Nat} {q:Vl×!Nat},cJ W n k z=some q->cR q.2<=cR z
 | 0,k,z,q,h=>nomatch h
 | n+1,k,z,q,h=>by
  unfold cJ at h;split at h
  .let(i,_,rfl):=WD.mp h;exact iU _ _
  .let(kd,_,h):=WE.mp h;let(z1,h1,h):=WE.mp h;let(m,_,h):=WE.mp h;let(z2,h2,h):=WE.mp h;let(q2,h3,h):=WE.mp h;let(z3,h4,rfl):=WD.mp h;have e1:cR z1<=cR z:=by
    split at h1
    .exact (iy h1).1
    .cases h1;exact Wo _
   have e2:cR z2<=cR z1:=by
    split at h2
    .cases h2;exact iU _ _
    .exact Wr (iy h2).1 (iU _ _)
   have e3:=(vH (λk z' q _ h=>tP h) h3).1;have e4:=(iy h4).1;change cR z3<=_;cbv
theorem lH{rd rd':Str->!Nat->Option (Vl×!Nat)}{b:Bool}:∀ {ks:!Str} {f:Bool} {z:!Nat},(∀ k z' q,rd k z'=some q->cR q.2<=cR z')->(∀ k z',cR z'<=cR z->rd k z'=rd' k z')->fz rd b f ks z=fz rd' b f ks z
 | [],f,z,_,_=>rfl
 | k::ks,f,z,hr,h=>by
  unfold fz;have key:∀ z1,cR z1<=cR z->((rd k z1).bind λq=>(fz rd b false ks q.2).map λp=>(q.1::p.1,p.2))=(rd' k z1).bind λq=>(fz rd' b false ks q.2).map λp=>(q.1::p.1,p.2):=λz1 h1=>by
   rw[<- h k z1 h1];cases hq:rd k z1 with
   | none=>rfl
   | some q =>
    have h2:=hr k z1 q hq;change (fz rd b false ks q.2).map _=(fz rd' b false ks q.2).map _;rw[lH hr λk z' hz=>h k z' (by cbv)]
  cases hz:(if b=true then cL [32] z else if f=true then some z else cL [44] z) with
  | none=>rfl
  | some z1 =>
   show key z1 ?_;split at hz
   .exact (iy hz).1
   .split at hz
    .cases hz;exact Wo _
    .exact (iy hz).1
theorem gA{W:bZ}:∀ {n m:Nat} {k:Str} {z:!Nat},cR z < n->cR z < m->cJ W n k z=cJ W m k z
 | 0,m,k,z,h,_=>nomatch h
 | n+1,0,k,z,_,h=>nomatch h
 | n+1,m+1,k,z,h1,h2=>by
  unfold cJ;split
  .rfl
  .refine congrArg _ (funext λkd=>?_);cases e1:(if kd.asked=true then cL [91] z else some z) with
   | none=>rfl
   | some z1 =>
    change Option.bind (kd.bK.find? λm=>decide (cd m.name=z1.takeWhile aR)) _=Option.bind (kd.bK.find? λm=>decide (cd m.name=z1.takeWhile aR)) _;show congrArg _ (funext λmk=>?_);cases e2:(if kd.asked=true then some (z1.dropWhile aR) else cL [40] (z1.dropWhile aR)) with
    | none=>rfl
    | some z2 =>
     have hz:cR z2 < cR z:=by
      split at e1
      .rename_i ha
       rw[if_pos ha] at e2;cases e2;exact XI (iU _ _) (lL (.inr U) e1)
      .rename_i ha
       rw[if_neg ha] at e2;cases e1;exact WB (lL (.inl U) e2) (iU _ _)
     change Option.bind (fz (cJ W n) kd.asked true (mk.fs.map (·.2)) z2) _=Option.bind (fz (cJ W m) kd.asked true (mk.fs.map (·.2)) z2) _;rw[lH (rd:=cJ W n) (rd':=cJ W m) (λk z' q h=>tP h) λk z' hz'=>gA (by cbv) (by cbv)]
inductive Tk where
 | val (k:Str) | sg (c:!Nat) | kT (b:Bool) (m:Str) (n:Nat)
def fin(rd:Str->!Nat->Option (Vl×!Nat)):!Tk->!Nat->!Vl->Option (!Vl)
 | [],z,dn=>some dn
 | .val k::A,z,dn=>(rd k z).bind λq=>fin rd A q.2 (dn++[q.1])
 | .sg c::A,z,dn=>(cL c z).bind λz'=>fin rd A z' dn
 | .kT b m n::A,z,dn=>fin rd A z (dn.take (dn.length - n)++[.ir b (.w m) (dn.drop (dn.length - n))])
def mQ(b:Bool):Bool->!Str->!Tk
 | _,[]=>[]
 | f,k::ks=>(if b=true then [.sg [32]] else if f=true then [] else [.sg [44]])++.val k::mQ b false ks
theorem FN{rd:Str->!Nat->Option (Vl×!Nat)}{b:Bool}{A:!Tk}:∀ {ks:!Str} {f:Bool} {z:!Nat} {dn:!Vl},fin rd (mQ b f ks++A) z dn=(fz rd b f ks z).bind λq=>fin rd A q.2 (dn++q.1)
 | [],f,z,dn=>by
  change fin rd A z dn=fin rd A z (dn++[]);rw[WH]
 | k::ks,f,z,dn=>by
  have key:∀ z1,fin rd (.val k::(mQ b false ks++A)) z1 dn=((rd k z1).bind λq=>(fz rd b false ks q.2).map λp=>(q.1::p.1,p.2)).bind λq=>fin rd A q.2 (dn++q.1):=λz1=>by
   change ((rd k z1).bind λq=>fin rd (mQ b false ks++A) q.2 (dn++[q.1]))=_;cases rd k z1 with
   | none=>rfl
   | some q =>
    change fin rd (mQ b false ks++A) q.2 (dn++[q.1])=_;rw[FN];cases h:fz rd b false ks q.2 with
    | none=>change none=(Option.bind (Option.map _ (fz rd b false ks q.2)) _);rw[h];rfl
    | some p =>
     change fin rd A p.2 (dn++[q.1]++p.1)=(Option.bind (Option.map _ (fz rd b false ks q.2)) _);rw[h];change _=fin rd A p.2 (dn++(q.1::p.1));rw[WN];rfl
  unfold mQ fz;cases b with
  | true =>
   change ((cL [32] z).bind λz'=>fin rd (.val k::(mQ true false ks++A)) z' dn)=((cL [32] z).bind _).bind _;cases cL [32] z with
   | none=>rfl
   | some z1=>exact key z1
  | false =>
   cases f with
   | true=>exact key z
   | false =>
    change ((cL [44] z).bind λz'=>fin rd (.val k::(mQ false false ks++A)) z' dn)=((cL [44] z).bind _).bind _;cases cL [44] z with
    | none=>rfl
    | some z1=>exact key z1
def t9(b:Bool)(m:Str)(ks:!Str):!Tk:=(if b=true then [] else [.sg [40]])++(mQ b true ks++[.sg (if b=true then [93] else [41]),.kT b m ks.length])
theorem Ed{W:bZ}{N:Nat}{k:Str}{A:!Tk}{z:!Nat}{dn:!Vl}(hN:cR z < N)(hk:¬ k="number") :
  fin (cJ W N) (.val k::A) z dn=(W.kinds.find? λkd=>decide (kd.name=k)).bind λkd =>
   (if kd.asked=true then cL [91] z else some z).bind λz1 =>
   (kd.bK.find? λm=>decide (cd m.name=z1.takeWhile aR)).bind λm=>fin (cJ W N) (t9 kd.asked m.name (m.fs.map (·.2))++A) (z1.dropWhile aR) dn:=by
 change ((cJ W N k z).bind λq=>fin (cJ W N) A q.2 (dn++[q.1]))=_;rw[gA hN (show cR z < cR z+1 by cbv)];change ((cJ W (cR z+1) k z).bind λq=>fin (cJ W N) A q.2 (dn++[q.1]))=_;have e0:cJ W (cR z+1) k z=(W.kinds.find? λkd=>decide (kd.name=k)).bind λkd =>
   (if kd.asked=true then cL [91] z else some z).bind λz1 =>
   (kd.bK.find? λm=>decide (cd m.name=z1.takeWhile aR)).bind λm =>
   (if kd.asked=true then some (z1.dropWhile aR) else cL [40] (z1.dropWhile aR)).bind λz2 =>
   (fz (cJ W (cR z)) kd.asked true (m.fs.map (·.2)) z2).bind λq =>
   (cL (if kd.asked=true then [93] else [41]) q.2).map λz3=>(.ir kd.asked (.w m.name) q.1,z3):=by
  rw[cJ,if_neg hk]
 rw[e0];cases W.kinds.find? λkd=>decide (kd.name=k) with
 | none=>rfl
 | some kd =>
  rw[WM,WM];cases e1:(if kd.asked=true then cL [91] z else some z) with
  | none=>rfl
  | some z1 =>
   rw[WM,WM];cases kd.bK.find? λm=>decide (cd m.name=z1.takeWhile aR) with
   | none=>rfl
   | some m =>
    rw[WM,WM];have main:∀ z2,cR z2 < cR z->(((fz (cJ W (cR z)) kd.asked true (m.fs.map (·.2)) z2).bind λq=>(cL (if kd.asked=true then [93] else [41]) q.2).map λz3=>((Vl.ir kd.asked (.w m.name) q.1,z3):Vl×!Nat)).bind λq=>fin (cJ W N) A q.2 (dn++[q.1]))=fin (cJ W N) (mQ kd.asked true (m.fs.map (·.2))++([.sg (if kd.asked=true then [93] else [41]),.kT kd.asked m.name (m.fs.map (·.2)).length]++A)) z2 dn:=λz2 h2=>by
     rw[FN,lH (rd:=cJ W (cR z)) (rd':=cJ W N) (λk z' q h=>tP h) λk z' hz'=>gA (by cbv) (by cbv)];cases h3:fz (cJ W N) kd.asked true (m.fs.map (·.2)) z2 with
     | none=>rfl
     | some q =>
      have hl:=(vH (λk z' q _ h=>tP h) h3).2;change Option.bind (Option.map _ (cL (if kd.asked=true then [93] else [41]) q.2)) _=Option.bind (cL (if kd.asked=true then [93] else [41]) q.2) _;cases cL (if kd.asked=true then [93] else [41]) q.2 with
      | none=>rfl
      | some z3 =>
       change fin (cJ W N) A z3 (dn++[.ir kd.asked (.w m.name) q.1])=fin (cJ W N) A z3 ((dn++q.1).take ((dn++q.1).length - (m.fs.map (·.2)).length)++[.ir kd.asked (.w m.name) ((dn++q.1).drop ((dn++q.1).length - (m.fs.map (·.2)).length))]);have e:(dn++q.1).length - (m.fs.map (·.2)).length=dn.length:=by rw[Wm];cbv
       rw[e,List.take_left,List.drop_left]
    unfold t9;cases ha:kd.asked with
    | true =>
     rw[ha] at main e1;rw[if_pos U] at e1;have:=main (z1.dropWhile aR) (XI (iU _ _) (lL (.inr U) e1));rw[WN,WN];exact this
    | false =>
     rw[ha] at main e1;rw[if_neg ()] at e1;cases e1;change Option.bind (Option.bind (cL [40] (z.dropWhile aR)) _) _=Option.bind (cL [40] (z.dropWhile aR)) _;cases e2:cL [40] (z.dropWhile aR) with
     | none=>rfl
     | some z2 =>
      have:=main z2 (WB (lL (.inl U) e2) (iU _ _));show Eq.trans this ?_;change _=fin (cJ W N) ((mQ false true (m.fs.map (·.2))++[.sg [41],.kT false m.name (m.fs.map (·.2)).length])++A) z2 dn;rw[WN];rfl
theorem qT(n:Nat):cd (cY (n:Int))=(Nat.toDigits 10 n).map Char.toNat:=PySem.W.KIN.signs_num n
theorem DZ{i j:Int}(hi:0<=i)(hj:0<=j)(h:cd (cY i)=cd (cY j)):i=j:=by
 let(n,rfl):=W0 hi;let(m,rfl):=W0 hj;rw[qT,qT] at h;have h2:Nat.toDigits 10 n=Nat.toDigits 10 m:=(List.map_inj_right (f:=Char.toNat) (λa b e=>Char.ext (UInt32.toNat_inj.mp e))).mp h;have:=congrArg (λl=>Nat.ofDigitChars 10 l 0) h2;simp only[Nat.ofDigitChars_toDigits (b:=10) () ()] at this;rw[this]
theorem xN{i:Int}(h0:0<=i):∀ c∈cd (cY i),bg c=true:=λc hc=>by
 let(n,rfl):=W0 h0;rw[qT] at hc;let(ch,hm,rfl):=WO.mp hc;have:=Nat.isDigit_of_mem_toDigits () () hm;unfold Char.isDigit at this;simp only[Bool.and_eq_true,decide_eq_true_eq] at this;have h1:48<=ch.toNat:=this.1;have h2:ch.toNat<=57:=this.2;unfold bg;rw[decide_eq_true h1,decide_eq_true h2]
 rfl
theorem sX{i:Int}(h0:0<=i)(h1:i < 1000000):mZ (cd (cY i))=some i:=by
 have q:∃ j:Int,(0<=j/\j < 1000000)/\cd (cY i)=cd (cY j):=#[i,#[h0,h1],U];unfold mZ;rw[dif_pos q,DZ q.choose_spec.1.1 h0 q.choose_spec.2.symm]
theorem gD{w:!Nat}{i:Int}(h:mZ w=some i):(0<=i/\i < 1000000)/\w=cd (cY i):=by
 unfold mZ at h;split at h
 .rename_i q
  cases h;exact q.choose_spec
 .cases h
theorem wO{p:Nat->Bool}{a r:!Nat}(ha:∀ c∈a,p c=true)(hr:∀ c r',r=c::r'->p c=false):(a++r).takeWhile p=a/\(a++r).dropWhile p=r:=by
 have e1:r.takeWhile p=[]:=by
  cases r with
  | nil=>rfl
  | cons c r'=>rw[List.takeWhile_cons,hr c r' U];rfl
 have e2:r.dropWhile p=r:=by
  cases r with
  | nil=>rfl
  | cons c r'=>rw[List.dropWhile_cons,hr c r' U];rfl
 rw[List.takeWhile_append_of_pos ha,List.dropWhile_append_of_pos ha,e1,e2,WH];exact#[U,U]
theorem Bm{c:Nat}(h:stop c):bg c=false:=by
 unfold stop at h;unfold bg;by_cases h1:48<=c
 .rw[decide_eq_true h1,decide_eq_false (by cbv)];rfl
 .rw[decide_eq_false h1];rfl
theorem BN{c:Nat}(h:stop c):aR c=false:=by
 unfold stop at h;unfold aR;by_cases h1:97<=c
 .rw[decide_eq_true h1,decide_eq_false (by cbv)];rfl
 .rw[decide_eq_false h1];rfl
theorem j7{α:Type}{f:α->Str}:∀ {l:!α} {a:α},(l.map f).Nodup->a∈l->l.find? (λx=>decide (f x=f a))=some a
 | [],a,_,h=>nomatch h
 | b::l,a,hn,h=>by
  rw[Wu,Xy] at hn;rw[Yw];rcases WI.mp h with rfl | h
  .rw[decide_eq_true U]
  .rw[decide_eq_false λe=>hn.1 (by rw[e];exact WJ h)];exact j7 hn.2 h
theorem Wc{x y:Str}(h:cd x=cd y):x=y:=by
 cases x with
 | mk a =>
  cases y with
  | mk b =>
   have h:a.toList=b.toList:=h;rw[Array.toList_inj.mp h]
theorem w9{l:!fO}{m:fO}(hn:(l.map fO.name).Nodup)(h:m∈l):l.find? (λx=>decide (cd x.name=cd m.name))=some m:=by
 have:=j7 hn h;rw[<- this]
 congr 1
 funext x
 by_cases e:x.name=m.name
 .rw[decide_eq_true e,decide_eq_true (by rw[e])]
 .rw[decide_eq_false e,decide_eq_false λz=>e (Wc z)]
theorem ix(a:Nat)(r:!Nat):cL [a] (a::r)=some r:=by
 change (if [a]=[a] then some r else none)=some r;rw[if_pos U]
theorem xv:stop 32:=.inl ()
theorem xC:stop 44:=.inl ()
theorem sU(b:Bool):stop (if b=true then 93 else 41):=by cases b;exact .inl ();exact .inr (.inl ())
theorem r9{s e:Nat}(hs:stop s)(he:stop e)(r:!Nat):∀ ts:!(!Nat),∀ c r',ts.flatMap (s::·)++e::r=c::r'->stop c
 | [],c,r',h=>by cases h;exact he
 | t::ts,c,r',h=>by
  rw[Xf] at h;cases h;exact hs
mutual
theorem CP{W:bZ}(w:fb W):∀ (v:Vl) {n:Nat} {k:Str} {r:!Nat},VK W k v->v.dp < n->(∀ c r',r=c::r'->stop c)->cJ W n k (v.T++r)=some (v,r)
 | v,0,k,r,_,h,_=>nomatch h
 | .num i,n+1,k,r,hv,hn,hr=>by
  let(e,h0,h1):=hv;have e2:=wO (p:=bg) (a:=cd (cY i)) (r:=r) (xN h0) λc r' e=>Bm (hr c r' e);rw[cJ,if_pos e];change ((mZ ((cd (cY i)++r).takeWhile bg)).map λj=>((.num j,(cd (cY i)++r).dropWhile bg):Vl×!Nat))=_;rw[e2.1,e2.2,sX h0 h1]
  rfl
 | .ir b nm as,n+1,k,r,hv,hn,hr=>by
  let(kd,hkd,m,hm,rfl,rfl,rfl,hs):=hv;have hnn:¬ kd.name="number":=λz=>by
   have:=(w.kw kd hkd).1;rw[z] at this;exact absurd this (by decide+kernel)
  have hmn:(kd.bK.map fO.name).Nodup:=(Yr.mp w.mn).1 kd hkd;let((lw,_),_):=w.mo kd hkd m hm;have hlow:∀ c∈cd m.name,aR c=true:=λc hc=>by
   have:=lw c hc;unfold aR;rw[decide_eq_true this.1,decide_eq_true this.2]
   rfl
  have hdp:qf as < n:=by
   have:(1+qf as) < n+1:=hn;cbv
  rw[cJ,if_neg hnn,j7 w.kn hkd,WM];have main:∀ z2,fz (cJ W n) kd.asked true (m.fs.map (·.2)) z2=some (as,(if kd.asked=true then 93 else 41)::r)->((fz (cJ W n) kd.asked true (m.fs.map (·.2)) z2).bind λq =>
   (cL (if kd.asked=true then [93] else [41]) q.2).map λz3=>((.ir kd.asked (.w m.name) q.1,z3):Vl×!Nat))=some (.ir kd.asked (.w m.name) as,r):=λz2 h=>by
   rw[h,WM];change Option.map _ (cL (if kd.asked=true then [93] else [41]) ((if kd.asked=true then 93 else 41)::r))=_;rw[show (if kd.asked=true then [93] else [41]:!Nat)=[if kd.asked=true then 93 else 41] by cases kd.asked<;>rfl,ix]
   rfl
  change Option.bind (if kd.asked=true then cL [91] (zY kd.asked (cd m.name) (d4 as)++r) else some (zY kd.asked (cd m.name) (d4 as)++r)) _=_;unfold zY;cases ha:kd.asked with
  | true =>
   rw[ha] at main;have e1:(91::(cK 32 (cd m.name::d4 as)++[93])++r)=91::(cd m.name++((d4 as).flatMap (32::·)++93::r)):=by
    change 91::(((cd m.name++(d4 as).flatMap (32::·))++[93])++r)=_;simp
   rw[if_pos U,if_pos U,e1,ix,WM];have e2:=wO (p:=aR) (a:=cd m.name) (r:=(d4 as).flatMap (32::·)++93::r) hlow λc r' e=>BN (r9 xv (sU true) r _ c r' e);rw[e2.1,e2.2,w9 hmn hm,WM,if_pos U,WM];exact main _ (Cu w as (b:=true) (f:=true) hs hdp (.inl U) (sU true))
  | false =>
   rw[ha] at main;have e1:(cd m.name++40::(cK 44 (d4 as)++[41])++r)=cd m.name++(40::(cK 44 (d4 as)++41::r)):=by simp
   rw[if_neg (),if_neg (),e1,WM];have e2:=wO (p:=aR) (a:=cd m.name) (r:=40::(cK 44 (d4 as)++41::r)) hlow λc r' e=>by cases e;rfl
   rw[e2.1,e2.2,w9 hmn hm,WM,if_neg (),ix,WM];show main _ ?_;exact Nx w as hs hdp (sU false)
theorem Cu{W:bZ}(w:fb W):∀ (as:!Vl) {n e:Nat} {b f:Bool} {ks:!Str} {r:!Nat},zt W ks as->qf as < n->(b=true\/f=false)->stop e->fz (cJ W n) b f ks ((d4 as).flatMap ((if b=true then 32 else 44)::·)++e::r)=some (as,e::r)
 | [],n,e,b,f,ks,r,h,_,_,_=>by
  have h:ks=[]:=h;rw[h]
  rfl
 | v::as,n,e,b,f,ks,r,h,hn,hb,he=>by
  let(k,ks',rfl,h1,h2):=h;have hn:max v.dp (qf as) < n:=hn;have e1:(d4 (v::as)).flatMap ((if b=true then 32 else 44)::·)++e::r=(if b=true then 32 else 44)::(v.T++((d4 as).flatMap ((if b=true then 32 else 44)::·)++e::r)):=by
   change (v.T::d4 as).flatMap _++_=_;rw[Xf];simp
  have e2:(if b=true then cL [32] ((if b=true then 32 else 44)::(v.T++((d4 as).flatMap ((if b=true then 32 else 44)::·)++e::r))) else if f=true then some ((if b=true then 32 else 44)::(v.T++((d4 as).flatMap ((if b=true then 32 else 44)::·)++e::r))) else cL [44] ((if b=true then 32 else 44)::(v.T++((d4 as).flatMap ((if b=true then 32 else 44)::·)++e::r))))=some (v.T++((d4 as).flatMap ((if b=true then 32 else 44)::·)++e::r)):=by
   cases b with
   | true=>rw[if_pos U,if_pos U];exact ix _ _
   | false =>
    rcases hb with hb | rfl
    .cases hb
    .rw[if_neg (),if_neg (),if_neg ()];exact ix _ _
  rw[e1,fz,e2,WM,CP w v h1 (by cbv) (r9 (by cases b;exact xC;exact xv) he r _),WM];change Option.map _ (fz (cJ W n) b false ks' ((d4 as).flatMap ((if b=true then 32 else 44)::·)++e::r))=_;rw[Cu w as h2 (by cbv) (.inr U) he]
  rfl
theorem Nx{W:bZ}(w:fb W):∀ (as:!Vl) {n e:Nat} {ks:!Str} {r:!Nat},zt W ks as->qf as < n->stop e->fz (cJ W n) false true ks (cK 44 (d4 as)++e::r)=some (as,e::r)
 | [],n,e,ks,r,h,_,_=>by
  have h:ks=[]:=h;rw[h]
  rfl
 | v::as,n,e,ks,r,h,hn,he=>by
  let(k,ks',rfl,h1,h2):=h;have hn:max v.dp (qf as) < n:=hn;have e1:cK 44 (d4 (v::as))++e::r=v.T++((d4 as).flatMap (44::·)++e::r):=by
   change (v.T++(d4 as).flatMap (44::·))++_=_;simp
  rw[e1,fz,if_neg (),if_pos U,WM,CP w v h1 (by cbv) (r9 xC he r _),WM];change Option.map _ (fz (cJ W n) false false ks' ((d4 as).flatMap (44::·)++e::r))=_;have:=Cu w as (b:=false) (f:=false) (r:=r) h2 (show qf as < n by cbv) (.inr U) he;rw[if_neg ()] at this;rw[this]
  rfl
end
def pH:Tk->D
 | .val k=>C7 k
 | .sg c=>uh c
 | .kT b m n=>.tup [.str "thing",.str (bC b),.str m,.int n]
theorem FF(f:Bool):∀ fs:!(Str×Str),(mQ true f (fs.map (·.2))).map pH=fs.flatMap λf=>[uh [32],C7 f.2]
 | []=>rfl
 | x::r=>by
  rw[Xf,<- FF false r]
  rfl
theorem Ft:∀ fs:!(Str×Str),(mQ false false (fs.map (·.2))).map pH=fs.flatMap λf=>[uh [44],C7 f.2]
 | []=>rfl
 | x::r=>by
  rw[Xf,<- Ft r]
  rfl
theorem Kl(b:Bool)(fs:!(Str×Str)):(mQ b true (fs.map (·.2))).map pH=wU b fs:=by
 cases b with
 | true=>exact FF true fs
 | false =>
  cases fs with
  | nil=>rfl
  | cons x r =>
   change C7 x.2::(mQ false false (r.map (·.2))).map pH=C7 x.2::r.flatMap λf=>[uh [44],C7 f.2];rw[Ft]
theorem LK(b:Bool)(m:Str)(fs:!(Str×Str)):(t9 b m (fs.map (·.2))).map pH=AQ b fs++[.tup [.str "thing",.str (bC b),.str m,.int fs.length]]:=by
 unfold t9 AQ;rw[Wv,Wv,Kl,Wk];cases b with
 | true=>change wU true fs++[uh [93],_]=(wU true fs++[uh [93]])++_;rw[WN];rfl
 | false=>change uh [40]::(wU false fs++[uh [41],_])=uh [40]::((wU false fs++[uh [41]])++_);rw[WN];rfl
def zA:!Tk->Nat->Prop
 | [],n=>1<=n
 | .val _::A,n=>zA A (n+1)
 | .sg _::A,n=>zA A n
 | .kT _ _ k::A,n=>(k<=n/\k<=3)/\zA A (n - k+1)
def yP:!Tk->Prop
 | []=>True
 | .sg c::A=>((∃ a,c=[a])\/A=[])/\yP A
 | _::A=>yP A
theorem Fs(b:Bool)(A:!Tk):∀ (ks:!Str) (f:Bool) (n:Nat),zA A (n+ks.length)->zA (mQ b f ks++A) n
 | [],f,n,h=>h
 | k::ks,f,n,h=>by
  have h2:zA (mQ b false ks++A) (n+1):=Fs b A ks false (n+1) (by rw[Nat.add_assoc,Nat.add_comm 1];exact h);unfold mQ;cases b with
  | true=>exact h2
  | false =>
   cases f with
   | true=>exact h2
   | false=>exact h2
theorem Mv(b:Bool)(m:Str){A:!Tk}{ks:!Str}{n:Nat}(hk:ks.length<=3)(h:zA A (n+1)):zA (t9 b m ks++A) n:=by
 have h2:zA (mQ b true ks++([.sg (if b=true then [93] else [41]),.kT b m ks.length]++A)) n:=by
  show Fs b _ ks true n ?_;show#[#[by cbv,hk],?_];rw[Nat.add_sub_cancel];exact h
 unfold t9;cases b with
 | true=>rw[if_pos U,WQ,WN];exact h2
 | false=>rw[if_neg (),WN,WN];exact h2
theorem FR(b:Bool){A:!Tk}(h:yP A):∀ (ks:!Str) (f:Bool),yP (mQ b f ks++A)
 | [],f=>h
 | k::ks,f=>by
  have h2:yP (mQ b false ks++A):=FR b h ks false;unfold mQ;cases b with
  | true=>exact#[.inl #[32,U],h2]
  | false =>
   cases f with
   | true=>exact h2
   | false=>exact#[.inl #[44,U],h2]
theorem MX(b:Bool)(m:Str){A:!Tk}(ks:!Str)(h:yP A):yP (t9 b m ks++A):=by
 have h2:yP (mQ b true ks++([.sg (if b=true then [93] else [41]),.kT b m ks.length]++A)):=by
  show FR b ?_ ks true;exact#[.inl (by cases b;exact#[41,U];exact#[93,U]),h]
 unfold t9;cases b with
 | true=>rw[if_pos U,WQ,WN];exact h2
 | false=>rw[if_neg (),WN,WN];exact#[.inl #[40,U],h2]
theorem yn(b:Bool):∀ (ks:!Str) (f:Bool),(mQ b f ks).length<=2 * ks.length
 | [],f=>Wo _
 | k::ks,f=>by
  have:=yn b ks false;unfold mQ;rw[Wm,Ws,Ws];have:(if b=true then [Tk.sg [32]] else if f=true then [] else [Tk.sg [44]]).length<=1:=by cases b<;>cases f<;>decide
  cbv
theorem yp(b:Bool)(m:Str)(ks:!Str):(t9 b m ks).length<=2 * ks.length+3:=by
 have:=yn b ks true;unfold t9;rw[Wm,Wm];have:(if b=true then [] else [Tk.sg [40]]).length<=1:=by cases b<;>decide
 simp only[List.length_cons,List.length_nil];cbv
theorem CJ(p:Nat->Bool)(i:Nat)(l:!Nat):((l.drop i).takeWhile p).length<=l.countP p:=by
 have h1:((l.drop i).takeWhile p).countP p=((l.drop i).takeWhile p).length:=List.countP_eq_length.mpr λa ha=>W5.mp List.all_takeWhile a ha;rw[<- h1];exact ((List.takeWhile_sublist _).trans (XB _ _)).countP_le
def zv{α:Type}(x:Prop)(R:α->Prop):Option α->Prop
 | some a=>R a
 | none=>x
theorem Gz{α:Type}{x:Prop}{R:α->Prop}{a:α}(h:R a):zv x R (some a):=h
def zW(z:!Nat):Nat:=z.countP bg
theorem cnt_join(p:Nat->Bool)(c:Nat)(hc:p c=false):∀ ts:!(!Nat),(cK c ts).countP p=(ts.map (List.countP p)).sum
 | []=>rfl
 | t::r=>by
  have e:∀ r:!(!Nat),(r.flatMap (c::·)).countP p=(r.map (List.countP p)).sum:=λr=>by
   induction r with
   | nil=>rfl
   | cons t r ih=>rw[List.flatMap_cons,List.countP_append,ih,List.countP_cons,hc,List.map_cons,List.sum_cons];simp
  rw[cK,Yk,e,Wu,XC]
theorem gZ{c z z':!Nat}(h:cL c z=some z'):z'.Sublist z:=by
 unfold cL at h;split at h
 .cases h;exact XB _ _
 .cases h
theorem yD{rd:Str->!Nat->Option (Vl×!Nat)}{b:Bool}(hr:∀ k z' q,rd k z'=some q->q.2.Sublist z'):∀ {ks:!Str} {f:Bool} {z:!Nat} {q:!Vl×!Nat},fz rd b f ks z=some q->q.2.Sublist z
 | [],f,z,q,h=>by cases h;exact Xm _
 | k::ks,f,z,q,h=>by
  let(z1,h1,h):=WE.mp h;let(q1,h2,h):=WE.mp h;let(p,h3,rfl):=WD.mp h;have hz:z1.Sublist z:=by
   split at h1
   .exact gZ h1
   .split at h1
    .cases h1;exact Xm _
    .exact gZ h1
  exact ((yD hr h3).trans (hr _ _ _ h2)).trans hz
theorem xm{W:bZ}:∀ {n:Nat} {k:Str} {z:!Nat} {q:Vl×!Nat},cJ W n k z=some q->q.2.Sublist z
 | 0,k,z,q,h=>nomatch h
 | n+1,k,z,q,h=>by
  unfold cJ at h;split at h
  .let(i,_,rfl):=WD.mp h;exact XH _
  .let(kd,_,h):=WE.mp h;let(z1,h1,h):=WE.mp h;let(m,_,h):=WE.mp h;let(z2,h2,h):=WE.mp h;let(q2,h3,h):=WE.mp h;let(z3,h4,rfl):=WD.mp h;have e1:z1.Sublist z:=by
    split at h1
    .exact gZ h1
    .cases h1;exact Xm _
   have e2:z2.Sublist z1:=by
    split at h2
    .cases h2;exact XH _
    .exact (gZ h2).trans (XH _)
   exact (((gZ h4).trans (yD (λk z' q h=>xm h) h3)).trans e2).trans e1
def Ex(l:!Nat)(n:Nat):Prop:=l.length<=4000/\zW l<=500/\cR l < n
theorem Ex.sub{l z:!Nat}{n:Nat}(h:Ex l n)(s:z.Sublist l):Ex z n:=#[Wr s.length_le h.1,Wr s.countP_le h.2.1,XI (k8 s) h.2.2]
theorem ib(a:Nat)(z:!Nat):Txt.startswith (aH z) (aH [a])=(cL [a] z).isSome:=by
 unfold Txt.startswith GE.Str.subAt cL;cases z with
 | nil=>rfl
 | cons b r =>
  have e:(aH (b::r)).cps.extract 0 (0+(aH [a]).length)=#v[b]:=by
   change ((b::r).toArray.extract 0 1)=#v[b];simp
  rw[e,bz];change (decide (0+1<=r.length+1)&&(#v[b] == #v[a]))=(if [b]=[a] then some _ else none).isSome;rw[decide_eq_true (by cbv),Bool.true_and];by_cases h:b=a
  .subst h;rw[if_pos U];simp
  .rw[if_neg (by intro z;exact h (by injection z))];simp[h]
theorem vS(z:!Nat):Txt.startswith (aH z) (aH [])=true:=by
 unfold Txt.startswith GE.Str.subAt;rw[show (aH []).length=0 from U,decide_eq_true (WG _),Bool.true_and];change ((z.toArray.extract 0 0) == #v[])=true;simp
theorem CF(c:Nat):(not ((GE.Str.occurrences (aH (cd "0123456789")) #[#v[c]] 0 (aH (cd "0123456789")).length 1).isEmpty))=bg c:=by
 rw[StrLaws.found_one];unfold bg;rw[show (aH (cd "0123456789")).cps.toList=(List.range 10).map (·+48) by decide+kernel,<- Bool.decide_and];show decide_eq_decide.mpr ?_;rw[WO];constructor
 .rintro⟨a,ha,rfl⟩;have:=Xg.mp ha;cbv
 .intro h;exact#[c - 48,Xg.mpr (by cbv),by cbv]
theorem Jr(c:Nat):(not ((GE.Str.occurrences (aH (cd "abcdefghijklmnopqrstuvwxyz")) #[#v[c]] 0 (aH (cd "abcdefghijklmnopqrstuvwxyz")).length 1).isEmpty))=aR c:=by
 rw[StrLaws.found_one];unfold aR;rw[show (aH (cd "abcdefghijklmnopqrstuvwxyz")).cps.toList=(List.range 26).map (·+97) by decide+kernel,<- Bool.decide_and];show decide_eq_decide.mpr ?_;rw[WO];constructor
 .rintro⟨a,ha,rfl⟩;have:=Xg.mp ha;cbv
 .intro h;exact#[c - 97,Xg.mpr (by cbv),by cbv]
theorem zp{α:Type}(f:α->D)(l:!α):l7 (l.map f)=(l.zipIdx 0).map λq=>.tup [.int (q.2:Nat),f q.1]:=by
 show List.ext_getElem (by rw[jf];simp) λi h1 h2=>?_;simp[l7]
theorem B7{W:bZ}{n:Nat}{b:Bool}(hr:∀ k z q,cJ W n k z=some q->VK W k q.1/\q.1.dp<=n):∀ {ks:!Str} {f:Bool} {z:!Nat} {q:!Vl×!Nat},fz (cJ W n) b f ks z=some q->zt W ks q.1/\qf q.1<=n
 | [],f,z,q,h=>by cases h;exact#[U,WG _]
 | k::ks,f,z,q,h=>by
  let(z1,_,h):=WE.mp h;let(q1,h2,h):=WE.mp h;let(p,h3,rfl):=WD.mp h;let(a1,a2):=hr _ _ _ h2;let(b1,b2):=B7 hr h3;exact#[#[k,ks,U,a1,b1],Nat.max_le.mpr #[a2,b2]]
theorem CY{W:bZ}:∀ {n:Nat} {k:Str} {z:!Nat} {q:Vl×!Nat},cJ W n k z=some q->VK W k q.1/\q.1.dp<=n
 | 0,k,z,q,h=>nomatch h
 | n+1,k,z,q,h=>by
  unfold cJ at h;split at h
  .rename_i e
   let(i,h1,rfl):=WD.mp h;exact#[#[e,(gD h1).1],WG _]
  .let(kd,h0,h):=WE.mp h;let(z1,_,h):=WE.mp h;let(m,h1,h):=WE.mp h;let(z2,_,h):=WE.mp h;let(q2,h3,h):=WE.mp h;let(z3,_,rfl):=WD.mp h;let(a1,a2):=B7 (λk z q h=>CY h) h3;show#[#[kd,List.mem_of_find?_eq_some h0,m,List.mem_of_find?_eq_some h1,by simpa using List.find?_some h0,U,U,a1],?_];change 1+qf q2.1<=n+1;cbv
mutual
theorem Fh{W:bZ}(w:fb W):∀ (v:Vl) {k:Str},VK W k v->mU (vD v)=true/\(toP (vD v)).depth<=2 * v.dp
 | .num i,k,h=>#[U,Wo _]
 | .ir b n as,k,h=>by
  let(kd,hkd,m,hm,_,_,rfl,hs):=h;let(h1,h2):=Bu w as hs;have hn:=(w.mo kd hkd m hm).1;show#[?_,?_]
  .show (GM.strOk (bC b)&&(GM.strOk m.name&&(mP (yA as)&&true)))=true;rw[hn.ok,h1,show GM.strOk (bC b)=true by cases b<;>decide+kernel]
   rfl
  .show max 0 (max 0 (max (GM.depthAll (toPs (yA as))+1) 0))+1<=2 * (1+qf as);cbv
theorem Bu{W:bZ}(w:fb W):∀ (as:!Vl) {ks:!Str},zt W ks as->mP (yA as)=true/\GM.depthAll (toPs (yA as))<=2 * qf as
 | [],ks,h=>#[U,Wo _]
 | v::r,ks,h=>by
  let(k,ks',rfl,h1,h2):=h;let(a1,a2):=Fh w v h1;let(b1,b2):=Bu w r h2;show#[?_,?_]
  .show (mU (vD v)&&mP (yA r))=true;rw[a1,b1];rfl
  .show max ((toP (vD v)).depth) (GM.depthAll (toPs (yA r)))<=2 * max v.dp (qf r);cbv
end
theorem qH.LV{ws:!Str}{ks:!Kd}(h:qH ws ks)(hl:ws.length=45)(hn:ws.Nodup):∀ x∈ws.drop 30,∀ k∈ks,k.name≠x:=by
 let(ns,ML,AL,pZ,e1,n1,n3,pM,pA,rl,I,hk):=h.ex;have rk:pZ.map Kd.name=ns:=by rw[I.kn,rl,List.take_length]
 have mem:∀ k∈ks,k.name∈ws.take 30:=λk hkk=>by
  have r:k∈pZ->k.name∈ws.take 30:=λhr=>by
   have:k.name∈ns:=by rw[<- rk];exact WJ hr
   rw[e1] at this;exact (List.take_sublist_take_left (by cbv)).mem this
  rcases hk with rfl | ⟨kd,rfl,_,b,_⟩
  .exact r hkk
  .rcases WS.mp hkk with z | z
   .exact r z
   .rw[WA.mp z];show WX (i:=3) ?_;rw[List.getElem?_take_of_lt ()];exact b
 intro x hx k hkk e;have hd:=(W6.mp (by rw[Xv 30 ws];exact hn)).2.2;exact hd _ (mem k hkk) _ hx e
end DL
section
local macro_rules
 | `(tactic|left)=>`(tactic|first|show#[U,?_]|show#[#[U,U],?_]|show#[#[U,U,U],?_]|show#[.inl U,?_]|show#[.inr U,?_]|show#[DL.bQ,?_]|show#[DL.jj,?_]|show#[DL.N8,?_]|(apply Exists.intro;left)|(show Or.inl ?_;left)|(show Or.inr ?_;left))
local macro_rules
 | `(tactic|right)=>`(tactic|repeat (first|show DL.gq (by decide+kernel) ?_|show DL.gC (by decide+kernel) ?_|left))
section
local macro_rules
 | `(tactic|trivial)=>`(tactic|repeat (first | show DL.gq (by decide+kernel) ?_ | show DL.gC (by decide+kernel) ?_  | show#[_,U,?_] | show#[_,_,_,U,U,U,?_] | show#[_,_,_,U,U,DL.bQ,?_] | show#[_,_,U,U,?_] | show#[#[U,U,U],?_] | show#[_,.inr U,#[U,U],?_] | show#[_,.inl U,#[U,U],?_] | show#[_,.inr U,?_] | show#[_,.inl U,?_] | show#[_,_,U,U,U,?_] | show .inl #[_,U,?_] | show .inr #[_,_,U,U,?_] | show#[_,_,_,U,U,?_] | show#[#[U,U],?_]))
namespace MH
open PySem L2 DL
abbrev aa0(P w K mg base e n t):=DL.C4 P w K mg base bu e n (DL.cA K .no t)
def top(i:Nat):FM:=PySem.Challenge.pw_sideturn_k17_texts_that_are_no_values.main.body.getD i (.Pass #[0,0,0,0])
abbrev mv:FM:=top 11
abbrev gd:D3:=("makers_in",mv,["kind"])
theorem tJ:aw ["kind"] ["kind"] (ag mv):=gX
abbrev jK:FM:=top 12
abbrev dH:D3:=("kind_called",jK,["program","name"])
theorem iT:aw ["program","name","kind"] ["program","name"] (ag jK):=gX
abbrev mM:FM:=top 13
abbrev fU:D3:=("makers_of",mM,["program","name"])
theorem kP:aw ["program","name","kind"] ["program","name"] (ag mM):=gX
abbrev qL:FM:=top 14
abbrev ju:D3:=("side_of",qL,["program","name"])
theorem oX:aw ["program","name","kind"] ["program","name"] (ag qL):=gX
abbrev d9:FM:=top 17
abbrev oR:D3:=("lies_between",d9,["text","first","last"])
theorem mR:aw ["text","first","last"] ["text","first","last"] (ag d9):=gX
abbrev iD:FM:=top 18
abbrev iA:D3:=("is_number",iD,["text"])
theorem sO:aw ["text"] ["text"] (ag iD):=gX
abbrev jM:FM:=top 21
abbrev eF:D3:=("read_number",jM,["reading"])
theorem iw:aw ["reading","figures"] ["reading"] (ag jM):=gX
abbrev iL:FM:=top 22
abbrev d7:D3:=("tasks_behind",iL,["side","fields"])
theorem dJ:aw ["side","fields","tasks","name","kind"] ["side","fields"] (ag iL):=gX
abbrev kh:FM:=top 23
abbrev eY:D3:=("read_thing",kh,["reading","program","kind"])
theorem dA:aw ["reading","program","kind","side","maker","makers","fields"] ["reading","program","kind"] (ag kh):=gX
abbrev jI:FM:=top 24
abbrev eE:D3:=("build_thing",jI,["reading","side","maker","many"])
theorem iP:aw ["reading","side","maker","many","inside"] ["reading","side","maker","many"] (ag jI):=gX
abbrev kz:FM:=top 25
abbrev fc:D3:=("read_value",kz,["program","kind","text"])
theorem gh:aw ["program","kind","text","reading","task"] ["program","kind","text"] (ag kz):=gX
abbrev oj:FM:=top 27
abbrev ig:D3:=("_law_deal",oj,["_law_script","_law_base"])
abbrev nT:FM:=top 28
abbrev ba:D3:=("_law_draw",nT,["_law_deal_here","_law_many"])
abbrev cg:FM:=top 29
abbrev fP:D3:=("_law_words",cg,["_law_deal_here","_law_many"])
theorem a8:aw ["_law_deal_here","_law_many","_law_letters","_law_core","_law_at","_law_turn","_law_found","_law_k","_law_own","_law_word","_law_near"] ["_law_deal_here","_law_many"] (ag cg):=gX
abbrev mO:FM:=top 30
abbrev f9:D3:=("_law_pairs",mO,["_law_deal_here","_law_names","_law_some","_law_most"])
theorem kK:aw ["_law_deal_here","_law_names","_law_some","_law_most","_law_many"] ["_law_deal_here","_law_names","_law_some","_law_most"] (ag mO):=gX
abbrev mN:FM:=top 31
abbrev fQ:D3:=("_law_heads",mN,["_law_deal_here","_law_words_here","_law_most"])
theorem aP:aw ["_law_deal_here","_law_words_here","_law_most","_law_found","_law_names","_law_shift","_law_makers_left","_law_askers_left","_law_kk","_law_makers","_law_k","_law_some","_law_askers","_law_params"] ["_law_deal_here","_law_words_here","_law_most"] (ag mN):=gX
abbrev k6:FM:=top 32
abbrev dj:D3:=("_law_things",k6,["_law_world_here"])
theorem pY:aw ["_law_world_here"] ["_law_world_here"] (ag k6):=gX
abbrev nQ:FM:=top 33
abbrev ik:D3:=("_law_leaf",nQ,["_law_deal_here","_law_world_here","_law_scope","_law_kind"])
theorem iY:aw ["_law_deal_here","_law_world_here","_law_scope","_law_kind","_law_own","_law_first"] ["_law_deal_here","_law_world_here","_law_scope","_law_kind"] (ag nQ):=gX
abbrev qp:FM:=top 34
abbrev gE:D3:=("_law_all",qp,["_law_deal_here","_law_world_here","_law_scope","_law_some","_law_room"])
theorem wD:aw ["_law_deal_here","_law_world_here","_law_scope","_law_some","_law_room"] ["_law_deal_here","_law_world_here","_law_scope","_law_some","_law_room"] (ag qp):=gX
abbrev qV:FM:=top 35
abbrev jd:D3:=("_law_ask",qV,["_law_deal_here","_law_world_here","_law_scope","_law_kind","_law_room"])
theorem cu:aw ["_law_deal_here","_law_world_here","_law_scope","_law_kind","_law_room","_law_some","_law_side","_law_kk","_law_makers","_law_askers","_law_f","_law_params","_law_terms"] ["_law_deal_here","_law_world_here","_law_scope","_law_kind","_law_room"] (ag qV):=gX
abbrev mK:FM:=top 36
abbrev fX:D3:=("_law_bound",mK,["_law_deal_here","_law_world_here","_law_scope","_law_many"])
theorem gW:aw ["_law_deal_here","_law_world_here","_law_scope","_law_many","_law_some","_law_at"] ["_law_deal_here","_law_world_here","_law_scope","_law_many"] (ag mK):=gX
abbrev vZ:FM:=top 37
abbrev jR:D3:=("_law_case",vZ,["_law_deal_here","_law_world_here","_law_scope","_law_kind","_law_room"])
abbrev zD:FM:=top 38
abbrev lr:D3:=("_law_new",zD,["_law_deal_here","_law_world_here","_law_scope","_law_kind","_law_room"])
abbrev nR:FM:=top 39
abbrev fA:D3:=("_law_term",nR,["_law_deal_here","_law_world_here","_law_scope","_law_kind","_law_room"])
theorem aJ:aw ["_law_deal_here","_law_world_here","_law_scope","_law_kind","_law_room","_law_form","_law_found","_law_a","_law_b","_law_some","_law_other","_law_x","_law_makers","_law_c","_law_fields"] ["_law_deal_here","_law_world_here","_law_scope","_law_kind","_law_room"] (ag nR):=gX
abbrev mF:FM:=top 40
abbrev fT:D3:=("_law_world",mF,["_law_deal_here","_law_most","_law_tables"])
theorem kF:aw ["_law_deal_here","_law_most","_law_tables","_law_words_here"] ["_law_deal_here","_law_most","_law_tables"] (ag mF):=gX
abbrev mh:FM:=top 41
abbrev f7:D3:=("_law_cells",mh,["_law_deal_here","_law_world_here","_law_room"])
theorem bo:aw ["_law_deal_here","_law_world_here","_law_room","_law_found","_law_side","_law_kk","_law_makers","_law_askers","_law_own","_law_c","_law_fields","_law_f","_law_params","_law_result"] ["_law_deal_here","_law_world_here","_law_room"] (ag mh):=gX
abbrev jE:FM:=top 42
abbrev eD:D3:=("_law_program",jE,["_law_deal_here","_law_world_here","_law_room"])
theorem aF:aw ["_law_deal_here","_law_world_here","_law_room","_law_found","_law_one","_law_cells_here","_law_side","_law_kk","_law_makers","_law_askers","_law_way","_law_blocks","_law_f","_law_params","_law_result","_law_rows","_law_c","_law_fields"] ["_law_deal_here","_law_world_here","_law_room"] (ag jE):=gX
abbrev nO:FM:=top 43
abbrev g8:D3:=("_law_text",nO,["_law_value"])
theorem mD:aw ["_law_value","_law_some"] ["_law_value"] (ag nO):=gX
abbrev mq:FM:=top 44
abbrev fW:D3:=("_law_thing",mq,["_law_deal_here","_law_world_here","_law_kind","_law_room"])
theorem b4:aw ["_law_deal_here","_law_world_here","_law_kind","_law_room","_law_side","_law_kk","_law_makers","_law_askers","_law_c","_law_fields","_law_some","_law_field"] ["_law_deal_here","_law_world_here","_law_kind","_law_room"] (ag mq):=gX
abbrev nW:FM:=top 45
abbrev fo:D3:=("_law_upto",nW,["_law_text_here","_law_signs"])
theorem iJ:aw ["_law_text_here","_law_signs","_law_many"] ["_law_text_here","_law_signs"] (ag nW):=gX
abbrev kY:FM:=top 46
abbrev fe:D3:=("_law_number",kY,["_law_text_here"])
theorem jN:aw ["_law_text_here","_law_word"] ["_law_text_here"] (ag kY):=gX
abbrev oS:FM:=top 47
abbrev ia:D3:=("_law_read",oS,["_law_world_here","_law_kind","_law_text_here"])
theorem aU:aw ["_law_world_here","_law_kind","_law_text_here","_law_side","_law_kk","_law_makers","_law_askers","_law_c","_law_some","_law_rest","_law_found","_law_k","_law_field","_law_sign","_law_part"] ["_law_world_here","_law_kind","_law_text_here"] (ag oS):=gX
abbrev qc:FM:=top 48
abbrev jt:D3:=("_law_due",qc,["_law_world_here","_law_kind","_law_text_here"])
theorem oz:aw ["_law_world_here","_law_kind","_law_text_here","_law_found"] ["_law_world_here","_law_kind","_law_text_here"] (ag qc):=gX
abbrev nN:FM:=top 49
abbrev gY:D3:=("_law_told",nN,["_law_program_here","_law_kind","_law_text_here"])
theorem eI:aw ["_law_program_here","_law_kind","_law_text_here","_law_caught","_law_found","e","_law_others"] ["_law_program_here","_law_kind","_law_text_here"] (ag nN):=gX
abbrev dg:FM:=top 50
abbrev ji:D3:=("_law_odd",dg,["_law_deal_here","_law_text_here"])
theorem hV:aw ["_law_deal_here","_law_text_here","_law_some"] ["_law_deal_here","_law_text_here"] (ag dg):=gX
abbrev j9:FM:=top 51
abbrev eU:D3:=("_law_spoilt",j9,["_law_deal_here","_law_text_here"])
theorem cz:aw ["_law_deal_here","_law_text_here","_law_way","_law_at","_law_sign","_law_other","_law_figures"] ["_law_deal_here","_law_text_here"] (ag j9):=gX
abbrev kR:FM:=top 52
theorem eB:aw ["_law_script","_law_deal_here","_law_world_here","_law_program_here","_law_kinds","_law_all_kinds","_law_turn","_law_kind","_law_value","_law_text_here","_law_other","_law_spoilt_here"] ["_law_script"] (ag kR):=gX
structure Txt(K:Frag)(mg:Str->Option AT):Prop where
 all:mg "all"=none
 dict:mg "dict"=none
 enumerate:mg "enumerate"=none
 int:mg "int"=none
 Oh:mg "isinstance"=none
 len:mg "len"=none
 list:mg "list"=none
 max:mg "max"=none
 min:mg "min"=none
 range:mg "range"=none
 rev:mg "reversed"=none
 str:mg "str"=none
 tuple:mg "tuple"=none
 zip:mg "zip"=none
 bool:mg "bool"=none
section
variable{P:Fa}{w:FS}{K:Frag}{mg:Str->Option AT}{base:Ev}
theorem aI{b b':Bool}{A B:Prop}(h:b=b')(q1:b'=true->A)(q2:b'=false->B):if b=true then A else B:=by
 subst h;cases b with
 | true=>exact lM (q1 U)
 | false=>exact sH (q2 U)
theorem y4{ws:!Str}:(ws.map D.str).all gy=true:=by
 rw[List.all_map];exact W5.mpr λ_ _=>rfl
theorem EU{ws:!Str}:(ws.map D.str).map fv=ws.map V.str:=by
 rw[WV]
 rfl
theorem lj{zs:!Str}{r:Int}(h0:0<=r)(h1:r < zs.length):∃ z∈zs,gR (zs.map D.str) r=some (.str z):=by
 have hj:r.toNat < zs.length:=by cbv
 show#[zs[r.toNat],X7 hj,?_];have e:(r.toNat:Int)=r:=Int.toNat_of_nonneg h0;have q:=eZ (xs:=zs.map D.str) (j:=r.toNat) (v:=.str zs[r.toNat]) (by simp[hj]);rw[e] at q;exact q
theorem u0:∀ (ys:!D),(∀ y∈ys,∃ ch,(97<=ch/\ch<=122)/\y=D.str #[#v[ch]])->∃ cs:!Nat,ys=(cs.map λc=>(#[#v[c]]:Str)).map D.str/\(∀ c∈cs,97<=c/\c<=122)/\cs.length=ys.length
 | [],_=>#[[],U,λ_ h=>absurd h (by simp),U]
 | y::ys,h=>by
  let(ch,hc,e):=h y Wt;let(cs,e2,h2,h3):=u0 ys λz hz=>h z (Wq _ hz);subst e;show#[ch::cs,by rw[e2];simp,λc hm=>?_,by simp[h3]];rcases WI.mp hm with rfl | hm
  .exact hc
  .exact h2 c hm
theorem AV{d l:AC}(dZ:C4 P w K mg base bu ba 1 (cA K (aT d l) (gb d)))(F:Own K mg fP)(T:Txt K mg):C4 P w K mg base bu fP 2 (cA K (aT d l) (BL d)):=by
 show F.d (nos:=1) a8 (λds R h=>?_) λf bq A outer s H E M hr=>?_
 .let(m,rfl,_):=h
  rfl
 have hb:aG cg=FV (aG cg) 6 (pS ((aG cg).getD 6 oQ)):=rfl;have ha:ou (pS ((aG cg).getD 6 oQ))=true:=rfl;have hz:ua (pS ((aG cg).getD 6 oQ))=cP.near:=rfl;have hl3:(pS ((aG cg).getD 6 oQ)).length=cP.near.length:=rfl;generalize pS ((aG cg).getD 6 oQ)=es at hb ha hz hl3;have hn:(es.length<=1000:Bool)=true:=by rw[hl3];decide
 rw[hb];show#[_,(af (kI (eM (i:=2) a8.nd U (Or.inr U) (DE.pe ak)))
 (af (sS 3 a8.nd (tu ak (aa (DN.de (nC ["_law_k"] [2,0] (c6 U T.range (aa (aq hr dZ (aa (vd 0) (aa ai ae))) ae)) (λ_ _ _ _=>(gM 0 ["_law_k","_law_letters","_law_deal_here"])) (λ_ _ _ _=>du)
 (λ_ _ _ _=>(rV iB oh (vd 1) (aq hr dZ (aa (vd 2) (aa ai ae))) (λ_ _=>rfl))))) ae)))
 (af (sS 4 a8.nd (aq hr dZ (aa (vd 0) (aa (a9 cw fN (dQ cm jV U T.len Xi (aa (vd 3) ae)) ai) ae))))
 (af (sS 5 a8.nd (aq hr dZ (aa (vd 0) (aa ai ae))))
 (af (sN 0 6 a8.nd (aO ae))
 (af (sF (c6 U T.range (aa (vd 1) ae)) (gN 7 a8.nd)
 (af (sS 8 a8.nd (rV iB oh (vd 2) (a9 gk z6 (a9 cw fN (vd 5) (a9 i8 z6 ai (vd 7))) ai) (λ_ _=>rfl)))
 (af (sS 9 a8.nd (a9 aB bp (a9 aB bp (a9 aB bp (a9 aB bp (aY (vd 3) bw (aL (vd 4))) (vd 8)) (aY (vd 3) (aL (vd 4)) bw)) (a9 j2 vW ak (a9 gk z6 (vd 7) ai))) (a9 j2 vW ak (a9 d5 z6 (vd 7) ai))))
 (af (bS (az qg okIn (vd 9) (aQ (aa ak (aa ak (aa ak (aa ak (aa ak (aa ak (aa ak ae)))))))) U)
 (aj (sS 9 a8.nd (a9 aB bp (vd 9) ak)))
 aK)
 (af (bS (az qg okIn (vd 9) (aQ (aa ak (aa ak (aa ak (aa ak (aa ak (aa ak ae))))))) U)
 (aj (sS 9 a8.nd (a9 aB bp (vd 9) ak)))
 aK)
 (aj (wM 6 (aa (vd 9) ae))))))))
 (af (sS 10 a8.nd (DN.de (aO (xS ha hz hl3) hn)))
 (af (sS 9 a8.nd (iz (vd 10) (aq hr dZ (aa (vd 0) (aa ai ae)))))
 (af (bS (DW.dt (gL (az aW cf (aq hr dZ (aa (vd 0) (aa ai ae))) ai (av _)) (eS (HQ kq (vd 9) (pv 6) U))))
 (aj (Et (Bx (DE.pe (vd 9)) (Im (pv 6) (DE.pe (aq hr dZ (aa (vd 0) (aa (vd 1) ae)))) set_list))))
 aK)
 (aj (aN (za (pv 6))))))))))))),λds R h=>?_]
 .let(m,rfl,(hm0,hm1),q):=h;trivial;show#[#[by decide,by decide],λr r0 r1=>?_];show#[r,U,#[by cbv,by cbv],?_];show nK (λy=>∃ ch,(97<=ch/\ch<=122)/\y=D.str #[#v[ch]]) _ (λx hx k hk=>?_) λys hyl hyp=>?_
  .refine#[_,U,_,U,_,U,#[by decide,by decide],λa a0 a1=>?_];exact#[_,_,_,U,U,by decide+kernel,xl a0 a1,hk _ _ #[_,#[by cbv,by cbv],U] rfl]
  let(cs,e1,hcs,hcl):=u0 ys hyp;subst e1;have hcl':cs.length<=4:=by
   have:(ee 0 r.toNat).length=r.toNat:=by simp[ee]
   rw[hcl,hyl,this];cbv
  show#[cs.map λc=>(#[#v[c]]:Str),U,?_,?_]
  .rw[cP.uI,Wk];change cs.length+cs.length * 0<=16777216;cbv
  have hcore:(Txt.join ("":Str) (cs.map λc=>(#[#v[c]]:Str))).length<=4:=by
   have:=cP.join_ones cs;cbv
  have hlw:Lw (Txt.join ("":Str) (cs.map λc=>(#[#v[c]]:Str))):=λc hc=>by
   rw[pj] at hc;exact hcs c hc
  generalize Txt.join ("":Str) (cs.map λc=>(#[#v[c]]:Str))=core at hcore hlw;have hsz:(1000:Nat)<=FB:=by decide
  show#[_,U,_,U,_,U,by omega,_,_,U,U,_,U,#[by omega,by omega],λat_' a0 a1=>?_];show#[_,U,_,U,#[by decide,by decide],λtn t0 t1=>?_];show#[#[U,U],_,U,m,U,#[by cbv,by cbv],?_];have h2s:=zi (x:=core) (i:=at_') a0 (by cbv);have hL1:=hlw.slice none (some at_');have hL2:=hlw.slice (some at_') none;generalize yZ:Txt.slice core none (some at_')=pre at h2s hL1;generalize hpost:Txt.slice core (some at_') none=post at h2s hL2;show dq (λxs s=>∃ (ws:!Str) (a b e:Sl),(∀ (i:Nat) (x:D),xs[i]?=some x->x=D.int ((ws.length+i:Nat):Int))/\ws.length+xs.length=m.toNat/\uC pre.cps.toList post.cps.toList tn.toNat ws/\s=#[[.dat (.cT d),.dat (.int m),.dat (.str cP.KN),.dat (.str core),.dat (.int at_'),.dat (.int tn),.own 0,a,b,e,.no],[some (.lst (ws.map D.str))]]) ?_ ?_ _ _ #[[],.no,.no,.no,?_,?_,λ_ _ h=>absurd h (by simp),U]
  .rintro s ⟨ws,a,b,e,h1,h2,h3,rfl⟩
   replace h2:ws.length=m.toNat:=h2
   trivial;show#[#[by decide,by decide],λr r0 r1=>?_];let(z,hz2,ez):=lj (zs:=cP.near) r0 r1;have hzw:=D7 z hz2;show#[_,_,_,U,U,ez,?_];show#[_,U,_,U,#[by decide,by decide],λr2 r20 r21=>?_];show#[#[U,U,U],_,U,?_];show aI U (λ_=>?_) λ_=>?_
   .refine#[_,U,0,_,U,U,#[U,y4],_,U,?_];show aI U (λhni=>?_) λ_=>?_
    .refine#[_,U,0,U,_,U,_,U,_,U,#[by cbv,by cbv],λr3 r30 r31=>?_];have hj:Au (ws.map D.str).length r3=some r3.toNat:=by
      rw[Wk];unfold Au;rw[if_pos (by cbv),if_pos (by cbv)]
     show#[_,_,_,U,U,hj,?_];show .inr #[0,_,U,U,?_];change R (.lst ((ws.map D.str).set r3.toNat (.str z)));rw[<- List.map_set];have hnz:z∉ws:=λhm=>by
      replace hni:(not (y0 (.str z) ((ws.map D.str).map fv)))=true:=hni
      rw[EU,eJ,decide_eq_true hm] at hni;cases hni
     show q _ (by simpa using h2) (qX _ h3.nodup hnz) λy hy=>?_;rcases List.mem_or_eq_of_mem_set hy with hy | rfl
     .exact h3.nm y hy
     .exact hzw
    .exact .inr #[0,_,U,U,q ws h2 h3.nodup h3.nm]
   .exact .inr #[0,_,U,U,q ws h2 h3.nodup h3.nm]
  .rintro x xs s N ⟨ws,a,b,e,h1,h2,h3,rfl⟩ hN hE_;have hx:=h1 0 x U;subst hx
   replace h2:ws.length+(xs.length+1)=m.toNat:=h2
   have hk:ws.length < 60:=by cbv
   trivial;show#[.inl #[by decide,by decide],?_];show#[_,_,U,U,?_];show#[_,_,U,U,(show (0:Int) < 26 by decide),?_];have ea:=xl (r:=(tn+7 * ((ws.length+0:Nat):Int)) % 26) (XQ _ ()) (XJ _ ());show#[_,_,_,U,U,by decide+kernel,ea,?_];rw[show ((tn+7 * ((ws.length+0:Nat):Int)) % 26).toNat=(tn.toNat+7 * ws.length) % 26 by cbv];have pK:97<=97+(tn.toNat+7 * ws.length) % 26/\97+(tn.toNat+7 * ws.length) % 26<=122:=#[by cbv,by cbv];let(mx,ox):=xi (c:=120) (n:=((ws.length+0:Nat):Int) % 2) (XQ _ ()) (by cbv);let(my,oy):=xi (c:=121) (n:=((ws.length+0:Nat):Int) / 26) (by cbv) (by cbv);rw[show (((ws.length+0:Nat):Int) % 2).toNat=ws.length % 2 by cbv] at mx;rw[show (((ws.length+0:Nat):Int) / 26).toNat=ws.length / 26 by cbv] at my;generalize hmx:Txt.mul (#[#v[120]]:Str) (((ws.length+0:Nat):Int) % 2)=tx at mx;generalize hmy:Txt.mul (#[#v[121]]:Str) (((ws.length+0:Nat):Int) / 26)=ty at my;have lx:tx.length=ws.length % 2:=by rw[show tx.length=tx.cps.toList.length by simp[Str.length],mx,List.length_replicate]
   have ly:ty.length=ws.length / 26:=by rw[show ty.length=ty.cps.toList.length by simp[Str.length],my,List.length_replicate]
   have wx:Lw tx:=λc hc=>by rw[mx] at hc;have:=List.eq_of_mem_replicate hc;cbv
   have wy:Lw ty:=λc hc=>by rw[my] at hc;have:=List.eq_of_mem_replicate hc;cbv
   have hL:Lw (pre++(#[#v[97+(tn.toNat+7 * ws.length) % 26]]:Str)++post++tx++ty) :=
    (((hL1.app (λc hc'=>by simp at hc';subst hc';exact pK)).app hL2).app wx).app wy
   have AB:(pre++(#[#v[97+(tn.toNat+7 * ws.length) % 26]]:Str)++post++tx++ty).length<=8/\1<=(pre++(#[#v[97+(tn.toNat+7 * ws.length) % 26]]:Str)++post++tx++ty).length:=by
    rw[cP.cB,cP.cB,cP.cB,cP.cB,cP.jq];cbv
   have hcp:(pre++(#[#v[97+(tn.toNat+7 * ws.length) % 26]]:Str)++post++tx++ty).cps.toList=wl pre.cps.toList post.cps.toList tn.toNat ws.length 0:=by
    rw[kB,kB,kB,kB,mx,my];simp[wl]
   show#[_,U,_,U,_,U,_,U,by cbv,?_];rw[yZ];show#[_,U,_,_,U,U,by rw[cP.jq];cbv,?_];show#[_,U,_,U,_,U,_,U,by cbv,?_];rw[hpost];show#[_,_,U,U,by rw[cP.cB,cP.jq];cbv,?_];show#[_,U,_,_,U,U,(show (0:Int) < 2 by decide),?_];show#[_,_,U,U,ox,?_];rw[show Txt.mul (Str.ofString "x") (((ws.length+0:Nat):Int) % 2)=tx from hmx];show#[_,_,U,U,by rw[cP.cB,cP.cB,cP.jq];cbv,?_];show#[_,U,_,_,U,U,#[by decide,by decide],?_];show#[_,_,U,U,oy,?_];rw[show Txt.mul (Str.ofString "y") (((ws.length+0:Nat):Int) / 26)=ty from hmy];show#[_,_,U,U,by rw[cP.cB,cP.cB,cP.cB,cP.jq];cbv,?_];generalize pre++(#[#v[97+(tn.toNat+7 * ws.length) % 26]]:Str)++post++tx++ty=wd at hL AB hcp;have hLq:Lw ("q":Str):=by decide+kernel
   have hq1:("q":Str).length=1:=rfl;have hcq:(wd++("q":Str)).cps.toList=wl pre.cps.toList post.cps.toList tn.toNat ws.length 1:=by
    rw[kB,hcp];simp[wl]
    rfl
   have fin:∀ (u:Str) (a b:Sl) (e:Nat),Nm u->u.cps.toList=wl pre.cps.toList post.cps.toList tn.toNat ws.length e->N.nx #[[.dat (.cT d),.dat (.int m),.dat (.str cP.KN),.dat (.str core),.dat (.int at_'),.dat (.int tn),.own 0,a,b,.dat (.str u),.no],[some (.lst (ws.map D.str++[D.str u]))]]:=λu a b e hu he=>by
    show hN _ #[ws++[u],a,b,.dat (.str u),λi z hz=>?_,?_,h3.snoc hu he,by simp]
    .have:=h1 (i+1) z hz;rw[this];simp;cbv
    .rw[Wm];simp;cbv
   have lW:(ws.map D.str).length < FB:=by
    rw[Wk];cbv
   show#[_,U,?_];show#[_,.inr U,#[U,U],_,U,?_];show aI (b':=y0 (.str wd) (uN.map V.str)) U (λc1=>?_) λc1=>?_
   .rw[eJ] at c1;have c1:=Dx wd (of_decide_eq_true c1);show#[_,U,_,_,U,U,by cbv,?_];show#[_,U,?_];show#[_,.inr U,#[U,U],_,U,?_];show aI (b':=y0 (.str (wd++("q":Str))) (qU.map V.str)) U (λc2=>?_) λc2=>?_
    .rw[eJ] at c2;exact absurd (of_decide_eq_true c2) c1.2.1
    .have nm:Nm (wd++("q":Str)):=#[hL.app hLq,by rw[cP.cB];cbv,by rw[cP.cB];cbv,c1.1,c1.2.1];exact#[0,_,U,U,U,_,U,_,U,_,_,U,U,lW,fin _ _ _ 1 nm hcq]
   .rw[eJ] at c1;have c1:=of_decide_eq_false c1;show#[_,U,?_];show#[_,.inr U,#[U,U],_,U,?_];show aI (b':=y0 (.str wd) (qU.map V.str)) U (λc2=>?_) λc2=>?_
    .rw[eJ] at c2;have c2:=ET wd (of_decide_eq_true c2);have nm:Nm (wd++("q":Str)):=#[hL.app hLq,by rw[cP.cB];cbv,by rw[cP.cB];cbv,c2.1,c2.2.1];show#[_,U,_,_,U,U,by cbv,?_];exact#[0,_,U,U,U,_,U,_,U,_,_,U,U,lW,fin _ _ _ 1 nm hcq]
    .rw[eJ] at c2;exact#[0,_,U,U,U,_,U,_,U,_,_,U,U,lW,fin _ _ _ 0 #[hL,AB.2,AB.1,c1,of_decide_eq_false c2] hcp]
  .intro i x hx;unfold ee at hx;rw[WZ] at hx;let(j,hj,rfl):=WD.mp hx;let(_,e):=Wn.mp hj;simp at e;subst e;simp
  .simp[ee]
def SJ(d:AC):YA:=λds R=>∃ ns ss:!Str,ds=[.cT d,.lst (ns.map .str),.lst (ss.map .str),.int 3]/\(3<=ns.length/\0 < ss.length/\ss.length<=100)/\∀ ps,C9 ns ss ps->R (et ps)
theorem LL{d l:AC}(dZ:C4 P w K mg base bu ba 1 (cA K (aT d l) (gb d)))(F:Own K mg f9)(T:Txt K mg):C4 P w K mg base bu f9 2 (cA K (aT d l) (SJ d)):=by
 show F.d (nos:=0) kK (λds R h=>?_) λf bq A outer s H E M hr=>#[_,(af (sS 4 kK.nd (iz (DN.de (aO (aa ai (aa ai (aa ai (aa ai (aa (vd 3) ae))))))) (aq hr dZ (aa (vd 0) (aa ai ae)))))
 (aj (aN (jy T.tuple (aa (DN.de (nC ["_law_k"] [1,2,0] (c6 U T.range (aa (dQ (yU U) Nw U T.min (by decide+kernel) (aa (vd 4) (aa (vd 3) ae))) ae)) (λ_ _ _ _=>(gM 0 ["_law_k","_law_names","_law_some","_law_deal_here"])) (λ_ _ _ _=>du)
 (λ_ _ _ _=>(aQ (aa (iz (vd 1) (vd 0)) (aa (iz (vd 2) (aq hr dZ (aa (vd 3) (aa (gp T.len (aa (vd 2) ae)) ae)))) ae)))))) ae))))),λds R h=>?_]
 .let(ns,ss,rfl,_):=h
  rfl
 .let(ns,ss,rfl,(hn,hs0,hs1),q):=h;trivial;show#[#[by decide,by decide],λr r0 r1=>?_];have hm:∃ m:Int,gR [D.int 0,D.int 1,D.int 1,D.int 2,D.int 3] r=some (.int m)/\0<=m/\m<=3:=by
   have:r=0\/r=1\/r=2\/r=3\/r=4:=by cbv
   rcases this with rfl | rfl | rfl | rfl | rfl
   .exact#[0,U,by decide,by decide]
   .exact#[1,U,by decide,by decide]
   .exact#[1,U,by decide,by decide]
   .exact#[2,U,by decide,by decide]
   .exact#[3,U,by decide,by decide]
  let(m,em,hm0,hm1):=hm;show#[_,_,_,U,U,em,?_];show#[_,U,_,U,?_];have e3:(if (3:Int) < m then 3 else m)=m:=if_neg (by cbv);show#[_,_,U,?_];rw[e3];show#[m,U,#[by cbv,by cbv],?_];rw[hW];show fg (λi:Nat=>D.int (i:Int)) pairD (λi p=>ns[i]?=some p.1/\p.2∈ss) _ (λi hi k hk=>?_) λps hps=>?_
  .have sT:i < 3:=by have:=Xg.mp hi;cbv
   let(x,hx,ex):=pf (f:=D.str) (xs:=ns) (r:=(i:Int)) (by cbv) (by cbv);rw[Int.toNat_natCast] at hx;show#[_,U,_,U,_,_,_,U,U,ex,?_];show#[_,U,_,U,_,U,_,.inl U,?_];show#[_,U,#[by rw[Wk];cbv,by rw[Wk];cbv],λr2 r20 r21=>?_];let(y,hy,ey):=iS (f:=D.str) (xs:=ss) r20 (by simpa using r21);show#[_,_,_,U,U,ey,?_];exact hk (x,y) _ #[hx,hy] rfl
  .refine#[_,.inl U,?_];have hl:=fB hps;rw[XX] at hl;show q ps #[by cbv,?_,λp hp=>?_]
   .exact rM (λi y h=>h.1) hps
   .let(i,_,h):=fC hps p hp;exact h.2
def Sj(d:AC):YA:=λds R=>∃ (ws:!Str) (most:Int),ds=[.cT d,.lst (ws.map .str),.int most]/\(ws.length=45/\ws.Nodup/\(∀ x∈ws,Nm x)/\1<=most/\most<=3)/\∀ ks,qH ws ks->R (.lst (ks.map l6))
theorem Nh{d l:AC}(dZ:C4 P w K mg base bu ba 1 (cA K (aT d l) (gb d)))(PV:C4 P w K mg base bu f9 2 (cA K (aT d l) (SJ d)))(F:Own K mg fQ)(T:Txt K mg):C4 P w K mg base bu fQ 3 (cA K (aT d l) (Sj d)):=by
 show F.d (nos:=5) aP (λds R h=>?_) λf bq A outer s H E M hr=>#[_,(af (sN 0 3 aP.nd (aO ae))
 (af (kI (qk (lX (i:=4) aP.nd U U (ts:=["_law_k"]) (us:=[1]) #[U,U,U,U,U,U] rfl (c6 U T.range (aa (a9 cw fN ai (aq hr dZ (aa (vd 0) (aa (vd 2) ae)))) ae)) (λ_ _ _ _=>(gM 0 ["_law_k","_law_words_here"])) (λ_ _ _ _=>du)
 (λ_ _ _ _=>(iz (vd 1) (vd 0))))))
 (af (sS 5 aP.nd (iz (DN.de (aO (aa ai (aa ai ae)))) (aq hr dZ (aa (vd 0) (aa ai ae)))))
 (af (sN 1 6 aP.nd (eg cQ cO (DN.de (dP (vd 1) (aL ai) bw)) (DN.de (dP (vd 1) bw (aL ai)))))
 (af (sN 2 7 aP.nd (eg cQ cO (DN.de (dP (vd 1) (aL (a9 jP fN ai (vd 5))) bw)) (DN.de (dP (vd 1) bw (aL (a9 jP fN ai (vd 5)))))))
 (af (sF (b8 (vd 4)) (gN 8 aP.nd)
 (af (sN 3 9 aP.nd (aO ae))
 (af (sF (c6 U T.range (aa (a9 cw fN ai (aq hr dZ (aa (vd 0) (aa (iz (DN.de (aO (aa ai (aa ai ae)))) (bB cH fq U T.int (by decide+kernel) (aa (gG aW cf (gp T.len (aa (vd 4) ae)) ai (av _)) ae))) ae)))) ae)) (gN 10 aP.nd)
 (af (sS 11 aP.nd (iz (DN.de (aO (aa (DN.de (eg cQ cO (vd 4) (DN.de (aO (aa ak ae))))) (aa (DN.de (aO (aa ak ae))) ae)))) (bB cH fq U T.int (by decide+kernel) (aa (gG aW cf (vd 10) ai (av _)) ae))))
 (aj (wM 9 (aa (aQ (aa (CT Xp Xq pB tY (pv 6) (aa ai ae)) (aa (aq hr PV (aa (vd 0) (aa (DN.de (dP (vd 1) (aL ai) (aL ai))) (aa (vd 11) (aa ai ae))))) ae))) ae)))))
 (af (sN 4 12 aP.nd (aO ae))
 (af (sF (c6 U T.range (aa (aq hr dZ (aa (vd 0) (aa (iz (DN.de (aO (aa ai (aa ai ae)))) (bB cH fq U T.int (by decide+kernel) (aa (gG aW cf (gp T.len (aa (vd 4) ae)) ai (av _)) ae))) ae))) ae)) (gN 10 aP.nd)
 (af (sS 13 aP.nd (aq hr PV (aa (vd 0) (aa (DN.de (dP (vd 1) (aL ai) (aL ai))) (aa (DN.de (eg cQ cO (vd 4) (DN.de (aO (aa ak ae))))) (aa ai ae))))))
 (aj (wM 12 (aa (aQ (aa (CT Xp Xq pB tY (pv 7) (aa ai ae)) (aa (vd 13) (aa (iz (DN.de (eg cQ cO (vd 4) (DN.de (aO (aa ak ae))))) (aq hr dZ (aa (vd 0) (aa (a9 cw fN (gp T.len (aa (vd 4) ae)) ai) ae)))) ae)))) ae)))))
 (aj (wM 3 (aa (aQ (aa (iz (DN.de (aO (aa ak (aa ak ae)))) (aq hr dZ (aa (vd 0) (aa ai ae)))) (aa (vd 8) (aa (jy T.tuple (aa (za (pv 9)) ae)) (aa (jy T.tuple (aa (za (pv 12)) ae)) ae))))) ae))))))))
 (af (bS (az aW cf (aq hr dZ (aa (vd 0) (aa ai ae))) ai (av _))
 (af (sN 4 12 aP.nd (aO ae))
 (af (sF (c6 U T.range (aa (aq hr dZ (aa (vd 0) (aa ai ae))) ae)) (gN 10 aP.nd)
 (aj (wM 12 (aa (aQ (aa (CT Xp Xq pB tY (pv 7) (aa ai ae)) (aa (aq hr PV (aa (vd 0) (aa (DN.de (dP (vd 1) (aL ai) (aL ai))) (aa (DN.de (aO (aa ak ae))) (aa ai ae))))) (aa ak ae)))) ae))))
 (aj (wM 3 (aa (aQ (aa (iz (DN.de (aO (aa ak (aa ak ae)))) (aq hr dZ (aa (vd 0) (aa ai ae)))) (aa (iz (vd 1) ai) (aa (aQ ae) (aa (jy T.tuple (aa (za (pv 12)) ae)) ae))))) ae)))))
 aK)
 (aj (aN (za (pv 3))))))))))),λds R h=>?_]
 .let(ns,ss,rfl,_):=h
  rfl
 .let(ws,most,rfl,(lW,JB,hwm,hm0,hm1),q):=h;trivial;show#[#[by cbv,by cbv],λr r0 r1=>?_];show#[_,_,U,U,?_];show#[_,U,#[by cbv,by cbv],?_];rw[hW];show fg (λi:Nat=>D.int (i:Int)) D.str (λi x=>ws[i]?=some x) _ (λi hi k hk=>?_) λns u4=>?_
  .have sT:i < 3:=by have:=Xg.mp hi;cbv
   let(x,hx,ex):=pf (f:=D.str) (xs:=ws) (r:=(i:Int)) (by cbv) (by cbv);rw[Int.toNat_natCast] at hx;exact#[_,U,_,U,_,_,_,U,U,ex,hk x _ hx U]
  have hnl:ns.length=(1+r).toNat:=by have:=fB u4;rwa [XX] at this
  have JQ:ns=ws.take ns.length:=by
   have:=rM (v:=id) (ns:=ws) (λi y h=>h) u4;simpa using this
  rw[WQ];trivial;show#[#[by decide,by decide],λr2 r20 r21=>?_];have hsh:∃ m:Int,gR [D.int 0,D.int 20] r2=some (.int m)/\(m=0\/m=20):=by
   have:r2=0\/r2=1:=by cbv
   rcases this with rfl | rfl
   .exact#[0,U,.inl U]
   .exact#[20,U,.inr U]
  let(sh,esh,hsh):=hsh;show#[_,_,_,U,U,esh,?_];let(ML,eML,pML):=v5 (f:=D.str) (ws:=ws) (n:=4) () (by cbv);let(AL,eAL,pAL):=v5 (f:=D.str) (ws:=ws) (n:=20 - sh) (by cbv) (by cbv);have hsz:=bA;show#[_,U,_,U,_,U,_,U,_,U,_,U,_,_,U,U,?_,?_]
  .rw[<- Wm,eML,Wk,pML.length_eq];cbv
  rw[eML];show#[#[U,U],?_];show#[_,U,_,U,_,_,U,U,_,U,_,U,_,U,_,U,_,_,U,U,_,U,_,U,_,_,U,U,?_,?_]
  .rw[<- Wm,eAL,Wk,pAL.length_eq];cbv
  rw[eAL];show#[#[U,U],?_];show#[_,U,_,.inl U,?_];have e24:cutD (ws.map D.str) (some 24) (some 27)=((ws.drop 24).take 3).map D.str:=by rw[fk,lW];rfl
  have e27:cutD (ws.map D.str) (some 27) (some 30)=((ws.drop 27).take 3).map D.str:=by rw[fk,lW];rfl
  have mlL:ML.length=45:=by rw[pML.length_eq,lW]
  have alL:AL.length=45:=by rw[pAL.length_eq,lW]
  show dq (λxs s=>∃ (ks:!Kd) (x8 x9 iM ff fY gm:Sl),((x8.pl=true/\x9.pl=true/\iM.pl=true)/\ff.pl=true/\fY.pl=true/\gm.pl=true)/\Fd ws ns ML AL ks/\xs=(ns.drop ks.length).map .str/\s=#[[.dat (.cT d),.dat (.lst (ws.map .str)),.dat (.int most),.own 0,.dat (.lst (ns.map .str)),.dat (.int sh),.own 1,.own 2,x8,x9,iM,ff,fY,gm],[some (.lst (ks.map l6)),some (.lst ((ML.drop (dU ks).length).map .str)),some (.lst ((AL.drop (c8 ks).length).map .str)),none,none]]) ?_ ?_ _ _ #[[],.no,.no,.no,.no,.no,.no,#[#[U,U,U],U,U,U],Fd.nil,U,U]
  .rintro s ⟨ks,x8,x9,iM,ff,fY,gm,⟨⟨h8,h9,h10⟩,h11,h12,h13⟩,hI,hx,rfl⟩;have hkl:ks.length=ns.length:=by
    have:=congrArg List.length hx;simp at this;have:=hI.kl;cbv
   trivial;show#[#[by decide,by decide],λr3 r30 r31=>?_];show#[#[U,U,U],_,U,?_];show aI U (λ_=>?_) λ_=>?_
   rotate_left
   .refine .inr #[_,_,U,U,q ks #[ns,ML,AL,ks,JQ,by cbv,by cbv,pML,pAL,hkl,hI,.inl U]]
   show#[#[U,(show noRef 4 4 [x8,x9,iM,ff,fY,gm]=true by rw[cp h8,cp h9,cp h10,cp h11];change noRef 4 2 [gm]=true;rw[cp h13];rfl)],?_];trivial;show#[#[by decide,by decide],λr4 r40 r41=>?_];show#[_,U,#[by cbv,by cbv],?_];generalize hn4:r4.toNat=n4;have hn45:n4<=2:=by cbv
   have hAL:(c8 ks).length+2 < AL.length:=by have:=hI.ab;cbv
   generalize hna:(c8 ks).length=na at hAL;show dq (λxs s=>∃ (as:!jL) (Ax:Sl),(Ax.pl=true)/\An ws [] (AL.drop na) as/\yS xs as.length n4/\s=#[[.dat (.cT d),.dat (.lst (ws.map .str)),.dat (.int most),.own 0,.dat (.lst (ns.map .str)),.dat (.int sh),.own 1,.own 2,x8,x9,Ax,ff,.own 4,gm],[some (.lst (ks.map l6)),some (.lst ((ML.drop (dU ks).length).map .str)),some (.lst ((AL.drop (na+as.length)).map .str)),none,some (.lst (as.map gj))]]) ?_ ?_ _ _ #[[],iM,h10,An.nil,yS.init _,U]
   .rintro s ⟨as,z10,f10,hA,hR3,rfl⟩;have hR3:=hR3.nil;trivial;show#[U,?_];show#[_,U,?_];show#[_,U,#[by decide,by decide],λr5 r50 r51=>?_];let(sd,esd):=yb r50 r51;show#[_,_,_,U,U,esd,?_];let(x44,Om,e44):=pf (f:=D.str) (xs:=ws) (r:=3) () (by cbv);show#[_,U,_,_,_,U,U,e44,?_];show .inr #[_,_,U,U,?_];show#[_,.inl U,?_];show#[_,U,_,_,U,U,by rw[Wk];cbv,?_];show .inr #[_,_,U,U,?_];have:=q (ks++[#[sd,x44,[],as]]) #[ns,ML,AL,ks,JQ,by cbv,by cbv,pML,pAL,hkl,hI,.inr #[#[sd,x44,[],as],U,U,Om,by change as.length<=2;cbv,by rw[hna];exact hA]];rw[Wv] at this;exact this
   .rintro x xs s N3 ⟨as,z10,f10,hA,hR3,rfl⟩ hN3 hE_3;let(rfl,hj,hR4):=hR3.cons;let(nx,p1,p2,p3,p4,p5):=HI (L:=AL) (n:=na) (j:=as.length) (by cbv);show#[4,_,U,U,U,?_];show#[2,_,U,U,U,_,U,?_];show#[_,_,_,_,U,U,#[by decide,by decide],p3,p4,?_];rw[p5];show#[_,U,_,U,_,U,_,U,_,U,?_];show#[(ws.drop 27).take 3,gJ,by rw[<- e27]<;>rfl,#[by simp;cbv,by decide,by decide],λps hps=>?_];show#[_,U,_,_,U,U,by rw[Wk];cbv,?_];show hN3 _ #[as++[#[nx,ps,"number"]],.dat (.int as.length),U,hA.snoc (a:=#[nx,ps,"number"]) p2 hps (WA.mpr U),by rw[Wm];exact hR4,?_];rw[Wv,Wm]
    rfl
  .rintro x xs s N ⟨ks,x8,x9,iM,ff,fY,gm,⟨⟨h8,h9,h10⟩,h11,h12,h13⟩,hI,hx,rfl⟩ hN hE_;have hkl:ks.length < ns.length:=by
    have:=congrArg List.length hx;simp at this;cbv
   rw[W2 hkl,Wu] at hx;injection hx with hx1 hx2;subst hx1;show#[#[U,(show noRef 3 5 [iM,ff,fY,gm]=true by rw[cp h10,cp h11,cp h12,cp h13];rfl)],?_];trivial;have hwide:∃ m:Int,gR [D.int 3,D.int 5] (if decide (V.int (ns.map D.str).length=V.int 1) then 1 else 0)=some (.int m)/\1<=m/\m<=5:=by
    split
    .exact#[5,U,by decide,by decide]
    .exact#[3,U,by decide,by decide]
   let(mw,emw,hmw0,hmw1):=hwide;show .inr #[_,U,?_];show#[_,_,_,U,U,emw,?_];show#[_,U,#[by cbv,by cbv],λr3 r30 r31=>?_];show#[_,_,U,U,?_];show#[_,U,#[by cbv,by cbv],?_];have hML:(dU ks).length+5 < ML.length:=by have:=hI.mb;cbv
   have hAL:(c8 ks).length+5 < AL.length:=by have:=hI.ab;cbv
   generalize hnm:(dU ks).length=nm at hML;generalize hna:(c8 ks).length=na at hAL;generalize hn3:(1+r3).toNat=n3;have hn30:1<=n3:=by cbv
   have hn35:n3<=5:=by cbv
   show dq (λxs s=>∃ (ms:!fO) (iM ff:Sl),(iM.pl=true/\ff.pl=true)/\IW ws ns (ML.drop nm) ms/\yS xs ms.length n3/\s=#[[.dat (.cT d),.dat (.lst (ws.map .str)),.dat (.int most),.own 0,.dat (.lst (ns.map .str)),.dat (.int sh),.own 1,.own 2,.dat (.str ns[ks.length]),.own 3,iM,ff,fY,gm],[some (.lst (ks.map l6)),some (.lst ((ML.drop (nm+ms.length)).map .str)),some (.lst ((AL.drop na).map .str)),some (.lst (ms.map dG)),none]]) ?_ ?_ _ _ #[[],iM,ff,#[h10,h11],IW.nil,yS.init _,U]
   .rintro s ⟨ms,Ax,y11,⟨g10,g11⟩,hM,hR,rfl⟩;have hR:=hR.nil;show#[#[U,(show noRef 4 2 [Ax,y11,fY,gm]=true by rw[cp g10,cp g11];change noRef 4 2 [gm]=true;rw[cp h13];rfl)],?_];trivial;have hwide:∃ m:Int,gR [D.int 4,D.int 6] (if decide (V.int (ns.map D.str).length=V.int 1) then 1 else 0)=some (.int m)/\1<=m/\m<=6:=by
     split
     .exact#[6,U,by decide,by decide]
     .exact#[4,U,by decide,by decide]
    let(mw2,emw2,hmw20,hmw21):=hwide;show .inr #[_,U,?_];show#[_,_,_,U,U,emw2,?_];show#[_,U,#[by cbv,by cbv],λr4 r40 r41=>?_];show#[_,U,#[by cbv,by cbv],?_];generalize hn4:r4.toNat=n4;have hn45:n4<=5:=by cbv
    show dq (λxs s=>∃ (as:!jL) (Ax Gp:Sl),(Ax.pl=true/\Gp.pl=true)/\An ws ns (AL.drop na) as/\yS xs as.length n4/\s=#[[.dat (.cT d),.dat (.lst (ws.map .str)),.dat (.int most),.own 0,.dat (.lst (ns.map .str)),.dat (.int sh),.own 1,.own 2,.dat (.str ns[ks.length]),.own 3,Ax,y11,.own 4,Gp],[some (.lst (ks.map l6)),some (.lst ((ML.drop (nm+ms.length)).map .str)),some (.lst ((AL.drop (na+as.length)).map .str)),some (.lst (ms.map dG)),some (.lst (as.map gj))]]) ?_ ?_ _ _ #[[],Ax,gm,#[g10,h13],An.nil,yS.init _,U]
    .rintro s ⟨as,z10,z13,⟨f10,f13⟩,hA,hR3,rfl⟩;have hR3:=hR3.nil;trivial;show#[U,?_];show#[_,U,?_];show#[_,U,#[by decide,by decide],λr5 r50 r51=>?_];let(sd,esd):=yb r50 r51;show#[_,_,_,U,U,esd,?_];show#[_,U,?_];show .inr #[_,_,U,U,?_];show#[_,.inl U,?_];show .inr #[_,_,U,U,?_];show#[_,.inl U,?_];show#[_,U,_,_,U,U,by rw[Wk];cbv,?_];have hkd:Fd ws ns ML AL (ks++[#[sd,ns[ks.length],ms,as]]):=hI.snoc #[?_,?_,?_,hM.mp,hM.mf,hA.ap] (Wy hkl) (by rw[hnm];exact hM.nm) (by rw[hna];exact hA.nm);show hN _ #[ks++[#[sd,ns[ks.length],ms,as]],.dat (.str ns[ks.length]),.dat (.lst (ms.map dG)),(jh 4 (.lst (as.map gj)) (jh 3 (.lst (ms.map dG)) z10)),(jh 4 (.lst (as.map gj)) (jh 3 (.lst (ms.map dG)) y11)),.dat (.lst (as.map gj)),(jh 4 (.lst (as.map gj)) (jh 3 (.lst (ms.map dG)) z13)),#[#[U,U,b7 (b7 f10)],b7 (b7 g11),U,b7 (b7 f13)],hkd,?_,?_]
     .rw[Wm];exact hx2
     .rw[fR,gc,Wm,Wm,Wk,Wk,hnm,hna,Wv]
      rfl
     .intro e;have e:ms=[]:=e;rw[e] at hR;simp at hR;cbv
     .show ms.length<=5;cbv
     .show as.length<=5;cbv
    .rintro x xs s N3 ⟨as,z10,z13,⟨f10,f13⟩,hA,hR3,rfl⟩ hN3 hE_3;let(rfl,hj,hR4):=hR3.cons;trivial;show#[by simp;cbv,?_];show#[(ws.drop 27).take 3,ns++gJ,by rw[<- e27,List.map_append]<;>rfl,#[by simp;cbv,by simp,by simp;cbv],λps hps=>?_];let(nx,p1,p2,p3,p4,p5):=HI (L:=AL) (n:=na) (j:=as.length) (by cbv);show#[4,_,U,U,U,?_];show#[2,_,U,U,U,_,U,?_];show#[_,_,_,_,U,U,#[by decide,by decide],p3,p4,?_];rw[p5];show#[_,U,?_];show#[_,U,_,_,U,U,by simp;cbv,?_];show#[_,U,_,U,_,.inl U,_,_,U,U,_,U,#[by cbv,by simp;cbv],λr6 r60 r61=>?_];let(rs,hrs,ers):=iS (f:=D.str) (xs:=ns++gJ) r60 (by simpa using r61);rw[Wv] at ers;show#[_,_,_,U,U,ers,?_];show#[_,U,_,_,U,U,by rw[Wk];cbv,?_];show hN3 _ #[as++[#[nx,ps,rs]],.dat (.int as.length),.dat (et ps),#[U,U],hA.snoc p2 hps hrs,by rw[Wm];exact hR4,?_];rw[Wv,Wm]
     rfl
   .rintro x xs s N2 ⟨ms,Ax,y11,⟨g10,g11⟩,hM,hR,rfl⟩ hN2 hE_2;let(rfl,hj,hR2):=hR.cons;trivial;show#[by simp;cbv,?_];show#[_,U,#[U,U,U],?_];show .inr #[_,U,?_];have hSS:∃ SS:!Str,gR [D.lst (ns.map D.str++[D.str "number"]),D.lst [D.str "number"]] (if decide (V.int (ms.length:Nat)=V.int 0) then 1 else 0)=some (.lst (SS.map D.str))/\(∀ x∈SS,x∈ns++gJ)/\(ms=[]->SS=gJ)/\0 < SS.length/\SS.length<=100:=by
     by_cases h0:ms=[]
     .subst h0;exact#[gJ,U,λx hx=>WR _ hx,λ_=>rfl,by decide,by decide]
     .have oJ:¬ (V.int (ms.length:Nat)=V.int 0):=λe=>by
       injection e with e;exact h0 (X3 (by cbv))
      show#[ns++gJ,?_,λx hx=>hx,λe=>absurd e h0,by simp,by simp;cbv];rw[decide_eq_false oJ,Wv]
      rfl
    let(SS,eSS,hSS1,hSS2,hSS3,hSS4):=hSS;show#[_,_,_,U,U,eSS,?_];let(nx,p1,p2,p3,p4,p5):=HI (L:=ML) (n:=nm) (j:=ms.length) (by cbv);show#[3,_,U,U,U,?_];show#[1,_,U,U,U,_,U,?_];show#[_,_,_,_,U,U,#[by decide,by decide],p3,p4,?_];rw[p5];show#[_,U,_,U,_,U,_,U,_,U,_,U,?_];show#[(ws.drop 24).take 3,SS,by rw[<- e24],#[by simp;cbv,hSS3,hSS4],λps hps=>?_];show#[_,U,_,_,U,U,by rw[Wk];cbv,?_];show hN2 _ #[ms++[#[nx,ps]],.dat (.int ms.length),.dat (.lst (SS.map .str)),#[U,U],hM.snoc p2 (hps.sub hSS1) (λh p hp=>?_),by rw[Wm];exact hR2,?_]
    .have:=hps.2.2 p hp;rw[hSS2 h] at this;exact WA.mp this
    .rw[Wv,Wm]
     rfl
def Ol:YA:=λds R=>∃ W:bZ,ds=[j5 W]/\fb W/\R (.lst ((things W).map l6))
theorem Kf(F:Own K mg dj)(T:Txt K mg):aa0 P w K mg base dj 1 Ol:=by
 show F.d (nos:=0) pY (λds R h=>?_) λf bq A outer s H E M hr=>#[_,(aj (aN (DN.de (nC ["_law_one"] [] (b8 (eQ (bx (dm hr) (DE.pe (vd 0)) (DE.pe ak) (λ_ _=>rfl)))) (λ_ _ _ _=>(gM 0 ["_law_one"])) (λ_ _ _ _=>eK (az (sJ (oZ hr)) qt (fM (vd 0) ai) (aQ ae) (av _)))
 (λ_ _ _ _=>(vd 0)))))),λds R h=>?_]
 .let(W,rfl,_):=h
  rfl
 .let(W,rfl,bG,q):=h;show#[_,U,?_];show c9 #[_,U,_,.inl U,?_];show bj l6 l6 (λk=>(not k.bK.isEmpty)) _ (λk hk kk N h1 h2=>?_) ?_
  .refine#[_,U,_,_,_,U,U,U,#[D9 bG hk,U,.inr ()],?_];show#[_,U,?_];cases hm:k.bK with
   | nil=>exact gq U (h2 (by rw[hm];rfl) _ U)
   | cons m r=>exact gC U #[_,U,h1 (by rw[hm];rfl) _ U]
  .exact q
def S3(d:AC):YA:=λds R=>∃ (W:bZ) (sc:!(Str×Str)) (m:Nat),ds=[.cT d,j5 W,.lst (sc.map pairD),.int m]/\(fb W/\jW W sc/\m<=3/\sc.length+m<=15)/\∀ ns:!Str,ns.length=m->zQ W sc ns->R (.tup (ns.map .str))
theorem LJ{d l:AC}(dZ:C4 P w K mg base bu ba 1 (cA K (aT d l) (gb d)))(F:Own K mg fX)(T:Txt K mg):C4 P w K mg base bu fX 2 (cA K (aT d l) (S3 d)):=by
 show F.d (nos:=0) gW (λds R h=>?_) λf bq A outer s H E M hr=>#[_,(af (kI (qk (lX (i:=4) gW.nd U U (ts:=["_law_x"]) (us:=[2]) #[U,U,U,U,U,U] rfl (b8 (eQ (bx (dm hr) (DE.pe (vd 1)) (DE.pe ak) (λ_ _=>rfl)))) (λ_ _ _ _=>(gM 0 ["_law_x","_law_scope"])) (λ_ _ _ _=>eK (az kq okIn (vd 0) (DN.de (nC ["_law_pair"] [] (b8 (vd 1)) (λ_ _ _ _=>(gM 0 ["_law_pair"])) (λ_ _ _ _=>du)
 (λ_ _ _ _=>(fM (vd 0) ai)))) U))
 (λ_ _ _ _=>(vd 0)))))
 (af (bS (DW.dt (gL (az aW cf (aq hr dZ (aa (vd 0) (aa ai ae))) ai (av _)) (eS (az FT mT (gp T.len (aa (vd 4) ae)) (vd 3) (av _)))))
 (af (sS 5 gW.nd (aq hr dZ (aa (vd 0) (aa (a9 cw fN (gp T.len (aa (vd 4) ae)) ai) ae))))
 (aj (aN (jy T.tuple (aa (DN.de (dP (DN.de (eg cQ cO (DN.de (dP (vd 4) (aL (vd 5)) bw)) (DN.de (dP (vd 4) bw (aL (vd 5)))))) bw (aL (vd 3)))) ae)))))
 aK)
 (aj (aN (jy T.tuple (aa (DN.de (nC ["_law_k"] [1,2] (c6 U T.range (aa (vd 3) ae)) (λ_ _ _ _=>(gM 0 ["_law_k","_law_world_here","_law_scope"])) (λ_ _ _ _=>du)
 (λ_ _ _ _=>(iz (eQ (bx (dm hr) (DE.pe (vd 1)) (DE.pe ak) (λ_ _=>rfl))) (a9 cw fN (gp T.len (aa (vd 2) ae)) (vd 0)))))) ae)))))),λds R h=>?_]
 .let(W,sc,m,rfl,_):=h
  rfl
 .let(W,sc,m,rfl,(bG,sok,hm,hl),q):=h;show#[_,U,?_];show v8 #[_,U,_,.inl U,?_];show bj D.str D.str (λx=>(not (decide (x∈sc.map (·.1))))) _ (λx hx kk N h1 h2=>?_) ?_
  .refine#[_,U,_,U,_,.inl U,?_];show cy pairD (λp=>D.str p.1) _ (λp hp k2 hk2=>#[_,U,_,_,_,U,U,U,hk2 _ U]) ?_;rw[WQ,show sc.map (λp=>D.str p.1)=(sc.map (·.1)).map D.str by rw[WV];rfl];show#[_,.inl U,#[U,zS],_,U,?_];show aI (b':=(not (decide (x∈sc.map (·.1))))) (congrArg (not ·) Eo) (λe=>?_) λe=>?_
   .exact#[_,U,h1 e _ U]
   .exact h2 e _ U
  .rw[WQ];have hvars:FJ (k7 HL (rL (oN ["_law_k"].length [1,2] (Fo (rL (JD 3) yh)) (rR 0) cV (BV Iv (Fw (JD 1) (F9 (D.str "vars"))) (BV (R6 HAdd.hAdd) (k7 HE (rL (JD 2) yh)) (JD 0)))) yh)) { nx:=λ_=>R D.br,rt:=R } #[[.dat (.cT d),.dat (j5 W),.dat (.lst (sc.map pairD)),.dat (.int m),.dat (.lst ((W.heads.filter λx=>(not (decide (x∈sc.map (·.1))))).map D.str)),.no],[]]:=by
    show#[_,U,m,U,#[by cbv,by cbv],?_];rw[Int.toNat_natCast,hW];show fg (λi:Nat=>D.int (i:Int)) D.str (λk x=>W.vars[sc.length+k]?=some x) _ (λi hi k hk=>?_) λns u4=>?_
    .have sT:=Xg.mp hi;have hv:=bG.vl;let(x,hx,ex):=pf (f:=D.str) (xs:=W.vars) (r:=((sc.map pairD).length:Int)+(i:Int)) (by cbv) (by rw[Wk];cbv);show#[_,U,?_];show qF #[_,U,?_];show#[_,U,_,.inl U,_,U,_,_,U,U,?_];show#[_,_,_,U,U,ex,hk x _ ?_ U];rw[Wk] at hx
     rwa [show ((sc.length:Int)+(i:Int)).toNat=sc.length+i by cbv] at hx
    .refine#[_,.inl U,?_];exact q ns (by have:=fB u4;rwa [XX] at this) (zQ.vars bG sok u4)
   show#[_,U,_,U,#[by decide,by decide],λr r0 r1=>?_];show#[#[U,U,U],_,U,?_];show aI U (λ_=>?_) λ_=>?_
   rotate_left
   .exact hvars
   show#[_,U,_,.inl U,_,U,_,_,U,U,_,U,?_];show aI U (λhge=>?_) λ_=>?_
   rotate_left
   .exact hvars
   generalize hsm:(W.heads.filter λx=>(not (decide (x∈sc.map (·.1)))))=sm at hge;have hsl:sm.length<=6:=by
    rw[<- hsm,<- bG.hl];exact Xh _ _
   have hge:m<=sm.length:=by simpa using hge
   have hsz:=bA;show#[_,U,_,U,_,.inl U,_,_,U,U,_,U,#[by cbv,by simp;cbv],λa a0 a1=>?_];let(al,eal,pal):=v5 (f:=D.str) (ws:=sm) (n:=a) a0 (by simp at a1;cbv);show#[_,U,_,U,_,U,_,U,_,U,_,U,_,U,_,U,_,_,U,U,?_,?_]
   .rw[<- Wm,eal,Wk,pal.length_eq];cbv
   rw[eal];show#[_,U,_,U,_,U,_,.inl U,?_];have hal:al.length=sm.length:=pal.length_eq;have e9:cutD (al.map D.str) none (some (m:Int))=(al.take m).map D.str:=by
    rw[fk]
    congr 1
    have e1:HT.cq al.length 0 none=0:=rfl;have e2:HT.cq al.length al.length (some (m:Int))=m:=by
     unfold HT.cq;simp only[]
     repeat' split
     all_goals cbv
    rw[e1,e2,XG,Nat.sub_zero]
   change R (.tup (cutD (al.map D.str) none (some (m:Int))));rw[e9];exact q _ (by rw[Xc];cbv) (zQ.heads bG (by rw[hsm];exact pal) m)
def Sr(d:AC):Nat->YA
 | 0=>λ_ _=>False
 | n+1=>λds R=>∃ (W:bZ) (sc:!(Str×Str)) (k:Str),ds=[.cT d,j5 W,.lst (sc.map pairD),.str k]/\(fb W/\jW W sc/\qz W k/\(n=0->k="number"))/\∀ t:Tm,Ty W sc k t->t.lf (n+1) k->R (toD t)
theorem FI{d l:AC}(dZ:C4 P w K mg base bu ba 1 (cA K (aT d l) (gb d)))(JU:Own K mg ik)(T:Txt K mg):∀ n,C4 P w K mg base bu ik (n+1) (cA K (aT d l) (Sr d n))
 | 0=>JU.c λ_ _ _=>fj
 | n+1=>by
  have Oy:=FI dZ JU T n;show JU.c λfLe fdLe F_=>?_;show Oc (nos:=0) F_ iY (λds R h=>?_) λbq A outer s H E M hr=>#[_,(af (kI (qk (lX (i:=4) iY.nd U U (ts:=["_law_x","_law_other"]) (us:=[3]) #[U,U,U,U,U,U] rfl (b8 (vd 2)) (λ_ _ _ _=>(dC (m:=2) U (aE (gM 0 ["_law_x","_law_other","_law_kind"]) (aE (gM 1 ["_law_x","_law_other","_law_kind"]) dE)))) (λ_ _ _ _=>eK (az aW cf (vd 1) (vd 2) (av _)))
 (λ_ _ _ _=>(vd 0)))))
 (af (bS (DW.dt (gL (az (sJ (oZ hr)) qt (vd 4) (DN.de (aO ae)) (av _)) (eS (az kX mT (aq hr dZ (aa (vd 0) (aa ai ae))) ai (av _)))))
 (aj (aN (aQ (aa ak (aa (iz (vd 4) (dQ (lC U) Gf U T.max PyProof.Rows.boot_max (aa (aq hr dZ (aa (vd 0) (aa (gp T.len (aa (vd 4) ae)) ae))) (aa (aq hr dZ (aa (vd 0) (aa (gp T.len (aa (vd 4) ae)) ae))) ae)))) ae)))))
 aK)
 (af (bS (az aW cf (vd 3) ak (av _))
 (aj (aN (aQ (aa ak (aa (aq hr dZ (aa (vd 0) (aa (iz (DN.de (aO (aa ai (aa ai (aa ai ae))))) (aq hr dZ (aa (vd 0) (aa ai ae)))) ae))) ae)))))
 aK)
 (af (sS 5 iY.nd (iz (DN.de (nC ["_law_one"] [3] (b8 (eQ (bx (dm hr) (DE.pe (vd 1)) (DE.pe ak) (λ_ _=>rfl)))) (λ_ _ _ _=>(gM 0 ["_law_one","_law_kind"])) (λ_ _ _ _=>eK (az aW cf (fM (vd 0) ai) (vd 1) (av _)))
 (λ_ _ _ _=>(fM (fM (vd 0) ai) ai)))) ai))
 (aj (aN (aQ (aa ak (aa (fM (vd 5) ai) (aa (jy T.tuple (aa (DN.de (nC ["_law_field"] [0,1,2] (b8 (fM (vd 5) ai)) (λ_ _ _ _=>(gM 0 ["_law_field","_law_deal_here","_law_world_here","_law_scope"])) (λ_ _ _ _=>du)
 (λ_ _ _ _=>(aq hr Oy (aa (vd 1) (aa (vd 2) (aa (vd 3) (aa ak ae)))))))) ae)) ae)))))))))),λds R h=>?_]
  .let(W,sc,k,rfl,_):=h
   rfl
  .let(W,sc,k,rfl,(bG,sok,hk,hk0),q):=h;show#[_,U,_,.inl U,?_];show bj pairD (λp=>D.str p.1) (λp=>decide (p.2=k)) _ (λp hp kk N h1 h2=>?_) ?_
   .refine#[_,U,U,_,_,U,_,_,U,U,?_];show#[_,U,_,U,#[U,U,U],_,U,?_];exact aI (b':=decide (p.2=k)) bO (λe=>#[_,U,h1 e _ U]) λe=>h2 e _ U
   .rw[WQ];show#[_,U,#[iX λp hp=>?_,U,.inr ()],_,U,?_]
    .exact (sok.nm bG p ((Xs.mp hp).1)).ok
    refine' jn ?hrest λhrest=>?main
    case main =>
     by_cases how:sc.filter (λp=>decide (p.2=k))=[]
     .exact gq (by rw[how];rfl) hrest
     have hol:0 < (sc.filter λp=>decide (p.2=k)).length:=XZ.mpr how;have hol2:(sc.filter λp=>decide (p.2=k)).length<=15:=Wr (Xh _ _) sok.len;show gC ?_ ?_
     .let(p0,r0,e):=XU how;rw[e]
      rfl
     show#[_,U,_,U,#[by decide,by decide],λr r0 r1=>?_];show#[_,_,U,U,_,U,?_];show aI U (λ_=>?_) λ_=>hrest;show#[_,U,?_];show#[_,U,_,U,_,.inl U,_,U,#[by rw[Wk];cbv,by rw[Wk];cbv],λa a0 a1=>?_];show#[_,U,_,U,_,.inl U,_,U,#[by rw[Wk];cbv,by rw[Wk];cbv],λb b0 b1=>?_];show#[_,_,U,?_];rw[Wk] at a1 b1;let(p,hp,ep):=iS (f:=λp:Str×Str=>D.str p.1) (xs:=sc.filter λp=>decide (p.2=k)) (r:=if a < b then b else a) (by split<;>cbv) (by split<;>cbv);show#[_,_,_,U,U,ep,?_];let(hp1,hp2):=Xs.mp hp;have hp2:p.2=k:=by simpa using hp2
     exact q (.node (.nm p.1) []) (Ty.mk (.nm (hp2▸hp1)) jk.nil) xF
    case hrest =>
     show#[_,U,#[U,U,U],_,U,?_];show aI (b':=decide (k="number")) bO (λe=>?_) λe=>?_
     .have e:k="number":=by simpa using e
      show#[_,U,_,U,_,U,#[by decide,by decide],λr r0 r1=>?_];have h3:∃ m:Int,gR [D.int 3,D.int 10,D.int 1000000] r=some (.int m)/\1<=m/\m<=1000000:=by
       have:r=0\/r=1\/r=2:=by cbv
       rcases this with rfl | rfl | rfl
       .exact#[3,U,by decide,by decide]
       .exact#[10,U,by decide,by decide]
       .exact#[1000000,U,by decide,by decide]
      let(m,em,hm0,hm1):=h3;show#[_,_,_,U,U,em,?_];show#[_,U,#[by cbv,by cbv],λi i0 i1=>?_];exact q (.node (.num i) []) (e▸Ty.mk (.num i0 (by cbv)) jk.nil) xF
     .have e:k≠"number":=by simpa using e
      let(kd,hkd,hmk,hnm,nn,z7):=kinds_of bG hk e;let(m0,mr,hms):=XU hmk;show#[_,U,?_];show c9 #[_,U,_,.inl U,?_];show bj l6 (λk=>(k.bK.map dG).headD .br) (λx=>decide (x.name=k)) _ (λx hx kk N h1 h2=>?_) ?_
      .refine#[_,U,_,_,_,U,U,U,_,U,#[U,U,U],_,U,?_];show aI (b':=decide (x.name=k)) bO (λe=>?_) λe=>h2 e _ U;have ex:x=kd:=xX bG hx hkd (by rw[hnm];simpa using e);subst ex;show#[_,U,_,_,_,U,U,U,?_];have h1':=h1 e;rw[hms] at h1' ⊢;exact#[_,_,_,U,U,bQ,h1' _ U]
      rw[z7,List.replicate_succ,Wu,WQ,hms];show#[_,_,_,U,U,bQ,?_];obtain⟨n',rfl⟩:∃ n',n=n'+1:=#[n - 1,by have:=mt hk0 e;cbv];show#[_,U,_,_,_,U,U,U,?_];show#[_,U,_,_,_,U,U,U,_,.inr U,?_];show fg pairD toD (λp t=>Ty W sc "number" t/\t.lf (n'+1) "number") _ (λp hp k hk=>?_) λts hts=>?_
      .exact#[_,U,_,U,_,U,W,sc,"number",U,#[bG,sok,.inl U,λ_=>rfl],λt ht hd=>hk t _ #[ht,hd] rfl]
      .refine#[_,.inl U,?_];have hm0:m0∈kd.bK:=by rw[hms];exact Wt
       have:=q (.node (.mk m0.name) ts) (hnm▸Ty.mk (.mk hkd hm0) ?_) ?_
       .rw[toD,toDs_map] at this;exact this
       .have hf:=bG.ft kd hkd m0 mr hms;show vB hts λp hp t ht=>?_;rw[hf p hp];exact ht.1
       .refine Eh e (by have:=fB hts;have:=(bG.mo kd hkd m0 hm0).2.1;cbv) λt ht=>?_;let(_,_,h):=fC hts t ht;exact h.2
structure JF(W:bZ):Prop extends fb W where
 Dc:W.inner=false
noncomputable instance {W:bZ}:Coe (JF W) (fb W):=#[λh=>h.1]
def Qq(d:AC):Nat->YA
 | 0=>λ_ _=>False
 | n+1=>λds R=>∃ (W:bZ) (sc:!(Str×Str)) (k:Str) (room:Int),ds=[.cT d,j5 W,.lst (sc.map pairD),.str k,.int room]/\(JF W/\jW W sc/\qz W k/\0<=room/\room<=n+1/\room<=16)/\∀ t:Tm,Ty W sc k t->t.rq (n+2) room.toNat->R (toD t)
def RM(d:AC):Nat->YA
 | 0=>λ_ _=>False
 | n+1=>λds R=>∃ (W:bZ) (sc:!(Str×Str)) (ks:!Str) (room:Int),ds=[.cT d,j5 W,.lst (sc.map pairD),.lst (ks.map .str),.int room]/\(JF W/\jW W sc/\(∀ k∈ks,qz W k)/\ks.length<=100/\0<=room/\room<=n+1/\room<=16)/\∀ ts:!Tm,jk W sc (ks.map λk=>([],k)) ts->(∀ t∈ts,t.rq (n+2) (room.toNat / max 1 ts.length))->R (.tup (ts.map toD))
theorem Mg{d l:AC}{n lv:Nat}(Dg:C4 P w K mg base bu fA lv (cA K (aT d l) (Qq d n)))(F:Own K mg gE)(T:Txt K mg):C4 P w K mg base bu gE (lv+1) (cA K (aT d l) (RM d n)):=by
 show F.c λf fd F=>?_;cases n with
 | zero=>exact fj
 | succ n =>
 show Oc (nos:=0) F wD (λds R h=>?_) λbq A outer s H E M hr=>#[_,(aj (aN (jy T.tuple (aa (DN.de (nC ["_law_kind"] [0,1,2,4,3] (b8 (vd 3)) (λ_ _ _ _=>(gM 0 ["_law_kind","_law_deal_here","_law_world_here","_law_scope","_law_room","_law_some"])) (λ_ _ _ _=>du)
 (λ_ _ _ _=>(aq hr Dg (aa (vd 1) (aa (vd 2) (aa (vd 3) (aa (vd 0) (aa (a9 d5 z6 (vd 4) (dQ (lC U) Gf U T.max PyProof.Rows.boot_max (aa ai (aa (gp T.len (aa (vd 5) ae)) ae)))) ae))))))))) ae)))),λds R h=>?_]
 .let(W,sc,ks,room,rfl,_):=h
  rfl
 .let(W,sc,ks,room,rfl,(bG,sok,vx,hl,h0,h1,h16),q):=h;have em:(if ((ks.map D.str).length:Int) > 1 then ((ks.map D.str).length:Int) else 1)=((max 1 ks.length:Nat):Int):=by
   rw[Wk];split<;>cbv
  have hmx:1<=max 1 ks.length/\max 1 ks.length<=100:=by cbv
  generalize hM:max 1 ks.length=m at em hmx;have hq:(room / (m:Int)).toNat=room.toNat / m:=by
   let(r,rfl):=W0 h0
   rfl
  have hle:=Int.ediv_le_self (m:Int) h0;show#[_,U,_,.inl U,?_];show fg D.str toD (λk t=>Ty W sc k t/\t.rq (n+2) (room.toNat / m)) _ (λk hk kk hkk=>?_) λts hts=>?_
  .refine#[_,U,_,U,_,U,_,U,_,U,?_];show#[_,U,_,.inl U,_,_,U,?_];rw[em];show#[_,_,U,U,#[by cbv,by cbv],?_];show#[W,sc,k,room / m,U,#[bG,sok,vx k hk,Int.ediv_nonneg h0 (by cbv),by cbv,by cbv],λt ht hd=>hkk t _ #[ht,by rw[<- hq];exact hd] rfl]
  .refine#[_,.inl U,?_];show q ts (vB hts λk _ t ht=>ht.1) λt ht=>?_;rw[show ts.length=ks.length by have:=fB hts;cbv,hM];let(_,_,h):=fC hts t ht;exact h.2
def Vo(d:AC)(n:Nat):YA:=λds R=>∃ (W:bZ) (sc:!(Str×Str)) (k:Str) (room:Int),ds=[.cT d,j5 W,.lst (sc.map pairD),.str k,.int room]/\(JF W/\jW W sc/\qz W k/\sc.length<=12/\2<=room/\room<=n+1/\room<=16)/\R .br/\∀ t:Tm,Ty W sc k t->t.rq (n+2) room.toNat->R (toD t)
def Bt(c:Kd×jL):D:=.tup [.str c.1.name,.str c.2.name,et c.2.ps]
theorem LO{d l:AC}(dZ:C4 P w K mg base bu ba 1 (cA K (aT d l) (gb d))){n lv:Nat}(GH:aa0 P w K mg base dj 1 Ol)(MM:C4 P w K mg base bu gE lv (cA K (aT d l) (RM d n)))(F:Own K mg jd)(T:Txt K mg)(RN:1<=lv):C4 P w K mg base bu jd (lv+1) (cA K (aT d l) (Vo d n)):=by
 show F.d (nos:=1) cu (λds R h=>?_) λf bq A outer s H E M hr=>#[_,(af (sN 0 5 cu.nd (aO ae))
 (af (sF (b8 (bh hr GH (aa (vd 1) ae))) (dC (m:=4) U (aE (gN 6 cu.nd) (aE (j4 (er (i:=7) cu.nd U (Or.inr U)) ()) (aE (gN 8 cu.nd) (aE (gN 9 cu.nd) dE)))))
 (aj (eL (CT PySem.F.slot_list_extend PySem.F.type_list_extend qa FO (pv 5) (aa (DN.de (nC ["_law_f","_law_params","_law_result"] [7,3] (b8 (vd 9)) (λ_ _ _ _=>(dC (m:=3) U (aE (gM 0 ["_law_f","_law_params","_law_result","_law_kk","_law_kind"]) (aE (gM 1 ["_law_f","_law_params","_law_result","_law_kk","_law_kind"]) (aE (gM 2 ["_law_f","_law_params","_law_result","_law_kk","_law_kind"]) dE))))) (λ_ _ _ _=>eK (az aW cf (vd 2) (vd 4) (av _)))
 (λ_ _ _ _=>(aQ (aa (vd 3) (aa (vd 0) (aa (vd 1) ae))))))) ae)))))
 (af (bS (Jt (vR (oZ hr)) (pv 5) (DN.de (aO ae)) (av _))
 (aj (aN d6))
 aK)
 (af (nF (n:=1000) (Kh (CI xU (pv 5) (DE.pe (aq hr dZ (aa (vd 0) (aa (Hr (dw eT U T.len Xi (aX (pv 5) dR))) ae)))) (λ_ _=>rfl))) (dC (m:=3) U (aE (j4 (er (i:=7) cu.nd U (Or.inr U)) ()) (aE (gN 10 cu.nd) (aE (gN 11 cu.nd) dE)))))
 (af (sS 12 cu.nd (aq hr MM (aa (vd 0) (aa (vd 1) (aa (vd 2) (aa (DN.de (eg cQ cO (DN.de (aO (aa (vd 7) ae))) (DN.de (nC ["_law_param"] [] (b8 (vd 11)) (λ_ _ _ _=>(gM 0 ["_law_param"])) (λ_ _ _ _=>du)
 (λ_ _ _ _=>(fM (vd 0) ai)))))) (aa (a9 jP fN (vd 4) ai) ae)))))))
 (aj (aN (aQ (aa ak (aa (fM (vd 12) ai) (aa (vd 10) (aa (B2 (vd 12) (aL ai) bw) ae)))))))))))),λds R h=>?_]
 .let(W,sc,ks,room,rfl,_):=h
  rfl
 .let(W,sc,k,room,rfl,(bG,sok,hk,hsl,h0,h1,h16),qn,q):=h;obtain⟨n',rfl⟩:∃ n',n=n'+1:=#[n - 1,by cbv];have hsz:=bA;show#[#[U,U],?_];show#[_,U,W,U,bG,_,.inl U,?_];show dq (λxs s=>∃ (ks:!Kd) (cs:!(Kd×jL)) (x6 x7 x8 x9 iM ff fY:Sl),xs=ks.map l6/\(∀ c∈ks,c∈things W)/\(∀ c∈cs,c.1∈things W/\c.2∈c.1.dM/\c.2.res=k)/\cs.length+5 * ks.length<=25/\s=#[[.dat (.cT d),.dat (j5 W),.dat (.lst (sc.map pairD)),.dat (.str k),.dat (.int room),.own 0,x6,x7,x8,x9,iM,ff,fY],[some (.lst (cs.map Bt))]]) ?_ ?_ _ _ #[things W,[],.no,.no,.no,.no,.no,.no,.no,U,λ_ h=>h,λ_ h=>(nomatch h),?_,U]
  .rintro s ⟨ks,cs,x6,x7,x8,x9,iM,ff,fY,hx,_,hcs,hcl,rfl⟩;show#[0,_,U,U,_,U,#[iX λc hc=>?_,U,.inr ()],_,U,?_]
   .let(c1,c2,c3):=hcs c hc;have c1:=(g7.mp c1).1;let(a1,a2,a3):=bG.ao c.1 c1 c.2 c2;change (GM.strOk c.1.name&&(GM.strOk c.2.name&&(mU (et c.2.ps)&&true)))=true;rw[(bG.kw c.1 c1).1.ok,a1.ok,tV bG (λx hx=>bG.nm x (W7 _ (X8 hx))) a2]
    rfl
   by_cases hcn:cs=[]
   .exact gC (by rw[hcn];rfl) qn
   show gq ?_ ?_
   .let(c0,r0,e):=XU hcn;rw[e]
    rfl
   have hc0:0 < cs.length:=XZ.mpr hcn;show#[0,U,_,U,0,_,U,U,_,U,#[by rw[Wk];omega,by rw[Wk];omega],λr r0 r1=>?_];let(c,hc,ec):=iS (f:=Bt) (xs:=cs) r0 (by simpa using r1);show#[_,_,_,U,U,ec,?_];let(c1,c2,c3):=hcs c hc;let(c1,c4):=g7.mp c1;let(a1,a2,a3):=bG.ao c.1 c1 c.2 c2;show#[_,U,U,_,_,U,_,_,U,_,_,U,U,?_];show#[_,U,_,U,_,U,_,U,_,U,_,.inr U,?_];show cy pairD (λp=>D.str p.2) _ (λp hp k2 hk2=>#[_,U,_,_,_,U,U,U,hk2 _ U]) ?_;have hps:=a2.1;show#[_,_,U,U,by simp;cbv,?_];show#[_,U,_,_,U,U,?_];show#[W,sc,c.1.name::c.2.ps.map (·.2),room - 1,?_,#[bG,sok,λx hx=>?_,by simp;cbv,by cbv,by cbv,by cbv],λts hts hd=>?_]
   .rw[Wu,WV]
    rfl
   .rcases WI.mp hx with rfl | hx
    .exact .inr #[c.1,c1,c4,U]
    .let(p,hp,rfl):=WO.mp hx;exact a2.2.2 p hp
   have hl:=hts.len;let(t0,tr,rfl):=D0 (l:=ts) (by rw[hl];simp);show#[_,U,_,_,_,U,U,bQ,?_];show#[_,U,_,U,_,U,_,U,?_];change R (.tup [.str "ask",toD t0,.str c.2.name,.tup (cutD (toD t0::tr.map toD) (some 1) none)]);rw[yN];have:=q (.node (.ask c.2.name) (t0::tr)) (c3▸Ty.mk (.ask c1 c4 c2) (by rw[List.map_cons,List.map_map] at hts;exact hts)) (ka (q:=(room.toNat - 1) / max 1 (t0::tr).length) (λt ht=>by have:=hd t ht;rw[show (room - 1).toNat=room.toNat - 1 by cbv] at this;exact this) (wG (by cbv) (by cbv) (by rw[hl];simp;cbv)));rw[toD,toDs_map] at this;exact this
  .rintro x xs s N ⟨ks,cs,x6,x7,x8,x9,iM,ff,fY,hx,vx,hcs,hcl,rfl⟩ hN hE_;cases ks with
   | nil=>cases hx
   | cons kd ks =>
   injection hx with e1 e2;subst e1 e2;have hkd:=g7.mp (vx kd Wt);show#[_,U,U,_,_,U,_,_,U,_,_,U,_,_,U,U,?_];show#[0,_,U,U,U,?_];show#[_,U,_,.inr U,?_];show bj gj (λa=>Bt (kd,a)) (λa=>decide (a.res=k)) _ (λa ha kk N2 g1 g2=>?_) ?_
   .refine#[_,U,U,_,_,U,_,_,U,_,_,U,U,?_];show#[_,U,_,U,#[U,U,U],_,U,?_];exact aI (b':=decide (a.res=k)) bO (λe=>#[_,U,_,U,_,U,g1 e _ U]) λe=>g2 e _ U
   have hal:(kd.dM.filter λa=>decide (a.res=k)).length<=5:=Wr (Xh _ _) (bG.kw kd hkd.1).2.2;rw[WQ];have hcl2:cs.length+5 * (ks.length+1)<=25:=hcl;show#[_,U,_,_,U,U,by rw[Wk,Wk];cbv,?_];show hN _ #[ks,cs++(kd.dM.filter λa=>decide (a.res=k)).map λa=>(kd,a),.dat (.str (bC kd.asked)),.dat (.str kd.name),.dat (.tup (kd.bK.map dG)),.dat (.tup (kd.dM.map gj)),iM,ff,fY,U,λc hc=>vx c (Wq _ hc),λc hc=>?_,by rw[Wm,Wk];cbv,?_]
   .rcases WS.mp hc with hc | hc
    .exact hcs c hc
    .let(a,ha,rfl):=WO.mp hc;let(ha1,ha2):=Xs.mp ha;exact#[vx kd List.mem_cons_self,ha1,by simpa using ha2]
   .rw[Wv,WV]
    rfl
  .have h2:(things W).length<=W.kinds.length:=Xh _ _;have:=bG.kl;simp;cbv
theorem EM{r:Int}(h0:0<=r)(h1:r < 3):∃ ch,gR ("+-*":Str).cps.toList r=some ch/\(#[#v[ch]]:Str)∈(["+","-","*"]:!Str):=by
 have:r=0\/r=1\/r=2:=by cbv
 rcases this with rfl | rfl | rfl
 .exact#[43,U,by decide+kernel]
 .exact#[45,U,by decide+kernel]
 .exact#[42,U,by decide+kernel]
theorem FU{d l:AC}(dZ:C4 P w K mg base bu ba 1 (cA K (aT d l) (gb d)))(GH:aa0 P w K mg base dj 1 Ol)(SG:C4 P w K mg base bu fX 2 (cA K (aT d l) (S3 d)))(Oy:C4 P w K mg base bu ik 3 (cA K (aT d l) (Sr d 2)))(LX:Own K mg gE)(MJ:Own K mg jd)(NL:Own K mg jR)(KP:Own K mg lr)(JN:Own K mg fA)(T:Txt K mg):∀ n,C4 P w K mg base bu fA (3 * n+2) (cA K (aT d l) (Qq d n))
 | 0=>JN.c λ_ _ _=>fj
 | n+1=>by
  have Dg:=FU dZ GH SG Oy LX MJ NL KP JN T n;have MM:=Mg Dg LX T;have GAs:=LO dZ GH MM MJ T (by cbv);have GCa:C4 P w K mg base bu jR 1 (cA K (aT d l) λ_ _=>False):=NL.c λ_ _ _=>fj;have GNe:C4 P w K mg base bu lr 1 (cA K (aT d l) λ_ _=>False):=KP.c λ_ _ _=>fj;show JN.c λfTe fdTe F_=>?_;show Oc (nos:=0) F_ aJ (λds R h=>?_) λbq A outer s H E M hr=>#[_,(af (sS 5 aJ.nd (aq hr dZ (aa (vd 0) (aa ai ae))))
 (af (sS 6 aJ.nd d6)
 (af (bS (DW.dt (mB (az xh mT (vd 4) ai (av _)) (mB (az aW cf (vd 5) ai (av _)) (oa (az kX mT (gp T.len (aa (vd 2) ae)) ai (av _))))))
 (aj (aN (aq hr Oy (aa (vd 0) (aa (vd 1) (aa (vd 2) (aa (vd 3) ae)))))))
 aK)
 (af (bS (az xh mT (vd 5) ai (av _))
 (aj (sS 6 aJ.nd (aq hr GAs (aa (vd 0) (aa (vd 1) (aa (vd 2) (aa (vd 3) (aa (vd 4) ae))))))))
 (aj (bS (DW.dt (gL (az aW cf (vd 5) ai (av _)) (eS (fw (eQ (bx (dm hr) (DE.pe (vd 1)) (DE.pe ak) (λ_ _=>rfl)))))))
 (aj (sS 6 aJ.nd (aq hr GCa (aa (vd 0) (aa (vd 1) (aa (vd 2) (aa (vd 3) (aa (vd 4) ae))))))))
 (aj (bS (DW.dt (gL (az aW cf (vd 5) ai (av _)) (eS (fw (eQ (bx (dm hr) (DE.pe (vd 1)) (DE.pe ak) (λ_ _=>rfl)))))))
 (aj (sS 6 aJ.nd (aq hr GNe (aa (vd 0) (aa (vd 1) (aa (vd 2) (aa (vd 3) (aa (vd 4) ae))))))))
 (aj (bS (az aW cf (vd 5) ai (av _))
 (af (sS 7 aJ.nd (aq hr Dg (aa (vd 0) (aa (vd 1) (aa (vd 2) (aa ak (aa (a9 d5 z6 (vd 4) ai) ae)))))))
 (af (sS 8 aJ.nd (aq hr Dg (aa (vd 0) (aa (vd 1) (aa (vd 2) (aa (vd 3) (aa (a9 d5 z6 (vd 4) ai) ae)))))))
 (aj (sS 6 aJ.nd (aQ (aa ak (aa (vd 7) (aa (vd 8) (aa (aq hr Dg (aa (vd 0) (aa (vd 1) (aa (vd 2) (aa (vd 3) (aa (a9 d5 z6 (vd 4) ai) ae)))))) ae)))))))))
 (aj (bS (az aW cf (vd 5) ai (av _))
 (af (sS 9 aJ.nd (DN.de (eg cQ cO (DN.de (nC ["_law_one"] [] (b8 (bh hr GH (aa (vd 1) ae))) (λ_ _ _ _=>(gM 0 ["_law_one"])) (λ_ _ _ _=>du)
 (λ_ _ _ _=>(fM (vd 0) ai)))) (DN.de (aO (aa ak ae))))))
 (af (sS 10 aJ.nd (iz (vd 9) (aq hr dZ (aa (vd 0) (aa (gp T.len (aa (vd 9) ae)) ae)))))
 (af (sS 11 aJ.nd (fM (aq hr SG (aa (vd 0) (aa (vd 1) (aa (vd 2) (aa ai ae))))) ai))
 (af (sS 7 aJ.nd (aq hr Dg (aa (vd 0) (aa (vd 1) (aa (vd 2) (aa (vd 10) (aa (a9 d5 z6 (vd 4) ai) ae)))))))
 (aj (sS 6 aJ.nd (aQ (aa ak (aa (vd 11) (aa (vd 7) (aa (aq hr Dg (aa (vd 0) (aa (vd 1) (aa (DN.de (eg cQ cO (vd 2) (DN.de (aO (aa (aQ (aa (vd 11) (aa (vd 10) ae))) ae))))) (aa (vd 3) (aa (a9 d5 z6 (vd 4) ai) ae)))))) ae)))))))))))
 aK)))))))))
 (af (bS (az Dp Ip (vd 6) d6 (av _))
 (aj (aN (vd 6)))
 aK)
 (af (bS (az aW cf (vd 3) ak (av _))
 (af (nF (n:=1000) (aq hr MM (aa (vd 0) (aa (vd 1) (aa (vd 2) (aa (DN.de (aO (aa ak (aa ak ae)))) (aa (a9 jP fN (vd 4) ai) ae)))))) (dC (m:=2) U (aE (gN 7 aJ.nd) (aE (gN 8 aJ.nd) dE))))
 (aj (aN (aQ (aa ak (aa (rV iB oh ak (aq hr dZ (aa (vd 0) (aa ai ae))) (λ_ _=>rfl)) (aa (vd 7) (aa (vd 8) ae))))))))
 aK)
 (af (sS 12 aJ.nd (iz (DN.de (nC ["_law_one"] [3] (b8 (eQ (bx (dm hr) (DE.pe (vd 1)) (DE.pe ak) (λ_ _=>rfl)))) (λ_ _ _ _=>(gM 0 ["_law_one","_law_kind"])) (λ_ _ _ _=>eK (az aW cf (fM (vd 0) ai) (vd 1) (av _)))
 (λ_ _ _ _=>(fM (vd 0) ai)))) ai))
 (af (nF (n:=1000) (fM (vd 12) (aq hr dZ (aa (vd 0) (aa (gp T.len (aa (vd 12) ae)) ae)))) (dC (m:=2) U (aE (gN 13 aJ.nd) (aE (gN 14 aJ.nd) dE))))
 (aj (aN (aQ (aa ak (aa (vd 13) (aa (aq hr MM (aa (vd 0) (aa (vd 1) (aa (vd 2) (aa (DN.de (nC ["_law_field"] [] (b8 (vd 14)) (λ_ _ _ _=>(gM 0 ["_law_field"])) (λ_ _ _ _=>du)
 (λ_ _ _ _=>(fM (vd 0) ai)))) (aa (a9 jP fN (vd 4) ai) ae)))))) ae)))))))))))))),λds R h=>?_]
  .let(W,sc,k,room,rfl,_):=h
   rfl
  .let(W,sc,k,room,rfl,(bG,sok,hk,h0,h1,h16),q):=h;show#[_,U,_,U,#[by decide,by decide],λfm f0 f1=>?_];refine' jn ?hleaf λhleaf=>?main
   case main =>
    show#[_,U,_,_,U,U,_,U,?_];show aI U (λ_=>lM hleaf) λc1=>?_;show#[_,U,#[U,U,U],_,U,?_];show aI U (λ_=>lM hleaf) λc2=>?_;show#[_,U,_,.inl U,_,_,U,U,_,U,?_];show aI U (λ_=>hleaf) λc3=>?_;have c1:¬ room < 2:=by simpa using c1
    have c3:¬ (12:Int) < sc.length:=by simpa using c3
    obtain⟨n',rfl⟩:∃ n',n=n'+1:=#[n - 1,by cbv];refine' jn ?hnone λhnone=>?main2
    case main2 =>
     show#[_,U,_,_,U,U,_,U,?_];show aI U (λ_=>?_) λ_=>?_
     .refine#[_,U,_,U,_,U,_,U,_,U,W,sc,k,room,U,#[bG,sok,hk,by cbv,by cbv,by cbv,by cbv],hnone,λt ht hd=>?_];exact#[_,U,U,_,U,gC (Nl t) #[_,U,q t ht hd]]
     show#[_,U,#[U,U,U],_,U,?_];refine' jn ?h5 λh5=>?main3
     case main3 =>
      show aI U (λ_=>?_) λ_=>h5;show#[_,U,?_];show oF #[_,U,_,U,?_];exact aI (b':=false) bG.Dc (λz=>nomatch z) λ_=>h5
     case h5 =>
      show#[_,U,#[U,U,U],_,U,?_];refine' jn ?h6 λh6=>?main4
      case main4 =>
       show aI U (λ_=>?_) λ_=>h6;show#[_,U,?_];show oF #[_,U,_,U,?_];exact aI (b':=false) bG.Dc (λz=>nomatch z) λ_=>h6
      case h6 =>
       show#[_,U,#[U,U,U],_,U,?_];show aI U (λ_=>?_) λ_=>?_
       .refine#[_,U,_,U,_,U,_,U,_,_,U,U,#[by decide,by decide],W,sc,"number",room / 3,U,#[bG,sok,.inl U,by cbv,by cbv,by cbv],λta hta hda=>?_];show#[_,U,_,U,_,U,_,U,_,U,_,_,U,U,#[by decide,by decide],W,sc,k,room / 3,U,#[bG,sok,hk,by cbv,by cbv,by cbv],λtb htb gH=>?_];show#[_,U,_,U,?_];show#[_,U,_,U,_,U,_,U,_,U,_,_,U,U,#[by decide,by decide],W,sc,k,room / 3,U,#[bG,sok,hk,by cbv,by cbv,by cbv],λtc htc hdc=>?_];show#[_,U,U,_,U,gC U #[_,U,?_]];exact q (.node .BO [ta,tb,tc]) (Ty.mk .BO (.uM hta (.uM htb (.uM htc .nil)))) (ka (q:=room.toNat / 3) (λt ht=>by
         rw[show (room / 3).toNat=room.toNat / 3 by cbv] at hda gH hdc;simp at ht;rcases ht with rfl | rfl | rfl<;>assumption) (Jx (by cbv) (by cbv)))
       show#[_,U,#[U,U,U],_,U,?_];show aI U (λ_=>?_) λ_=>hnone;show#[_,U,W,U,bG,_,.inl U,?_];show cy l6 (λk=>D.str k.name) _ (λk hk k2 hk2=>#[_,U,_,_,_,U,U,U,hk2 _ U]) ?_;have hsz:=bA;have htl:(things W).length<=5:=Wr (Xh _ _) bG.kl;have enm:(things W).map (λk=>D.str k.name)++[D.str "number"]=((things W).map Kd.name++gJ).map D.str:=by
        rw[Wv,WV]
        rfl
       rw[WQ];show#[_,_,U,U,by simp;cbv,?_];rw[enm];show#[_,U,_,U,_,U,_,.inl U,_,U,#[by simp,by simp;cbv],λr2 r20 r21=>?_];let(ot,hot,eot):=iS (f:=D.str) (xs:=(things W).map Kd.name++gJ) r20 (by simpa using r21);show#[_,_,_,U,U,eot,?_];have bf:qz W ot:=by
        rcases WS.mp hot with h | h
        .let(kd,hkd,rfl):=WO.mp h;let(a,b):=g7.mp hkd;exact .inr #[kd,a,b,U]
        .exact .inl (WA.mp h)
       show#[_,U,_,U,_,U,W,sc,1,U,#[bG,sok,by decide,by cbv],λns u4 hb=>?_];obtain⟨x,rfl⟩:∃ x,ns=[x]:=by
        let(x,r,rfl):=D0 (l:=ns) (by cbv);cases r with
        | nil=>exact#[x,U]
        | cons y r=>simp at u4
       show#[_,_,_,U,U,bQ,?_];show#[_,U,_,U,_,U,_,U,_,U,_,_,U,U,#[by decide,by decide],W,sc,ot,room / 2,U,#[bG,sok,bf,by cbv,by cbv,by cbv],λta hta hda=>?_];show#[_,U,_,U,?_];show#[_,U,_,U,_,U,_,U,_,U,_,_,U,U,by simp;cbv,?_];show#[_,U,_,U,_,_,U,U,#[by decide,by decide],?_];show#[W,sc++[(x,ot)],k,room / 2,by rw[List.map_append]<;>rfl,#[bG,sok.more (ns:=[x]) (ks:=[ot]) hb U (λy hy=>List.mem_singleton.mp hy▸bf) (by simp;cbv),hk,by cbv,by cbv,by cbv],λtb htb gH=>?_];show#[_,U,U,_,U,gC U #[_,U,?_]];exact q (.node (.lt x) [ta,tb]) (Ty.mk (.lt hb bf) (.uM hta (.cons htb .nil))) (ka (q:=room.toNat / 2) (λt ht=>by
        rw[show (room / 2).toNat=room.toNat / 2 by cbv] at hda gH;simp at ht;rcases ht with rfl | rfl<;>assumption) (IP (by cbv) (by cbv)))
    case hnone =>
     show#[_,U,U,_,U,gq U ?_];show#[_,U,#[U,U,U],_,U,?_];show aI (b':=decide (k="number")) bO (λe=>?_) λe=>?_
     .have e:k="number":=by simpa using e
      show#[_,U,_,U,_,U,_,U,_,_,U,U,?_];show#[W,sc,["number","number"],room - 1,U,#[bG,sok,λx hx=>?_,by decide,by cbv,by cbv,by cbv],λts hts hd=>?_]
      .simp at hx;exact .inl hx
      have hl:=hts.len;let(ta,tb,rfl):=RE (l:=ts) hl;show#[_,U,U,_,_,U,_,_,U,U,?_];show#[_,U,_,U,#[by decide,by decide],λr2 r20 r21=>?_];let(ch,ech,pK):=EM r20 r21;show#[_,_,_,U,U,by decide+kernel,ech,?_];show#[_,U,_,U,?_];exact q (.node (.op #[#v[ch]]) [ta,tb]) (e▸Ty.mk (.op pK) hts) (ka (q:=(room.toNat - 1) / max 1 2) (λt ht=>by have:=hd t ht;rw[show (room - 1).toNat=room.toNat - 1 by cbv] at this;exact this) (wG (n:=2) (by cbv) (by cbv) ()))
     .have e:k≠"number":=by simpa using e
      let(kd,hkd,hmk,hnm,nn,z7):=kinds_of bG hk e;show#[_,U,?_];show c9 #[_,U,_,.inl U,?_];show bj l6 (λk=>D.tup (k.bK.map dG)) (λx=>decide (x.name=k)) _ (λx hx kk N g1 g2=>?_) ?_
      .refine#[_,U,_,_,_,U,U,U,_,U,#[U,U,U],_,U,?_];exact aI (b':=decide (x.name=k)) bO (λe=>#[_,U,_,_,_,U,U,U,g1 e _ U]) λe=>g2 e _ U
      rw[z7,List.replicate_succ,Wu,WQ];show#[_,_,_,U,U,bQ,?_];have hm0:0 < kd.bK.length:=XZ.mpr hmk;have hm5:=(bG.kw kd hkd).2.1;show#[_,U,_,U,_,U,_,.inr U,_,U,#[by rw[Wk];cbv,by rw[Wk];cbv],λr2 r20 r21=>?_];let(m,hm,em):=iS (f:=dG) (xs:=kd.bK) r20 (by simpa using r21);let(m1,m2,m3,m4):=bG.mo kd hkd m hm;show#[_,_,_,U,U,em,?_];show#[_,U,U,_,_,U,_,_,U,U,?_];show#[_,U,_,U,_,U,_,U,_,U,_,.inr U,?_];show cy pairD (λp=>D.str p.2) _ (λp hp k2 hk2=>#[_,U,_,_,_,U,U,U,hk2 _ U]) ?_;rw[WQ];show#[_,U,_,_,U,U,?_];show#[W,sc,m.fs.map (·.2),room - 1,by rw[WV]<;>rfl,#[bG,sok,λx hx=>?_,by rw[Wk];cbv,by cbv,by cbv,by cbv],λts hts hd=>?_]
      .let(p,hp,rfl):=WO.mp hx;exact m4 p hp
      have:=q (.node (.mk m.name) ts) (hnm▸Ty.mk (.mk hkd hm) (by rw[WV] at hts;exact hts)) (ka (q:=(room.toNat - 1) / max 1 ts.length) (λt ht=>by have:=hd t ht;rw[show (room - 1).toNat=room.toNat - 1 by cbv] at this;exact this) (wG (by cbv) (by cbv) (by have:=hts.len;rw[Wk,Wk] at this;cbv)));rw[toD,toDs_map] at this;exact this
   case hleaf =>
    exact#[_,U,_,U,_,U,_,U,W,sc,k,U,#[bG,sok,hk,λe=>absurd e ()],λt ht hd=>q t ht (Tm.lf.rq (n:=2) hd (by cbv) (by cbv))]
def Tv(d:AC):YA:=λds R=>∃ (most:Int) (b:Bool),ds=[.cT d,.int most,.bl b]/\(1<=most/\most<=3)/\∀ (ws:!Str) (ks:!Kd),ws.length=45->ws.Nodup->(∀ x∈ws,Nm x)->qH ws ks->R (j5 (b5 ws ks b))
theorem J8{d l:AC}(Vb:C4 P w K mg base bu fP 2 (cA K (aT d l) (BL d)))(VA:C4 P w K mg base bu fQ 3 (cA K (aT d l) (Sj d)))(F:Own K mg fT)(T:Txt K mg):C4 P w K mg base bu fT 4 (cA K (aT d l) (Tv d)):=by
 show F.d (nos:=0) kF (λds R h=>?_) λf bq A outer s H E M hr=>#[_,(af (sS 3 kF.nd (aq hr Vb (aa (vd 0) (aa ai ae))))
 (aj (aN (DN.de (Ay (iK (aq hr VA (aa (vd 0) (aa (vd 3) (aa (vd 1) ae)))) (iK (DN.de (dP (vd 3) (aL ai) bw)) (iK (DN.de (dP (vd 3) (aL ai) (aL ai))) (iK (vd 2) xt)))) (show List.Nodup [(Sum.inr ("kinds":Str):Key),(Sum.inr ("vars":Str):Key),(Sum.inr ("heads":Str):Key),(Sum.inr ("inner":Str):Key)] by decide+kernel)))))),λds R h=>?_]
 .let(most,b,rfl,_):=h
  rfl
 .let(most,b,rfl,(h1,h3),q):=h;show#[_,U,45,U,#[by decide,by decide],λws lW JB hwm=>?_];have lW:ws.length=45:=lW;show#[_,U,_,U,_,U,ws,most,U,#[lW,JB,hwm,h1,h3],λks vx=>?_];have e30:cutD (ws.map D.str) (some 30) none=(ws.drop 30).map D.str:=by
   rw[fk,lW,show HT.cq 45 0 (some 30)=30 from U,show HT.cq 45 45 none=45 from U,List.take_of_length_le (by simp[lW])]
  have e24:cutD (ws.map D.str) (some 24) (some 30)=((ws.drop 24).take 6).map D.str:=by rw[fk,lW];rfl
  show#[_,U,_,U,_,U,?_];show#[_,U,_,U,_,U,_,U,?_];rw[e30,e24];show#[_,U,?_];exact q ws ks lW JB hwm vx
end
end MH
namespace DL
open PySem PySem.Spec L2
def Tm.tq(n:Nat)(t:Tm):Prop:=t.dep<=n/\t.size<=207/\t.Dc<=63/\t.gt
theorem Tm.rq.tq{n r:Nat}{t:Tm}(h:t.rq n r)(hr:r<=16)(hg:t.gt):t.tq n:=#[h.1,Wr h.2.1 (nh hr (Wo _)).1,Wr h.2.2 (nh hr (Wo _)).2,hg]
end DL
namespace MH
open PySem L2 DL
structure tX(W:bZ)(n:Nat)(p:PK):Prop where
 tl:p.tabs.length=if p.asked=true then p.kd.bK.length else p.kd.dM.length
 tm:∀ e∈ents p,e.2.wf=true/\e.2.Jq=true/\e.2.tq n
 nd:((ents p).map (·.1)).Nodup
 nm:∀ e∈ents p,e.1.1∈p.kd.bK.map fO.name/\e.1.2∈p.kd.dM.map jL.name
 ln:(ents p).length<=1000
structure Gs(W:bZ)(n:Nat)(ps:!PK):Prop where
 bG:fb W
 kd:ps.map PK.kd=W.kinds
 ok:∀ p∈ps,tX W n p
theorem Gs.mem{W:bZ}{n:Nat}{ps:!PK}(h:Gs W n ps){p:PK}(hp:p∈ps):p.kd∈W.kinds:=h.kd▸WJ hp
def lD(W:bZ)(kd:Kd)(n:Nat)(ks:!(!Key))(vs:!D):Prop:=ks.length=vs.length/\∀ q x,bM ks vs q=some x->∃ m∈kd.bK,∃ a∈kd.dM,∃ t:Tm,q=[.inr m.name,.inr a.name]/\x=toD t/\Ty W (m.fs++a.ps) a.res t/\t.tq n
theorem lD.nil{W:bZ}{kd:Kd}{n:Nat}:lD W kd n [] []:=#[U,λq x h=>by cases h]
theorem lD.put{W:bZ}{kd:Kd}{n:Nat}{ks:!(!Key)}{vs:!D}(h:lD W kd n ks vs){m:fO}(hm:m∈kd.bK){a:jL}(ha:a∈kd.dM){t:Tm}(ht:Ty W (m.fs++a.ps) a.res t)(hd:t.tq n):lD W kd n (gf ks [.inr m.name,.inr a.name]) (g6 ks vs [.inr m.name,.inr a.name] (toD t)):=by
 show#[(yq h.1).1,λq x hx=>?_];rw[Bj q h.1] at hx;by_cases e:q=[.inr m.name,.inr a.name]
 .rw[if_pos e] at hx;cases hx;exact#[m,hm,a,ha,t,e,U,ht,hd]
 .rw[if_neg e] at hx;exact h.2 q x hx
structure r8(other:!Str)(n:Nat)(rs:!(Str×Tm)):Prop where
 ln:rs.length<=5
 nd:(rs.map (·.1)).Nodup
 ok:∀ r∈rs,r.1∈other/\r.2.wf=true/\r.2.Jq=true/\r.2.tq n
theorem r8.perm{other:!Str}{n:Nat}{rs qs:!(Str×Tm)}(h:r8 other n rs)(p:qs.Perm rs):r8 other n qs :=
 #[by rw[p.length_eq];exact h.ln,(p.map _).nodup_iff.mpr h.nd,λr hr=>h.ok r (p.mem_iff.mp hr)]
theorem tX.of{W:bZ}(w:fb W){kd:Kd}(hk:kd∈W.kinds){n:Nat}{b:Bool}{ts:!(!(Str×Tm))}(hl:ts.length=if b=true then kd.bK.length else kd.dM.length)(hr:∀ rs∈ts,r8 (if b=true then kd.dM.map jL.name else kd.bK.map fO.name) n rs):tX W n #[b,kd,ts]:=by
 let(_,k5,a5):=w.kw kd hk;have key:∀ (ns:!Str),ns.Nodup->ns.length=ts.length->ns.length<=5->Fc #[b,kd,ts]=ns.zip ts->(∀ x∈ns.zip ts,x.1∈ns/\x.2∈ts)/\(((ents #[b,kd,ts]).map (·.1)).Nodup)/\(ents #[b,kd,ts]).length<=1000:=λns hn hln h5 eb=>by
  have mem:∀ x∈ns.zip ts,x.1∈ns/\x.2∈ts:=λx hx=>Xt (a:=x.1) (b:=x.2) hx;show#[mem,?_,?_]
  .show (((Fc #[b,kd,ts]).flatMap (kQ b)).map (·.1)).Nodup;rw[eb];show qy ?_ λx hx=>(hr x.2 (mem x hx).2).nd;rw[Yp (by cbv)];exact hn
  .show ((Fc #[b,kd,ts]).flatMap (kQ b)).length<=1000;rw[eb];have:=xG (b:=b) (bs:=ns.zip ts) λx hx=>(hr x.2 (mem x hx).2).ln;rw[Yv] at this;cbv
 cases b with
 | true =>
  let(mem,g1,g2):=key (kd.bK.map fO.name) (rQ w hk) (by rw[Wk];exact hl.symm) (by rw[Wk];exact k5) U;show#[hl,λe he=>?_,g1,λe he=>?_,g2]
  .let(x,hx,r,hr2,rfl):=kA (b:=true) he;exact ((hr x.2 (mem x hx).2).ok r hr2).2
  .let(x,hx,r,hr2,rfl):=kA (b:=true) he;exact#[(mem x hx).1,((hr x.2 (mem x hx).2).ok r hr2).1]
 | false =>
  let(mem,g1,g2):=key (kd.dM.map jL.name) (rB w hk) (by rw[Wk];exact hl.symm) (by rw[Wk];exact a5) U;show#[hl,λe he=>?_,g1,λe he=>?_,g2]
  .let(x,hx,r,hr2,rfl):=kA (b:=false) he;exact ((hr x.2 (mem x hx).2).ok r hr2).2
  .let(x,hx,r,hr2,rfl):=kA (b:=false) he;exact#[((hr x.2 (mem x hx).2).ok r hr2).1,(mem x hx).1]
theorem lD.at{W:bZ}(w:fb W){kd:Kd}(hk:kd∈W.kinds){n:Nat}{ks:!(!Key)}{vs:!D}(h:lD W kd n ks vs){m:fO}(hm:m∈kd.bK){a:jL}(ha:a∈kd.dM){x:D}(e:bM ks vs [.inr m.name,.inr a.name]=some x):∃ t:Tm,x=toD t/\Ty W (m.fs++a.ps) a.res t/\t.tq n:=by
 let(m',hm',a',ha',t,e1,e2,e3,e4):=h.2 _ _ e;injection e1 with e5 e6;injection e5 with e5;injection e6 with e6 _;injection e6 with e6;have:=map_one (rQ w hk) hm hm' e5;subst this;have:=map_one (rB w hk) ha ha' e6;subst this;exact#[t,e2,e3,e4]
theorem xW{α:Type}{nm:α->Str}{l sub:!α}{rs:!(Str×Tm)}{F:α->Tm->Prop}{n:Nat}(hn:(l.map nm).Nodup)(h5:l.length<=5)(hs:sub.Sublist l)(hp:Paired (λm (r:Str×Tm)=>r.1=nm m/\F m r.2) sub rs)(hg:∀ m∈l,∀ t,F m t->t.wf=true/\t.Jq=true/\t.tq n):r8 (l.map nm) n rs:=by
 have e:rs.map (·.1)=sub.map nm:=BM (λx y h=>h.1) hp;show#[?_,?_,λr hr=>?_]
 .rw[fB hp];exact Wr hs.length_le h5
 .rw[e];exact hn.sublist (hs.map nm)
 .let(m,hm,h1,h2):=fC hp r hr;exact#[h1▸WJ (hs.subset hm),hg m (hs.subset hm) r.2 h2]
section
variable{P:Fa}{w:FS}{K:Frag}{mg:Str->Option AT}{base:Ev}
def DY(c:!(!Key)×!D):D:=.mE c.1 c.2
def J0(d:AC)(n:Nat):YA:=λds R=>∃ (W:bZ) (room:Int),ds=[.cT d,j5 W,.int room]/\(JF W/\0<=room/\room<=n+1/\room<=16)/\∀ vw:!(!(!Key)×!D),Paired (λkd c=>lD W kd (n+2) c.1 c.2) W.kinds vw->R (.lst (vw.map DY))
theorem LG{d l:AC}(dZ:C4 P w K mg base bu ba 1 (cA K (aT d l) (gb d))){n lv:Nat}(Dg:C4 P w K mg base bu fA lv (cA K (aT d l) (Qq d (n+1))))(F:Own K mg f7)(T:Txt K mg)(RN:2<=lv):C4 P w K mg base bu f7 (lv+1) (cA K (aT d l) (J0 d n)):=by
 show F.d (nos:=2) bo (λds R h=>?_) λf bq A outer s H E M hr=>#[_,(af (sN 0 3 bo.nd (aO ae))
 (af (sF (b8 (eQ (bx (dm hr) (DE.pe (vd 1)) (DE.pe ak) (λ_ _=>rfl)))) (dC (m:=4) U (aE (gN 4 bo.nd) (aE (gN 5 bo.nd) (aE (gN 6 bo.nd) (aE (gN 7 bo.nd) dE)))))
 (af (sN 1 8 bo.nd Ep)
 (af (sF (b8 (vd 6)) (dC (m:=2) U (aE (gN 9 bo.nd) (aE (gN 10 bo.nd) dE)))
 (aj (sF (b8 (vd 7)) (dC (m:=3) U (aE (gN 11 bo.nd) (aE (gN 12 bo.nd) (aE (gN 13 bo.nd) dE))))
 (aj (bS (az kX mT (aq hr dZ (aa (vd 0) (aa ai ae))) ai (av _))
 (aj (Eg (nj (dm hr) (pv 8) (DE.pe (aQ (aa (vd 9) (aa (vd 11) ae)))) (DE.pe (aq hr Dg (aa (vd 0) (aa (vd 1) (aa (DN.de (eg cQ cO (DN.de (nJ kZ vg U T.list (by decide+kernel) (aa (vd 10) ae))) (DN.de (nJ kZ vg U T.list (by decide+kernel) (aa (vd 12) ae))))) (aa (vd 13) (aa (vd 2) ae))))))) U)))
 aK)))))
 (aj (wM 3 (aa (za (pv 8)) ae))))))
 (aj (aN (za (pv 3)))))),λds R h=>?_]
 .let(W,room,rfl,_):=h
  rfl
 .let(W,room,rfl,(bG,h0,h1,h16),q):=h;have hsz:=bA;show#[#[U,U],?_];show#[_,U,?_];show c9 #[_,U,_,.inl U,?_];show dq (λxs s=>∃ (dn td:!Kd) (vw:!(!(!Key)×!D)) (x4 x5 x6 x7 x8 x9 iM ff fY gm:Sl),W.kinds=dn++td/\xs=td.map l6/\Paired (λkd c=>lD W kd (n+2) c.1 c.2) dn vw/\(x9.pl=true/\iM.pl=true/\ff.pl=true/\fY.pl=true/\gm.pl=true)/\s=#[[.dat (.cT d),.dat (j5 W),.dat (.int room),.own 0,x4,x5,x6,x7,x8,x9,iM,ff,fY,gm],[some (.lst (vw.map DY)),none]]) ?_ ?_ _ _ #[[],W.kinds,[],.no,.no,.no,.no,.no,.no,.no,.no,.no,.no,U,U,.nil,#[U,U,U,U,U],U]
  .rintro s ⟨dn,td,vw,x4,x5,x6,x7,x8,x9,iM,ff,fY,gm,hdt,hx,hP,_,rfl⟩;have htd:td=[]:=by
    cases td with
    | nil=>rfl
    | cons a b=>cases hx
   rw[htd,WH] at hdt;exact .inr #[_,_,U,U,q vw (hdt▸hP)]
  .rintro x xs s N ⟨dn,td,vw,x4,x5,x6,x7,x8,x9,iM,ff,fY,gm,hdt,hx,hP,⟨h9,h10,h11,h12,h13⟩,rfl⟩ hN hE_;cases td with
   | nil=>cases hx
   | cons kd td =>
   injection hx with e1 e2;subst e1 e2;have hkd:kd∈W.kinds:=by rw[hdt];simp
   have hkw:=bG.kw kd hkd;show#[_,U,U,_,_,U,_,_,U,_,_,U,_,_,U,U,?_];show#[#[U,(show noRef 1 6 [x9,iM,ff,fY,gm]=true by rw[cp h9,cp h10,cp h11,cp h12,cp h13];rfl)],?_];show#[_,U,_,.inr U,?_];show dq (λxs s=>∃ (ms:!fO) (ks:!(!Key)) (vs:!D) (x9 iM ff fY gm:Sl),xs=ms.map dG/\(∀ m∈ms,m∈kd.bK)/\lD W kd (n+2) ks vs/\ks.length+5 * ms.length<=25/\(x9.pl=true/\iM.pl=true/\ff.pl=true/\fY.pl=true/\gm.pl=true)/\s=#[[.dat (.cT d),.dat (j5 W),.dat (.int room),.own 0,.dat (.str (bC kd.asked)),.dat (.str kd.name),.dat (.tup (kd.bK.map dG)),.dat (.tup (kd.dM.map gj)),.own 1,x9,iM,ff,fY,gm],[some (.lst (vw.map DY)),some (.mE ks vs)]]) ?_ ?_ _ _ #[kd.bK,[],[],x9,iM,ff,fY,gm,U,λ_ h=>h,lD.nil,by simp;cbv,#[h9,h10,h11,h12,h13],U]
   .rintro s ⟨ms,ks,vs,y9,Ax,y11,y12,Gp,hx,_,hC,_,⟨g9,g10,g11,g12,g13⟩,rfl⟩;show#[0,_,U,U,U,?_];show .inr #[_,_,U,U,?_];have hcl:vw.length=dn.length:=fB hP;have hdl:=congrArg List.length hdt;rw[Wm] at hdl;have hkl:=bG.kl;show#[_,U,_,_,U,U,by rw[Wk];cbv,?_];show hN _ #[dn++[kd],td,vw++[(ks,vs)],_,_,_,_,.dat (.mE ks vs),_,_,_,_,_,by rw[hdt];simp,U,yF hP hC,#[b7 (k:=1) (d:=.mE ks vs) g9,b7 (k:=1) (d:=.mE ks vs) g10,b7 (k:=1) (d:=.mE ks vs) g11,b7 (k:=1) (d:=.mE ks vs) g12,b7 (k:=1) (d:=.mE ks vs) g13],by rw[List.map_append];rfl]
   .rintro x xs s N2 ⟨ms,ks,vs,y9,Ax,y11,y12,Gp,hx,hms,hC,hcl,⟨g9,g10,g11,g12,g13⟩,rfl⟩ hN2 hE_2;cases ms with
    | nil=>cases hx
    | cons m ms =>
    injection hx with e1 e2;subst e1 e2;have hm:=hms m Wt;have hcl:ks.length+5 * (ms.length+1)<=25:=hcl;show#[_,U,U,_,_,U,_,_,U,U,?_];show#[_,U,_,.inr U,?_];show dq (λxs s=>∃ (as:!jL) (ks:!(!Key)) (vs:!D) (ff fY gm:Sl),xs=as.map gj/\(∀ a∈as,a∈kd.dM)/\lD W kd (n+2) ks vs/\ks.length+as.length+5 * ms.length<=25/\(ff.pl=true/\fY.pl=true/\gm.pl=true)/\s=#[[.dat (.cT d),.dat (j5 W),.dat (.int room),.own 0,.dat (.str (bC kd.asked)),.dat (.str kd.name),.dat (.tup (kd.bK.map dG)),.dat (.tup (kd.dM.map gj)),.own 1,.dat (.str m.name),.dat (et m.fs),ff,fY,gm],[some (.lst (vw.map DY)),some (.mE ks vs)]]) ?_ ?_ _ _ #[kd.dM,ks,vs,y11,y12,Gp,U,λ_ h=>h,hC,by cbv,#[g11,g12,g13],U]
    .rintro s ⟨as,ks,vs,z11,z12,z13,hx,_,hC,hcl,⟨f11,f12,f13⟩,rfl⟩;exact hN2 _ #[ms,ks,vs,_,_,z11,z12,z13,U,λa ha=>hms a (Wq _ ha),hC,by cbv,#[U,U,f11,f12,f13],U]
    .rintro x xs s N3 ⟨as,ks,vs,z11,z12,z13,hx,has,hC,hcl,⟨f11,f12,f13⟩,rfl⟩ hN3 hE_3;cases as with
     | nil=>cases hx
     | cons a as =>
     injection hx with e1 e2;subst e1 e2;have ha:=has a Wt;have hcl:ks.length+(as.length+1)+5 * ms.length<=25:=hcl;show#[_,U,U,_,_,U,_,_,U,_,_,U,U,?_];show#[_,U,_,U,#[by decide,by decide],λr r0 r1=>?_];show#[_,_,U,U,_,U,?_];show aI U (λ_=>?_) λ_=>?_
     rotate_left
     .exact hN3 _ #[as,ks,vs,_,_,_,U,λb hb=>has b (Wq _ hb),hC,by cbv,#[U,U,U],U]
     let(_,m2,_):=bG.mo kd hkd m hm;let(_,(a2,_),ar):=bG.ao kd hkd a ha;have hm3:=m2;show#[_,U,_,U,?_];show#[_,U,?_];show#[_,.inr U,?_];show#[_,U,_,.inr U,?_];show#[_,_,U,U,by rw[Wk,Wk];cbv,?_];show#[_,U,_,U,?_];show#[W,m.fs++a.ps,a.res,room,by rw[Wv],#[bG,DL.rh bG hkd hm ha,ar,h0,h1,h16],λt ht hd=>?_];have hd:=hd.tq (by cbv) (Ty.LD bG t _ _ (jW.V8 bG (DL.rh bG hkd hm ha)) (ar.Kb bG) ht);show#[1,U,_,U,_,U,_,U,?_];show .inr #[_,_,_,[.inr m.name,.inr a.name],U,U,U,by cbv,?_];have hp:=yq (x:=toD t) (q:=[.inr m.name,.inr a.name]) hC.1;exact hN3 _ #[as,_,_,_,_,_,U,λb hb=>has b (Wq _ hb),hC.put hm ha ht hd,by cbv,#[U,U,U],U]
def Sw(d:AC)(n:Nat):YA:=λds R=>∃ (W:bZ) (room:Int),ds=[.cT d,j5 W,.int room]/\(JF W/\0<=room/\room<=n+1/\room<=16)/\∀ ps:!PK,Gs W (n+2) ps->(∀ p∈ps,p.asked=p.kd.asked)->R (.tup (ps.map pN))
theorem B9{α β:Type}{F:α->β->Prop}{f:α->D}{h:β->D}:∀ {l₁:!α} {l₂:!β},Paired F l₁ l₂->wJ (l₁.map f) (l₂.map h)=(l₁.zip l₂).map λx=>D.tup [f x.1,h x.2]
 | _,_,.nil=>rfl
 | _,_,.cons r t=>by
  have:=B9 (f:=f) (h:=h) t;unfold wJ at this ⊢;rw[Wu,Wu,List.zipWith_cons_cons,this]
  rfl
theorem Cv{α β:Type}{F:α->β->Prop}:∀ {l₁:!α} {l₂:!β},Paired F l₁ l₂->∀ x∈l₁.zip l₂,F x.1 x.2
 | _,_,.nil,x,h=>by cases h
 | _,_,.cons r t,x,h=>by
  rcases WI.mp h with rfl | h
  .exact r
  .exact Cv t x h
theorem Hy{r:Int}(h0:0<=r)(h1:r < 2):∃ w:Int,gR [D.int 1,D.int (-1)] r=some (.int w)/\(w=1\/w=-1):=by
 have:r=0\/r=1:=by cbv
 rcases this with rfl | rfl
 .exact#[1,U,.inl U]
 .exact#[-1,U,.inr U]
theorem Ll{d l:AC}(dZ:C4 P w K mg base bu ba 1 (cA K (aT d l) (gb d))){n lv:Nat}(VO:C4 P w K mg base bu f7 lv (cA K (aT d l) (J0 d n)))(F:Own K mg eD)(T:Txt K mg)(RN:2<=lv):C4 P w K mg base bu eD (lv+1) (cA K (aT d l) (Sw d n)):=by
 show F.d (nos:=2) aF (λds R h=>?_) λf bq A outer s H E M hr=>#[_,(af (sN 0 3 aF.nd (aO ae))
 (af (sF (LP U T.zip (aa (eQ (bx (dm hr) (DE.pe (vd 1)) (DE.pe ak) (λ_ _=>rfl))) (aa (aq hr VO (aa (vd 0) (aa (vd 1) (aa (vd 2) ae)))) ae))) (dC (m:=2) U (aE (gN 4 aF.nd) (aE (j4 (er (i:=5) aF.nd U (Or.inr U)) ()) dE)))
 (af (nF (n:=1000) (vd 4) (dC (m:=4) U (aE (gN 6 aF.nd) (aE (gN 7 aF.nd) (aE (gN 8 aF.nd) (aE (gN 9 aF.nd) dE))))))
 (af (sS 10 aF.nd (iz (DN.de (aO (aa ai (aa (dc (d:=.int (-1)) sj U) ae)))) (aq hr dZ (aa (vd 0) (aa ai ae)))))
 (af (sN 1 11 aF.nd (aO ae))
 (af (sF (b8 (vd 9)) (dC (m:=3) U (aE (j4 (er (i:=12) aF.nd U (Or.inr U)) ()) (aE (gN 13 aF.nd) (aE (gN 14 aF.nd) dE))))
 (af (sS 15 aF.nd (DN.de (Fp (DN.de (nC ["_law_c","_law_fields"] [5,12] (b8 (vd 8)) (λ_ _ _ _=>(dC (m:=2) U (aE (gM 0 ["_law_c","_law_fields","_law_cells_here","_law_f"]) (aE (gM 1 ["_law_c","_law_fields","_law_cells_here","_law_f"]) dE)))) (λ_ _ _ _=>eK (Ag (dm hr) (aQ (aa (vd 0) (aa (vd 3) ae))) (vd 2)))
 (λ_ _ _ _=>(aQ (aa (vd 0) (aa (eQ (bx (dm hr) (DE.pe (vd 2)) (DE.pe (aQ (aa (vd 0) (aa (vd 3) ae)))) (λ_ _=>rfl))) ae)))))) (vd 10))))
 (aj (wM 11 (aa (aQ (aa (vd 12) (aa (vd 13) (aa (vd 14) (aa (jy T.tuple (aa (vd 15) ae)) ae))))) ae)))))
 (af (bS (az aW cf (vd 6) ak (av _))
 (af (sN 1 11 aF.nd (aO ae))
 (aj (sF (b8 (vd 8)) (dC (m:=2) U (aE (j4 (er (i:=16) aF.nd U (Or.inr U)) ()) (aE (gN 17 aF.nd) dE)))
 (af (sS 15 aF.nd (DN.de (Fp (DN.de (nC ["_law_f","_law_params","_law_result"] [5,16] (b8 (vd 9)) (λ_ _ _ _=>(dC (m:=3) U (aE (gM 0 ["_law_f","_law_params","_law_result","_law_cells_here","_law_c"]) (aE (gM 1 ["_law_f","_law_params","_law_result","_law_cells_here","_law_c"]) (aE (gM 2 ["_law_f","_law_params","_law_result","_law_cells_here","_law_c"]) dE))))) (λ_ _ _ _=>eK (Ag (dm hr) (aQ (aa (vd 4) (aa (vd 0) ae))) (vd 3)))
 (λ_ _ _ _=>(aQ (aa (vd 0) (aa (eQ (bx (dm hr) (DE.pe (vd 3)) (DE.pe (aQ (aa (vd 4) (aa (vd 0) ae)))) (λ_ _=>rfl))) ae)))))) (vd 10))))
 (aj (wM 11 (aa (aQ (aa (vd 16) (aa (vd 17) (aa (jy T.tuple (aa (vd 15) ae)) ae)))) ae)))))))
 aK)
 (aj (wM 3 (aa (aQ (aa (vd 6) (aa (vd 7) (aa (iz (DN.de (aO (aa (vd 8) (aa (vd 9) ae)))) (bB cH fq U T.int (by decide+kernel) (aa (gG aW cf (vd 6) ak (av _)) ae))) (aa (jy T.tuple (aa (za (pv 11)) ae)) ae))))) ae)))))))))
 (aj (aN (jy T.tuple (aa (za (pv 3)) ae)))))),λds R h=>?_]
 .let(W,room,rfl,_):=h
  rfl
 .let(W,room,rfl,(bG,h0,h1,h16),q):=h;have hsz:=bA;show#[#[U,U],?_];show#[_,U,?_];show c9 #[_,U,?_];show#[_,U,_,U,_,U,W,room,U,#[bG,h0,h1,h16],λvw pU=>?_];show#[_,_,_,_,U,#[U,U],?_];rw[B9 pU];have hzl:(W.kinds.zip vw).map (·.1)=W.kinds:=Yp (by rw[fB pU];exact Wo _);have hzp:=Cv pU;have hzk:∀ x∈W.kinds.zip vw,x.1∈W.kinds:=λx hx=>(Xt (a:=x.1) (b:=x.2) hx).1;generalize W.kinds.zip vw=zs0 at hzl hzp hzk;show dq (λxs s=>∃ (td:!(Kd×(!(!Key)×!D))) (ps:!PK) (x4 x5 x6 x7 x8 x9 iM ff fY gm vb zV zX z9:Sl),xs=td.map (λx=>D.tup [l6 x.1,DY x.2])/\(∀ x∈td,x∈zs0)/\ps.map PK.kd++td.map (·.1)=W.kinds/\(∀ p∈ps,tX W (n+2) p/\p.asked=p.kd.asked)/\(fY.pl=true/\gm.pl=true/\vb.pl=true/\zV.pl=true/\zX.pl=true/\z9.pl=true)/\s=#[[.dat (.cT d),.dat (j5 W),.dat (.int room),.own 0,x4,x5,x6,x7,x8,x9,iM,ff,fY,gm,vb,zV,zX,z9],[some (.lst (ps.map pN)),none]]) ?_ ?_ _ _ #[zs0,[],.no,.no,.no,.no,.no,.no,.no,.no,.no,.no,.no,.no,.no,.no,U,λ_ h=>h,hzl,λ_ h=>(nomatch h),#[U,U,U,U,U,U],U]
  .rintro s ⟨td,ps,x4,x5,x6,x7,x8,x9,iM,ff,fY,gm,vb,zV,zX,z9,hx,_,hps,bf,_,rfl⟩;have htd:td=[]:=by
    cases td with
    | nil=>rfl
    | cons a b=>cases hx
   rw[htd,Xr,WH] at hps;show .inr #[_,_,U,U,_,.inl U,?_];exact q ps #[bG,hps,λp hp=>(bf p hp).1] λp hp=>(bf p hp).2
  .rintro x xs s N ⟨td,ps,x4,x5,x6,x7,x8,x9,iM,ff,fY,gm,vb,zV,zX,z9,hx,htd,hps,bf,⟨g12,g13,g14,g15,g16,g17⟩,rfl⟩ hN hE_;cases td with
   | nil=>cases hx
   | cons z td =>
   injection hx with e1 e2;subst e1 e2;let(kd,ks,vs):=z;have hz0:=htd _ Wt;have hkd:kd∈W.kinds:=hzk _ hz0;have hC:lD W kd (n+2) ks vs:=hzp _ hz0;show#[_,U,U,_,_,U,_,_,U,U,?_];show#[_,U,?_];show#[_,U,U,_,_,U,_,_,U,_,_,U,_,_,U,U,?_];show#[_,U,_,U,#[by decide,by decide],λr r0 r1=>?_];let(wy,ewy,hwy):=Hy r0 r1;show#[_,_,_,U,U,ewy,?_];show#[#[U,(show noRef 1 7 [fY,gm,vb,zV,zX,z9]=true by rw[cp g12,cp g13,cp g14,cp g15,cp g16,cp g17];rfl)],?_];show#[_,U,_,.inr U,?_];let(_,k5,a5):=bG.kw kd hkd;show dq (λxs s=>∃ (dn td:!jL) (tabs:!(!(Str×Tm))) (fY gm vb zV zX z9:Sl),kd.dM=dn++td/\xs=td.map gj/\tabs.length=dn.length/\(∀ rs∈tabs,r8 (kd.bK.map fO.name) (n+2) rs)/\(fY.pl=true/\gm.pl=true/\vb.pl=true/\zV.pl=true/\zX.pl=true/\z9.pl=true)/\s=#[[.dat (.cT d),.dat (j5 W),.dat (.int room),.own 0,.dat (l6 kd),.dat (DY (ks,vs)),.dat (.str (bC kd.asked)),.dat (.str kd.name),.dat (.tup (kd.bK.map dG)),.dat (.tup (kd.dM.map gj)),.dat (.int wy),.own 1,fY,gm,vb,zV,zX,z9],[some (.lst (ps.map pN)),some (.lst ((dn.zip tabs).map ky))]]) ?_ ?_ _ _ #[[],kd.dM,[],fY,gm,vb,zV,zX,z9,U,U,U,λ_ h=>(nomatch h),#[g12,g13,g14,g15,g16,g17],U]
   rotate_left
   .rintro x xs s N2 ⟨dn,td,tabs,y12,Gp,y14,y15,y16,y17,hdt,hx,htl,hro,⟨p12,p13,p14,p15,p16,p17⟩,rfl⟩ hN2 hE_2;cases td with
    | nil=>cases hx
    | cons b0 td =>
    injection hx with e1 e2;subst e1 e2;have hb0:b0∈kd.dM:=by rw[hdt];simp
    show#[_,U,U,_,_,U,_,_,U,_,_,U,U,?_];show#[_,U,_,.inr U,?_];show gS dG vi (λr0 (r:Str×Tm)=>r.1=r0.name/\(λt=>Ty W (r0.fs++b0.ps) b0.res t/\t.tq (n+2)) r.2) _ (λr0 hr0 k N0 g1 g2=>?_) λsub rs hsub hprs=>?_
    .refine#[_,U,U,_,_,U,_,_,U,U,?_];show#[_,U,_,U,_,U,U,.inr #[_,_,_,[.inr r0.name,.inr b0.name],U,U,U,?_]];cases hl:bM ks vs [.inr r0.name,.inr b0.name] with
     | none=>exact#[_,U,gq U (g2 _ U)]
     | some v =>
      let(t,rfl,ht1,ht2):=hC.at bG hkd hr0 hb0 hl;exact#[_,U,gC U #[_,U,_,U,_,U,_,U,U,.inr #[_,_,_,[.inr r0.name,.inr b0.name],U,U,U,_,hl,g1 (r0.name,t) _ #[U,ht1,ht2] rfl]]]
    have hrw:r8 (kd.bK.map fO.name) (n+2) rs:=xW (F:=λr0 t=>Ty W (r0.fs++b0.ps) b0.res t/\t.tq (n+2)) (rQ bG hkd) k5 hsub hprs λr0 hr0 t ht=>#[(jg bG hkd hr0 hb0 ht.1).1,(jg bG hkd hr0 hb0 ht.1).2,ht.2];have hrw2:=hrw.perm (qJ wy rs);rw[WQ];show#[_,U,_,wy,U,U,hwy,?_];rw[uq];have hdl:=congrArg List.length hdt;rw[Wm] at hdl;show#[1,_,U,U,U,?_];show#[_,U,_,U,_,U,_,U,_,.inl U,?_];show#[_,U,_,_,U,U,?_,?_]
    .rw[Wk,Yv];cbv
    show hN2 _ #[dn++[b0],td,tabs++[la wy rs],.dat (.str b0.name),.dat (et b0.ps),.dat (.str b0.res),.dat (.lst ((la wy rs).map vi)),y16,y17,by rw[hdt];simp,U,by rw[List.length_append,List.length_append,htl];rfl,λq hq=>?_,#[U,U,U,U,p16,p17],?_]
    .rcases WS.mp hq with hq | hq
     .exact hro q hq
     .rw[WA.mp hq];exact hrw2
    .rw[ub htl,Wv]
     rfl
   .rintro s ⟨dn,td2,tabs,z12,z13,z14,z15,z16,z17,hdt,hx,htl,hro,⟨f12,f13,f14,f15,f16,f17⟩,rfl⟩;have htd2:td2=[]:=by
     cases td2 with
     | nil=>rfl
     | cons a b=>cases hx
    rw[htd2,WH] at hdt;subst hdt;show#[_,U,#[U,U,U],_,U,?_];show aI (b':=kd.asked) (bF _) (λhask=>?_) λhask=>?_
    rotate_left
    .refine#[0,_,U,U,U,?_];show#[_,U,_,U,?_];show#[_,U,_,U,_,U,#[U,U,U],?_];show .inr #[_,U,?_];rw[bF,hask];show#[_,_,_,U,U,U,?_];show .inr #[_,_,U,U,?_];show#[_,.inl U,?_];show#[_,U,_,_,U,U,?_,?_]
     .have:=congrArg List.length hps;rw[Wm,Wk] at this;have:=bG.kl;rw[Wk];cbv
     have hpk:tX W (n+2) #[false,kd,tabs]:=tX.of bG hkd (by rw[htl];rfl) hro;show hN _ #[td,ps++[#[false,kd,tabs]],.dat (l6 kd),.dat (DY (ks,vs)),.dat (.str (bC kd.asked)),.dat (.str kd.name),.dat (.tup (kd.bK.map dG)),.dat (.tup (kd.dM.map gj)),.dat (.int wy),.dat (D.lst ((kd.dM.zip tabs).map ky)),(jh 1 (D.lst ((kd.dM.zip tabs).map ky)) z12),(jh 1 (D.lst ((kd.dM.zip tabs).map ky)) z13),(jh 1 (D.lst ((kd.dM.zip tabs).map ky)) z14),(jh 1 (D.lst ((kd.dM.zip tabs).map ky)) z15),(jh 1 (D.lst ((kd.dM.zip tabs).map ky)) z16),(jh 1 (D.lst ((kd.dM.zip tabs).map ky)) z17),U,λx hx=>htd x (List.mem_cons_of_mem _ hx),by rw[<- hps];simp,λp hp=>?_,#[b7 f12,b7 f13,b7 f14,b7 f15,b7 f16,b7 f17],?_]
     .rcases WS.mp hp with hp | hp
      .exact bf p hp
      .rw[WA.mp hp];exact#[hpk,hask.symm]
     .rw[Wv];change _=DS.mk _ [some (D.lst (ps.map pN++[D.tup [D.str (bC false),D.str kd.name,MO #[false,kd,tabs],D.tup (AX #[false,kd,tabs])]])),none];rw[hask]
      rfl
    show#[#[U,(show noRef 1 7 [z12,z13,z14,z15,z16,z17]=true by rw[cp f12,cp f13,cp f14,cp f15,cp f16,cp f17];rfl)],?_];show#[_,U,_,.inr U,?_];show dq (λxs s=>∃ (dn td:!fO) (tabs:!(!(Str×Tm))) (fY gm vb zV zX z9:Sl),kd.bK=dn++td/\xs=td.map dG/\tabs.length=dn.length/\(∀ rs∈tabs,r8 (kd.dM.map jL.name) (n+2) rs)/\(fY.pl=true/\gm.pl=true/\vb.pl=true/\zV.pl=true/\zX.pl=true/\z9.pl=true)/\s=#[[.dat (.cT d),.dat (j5 W),.dat (.int room),.own 0,.dat (l6 kd),.dat (DY (ks,vs)),.dat (.str (bC kd.asked)),.dat (.str kd.name),.dat (.tup (kd.bK.map dG)),.dat (.tup (kd.dM.map gj)),.dat (.int wy),.own 1,fY,gm,vb,zV,zX,z9],[some (.lst (ps.map pN)),some (.lst ((dn.zip tabs).map jH))]]) ?_ ?_ _ _ #[[],kd.bK,[],z12,z13,z14,z15,z16,z17,U,U,U,λ_ h=>(nomatch h),#[f12,f13,f14,f15,f16,f17],U]
    rotate_left
    .rintro x xs s N2 ⟨dn,td,tabs,y12,Gp,y14,y15,y16,y17,hdt,hx,htl,hro,⟨p12,p13,p14,p15,p16,p17⟩,rfl⟩ hN2 hE_2;cases td with
     | nil=>cases hx
     | cons b0 td =>
     injection hx with e1 e2;subst e1 e2;have hb0:b0∈kd.bK:=by rw[hdt];simp
     show#[_,U,U,_,_,U,_,_,U,U,?_];show#[_,U,_,.inr U,?_];show gS gj vi (λr0 (r:Str×Tm)=>r.1=r0.name/\(λt=>Ty W (b0.fs++r0.ps) r0.res t/\t.tq (n+2)) r.2) _ (λr0 hr0 k N0 g1 g2=>?_) λsub rs hsub hprs=>?_
     .refine#[_,U,U,_,_,U,_,_,U,_,_,U,U,?_];show#[_,U,_,U,_,U,U,.inr #[_,_,_,[.inr b0.name,.inr r0.name],U,U,U,?_]];cases hl:bM ks vs [.inr b0.name,.inr r0.name] with
      | none=>exact#[_,U,gq U (g2 _ U)]
      | some v =>
       let(t,rfl,ht1,ht2):=hC.at bG hkd hb0 hr0 hl;exact#[_,U,gC U #[_,U,_,U,_,U,_,U,U,.inr #[_,_,_,[.inr b0.name,.inr r0.name],U,U,U,_,hl,g1 (r0.name,t) _ #[U,ht1,ht2] rfl]]]
     have hrw:r8 (kd.dM.map jL.name) (n+2) rs:=xW (F:=λr0 t=>Ty W (b0.fs++r0.ps) r0.res t/\t.tq (n+2)) (rB bG hkd) a5 hsub hprs λr0 hr0 t ht=>#[(jg bG hkd hb0 hr0 ht.1).1,(jg bG hkd hb0 hr0 ht.1).2,ht.2];have hrw2:=hrw.perm (qJ wy rs);rw[WQ];show#[_,U,_,wy,U,U,hwy,?_];rw[uq];have hdl:=congrArg List.length hdt;rw[Wm] at hdl;show#[1,_,U,U,U,?_];show#[_,U,_,U,_,U,_,.inl U,?_];show#[_,U,_,_,U,U,?_,?_]
     .rw[Wk,Yv];cbv
     show hN2 _ #[dn++[b0],td,tabs++[la wy rs],y12,Gp,y14,.dat (.lst ((la wy rs).map vi)),.dat (.str b0.name),.dat (et b0.fs),by rw[hdt];simp,U,by rw[List.length_append,List.length_append,htl];rfl,λq hq=>?_,#[p12,p13,p14,U,U,U],?_]
     .rcases WS.mp hq with hq | hq
      .exact hro q hq
      .rw[WA.mp hq];exact hrw2
     .rw[ub htl,Wv]
      rfl
    .rintro s ⟨dn,td3,tabs,z12,z13,z14,z15,z16,z17,hdt,hx,htl,hro,⟨f12,f13,f14,f15,f16,f17⟩,rfl⟩;have htd3:td3=[]:=by
      cases td3 with
      | nil=>rfl
      | cons a b=>cases hx
     rw[htd3,WH] at hdt;subst hdt;show#[0,_,U,U,U,?_];show#[_,U,_,U,?_];show#[_,U,_,U,_,U,#[U,U,U],?_];show .inr #[_,U,?_];rw[bF,hask];show#[_,_,_,U,U,U,?_];show .inr #[_,_,U,U,?_];show#[_,.inl U,?_];show#[_,U,_,_,U,U,?_,?_]
     .have:=congrArg List.length hps;rw[Wm,Wk] at this;have:=bG.kl;rw[Wk];cbv
     have hpk:tX W (n+2) #[true,kd,tabs]:=tX.of bG hkd (by rw[htl];rfl) hro;show hN _ #[td,ps++[#[true,kd,tabs]],.dat (l6 kd),.dat (DY (ks,vs)),.dat (.str (bC kd.asked)),.dat (.str kd.name),.dat (.tup (kd.bK.map dG)),.dat (.tup (kd.dM.map gj)),.dat (.int wy),.dat (D.lst ((kd.bK.zip tabs).map jH)),(jh 1 (D.lst ((kd.bK.zip tabs).map jH)) z12),(jh 1 (D.lst ((kd.bK.zip tabs).map jH)) z13),(jh 1 (D.lst ((kd.bK.zip tabs).map jH)) z14),(jh 1 (D.lst ((kd.bK.zip tabs).map jH)) z15),(jh 1 (D.lst ((kd.bK.zip tabs).map jH)) z16),(jh 1 (D.lst ((kd.bK.zip tabs).map jH)) z17),U,λx hx=>htd x (List.mem_cons_of_mem _ hx),by rw[<- hps];simp,λp hp=>?_,#[b7 f12,b7 f13,b7 f14,b7 f15,b7 f16,b7 f17],?_]
     .rcases WS.mp hp with hp | hp
      .exact bf p hp
      .rw[WA.mp hp];exact#[hpk,hask.symm]
     .rw[Wv];change _=DS.mk _ [some (D.lst (ps.map pN++[D.tup [D.str (bC true),D.str kd.name,MO #[true,kd,tabs],D.tup (AX #[true,kd,tabs])]])),none];rw[hask]
      rfl
def SO:YA:=λds R=>∃ (W:bZ) (n:Nat) (p:PK),ds=[pN p]/\tX W n p/\R (.tup (p.kd.bK.map dG))
theorem Mp(F:Own K mg gd)(T:Txt K mg):aa0 P w K mg base gd 1 SO:=by
 show F.d (nos:=0) tJ (λds R h=>?_) λf bq A outer s H E M hr=>#[_,(af (bS (az aW cf (fM (vd 0) ai) ak (av _))
 (aj (aN (fM (vd 0) ai)))
 aK)
 (aj (aN (jy T.tuple (aa (DN.de (nC ["table"] [] (b8 (fM (vd 0) ai)) (λ_ _ _ _=>(gM 0 ["table"])) (λ_ _ _ _=>du)
 (λ_ _ _ _=>(aQ (aa (fM (vd 0) ai) (aa (fM (vd 0) ai) ae)))))) ae))))),λds R h=>?_]
 .let(W,n,p,rfl,_):=h
  rfl
 .let(W,n,(b,kd,ts),rfl,ok,q):=h;have tl:=ok.tl;show#[_,U,_,_,_,U,U,U,#[U,U,U],_,U,?_];cases b with
  | false=>exact gC (dY false) #[_,U,_,_,_,U,U,U,q]
  | true =>
   show gq (dY true) ?_;show#[_,U,_,_,_,U,U,U,_,.inr U,?_];show cy jH (λx=>dG x.1) _ (λx hx k hk=>#[_,U,_,_,_,U,U,U,_,U,_,_,_,U,U,U,hk _ U]) ?_;show#[_,.inl U,?_];rw[WQ,CD tl];exact q
def Aa(ps:!PK)(k:Str):Option PK:=ps.find? λp=>decide (p.kd.name=k)
def SN(f:PK->D)(e:D):Option PK->D
 | some p=>f p
 | none=>e
def Jm(f:PK->D)(e:D):YA:=λds R=>∃ (W:bZ) (n:Nat) (ps:!PK) (k:Str),ds=[.tup (ps.map pN),.str k]/\Gs W n ps/\R (SN f e (Aa ps k))
theorem KC(F:Own K mg dH)(T:Txt K mg):aa0 P w K mg base dH 1 (Jm pN .br):=by
 show F.d (nos:=0) iT (λds R h=>?_) λf bq A outer s H E M hr=>#[_,(af (sF (b8 (vd 0)) (gN 2 iT.nd)
 (aj (bS (az aW cf (fM (vd 2) ai) (vd 1) (av _))
 (aj (aN (vd 2)))
 aK)))
 (aj (aN d6))),λds R h=>?_]
 .let(W,n,ps,k,rfl,_):=h
  rfl
 .let(W,n,ps,k,rfl,ok,q):=h;show#[_,U,_,.inr U,?_];show dq (λxs s=>∃ (rs:!PK) (x2:Sl),xs=rs.map pN/\Aa ps k=Aa rs k/\s=#[[.dat (.tup (ps.map pN)),.dat (.str k),x2],[]]) ?_ ?_ _ _ #[ps,.no,U,U,U]
  .rintro s ⟨rs,x2,hx,he,rfl⟩;cases rs with
   | nil=>rw[he] at q;exact q
   | cons a b=>cases hx
  .rintro x xs s N ⟨rs,x2,hx,he,rfl⟩ hN hE;cases rs with
   | nil=>cases hx
   | cons r rs =>
   injection hx with e1 e2;subst e1 e2;show#[_,U,_,_,_,U,U,U,_,U,#[U,U,U],_,U,?_];have hc:Aa (r::rs) k=if decide (r.kd.name=k)=true then some r else Aa rs k:=by
    unfold Aa;rw[Yw];cases decide (r.kd.name=k)<;>rfl
   show aI (b':=decide (r.kd.name=k)) bO (λe=>?_) λe=>?_
   .rw[he,hc,if_pos e] at q;exact#[_,U,hE _ q]
   .exact hN _ #[rs,.dat (pN r),U,by rw[he,hc,e];rfl,U]
theorem Kq(Rv:aa0 P w K mg base dH 1 (Jm pN .br))(GMI:aa0 P w K mg base gd 1 SO)(F:Own K mg fU)(T:Txt K mg):C4 P w K mg base bu fU 2 (cA K .no (Jm (λp=>.tup (p.kd.bK.map dG)) (.tup []))):=by
 show F.d (nos:=0) kP (λds R h=>?_) λf bq A outer s H E M hr=>#[_,(af (sS 2 kP.nd (bh hr Rv (aa (vd 0) (aa (vd 1) ae))))
 (aj (aN (xJ (az lB qo (vd 2) d6 (av _)) (aQ ae) (bh hr GMI (aa (vd 2) ae)))))),λds R h=>?_]
 .let(W,n,ps,k,rfl,_):=h
  rfl
 .let(W,n,ps,k,rfl,ok,q):=h;show#[_,U,_,U,W,n,ps,k,U,ok,?_]
  revert q
  cases hf:Aa ps k with
  | none =>
   intro q;show#[_,U,U,_,U,gC U ?_];exact q
  | some p =>
   intro q;have hp:p∈ps:=Xd hf;show#[_,U,U,_,U,gq U ?_];exact#[_,U,W,n,p,U,ok.ok p hp,q]
theorem MQ(Rv:aa0 P w K mg base dH 1 (Jm pN .br))(F:Own K mg ju)(T:Txt K mg):C4 P w K mg base bu ju 2 (cA K .no (Jm (λp=>.str (bC p.asked)) .br)):=by
 show F.d (nos:=0) oX (λds R h=>?_) λf bq A outer s H E M hr=>#[_,(af (sS 2 oX.nd (bh hr Rv (aa (vd 0) (aa (vd 1) ae))))
 (aj (aN (xJ (az lB qo (vd 2) d6 (av _)) d6 (fM (vd 2) ai))))),λds R h=>?_]
 .let(W,n,ps,k,rfl,_):=h
  rfl
 .let(W,n,ps,k,rfl,ok,q):=h;show#[_,U,_,U,W,n,ps,k,U,ok,?_]
  revert q
  cases hf:Aa ps k with
  | none =>
   intro q;show#[_,U,U,_,U,gC U ?_];exact q
  | some p =>
   intro q;have hp:p∈ps:=Xd hf;show#[_,U,U,_,U,gq U ?_];exact#[_,U,_,_,_,U,U,U,q]
def wo(x y:Str):Bool:=(not (decide (y.cps.toList < x.cps.toList)))
def inside(a b:Str)(c:Nat):Bool:=if wo a #[#v[c]]=true then wo #[#v[c]] b else false
def lies(a b z:Str):Bool:=(z.cps.toList.map (inside a b)).all id
def isNum(z:Str):Bool:=if 1<=z.length/\z.length<=6 then lies "0" "9" z&&(decide (z="0")||(not (decide ((#[#v[z.cps.toList.headD 0]]:Str)="0")))) else false
structure SE(K:Frag)(mg:Str->Option AT):Prop where
 most:∃ t,mg "MOST_FIGURES"=some (.int 6 t)
def Bs:Sp:=λvs H Q _=>∃ z a b:Str,vs=[.str z,.str a,.str b]/\z.length<=1000/\∀ H',dh H H'->Q (.bl (lies a b z)) H'
theorem IQ:(["sign","first","last"]:!Str).Nodup:=by decide+kernel
theorem Ee{f:AC}{fd:Gc}(F:ny K "lies_between" "lies_between" d9 f fd)(T:Txt K mg):bY P w K mg base bu 1 f fd ["text","first","last"] Bs:=by
 show F.ok mR (λvs H Q E h=>?_) (λbq A outer s H vs Q E hr h=>?_)
 .let(z,a,b,rfl,_):=h
  rfl
 .let(z,a,b,rfl,hz,k):=h;show#[_,eh (iW (dw (oW U) U T.all PyProof.Rows.boot_all (aX
   (sA (ts:=["sign"]) (us:=[1,2]) #[U,U,U,U,U,U] rfl (Cd (pv 0)) (λ_ _ _ _=>er (i:=0) IQ U (Or.inl U)) (λ_ _ _ _=>sE)
    (λ_ _ _ _=>AH jm jm (pv 1) (pv 0) (pv 2))) dR))),?_]
  show#[_,U,z,U,rN (λc=>.bl (inside a b c)) (Wr hz ()) () (λc hc H1 k1 q=>?_) (λD hD=>?_)]
  .refine#[_,U,_,U,_,_,U,U,_,U,?_];show uc (λh1=>?_) (λh1=>?_)
   .refine#[_,U,_,_,U,U,?_];have e:inside a b c=wo #[#v[c]] b:=if_pos h1;rw[e] at q;exact q
   .have e:inside a b c=false:=if_neg h1;rw[e] at q;exact q
  .refine#[D,z.cps.toList.map (inside a b),U,?_,k _ (dh.upd hD)];rw[WV];exact dO.of ax
def RY(g:Str->Bool):Sp:=λvs H Q _=>∃ z:Str,vs=[.str z]/\z.length<=1000/\∀ H',dh H H'->Q (.bl (g z)) H'
theorem yL{f fL:AC}{fd Ob:Gc}(F:ny K "is_number" "is_number" iD f fd)(T:Txt K mg)(G:SE K mg)(FL:ny K "lies_between" "lies_between" d9 fL Ob)(mL:mg "lies_between"=some (.ref fL))(bL:Binds K Ob ["text","first","last"] []) :
  bY P w K mg base bu 2 f fd ["text"] (RY isNum):=by
 have GL:bY P w K mg base bu 1 fL Ob ["text","first","last"] Bs:=Ee FL T;let(tk,hmost):=G.most;show F.ok sO (λvs H Q E h=>?_) (λbq A outer s H vs Q E hr h=>?_)
 .let(z,rfl,_):=h
  rfl
 .let(z,rfl,hz,k):=h;show#[_,bP (Cz (AW (vj Fv Fv bH (dw cm U T.len Xi (aX (pv 0) dR)) (eX (v:=.int 6) U hmost #[_,U]))) (eh (iW F7)) nB)
   (eh (iW (IG (jb GL hr U mL FL.kp bL .nil pz (aX (pv 0) (aX cD (aX cD dR)))) (vK (FQ (sP aW (pv 0) cD (av _)) (vK (sP uP (CI iB (pv 0) bH (λ_ _=>rfl)) cD (av _)))))))),?_]
  have hzl:z.length<=FB:=Wr hz ();show#[_,U,z,U,hzl,_,_,U,U,_,U,?_];show uc (λh1=>?_) (λh1=>?_)
  .refine#[_,_,U,U,_,U,?_];show uc (λh2=>?_) (λh2=>?_)
   .have e:isNum z=false:=by
     unfold isNum;rw[if_neg];intro hh;rw[decide_eq_true (by cbv)] at h2;exact absurd h2 ()
    have q:=k H (dh.refl _);rw[e] at q;exact q
   .refine#[_,U,z,_,_,U,hz,λH' s'=>#[_,U,?_]];have h1':1<=z.length:=by have:=of_decide_eq_true h1;cbv
    have h2':z.length<=6:=by
     have h2:¬ (not (decide ((z.length:Int)<=6)))=true:=h2;simp at h2;cbv
    have e:isNum z=(lies "0" "9" z&&(decide (z="0")||(not (decide ((#[#v[z.cps.toList.headD 0]]:Str)="0"))))):=by
     unfold isNum;rw[if_pos #[h1',h2']]
    have q:=k H' s';rw[e] at q;show uc (λhl=>?_) (λhl=>?_)
    .rw[hl,Bool.true_and] at q;show#[_,U,U,_,U,?_];have hv:decide (V.str z=V.str "0")=decide (z="0"):=by
      by_cases hh:z="0"
      .rw[hh];simp
      .rw[decide_eq_false hh,decide_eq_false λz'=>hh (V.str.inj z')]
     show uc (λh0=>?_) (λh0=>?_)
     .rw[hv] at h0;rw[h0,Bool.true_or] at q;exact q
     .rw[hv] at h0;rw[show decide (z="0")=false by simpa using h0,Bool.false_or] at q;obtain⟨ch,r,ez⟩:∃ ch r,z.cps.toList=ch::r:=by
       cases hc:z.cps.toList with
       | nil =>
        have:z.length=0:=by rw[<- gi];change z.cps.toList.length=0;rw[hc];rfl
        cbv
       | cons a b=>exact#[a,b,U]
      show#[_,U,z,0,ch,U,U,hzl,by rw[ez];exact bQ,U,?_];rw[ez] at q;have hv2:decide (V.str #[#v[ch]]=V.str "0")=decide ((#[#v[ch]]:Str)="0"):=by
       by_cases hh:(#[#v[ch]]:Str)="0"
       .rw[hh];simp
       .rw[decide_eq_false hh,decide_eq_false λz'=>hh (V.str.inj z')]
      rw[hv2];exact q
    .have hl':lies "0" "9" z=false:=by simpa using hl
     rw[hl',Bool.false_and] at q;exact q
  .refine#[_,U,?_];show lM ?_;have e:isNum z=false:=by
    unfold isNum;rw[if_neg];intro hh;exact h1 (decide_eq_true (by cbv))
   have q:=k H (dh.refl _);rw[e] at q;exact q
def Pz(g:Str->Bool):YA:=λds R=>∃ z:Str,ds=[.str z]/\z.length<=1000/\R (.bl (g z))
theorem K3{k:Nat}{f:AC}{fd:Gc}{ps:!Str}{g:Str->Bool}(F:bY P w K mg base bu k f fd ps (RY g)):bY P w K mg base bu k f fd ps (cA K .no (Pz g)) :=
 F.imp λvs H Q E z9r=>by
  let(M,ds,R,B,r,(z,e,hz,q),kk):=z9r;subst e;let(v,rfl,e1):=cU r;have e1:v=.str z:=e1;subst e1;show#[z,U,hz,λH' sm=>kk _ q M H' _ #[trivial,λb o e _=>sm b o e,λb m=>?_,λ_ _ h=>h,λ_ m=>m,λ_ m=>.inl m] rfl];let(o,e):=B.md b m;exact#[o,sm b o e]
theorem Ov(a b:Nat):(([a]:!Nat) < [b])↔a < b:=by
 constructor
 .intro h;cases h with
  | rel h=>exact h
  | cons h=>cases h
 .exact λh=>.rel h
theorem vE(lo hi c:Nat):inside (aH [lo]) (aH [hi]) c=(decide (lo<=c)&&decide (c<=hi)):=by
 have e1:wo (aH [lo]) #[#v[c]]=decide (lo<=c):=by
  change (not (decide (([c]:!Nat) < [lo])))=_;by_cases h:lo<=c
  .rw[decide_eq_true h,decide_eq_false λz=>by have:=(Ov c lo).mp z;cbv];rfl
  .rw[decide_eq_false h,decide_eq_true ((Ov c lo).mpr (by cbv))];rfl
 have e2:wo #[#v[c]] (aH [hi])=decide (c<=hi):=by
  change (not (decide (([hi]:!Nat) < [c])))=_;by_cases h:c<=hi
  .rw[decide_eq_true h,decide_eq_false λz=>by have:=(Ov hi c).mp z;cbv];rfl
  .rw[decide_eq_false h,decide_eq_true ((Ov hi c).mpr (by cbv))];rfl
 unfold inside;rw[e1,e2];cases decide (lo<=c)<;>rfl
theorem Nn{c:Nat}(h1:48<=c)(h2:c<=57):inside "0" "9" c=true:=by
 rw[show inside "0" "9" c=_ from vE 48 57 c,decide_eq_true h1,decide_eq_true h2];rfl
theorem Aq{a b z:Str}(h:∀ c∈z.cps.toList,inside a b c=true):lies a b z=true:=by
 unfold lies;rw[List.all_map];exact W5.mpr λc hc=>h c hc
theorem Hb(n:Nat):cd (cY (n:Int))=(Nat.toDigits 10 n).map Char.toNat:=PySem.W.KIN.signs_num n
theorem lead:∀ (m n:Nat),n<=m->0 < n->∃ c r,Nat.toDigits 10 n=c::r/\c≠'0'
 | 0,n,h,h0=>by cbv
 | m+1,n,h,h0=>by
  by_cases hn:n < 10
  .refine#[_,[],Nat.toDigits_of_lt_base hn,?_];have:n=1\/n=2\/n=3\/n=4\/n=5\/n=6\/n=7\/n=8\/n=9:=by cbv
   rcases this with rfl | rfl | rfl | rfl | rfl | rfl | rfl | rfl | rfl<;>decide
  .let(c,r,e,hc):=lead m (n / 10) (by cbv) (by cbv);show#[c,r++[(n % 10).digitChar],?_,hc];rw[Nat.toDigits_of_base_le () (by cbv),e]
   rfl
theorem En{i:Int}(h0:0<=i):∀ c∈cd (cY i),48<=c/\c<=57:=λc hc=>by
 let(n,rfl):=W0 h0;rw[Hb] at hc;let(ch,hm,rfl):=WO.mp hc;have:=Nat.isDigit_of_mem_toDigits () () hm;unfold Char.isDigit at this;simp only[Bool.and_eq_true,decide_eq_true_eq] at this;exact#[this.1,this.2]
theorem qx{i:Int}(h0:0<=i)(h1:i < 1000000):isNum (cY i)=true:=by
 let(n,rfl):=W0 h0;have hn:n < 10 ^ 6:=by cbv
 have AB:=PySem.toDigits_len_ge 10 n;have JO:=PySem.toDigits_len_pow (b:=10) (k:=6) (n:=n) () () hn;have hlen:(cY (n:Int)).length=(Nat.toDigits 10 n).length:=by rw[<- gi,Hb,Wk]
 have hdg:∀ c∈(cY (n:Int)).cps.toList,48<=c/\c<=57:=En h0;unfold isNum;rw[if_pos #[by cbv,by cbv],Aq λc hc=>Nn (hdg c hc).1 (hdg c hc).2,Bool.true_and];by_cases hz:n=0
 .subst hz;rw[show cY ((0:Nat):Int)="0" by decide+kernel];decide+kernel
 .let(c,r,e,hc):=lead n n (Wo _) (by cbv);have e2:(cY (n:Int)).cps.toList=c.toNat::r.map Char.toNat:=by
   change cd (cY (n:Int))=_;rw[Hb,e]
   rfl
  rw[e2,List.headD_cons];have oJ:(#[#v[c.toNat]]:Str)≠"0":=λz=>by
   have z2:cd (#[#v[c.toNat]]:Str)=cd "0":=congrArg cd z;have z3:c.toNat=48:=by
    have:[c.toNat]=[48]:=z2;injection this
   exact hc (Char.ext (UInt32.toNat_inj.mp z3))
  rw[decide_eq_false oJ];simp
abbrev fh:FM:=inClass (top 20) 0
theorem vT:aw ["self","text"] ["self","text"] (ag fh):=gX
abbrev fi:FM:=inClass (top 20) 1
abbrev gx:D3:=("plan",fi,["self","tasks"])
theorem v9:aw ["self","tasks"] ["self","tasks"] (ag fi):=gX
abbrev cE:FM:=inClass (top 20) 2
abbrev c5:D3:=("need_sign",cE,["self","sign"])
theorem mW:aw ["self","sign"] ["self","sign"] (ag cE):=gX
abbrev cG:FM:=inClass (top 20) 3
abbrev c7:D3:=("take_word",cG,["self","first","last"])
theorem il:aw ["self","first","last","begin"] ["self","first","last"] (ag cG):=gX
abbrev lP:!Str:=["text","place","ahead","done"]
structure EY(K:Frag)(C:AC):Prop where
 cls:vy K C
 nt:ef K C "text"
 np:ef K C "place"
 na:ef K C "ahead"
 nd:ef K C "done"
def og(C:AC)(l:!Nat)(i:Nat)(a b:AC)(ah dn:!D):!D:=[.ob C lP [.str (aH l),.int i,.cT a,.cT b],.lst ah,.lst dn]
def NV(P:Fa)(w:FS)(K:Frag)(mg:Str->Option AT)(base:Ev)(aV:AC):Prop:=∃ f fd,Kc K aV f/\bY P w K mg base bu 1 f fd ["self"] (He aV)/\Binds K fd ["self"] []/\mg "NoValue"=some (.ref aV)
def Q2(C:AC):Dh:=λrs ds cs R=>∃ (x a b:AC) (l:!Nat) (i:Nat) (ah dn ts:!D),rs=[x,a,b]/\ds=[.cT x,.lst ts]/\cs=og C l i a b ah dn/\ah.length+ts.length<=100000/\R .br (og C l i a b (ah++ts.reverse) dn)
theorem Lv{C:AC}(F:pR K C "ValueRead.plan" gx)(V:EY K C)(T:Txt K mg):Gj P w K mg base C gx 1 (xc K (Q2 C)):=by
 show F.o (nos:=0) (n:=3) v9 (λrs ds cs R h=>?_) λf bq A outer s H E M rs hr hrs=>#[_,(aj (eL (Cw 1 PySem.F.slot_list_extend PySem.F.type_list_extend qa FO (cW 0 lP 2 V.cls V.na (vd 0)) (aa (DN.de (Gg (vd 1) sj)) ae)))),λds cs R h=>?_]
 .let(x,a,b,l,i,ah,dn,ts,rfl,rfl,_):=h;exact#[U,U]
 .let(x,a,b,l,i,ah,dn,ts,rfl,rfl,rfl,hl,q):=h;have hsz:=bA;right;show#[by rw[List.length_reverse];cbv,?_];exact#[_,U,q]
theorem Cn{l:!Nat}{i:Nat}(hi:i<=l.length):Txt.slice (aH l) (some (i:Int)) (some ((i:Int)+1))=aH ((l.drop i).take 1):=by
 have:=BK (l:=l) (i:=i) (j:=i+1) hi (Xw _);rw[show i+1 - i=1 by cbv] at this;exact this
def Q3(C aV:AC):Dj:=λrs ds cs R RX=>∃ (x a b:AC) (l:!Nat) (i:Nat) (c:!Nat) (ah dn:!D),rs=[x,a,b]/\ds=[.cT x,.str (aH c)]/\cs=og C l i a b ah dn/\(l.length<=100000/\i<=l.length)/\zv (RX aV []) (λ_:!Nat=>R .br (og C l (i+1) a b ah dn)) (cL c (l.drop i))
theorem K9{C aV:AC}(Z:NV P w K mg base aV)(F:pR K C "ValueRead.need_sign" c5)(V:EY K C)(T:Txt K mg):vp P w K mg base C c5 3 (lK K (Q3 C aV)):=by
 let(fV,fdV,MV,GV,bV,nV):=Z;show F.ox (nos:=0) (n:=3) mW (λrs ds cs R RX h=>?_) λf bq A outer s H E M rs RX hr hrs hX=>#[_,(af (bS (az uP Dz (aY (cW 0 lP 0 V.cls V.nt (vd 0)) (aL (cW 0 lP 1 V.cls V.np (vd 0))) (aL (a9 cw fN (cW 0 lP 1 V.cls V.np (vd 0)) ai))) (vd 1) (av _))
 (aj (nY U lU hX MV GV (hr.mono ()) U nV bV))
 aK)
 (aj (Af 0 lP 1 V.cls V.np (vd 0) (a9 cw fN (cW 0 lP 1 V.cls V.np (vd 0)) ai)))),λds cs R h=>?_]
 .let(x,a,b,l,i,c,ah,dn,rfl,rfl,_):=h;exact#[U,U]
 .let(x,a,b,l,i,c,ah,dn,rfl,rfl,rfl,(hl,hi),q):=h;have hsz:=bA;have hz:(aH l).length<=FB:=by rw[bz];cbv
  right;show#[hz,?_];rw[Cn hi];show#[_,U,#[U,U,U],_,U,?_];unfold cL at q;by_cases e:(l.drop i).take 1=c
  .rw[if_pos e] at q;show gq (by rw[bO,e,decide_eq_true U];rfl) ?_;right;exact q
  .rw[if_neg e] at q;show gC (by rw[bO,decide_eq_false λz=>e (congrArg cd z)];rfl) ?_;exact q
def Ry(C:AC):Dh:=λrs ds cs R=>∃ (x a b:AC) (l:!Nat) (i lo hi:Nat) (w r:!Nat) (ah dn:!D),rs=[x,a,b]/\ds=[.cT x,.str (aH [lo]),.str (aH [hi])]/\cs=og C l i a b ah dn/\(l.length<=100000/\i<=l.length/\l.drop i=w++r/\(∀ c∈w,lo<=c/\c<=hi)/\∀ c r',r=c::r'->¬ (lo<=c/\c<=hi))/\R (.str (aH w)) (og C l (i+w.length) a b ah dn)
theorem Kk{C:AC}(F:pR K C "ValueRead.take_word" c7)(V:EY K C)(T:Txt K mg):Gj P w K mg base C c7 1 (xc K (Ry C)):=by
 show F.o (nos:=0) (n:=3) il (λrs ds cs R h=>?_) λf bq A outer s H E M rs hr hrs=>#[_,(af (sS 3 il.nd (cW 0 lP 1 V.cls V.np (vd 0)))
 (af (tQ PassesOwn.never (Ap jm jm FD FD (vd 1) (aY (cW 0 lP 0 V.cls V.nt (vd 0)) (aL (cW 0 lP 1 V.cls V.np (vd 0))) (aL (a9 cw fN (cW 0 lP 1 V.cls V.np (vd 0)) ai))) (vd 2))
 (aj (Af 0 lP 1 V.cls V.np (vd 0) (a9 cw fN (cW 0 lP 1 V.cls V.np (vd 0)) ai))))
 (aj (GG (aY (cW 0 lP 0 V.cls V.nt (vd 0)) (aL (vd 3)) (aL (cW 0 lP 1 V.cls V.np (vd 0)))))))),λds cs R h=>?_]
 .let(x,a,b,l,i,lo,hi,w,r,ah,dn,rfl,rfl,_):=h;exact#[U,U]
 .let(x,a,b,l,i,lo,hi,w,r,ah,dn,rfl,rfl,rfl,(hl,sT,hd,hw,hr'),q):=h;have hsz:=bA;have hz:(aH l).length<=FB:=by rw[bz];cbv
  have hlen:l.length=i+(w.length+r.length):=by
   have:=congrArg List.length hd;rw[WY,Wm] at this;cbv
  right;show#[λm s=>∃ k,k<=w.length/\m=w.length - k/\s=#[[.dat (.cT x),.dat (.str (aH [lo])),.dat (.str (aH [hi])),.dat (.int i)],(og C l (i+k) a b ah dn).map some],#[_,0,WG _,U,U],?_];rintro m s ⟨k,hk,rfl,rfl⟩;have hdk:l.drop (i+k)=w.drop k++r:=by rw[<- X4,hd,List.drop_append_of_le_length hk]
  have e1:Txt.slice (aH l) (some ((i+k:Nat):Int)) (some (((i+k:Nat):Int)+1))=aH ((w.drop k++r).take 1):=by rw[Cn (by cbv),hdk]
  right;show#[hz,?_];rw[e1];have leA:∀ (y:!Nat),(not (decide ((aH y).cps.toList < (aH [lo]).cps.toList)))=wo (aH [lo]) (aH y):=λ_=>rfl;have leB:∀ (y:!Nat),(not (decide ((aH [hi]).cps.toList < (aH y).cps.toList)))=wo (aH y) (aH [hi]):=λ_=>rfl;by_cases hkw:k < w.length
  .have hc:=W2 hkw;have ec:(w.drop k++r).take 1=[w[k]]:=by rw[hc];rfl
   rw[ec];let(c1,c2):=hw w[k] (X7 hkw);have hin:=vE lo hi w[k];rw[decide_eq_true c1,decide_eq_true c2] at hin;have i1:wo (aH [lo]) (aH [w[k]])=true:=by
    unfold inside at hin;by_cases e:wo (aH [lo]) #[#v[w[k]]]=true
    .exact e
    .rw[if_neg e] at hin;cases hin
   have i2:wo (aH [w[k]]) (aH [hi])=true:=by
    unfold inside at hin;rw[if_pos i1] at hin;exact hin
   show#[_,_,U,U,_,U,?_];rw[leA,i1];show#[_,U,_,_,U,U,_,U,?_];rw[leB,i2];show gC U ?_;right;exact#[_,by cbv,k+1,hkw,U,U]
  .have ek:k=w.length:=by cbv
   subst ek;rw[Yo,WQ];have fin:R (.str (aH w)) (og C l (i+w.length) a b ah dn)->_:=λq=>q;have es:Txt.slice (aH l) (some (i:Int)) (some ((i+w.length:Nat):Int))=aH w:=by
    rw[BK sT (Nat.le_add_right _ _),hd,Nat.add_sub_cancel_left,List.take_left]
   show#[_,_,U,U,_,U,?_];rw[leA];by_cases hin:wo (aH [lo]) (aH (r.take 1))=true
   .rw[hin];show#[_,U,_,_,U,U,_,U,?_];rw[leB];show gq ?_ ?_
    .cases r with
     | nil=>exact absurd hin (by change ¬ (not (decide (([]:!Nat) < [lo])))=true;rw[decide_eq_true (show ([]:!Nat) < [lo] from List.Lex.nil)];decide)
     | cons c r' =>
      have h0:=vE lo hi c;unfold inside at h0;rw[if_pos (show wo (aH [lo]) #[#v[c]]=true from hin)] at h0;change wo (aH [c]) (aH [hi])=false;rw[show wo (aH [c]) (aH [hi])=_ from h0];have:=hr' c r' U;by_cases c1:lo<=c
      .rw[decide_eq_false λc2=>this #[c1,c2],Bool.and_false]
      .rw[decide_eq_false c1];rfl
    .right;show#[hz,?_];rw[es];exact#[_,U,q]
   .rw[show wo (aH [lo]) (aH (r.take 1))=false by simpa using hin];show#[_,U,gq U ?_];right;show#[hz,?_];rw[es];exact#[_,U,q]
theorem Tu{d:Nat}(h:48<=d/\d<=57):(d - 48).digitChar.toNat=d:=by
 have:d=48\/d=49\/d=50\/d=51\/d=52\/d=53\/d=54\/d=55\/d=56\/d=57:=by cbv
 rcases this with rfl | rfl | rfl | rfl | rfl | rfl | rfl | rfl | rfl | rfl<;>rfl
theorem J7:∀ r:!Nat,r≠[]->(∀ c∈r,48<=c/\c<=57)->(∀ c,r.getLast?=some c->c≠48)->∃ n,0 < n/\n < 10 ^ r.length/\(Nat.toDigits 10 n).map Char.toNat=r.reverse
 | [],h,_,_=>absurd U h
 | [d],_,h,hl=>by
  have hd:=h d Wt;have h8:=hl d U;show#[d - 48,by cbv,by change d - 48 < 10;cbv,?_];rw[Nat.toDigits_of_lt_base (by cbv)];change [(d - 48).digitChar.toNat]=[d];rw[Tu hd]
 | d::e::r,_,h,hl=>by
  have hd:=h d Wt;let(n,h0,h1,hn):=J7 (e::r) (by simp) (λc hc=>h c (List.mem_cons_of_mem _ hc)) λc hc=>hl c (by rw[List.getLast?_cons_cons];exact hc);show#[n * 10+(d - 48),by cbv,?_,?_]
  .rw[Ws,Nat.pow_succ];cbv
  .rw[Nat.toDigits_of_base_le () (by cbv),show (n * 10+(d - 48)) / 10=n by cbv,show (n * 10+(d - 48)) % 10=d - 48 by cbv,Wv,hn,XA (a:=d)];change _++[(d - 48).digitChar.toNat]=_;rw[Tu hd]
theorem nI{c:Nat}(h:bg c=true):48<=c/\c<=57:=by
 unfold bg at h;rw[W4,decide_eq_true_iff,decide_eq_true_iff] at h;exact h
theorem Le{w:!Nat}(hw:∀ c∈w,bg c=true):isNum (aH w)=(mZ w).isSome:=by
 cases e:mZ w with
 | some i =>
  let((h0,h1),e2):=gD e;rw[e2,gu,qx h0 h1]
  rfl
 | none =>
  change _=false;by_cases hi:isNum (aH w)=true
  .exfalso;have fin:∀ i:Int,(0<=i/\i < 1000000)->w=cd (cY i)->False:=λi h e2=>by
    rw[e2,sX h.1 h.2] at e;cases e
   unfold isNum at hi;split at hi
   .rename_i hl
    rw[bz] at hl;rw[W4,Bool.or_eq_true,Bool.not_eq_true',decide_eq_true_iff,decide_eq_false_iff_not] at hi;rcases hi.2 with h2 | h2
    .refine fin 0 #[by decide,by decide] ?_;have:=congrArg cd h2;rw[show cd (aH w)=w from U] at this;rw[this];decide+kernel
    .let(n,n0,n1,hn):=J7 w.reverse (λz=>by
      have:w.length=0:=by rw[List.reverse_eq_nil_iff.mp z];rfl
      cbv) (λc hc=>nI (hw c (List.mem_reverse.mp hc))) λc hc z=>h2 (by
       rw[List.getLast?_reverse] at hc;have:(aH w).cps.toList.headD 0=c:=by
        rw[List.headD_eq_head?_getD];change w.head?.getD 0=c;rw[hc]
        rfl
       rw[this,z]
       rfl)
     rw[List.reverse_reverse] at hn;rw[List.length_reverse] at n1;have hp:10 ^ w.length<=10 ^ 6:=Nat.pow_le_pow_right () hl.2;exact fin (n:Nat) #[by cbv,by cbv] (by rw[qT,hn])
   .cases hi
  .simpa using hi
theorem rn{p:Nat->Bool}{l:!Nat}:∀ c∈l.takeWhile p,p c=true:=λc hc=>W5.mp List.all_takeWhile c hc
theorem yy{p:Nat->Bool}:∀ {l:!Nat} {c:Nat} {r:!Nat},l.dropWhile p=c::r->p c=false
 | [],c,r,h=>nomatch h
 | a::l,c,r,h=>by
  rw[List.dropWhile_cons] at h;split at h
  .exact yy h
  .cases h
   rename_i e
   simpa using e
theorem rC{p:Nat->Bool}{l:!Nat}{i:Nat}(hi:i<=l.length):i+((l.drop i).takeWhile p).length<=l.length/\l.drop (i+((l.drop i).takeWhile p).length)=(l.drop i).dropWhile p:=by
 have e:=W3 (p:=p) (l:=l.drop i);show#[?_,?_]
 .have:=congrArg List.length e;rw[Wm,WY] at this;cbv
 .rw[<- X4];generalize l.drop i=z;have h:(z.takeWhile p++z.dropWhile p).drop (z.takeWhile p).length=z.dropWhile p:=List.drop_left' U;rw[W3] at h;exact h
def Ss(C aV:AC):Dj:=λrs ds cs R RX=>∃ (x a b:AC) (l:!Nat) (i:Nat) (ah dn:!D),rs=[x,a,b]/\ds=[.cT x]/\cs=og C l i a b ah dn/\(l.length<=100000/\i<=l.length/\zW l<=500/\dn.length<=100000) /\
 zv (RX aV []) (λn=>R .br (og C l (i+((l.drop i).takeWhile bg).length) a b ah (dn++[.int n]))) (mZ ((l.drop i).takeWhile bg))
theorem K8{C aV:AC}(Z:NV P w K mg base aV)(QK:Gj P w K mg base C c7 1 (xc K (Ry C)))(V5:aa0 P w K mg base iA 2 (Pz isNum))(F:Own K mg eF)(V:EY K C)(T:Txt K mg):C4 P w K mg base (pJ P w) eF 3 (lK K (Ss C aV)):=by
 let(fV,fdV,MV,GV,bV,nV):=Z;show F.ox (nos:=0) (n:=3) iw (λrs ds cs R RX h=>?_) λf bq A outer s H E M rs RX hr hrs hX=>#[_,(af (sS 1 iw.nd (sQ 0 lP V.cls hr QK (vd 0) (aa ak (aa ak ae))))
 (af (bS (jX (fw (bh hr V5 (aa (vd 1) ae))))
 (aj (nY U lU hX MV GV (hr.mono ()) U nV bV))
 aK)
 (aj (eL (Cw 2 Yi Yj je Az (cW 0 lP 3 V.cls V.nd (vd 0)) (aa (bB yT IA U T.int (by decide+kernel) (aa (vd 1) ae)) ae)))))),λds cs R h=>?_]
 .let(x,a,b,l,i,ah,dn,rfl,rfl,_):=h;exact#[U,U]
 .let(x,a,b,l,i,ah,dn,rfl,rfl,rfl,(hl,hi,hf,hdn),q):=h;have hsz:=bA;have hwf:∀ c∈(l.drop i).takeWhile bg,bg c=true:=rn;have lW:((l.drop i).takeWhile bg).length<=500:=Wr (CJ bg i l) hf;have hnu:=Le hwf;show#[_,U,x,_,U,U,U,?_];show#[_,U,x,a,b,l,i,48,57,(l.drop i).takeWhile bg,(l.drop i).dropWhile bg,ah,dn,U,U,U,#[hl,hi,W3.symm,λc hc=>nI (hwf c hc),λc r' e=>?_],?_]
  .have:=yy e;unfold bg at this;intro #[h1,h2];rw[decide_eq_true h1,decide_eq_true h2] at this;cases this
  show#[_,U,_,U,by rw[bz];cbv,?_];rw[hnu]
  revert q
  cases hn:mZ ((l.drop i).takeWhile bg) with
  | none =>
   intro q;show#[_,U,gC U ?_];exact q
  | some n =>
   intro q;let((h0,h1),e2):=gD hn;have el:aH ((l.drop i).takeWhile bg)=cY n:=by rw[e2,gu]
   have q:R .br (og C l (i+((l.drop i).takeWhile bg).length) a b ah (dn++[.int n])):=q;rw[el];show#[_,U,gq U ?_];right;show#[h0,Int.lt_trans h1 (),?_];right;show#[by cbv,?_];exact#[_,U,q]
def Sb:YA:=λds R=>∃ (k:Bool) (fs:!(Str×Str)),ds=[.str (bC k),et fs]/\fs.length<=3/\R (.lst (AQ k fs))
theorem NH(F:Own K mg d7)(T:Txt K mg):aa0 P w K mg base d7 1 Sb:=by
 show F.d (nos:=1) dJ (λds R h=>?_) λf bq A outer s H E M hr=>#[_,(af (sN 0 2 dJ.nd (aO ae))
 (af (sF (b8 (vd 1)) (dC (m:=2) U (aE (gN 3 dJ.nd) (aE (gN 4 dJ.nd) dE)))
 (af (bS (az aW cf (vd 0) ak (av _))
 (aj (wM 2 (aa (aQ (aa ak (aa ak ae))) ae)))
 (aj (bS (EX (pv 2))
 (aj (wM 2 (aa (aQ (aa ak (aa ak ae))) ae)))
 aK)))
 (aj (wM 2 (aa (aQ (aa ak (aa (vd 4) ae))) ae)))))
 (af (bS (az aW cf (vd 0) ak (av _))
 (aj (aN (DN.de (eg cQ cO (za (pv 2)) (DN.de (aO (aa (aQ (aa ak (aa ak ae))) ae)))))))
 aK)
 (aj (aN (DN.de (eg cQ cO (DN.de (eg cQ cO (DN.de (aO (aa (aQ (aa ak (aa ak ae))) ae))) (za (pv 2)))) (DN.de (aO (aa (aQ (aa ak (aa ak ae))) ae)))))))))),λds R h=>?_]
 .let(k,fs,rfl,_):=h
  rfl
 .let(k,fs,rfl,hf,q):=h;have hsz:=bA;right;show wC pairD (λdn s=>∃ x3 x4:Sl,x3.pl=true/\x4.pl=true/\s=#[[.dat (.str (bC k)),.dat (et fs),.own 0,x3,x4],[some (.lst (wU k dn))]]) ?_ ?_ _ #[.no,.no,U,U,by cases k<;>rfl]
  .rintro s ⟨x3,x4,h3,h4,rfl⟩;have hl:=tD k fs;show#[_,U,#[U,U,U],_,U,?_];cases k with
   | true =>
    show gC (bF true) ?_;right;show#[by change _+1<=_;cbv,?_];exact q
   | false =>
    show gq (bF false) ?_;right;show#[by change 1+_<=_;cbv,?_];right;show#[by rw[Wm];change 1+_+1<=_;cbv,?_];exact q
  .rintro dn f0 td s E e ⟨x3,x4,h3,h4,rfl⟩ hN hE;have hdl:dn.length<=3:=by rw[e] at hf;simp at hf;cbv
   have hl:=tD k dn;have fin:∀ ys:!D,ys=wU k (dn++[f0])->E.nx #[[.dat (.str (bC k)),.dat (et fs),.own 0,.dat (.str f0.1),.dat (.str f0.2)],[some (.lst ys)]]:=λys hy=>hN _ #[.dat (.str f0.1),.dat (.str f0.2),U,U,by rw[hy]];have es:=Ba k dn f0;right;cases k with
   | true =>
    show gC (bF true) ?_;right;show#[by cbv,?_];right;show#[by rw[Wm];change _+1 < _;cbv,?_];exact fin _ (by rw[es];rfl)
   | false =>
    show gq (bF false) ?_;show#[0,_,U,U,?_];rw[EI];cases dn with
    | nil =>
     show gq U ?_;right;show#[by cbv,?_];exact fin _ (by rw[es];rfl)
    | cons d0 dr =>
     show gC U ?_;right;show#[by cbv,?_];right;show#[by rw[Wm];change _+1 < _;cbv,?_];exact fin _ (by rw[es];rfl)
theorem DX{α:Type}{l:!α}{j:Nat}(h:j < l.length):∃ y,l.take (l.length - j)=l.take (l.length - j - 1)++[y]/\l.drop (l.length - j - 1)=y::l.drop (l.length - j):=by
 obtain⟨p,hp⟩:∃ p,l.length - j=p+1:=#[l.length - j - 1,by cbv];have hi:p < l.length:=by cbv
 rw[hp,Nat.add_sub_cancel];show#[l[p],?_,W2 hi];rw[List.take_succ,Wy hi]
 rfl
def Ti(C:AC):Dh:=λrs ds cs R=>∃ (x a b:AC) (l:!Nat) (i:Nat) (k:Bool) (m:Str) (as:!Vl) (ah d0:!D),rs=[x,a,b]/\ds=[.cT x,.str (bC k),.str m,.int as.length]/\cs=og C l i a b ah (d0++as.map vD)/\(as.length<=3/\d0.length<=100000)/\R .br (og C l i a b ah (d0++[vD (.ir k (.w m) as)]))
theorem Kt{C:AC}(F:Own K mg eE)(V:EY K C)(T:Txt K mg):C4 P w K mg base bu eE 1 (xc K (Ti C)):=by
 show F.o (nos:=0) (n:=3) iP (λrs ds cs R h=>?_) λf bq A outer s H E M rs hr hrs=>#[_,(af (sS 4 iP.nd (DN.de (Gg (DN.de (nC ["k"] [0] (c6 U T.range (aa (vd 3) ae)) (λ_ _ _ _=>gM 0 ["k","reading"]) (λ_ _ _ _=>du) (λ_ _ _ _=>(vI 2 Xp Xq tL Bl (cW 0 lP 3 V.cls V.nd (vd 1)))))) sj)))
 (aj (eL (Cw 2 Yi Yj je Az (cW 0 lP 3 V.cls V.nd (vd 0)) (aa (aQ (aa (vd 1) (aa (vd 2) (aa (jy T.tuple (aa (vd 4) ae)) ae)))) ae))))),λds cs R h=>?_]
 .let(x,a,b,l,i,k,m,as,ah,d0,rfl,rfl,_):=h;exact#[U,U]
 .let(x,a,b,l,i,k,m,as,ah,d0,rfl,rfl,rfl,(hl,hd),q):=h;have hsz:=bA;right;show#[#[by cbv,by cbv],?_];show qr (λxs acc os=>∃ j,j+xs.length=as.length/\acc=((as.drop (as.length - j)).map vD).reverse/\os=(og C l i a b ah (d0++(as.take (as.length - j)).map vD)).map some) ?_ ?_ _ [] _ #[0,by simp[ee],by simp,by rw[Nat.sub_zero,List.take_length];rfl]
  .rintro y xs acc os ⟨j,hj,rfl,rfl⟩ k' hk2;rw[Ws] at hj;let(y,h1,h2):=DX (l:=as) (j:=j) (by cbv);right;show#[d0++(as.take (as.length - j - 1)).map vD,vD y,by rw[h1,Wv,<- WN];rfl,U,?_];show hk2 _ _ #[j+1,by cbv,?_,U];rw[show as.length - (j+1)=as.length - j - 1 by cbv,h2,Wu,XA]
  .rintro acc os ⟨j,hj,rfl,rfl⟩;have hj:j=as.length:=by simpa using hj
   subst hj;rw[Nat.sub_self,XG,List.take_zero,Xr,WH];right;rw[List.reverse_reverse];show#[by cbv,?_];show#[_,U,?_];rw[vD,eW] at q;exact q
theorem xw(x:!Nat):∀ ms:!fO,bM (ms.map λm=>(Sum.inr m.name:Key)) (ms.map λm=>et m.fs) (Sum.inr (aH x))=(ms.find? λm=>decide (cd m.name=x)).map λm=>et m.fs
 | []=>rfl
 | a::r=>by
  change (if (Sum.inr a.name:Key)=Sum.inr (aH x) then some (et a.fs) else bM (r.map λm=>(Sum.inr m.name:Key)) (r.map λm=>et m.fs) (Sum.inr (aH x)))=_;rw[Yw];by_cases e:cd a.name=x
  .rw[decide_eq_true e,if_pos (by rw[<- e,gu])]
   rfl
  .rw[decide_eq_false e,if_neg (λz=>e (congrArg cd (Sum.inr.inj z))),xw x r]
theorem Cm{c:Nat}:aR c=true↔97<=c/\c<=122:=by
 unfold aR;rw[W4,decide_eq_true_iff,decide_eq_true_iff]
def Sq(C aV:AC):Dj:=λrs ds cs R RX=>∃ (x a b:AC) (l:!Nat) (i:Nat) (W:bZ) (n:Nat) (ps:!PK) (k:Str) (ah dn:!D),rs=[x,a,b]/\ds=[.cT x,.tup (ps.map pN),.str k]/\cs=og C l i a b ah dn/\Gs W n ps/\(l.length<=100000/\i<=l.length/\ah.length<=90000) /\
 zv (RX aV []) (λp:PK=>zv (RX aV []) (λz1:!Nat=>zv (RX aV []) (λm:fO=>∀ j,j<=l.length->l.drop j=z1.dropWhile aR->R .br (og C l j a b (ah++((t9 p.asked m.name (m.fs.map (·.2))).map pH).reverse) dn)) (p.kd.bK.find? λm=>decide (cd m.name=z1.takeWhile aR))) (if p.asked=true then cL [91] (l.drop i) else some (l.drop i))) (Aa ps k)
theorem MK{C aV:AC}(Z:NV P w K mg base aV)(Uj:C4 P w K mg base bu ju 2 (cA K .no (Jm (λp=>.str (bC p.asked)) .br)))(Wb:C4 P w K mg base bu fU 2 (cA K .no (Jm (λp=>.tup (p.kd.bK.map dG)) (.tup []))))(U1:aa0 P w K mg base d7 1 Sb)(OA:Gj P w K mg base C gx 1 (xc K (Q2 C)))(OE:vp P w K mg base C c5 3 (lK K (Q3 C aV)))(QK:Gj P w K mg base C c7 1 (xc K (Ry C)))(F:Own K mg eY)(V:EY K C)(T:Txt K mg):C4 P w K mg base (pJ P w) eY 4 (lK K (Sq C aV)):=by
 let(fV,fdV,MV,GV,bV,nV):=Z;show F.ox (nos:=0) (n:=3) dA (λrs ds cs R RX h=>?_) λf bq A outer s H E M rs RX hr hrs hX=>#[_,(af (sS 3 dA.nd (bh hr Uj (aa (vd 1) (aa (vd 2) ae))))
 (af (bS (az aW cf (vd 3) ak (av _))
 (aj (eL (xI 0 lP V.cls (λ_ h=>jc h) hX hr OE (vd 0) (aa ak ae))))
 aK)
 (af (sS 4 dA.nd (sQ 0 lP V.cls hr QK (vd 0) (aa ak (aa ak ae))))
 (af (sS 5 dA.nd (DN.de (nJ (wg U) AG U T.dict (by decide+kernel) (aa (bh hr Wb (aa (vd 1) (aa (vd 2) ae))) ae))))
 (af (bS (DB (dm hr) (vd 4) (vd 5))
 (aj (nY U lU hX MV GV (hr.mono ()) U nV bV))
 aK)
 (af (sS 6 dA.nd (eQ (bx (dm hr) (DE.pe (vd 5)) (DE.pe (vd 4)) (λ_ _=>rfl))))
 (aj (eL (sQ 0 lP V.cls hr OA (vd 0) (aa (DN.de (eg cQ cO (bh hr U1 (aa (vd 3) (aa (vd 6) ae))) (DN.de (aO (aa (aQ (aa ak (aa (vd 3) (aa (vd 4) (aa (gp T.len (aa (vd 6) ae)) ae))))) ae))))) ae)))))))))),λds cs R h=>?_]
 .let(x,a,b,l,i,W,n,ps,k,ah,dn,rfl,rfl,_):=h;exact#[U,U]
 .let(x,a,b,l,i,W,n,ps,k,ah,dn,rfl,rfl,rfl,ok,(hl,hi,hah),q):=h;have hsz:=bA;have hwr:∀ i':Nat,∀ c r',(l.drop i').dropWhile aR=c::r'->¬ (97<=c/\c<=122):=λi' c r' e z=>by
   have:=yy e;rw[Cm.mpr z] at this;cases this
  have hww:∀ i':Nat,∀ c∈(l.drop i').takeWhile aR,97<=c/\c<=122:=λi' c hc=>Cm.mp (rn c hc);show#[_,U,_,U,W,n,ps,k,U,ok,?_]
  revert q
  cases hf:Aa ps k with
  | none =>
   intro q;show#[_,U,#[U,U,U],_,U,gq U ?_];show#[_,U,x,_,U,U,U,?_];show#[_,U,x,a,b,l,i,97,122,(l.drop i).takeWhile aR,(l.drop i).dropWhile aR,ah,dn,U,U,U,#[hl,hi,W3.symm,hww i,hwr i],?_];show#[_,U,_,U,W,n,ps,k,U,ok,?_];rw[hf];show#[[],U,List.nodup_nil,by decide,?_];show#[_,U,_,U,U,.inl #[_,_,_,U,U,?_]];show#[_,U,gC U ?_];exact q
  | some p =>
   intro q;have hp:p∈ps:=Xd hf;have hkd:p.kd∈W.kinds:=ok.mem hp;have hmk:=(ok.bG.kw p.kd hkd).2.1;have hmn:(p.kd.bK.map fO.name).Nodup:=(Yr.mp ok.bG.mn).1 p.kd hkd;rw[show SN (λp:PK=>D.str (bC p.asked)) D.br (some p)=D.str (bC p.asked) from U];show#[_,U,#[U,U,U],_,U,?_];refine' jn (C:=∀ i':Nat,i'<=l.length->zv (RX aV []) (λm:fO=>∀ j,j<=l.length->l.drop j=(l.drop i').dropWhile aR->R .br (og C l j a b (ah++((t9 p.asked m.name (m.fs.map (·.2))).map pH).reverse) dn)) (p.kd.bK.find? λm=>decide (cd m.name=(l.drop i').takeWhile aR))->(?G:Nat->Prop) i') ?hrest λhrest=>?main
   case main =>
    have q:zv (RX aV []) (λz1:!Nat=>zv (RX aV []) (λm:fO=>∀ j,j<=l.length->l.drop j=z1.dropWhile aR->R .br (og C l j a b (ah++((t9 p.asked m.name (m.fs.map (·.2))).map pH).reverse) dn)) (p.kd.bK.find? λm=>decide (cd m.name=z1.takeWhile aR))) (if p.asked=true then cL [91] (l.drop i) else some (l.drop i)):=q;show aI (b':=p.asked) (bF p.asked) (λe=>?_) λe=>?_
    .rw[if_pos e] at q;show#[_,U,x,_,U,U,U,?_];show#[_,U,x,a,b,l,i,[91],ah,dn,U,U,U,#[hl,hi],?_];have hi1:∀ z1,cL [91] (l.drop i)=some z1->i+1<=l.length/\l.drop (i+1)=z1:=λz1 hz=>by
      unfold cL at hz;split at hz
      .rename_i e1
       cases hz;show#[?_,X4.symm];have:=congrArg List.length e1;rw[Xc,WY] at this;simp at this;cbv
      .cases hz
     revert q hi1
     cases hs:cL [91] (l.drop i) with
     | none=>exact λq _=>q
     | some z1 =>
      intro q hi1;let(h1,rfl):=hi1 z1 U;have q:zv (RX aV []) (λm:fO=>∀ j,j<=l.length->l.drop j=(l.drop (i+1)).dropWhile aR->R .br (og C l j a b (ah++((t9 p.asked m.name (m.fs.map (·.2))).map pH).reverse) dn)) (p.kd.bK.find? λm=>decide (cd m.name=(l.drop (i+1)).takeWhile aR)):=q
      revert h1 q
      generalize i+1=i';intro h1 q;exact hrest i' h1 q
    .rw[if_neg (by rw[e];decide)] at q;exact hrest i hi q
   case hrest =>
    intro i' sT q;let(hj,hdj):=rC (p:=aR) sT;show#[_,U,x,_,U,U,U,?_];show#[_,U,x,a,b,l,i',97,122,(l.drop i').takeWhile aR,(l.drop i').dropWhile aR,ah,dn,U,U,U,#[hl,sT,W3.symm,hww i',hwr i'],?_];have hlook:=xw ((l.drop i').takeWhile aR) p.kd.bK;show#[_,U,_,U,W,n,ps,k,U,ok,?_];rw[hf];show#[p.kd.bK.map λm=>(m.name,et m.fs),by rw[WV];rfl,by rw[WV];exact hmn,by rw[Wk];cbv,?_];rw[WV,WV];show#[_,U,_,U,U,.inl #[_,_,_,U,U,?_]];rw[show bM (p.kd.bK.map ((λq:Str×D=>(Sum.inr q.1:Key))∘λm=>(m.name,et m.fs))) (p.kd.bK.map ((λq:Str×D=>q.2)∘λm=>(m.name,et m.fs))) (Sum.inr (aH ((l.drop i').takeWhile aR)))=_ from hlook]
    revert q
    cases hm:p.kd.bK.find? λm=>decide (cd m.name=(l.drop i').takeWhile aR) with
    | none =>
     intro q;exact#[_,U,gC U q]
    | some m =>
     intro q;have hmm:m∈p.kd.bK:=Xd hm;have hmw:cd m.name=(l.drop i').takeWhile aR:=by simpa using List.find?_some hm
     let(_,Ny,_):=ok.bG.mo p.kd hkd m hmm;have qq:=q _ hj hdj;have eN:aH ((l.drop i').takeWhile aR)=m.name:=by rw[<- hmw,gu]
     rw[hm] at hlook;show#[_,U,gq U ?_];show#[_,U,_,U,U,.inl #[_,_,_,U,U,_,hlook,?_]];rw[eN];show#[_,U,x,_,U,U,U,?_];show#[_,U,_,U,p.asked,m.fs,U,Ny,?_];have hl7:(AQ p.asked m.fs).length<=8:=by
      have:=tD p.asked m.fs;unfold AQ;split<;>simp<;>cbv
     right;show#[by change _+1<=_;cbv,?_];rw[Wk,<- LK];show#[_,U,x,a,b,l,_,ah,dn,_,U,U,U,?_,?_]
     .rw[Wk];have:=yp p.asked m.name (m.fs.map (·.2));rw[Wk] at this;cbv
     .exact#[_,U,qq]
def OQ(C:AC):NY:=λds R=>∃ l:!Nat,ds=[.str (aH l)]/\∀ x a b,R [x,a,b] (og C l 0 a b [] [])
def Td(P:Fa)(w:FS)(K:Frag)(mg:Str->Option AT)(base:Ev)(C:AC)(k:Nat)(sp:Sp):Prop:=∃ f fd,bY P w K mg base bu k f fd ["self","text"] sp/\L2.Mk K C f/\Binds K fd ["self","text"] []/\mg "ValueRead"=some (.ref C)
theorem KY{C f:AC}{fd:Gc}(F:ny K "__init__" "ValueRead.__init__" fh f fd)(V:EY K C):bY P w K mg base bu 1 f fd ["self","text"] (Lu K C (OQ C)):=by
 show U8 (nos:=2) F vT (λds R h=>?_) λbq A outer s H E M x hr=>#[_,(Bb (B0 0 [] V.cls V.nt (vd 0) (vd 1)) (Bb (B0 0 ["text"] V.cls V.np (vd 0) ai) (Gk 0 ["text","place"] V.cls V.na (pv 0) (aO ae) λ_=>Gk 0 ["text","place","ahead"] V.cls V.nd (pv 0) (aO ae) λ_=>Lp))),λds R h=>?_]
 .let(l,rfl,_):=h
  rfl
 .let(l,rfl,q):=h;right;intro a;right;intro b;exact#[U,_,U,q x a b]
noncomputable def j6 (W:bZ) (k:Str) (l:!Nat):Option Vl:=(cJ W (cR l+1) k l).bind λq=>if q.2=[] then some q.1 else none
theorem DH(W:bZ)(k:Str)(l:!Nat):fin (cJ W (cR l+1)) [.val k,.sg []] l []=(j6 W k l).map λv=>[v]:=by
 change ((cJ W (cR l+1) k l).bind λq=>(cL [] q.2).bind λ_=>some ([]++[q.1]))=_;unfold j6;cases cJ W (cR l+1) k l with
 | none=>rfl
 | some q =>
  rw[WM,WM];unfold cL;cases h:q.2 with
  | nil=>rfl
  | cons a r =>
   rw[if_neg (by intro z;cases z),if_neg (by intro z;cases z)]
   rfl
theorem rO{i:Int}(h:0<=i):1<=(cd (cY i)).length:=by
 let(n,rfl):=W0 h;rw[qT,Wk];exact PySem.toDigits_len_ge 10 n
theorem Cg{W:bZ}{n:Nat}{ps:!PK}(ok:Gs W n ps)(k:Str):W.kinds.find? (λkd=>decide (kd.name=k))=(Aa ps k).map λp=>p.kd:=by
 rw[<- ok.kd,List.find?_map]
 rfl
def Sf(aV:AC):!D->(D->Prop)->XD->Prop:=λds R RX=>∃ (W:bZ) (n:Nat) (ps:!PK) (k:Str) (l:!Nat),ds=[.tup (ps.map pN),.str k,.str (aH l)]/\(Gs W n ps/\(∀ p∈ps,p.asked=p.kd.asked)/\l.length<=4000/\zW l<=500)/\zv (RX aV []) (λv=>R (vD v)) (j6 W k l)
theorem Lj{C aV:AC}(GI:Td P w K mg base C 1 (Lu K C (OQ C)))(OA:Gj P w K mg base C gx 1 (xc K (Q2 C)))(OE:vp P w K mg base C c5 3 (lK K (Q3 C aV)))(Uw:C4 P w K mg base bu eE 1 (xc K (Ti C)))(UB:C4 P w K mg base (pJ P w) eF 3 (lK K (Ss C aV)))(UD:C4 P w K mg base (pJ P w) eY 4 (lK K (Sq C aV)))(F:Own K mg fc)(V:EY K C)(T:Txt K mg):C4 P w K mg base (pJ P w) fc 5 (MY K (Sf aV)):=by
 let(fI,fdI,JI,MI,bI,mI):=GI;show F.x (nos:=0) gh (λds R RX h=>?_) λf bq A outer s H E M RX hr hX=>#[_,(ER (i:=3) 0 MI JI (hr.mono ()) mI bI gh.nd (aa (vd 2) ae) λ_=>(af (eL (sQ 0 lP V.cls hr OA (vd 3) (aa (DN.de (aO (aa (aQ (aa ak (aa (vd 1) ae))) (aa (aQ (aa ak (aa ak ae))) ae)))) ae)))
 (af (tQ PassesOwn.leaving (DQ 1 (cW 0 lP 2 V.cls V.na (vd 3)))
 (af (sS 4 gh.nd (vI 1 Xp Xq tL Bl (cW 0 lP 2 V.cls V.na (vd 3))))
 (aj (bS (az aW cf (fM (vd 4) ai) ak (av _))
 (aj (eL (xI 0 lP V.cls (λ_ h=>jc h) hX hr OE (vd 3) (aa (fM (vd 4) ai) ae))))
 (aj (bS (az aW cf (fM (vd 4) ai) ak (av _))
 (aj (eL (BW hr Uw (aa (vd 3) (aa (fM (vd 4) ai) (aa (fM (vd 4) ai) (aa (fM (vd 4) ai) ae)))))))
 (aj (bS (az aW cf (fM (vd 4) ai) ak (av _))
 (aj (eL (qI (λ_ h=>jc h) hX hr UB (aa (vd 3) ae))))
 (aj (eL (qI (λ_ h=>jc h) hX hr UD (aa (vd 3) (aa (vd 0) (aa (fM (vd 4) ai) ae))))))))))))))
 (aj (aN (vI 2 Xp Xq tL Bl (cW 0 lP 3 V.cls V.nd (vd 3)))))))),λds R h=>?_]
 .let(W,n,ps,k,l,rfl,_):=h
  rfl
 .let(W,n,ps,k,l,rfl,(ok,has,hl,hfg),q):=h;have dF:=bA;have ha0:=DH W k l;show#[_,U,U,l,U,λx a b z hz=>?_];have hz:x=z:=WU hz;subst hz;show#[_,U,x,_,U,U,U,?_];show#[_,U,_,U,x,a,b,l,0,[],[],_,U,U,U,by change 0+2<=100000;decide,?_];generalize hans:j6 W k l=ans at q ha0;show#[λm s=>∃ (A:!Tk) (dn:!Vl) (i:Nat) (x4:Sl),s=#[[.dat (.tup (ps.map pN)),.dat (.str k),.dat (.str (aH l)),.dat (.cT x),x4],(og C l i a b (A.reverse.map pH) (dn.map vD)).map some]/\m=10 * (l.length - i)+A.length/\fin (cJ W (cR l+1)) A (l.drop i) dn=ans.map (λv=>[v])/\zA A dn.length/\yP A/\(A=[]\/i<=l.length)/\dn.length+m<=40002,#[_,[.val k,.sg []],[],0,.no,U,U,ha0,Wo _,#[.inr U,trivial],.inr (WG _),?_],?_]
  .show 0+(10 * (l.length - 0)+2)<=40002;cbv
  rintro m s ⟨A,dn,i,x4,rfl,rfl,hfin,hen,hls,hi,hbd⟩;show#[_,U,x,_,_,U,U,U,U,a,_,U,U,U,?_];cases A with
  | nil =>
   show gq U ?_;have hfin:some dn=ans.map (λv=>[v]):=hfin;cases ans with
   | none=>cases hfin
   | some v =>
    injection hfin with hfin;subst hfin;show#[_,U,x,_,_,U,U,U,U,b,_,U,U,U,U,_,U,[],_,U,U,?_];exact q
  | cons it r =>
   have hiT:i<=l.length:=hi.resolve_left (by intro z;cases z);have ed:((it::r).reverse.map pH)=r.reverse.map pH++[pH it]:=by rw[XA,Wv];rfl
   have hrl:(r.reverse.map pH).length=r.length:=by rw[Wk,List.length_reverse]
   have hcl:(it::r).length=r.length+1:=rfl;show gC (by rw[ed];simp) ?_;show#[_,U,x,_,_,U,U,U,U,a,_,U,U,U,U,_,U,r.reverse.map pH,pH it,by rw[ed],U,?_];have next:∀ (i':Nat) (r':!Tk) (JL:!Vl) (N:DS->Prop),(∀ s',(∃ m',m' < 10 * (l.length - i)+(it::r).length/\∃ (A:!Tk) (dn:!Vl) (i:Nat) (x4:Sl),s'=#[[.dat (.tup (ps.map pN)),.dat (.str k),.dat (.str (aH l)),.dat (.cT x),x4],(og C l i a b (A.reverse.map pH) (dn.map vD)).map some]/\m'=10 * (l.length - i)+A.length/\fin (cJ W (cR l+1)) A (l.drop i) dn=ans.map (λv=>[v])/\zA A dn.length/\yP A/\(A=[]\/i<=l.length)/\dn.length+m'<=40002)->N s')->10 * (l.length - i')+r'.length < 10 * (l.length - i)+(it::r).length->fin (cJ W (cR l+1)) r' (l.drop i') JL=ans.map (λv=>[v])->zA r' JL.length->yP r'->(r'=[]\/i'<=l.length)->JL.length<=dn.length+1 ->
     N #[[.dat (.tup (ps.map pN)),.dat (.str k),.dat (.str (aH l)),.dat (.cT x),.dat (pH it)],(og C l i' a b (r'.reverse.map pH) (JL.map vD)).map some]:=λi' r' JL N hN h1 h2 h3 h4 h5 h6=>hN _ #[_,h1,r',JL,i',_,U,U,h2,h3,h4,h5,by cbv]
   have no:(none:Option (!Vl))=ans.map (λv=>[v])->RX aV []:=λz=>by
    cases ans with
    | none=>exact q
    | some v=>cases z
   cases it with
   | sg c =>
    have hls:((∃ e,c=[e])\/r=[])/\yP r:=hls;have hfin:((cL c (l.drop i)).bind λz'=>fin (cJ W (cR l+1)) r z' dn)=ans.map (λv=>[v]):=hfin;show#[_,U,_,_,_,U,U,U,#[U,U,U],_,U,gC (by decide+kernel) ?_];show#[_,U,x,_,U,U,U,_,U,_,_,_,U,U,U,_,U,x,a,b,l,i,c,_,_,U,U,U,#[by cbv,hiT],?_];have hz:∀ z1,cL c (l.drop i)=some z1->l.drop (i+1)=z1/\((∃ e,c=[e])->i+1<=l.length):=λz1 hz=>by
     unfold cL at hz;split at hz
     .rename_i e1
      cases hz;show#[X4.symm,λ#[e,he]=>?_];rw[he] at e1;have:=congrArg List.length e1;rw[Xc,WY] at this;simp at this;cbv
     .cases hz
    revert hfin hz
    cases hs:cL c (l.drop i) with
    | none=>exact λhfin _=>no hfin
    | some z1 =>
     intro hfin hz;let(rfl,hz2):=hz z1 U;show next (i+1) r dn _ (λs' h=>h) (by rw[hcl];cbv) hfin hen hls.2 ?_ (Xw _)
     rcases hls.1 with h | h
     .exact .inr (hz2 h)
     .exact .inl h
   | kT bb mm n =>
    let((hn1,hn3),hen):=hen;obtain⟨d1,d2,rfl,rfl⟩:∃ d1 d2:!Vl,dn=d1++d2/\n=d2.length:=#[dn.take (dn.length - n),dn.drop (dn.length - n),(Xv _ _).symm,by rw[WY];cbv];have hla:(d1++d2).length - d2.length=d1.length:=by rw[Wm,Nat.add_sub_cancel]
    have hfin:fin (cJ W (cR l+1)) r (l.drop i) ((d1++d2).take ((d1++d2).length - d2.length)++[.ir bb (.w mm) ((d1++d2).drop ((d1++d2).length - d2.length))])=ans.map (λv=>[v]):=hfin;rw[hla,List.take_left,List.drop_left] at hfin;rw[hla] at hen;have hdl:(d1++d2).length=d1.length+d2.length:=Wm;show#[_,U,_,_,_,U,U,U,#[U,U,U],_,U,gq (by decide+kernel) ?_];show#[_,U,_,_,_,U,U,U,#[U,U,U],_,U,gC (by decide+kernel) ?_];show#[_,U,_,U,_,_,_,U,U,U,_,U,_,_,_,U,U,U,_,U,_,_,_,U,U,U,_,U,x,a,b,l,i,bb,mm,d2,_,d1.map vD,U,U,by rw[Wv];rfl,#[hn3,by rw[Wk];cbv],?_];rw[show d1.map vD++[vD (.ir bb (.w mm) d2)]=(d1++[Vl.ir bb (.w mm) d2]).map vD by rw[Wv];rfl];exact next i r _ _ (λs' h=>h) (by rw[hcl];cbv) hfin (by rw[Wm];exact hen) hls (.inr hiT) (by rw[Wm,hdl];change _+1<=_;cbv)
   | val k' =>
    have hls:yP r:=hls;have hen:zA r (dn.length+1):=hen;show#[_,U,_,_,_,U,U,U,#[U,U,U],_,U,gq (by decide+kernel) ?_];show#[_,U,_,_,_,U,U,U,#[U,U,U],_,U,gq (by decide+kernel) ?_];show#[_,U,_,_,_,U,U,U,#[U,U,U],_,U,?_];show aI (b':=decide (k'="number")) bO (λe=>?_) λe=>?_
    .have e:k'="number":=of_decide_eq_true e;subst e;let(hj,hdj):=rC (p:=bg) hiT;have hfin:(((mZ ((l.drop i).takeWhile bg)).map λj=>((.num j,(l.drop i).dropWhile bg):Vl×!Nat)).bind λq=>fin (cJ W (cR l+1)) r q.2 (dn++[q.1]))=ans.map (λv=>[v]):=by
      rw[<- hfin];change _=((cJ W (cR l+1) "number" (l.drop i)).bind λq=>fin (cJ W (cR l+1)) r q.2 (dn++[q.1]));rw[cJ,if_pos U]
     show#[_,U,_,U,x,a,b,l,i,_,_,U,U,U,#[by cbv,hiT,hfg,by rw[Wk];cbv],?_]
     revert hfin
     cases hn:mZ ((l.drop i).takeWhile bg) with
     | none=>exact λhfin=>no hfin
     | some j =>
      intro hfin;let((j0,j1),e2):=gD hn;have oJ:=rO j0;rw[<- e2] at oJ;show Gz ?_;dsimp only;rw[show dn.map vD++[D.int j]=(dn++[Vl.num j]).map vD by rw[Wv];rfl];show next _ r _ _ (λs' h=>h) (by rw[hcl];cbv) ?_ (by rw[Wm];exact hen) hls (.inr hj) (by rw[Wm];exact Wo _)
      rw[hdj];exact hfin
    .have e:¬ k'="number":=of_decide_eq_false e;have hop:cR (l.drop i) < cR l+1:=Nat.lt_succ_of_le (uv l i);rw[Ed hop e,Cg ok k'] at hfin;show#[_,U,_,U,_,U,_,_,_,U,U,U,_,U,x,a,b,l,i,W,n,ps,k',_,_,U,U,U,ok,#[by cbv,hiT,by rw[hrl];cbv],?_]
     revert hfin
     cases hp:Aa ps k' with
     | none=>exact λhfin=>no hfin
     | some p =>
      have hpm:p∈ps:=Xd hp;have hap:=has p hpm;have hkd:p.kd∈W.kinds:=ok.mem hpm;intro hfin;have hfin:((if p.kd.asked=true then cL [91] (l.drop i) else some (l.drop i)).bind λz1=>(p.kd.bK.find? λm=>decide (cd m.name=z1.takeWhile aR)).bind λm=>fin (cJ W (cR l+1)) (t9 p.kd.asked m.name (m.fs.map (·.2))++r) (z1.dropWhile aR) dn)=ans.map (λv=>[v]):=hfin;rw[<- hap] at hfin;have hz:∀ z1,(if p.asked=true then cL [91] (l.drop i) else some (l.drop i))=some z1->z1.length<=l.length - i:=λz1 hz=>by
       have h2:z1.length<=(l.drop i).length:=by
        split at hz
        .exact (iy hz).2
        .cases hz;exact Wo _
       rw[WY] at h2;exact h2
      change zv (RX aV []) _ (if p.asked=true then cL [91] (l.drop i) else some (l.drop i))
      revert hfin hz
      cases hs:(if p.asked=true then cL [91] (l.drop i) else some (l.drop i)) with
      | none=>exact λhfin _=>no hfin
      | some z1 =>
       intro hfin hz;have hz:=hz z1 U;have hfin:((p.kd.bK.find? λm=>decide (cd m.name=z1.takeWhile aR)).bind λm=>fin (cJ W (cR l+1)) (t9 p.asked m.name (m.fs.map (·.2))++r) (z1.dropWhile aR) dn)=ans.map (λv=>[v]):=hfin;change zv (RX aV []) _ (p.kd.bK.find? λm=>decide (cd m.name=z1.takeWhile aR))
       revert hfin
       cases hm:p.kd.bK.find? λm=>decide (cd m.name=z1.takeWhile aR) with
       | none=>exact λhfin=>no hfin
       | some m =>
        intro hfin j hj hdj;have hmm:m∈p.kd.bK:=Xd hm;have hmw:cd m.name=z1.takeWhile aR:=by simpa using List.find?_some hm
        let((_,n1,_),Ny,_):=ok.bG.mo p.kd hkd m hmm;have hZ:l.length - j < l.length - i:=by
         have h1:=congrArg List.length (W3 (p:=aR) (l:=z1));rw[Wm,<- hmw,gi,<- hdj,WY] at h1;cbv
        have hbl:=yp p.asked m.name (m.fs.map (·.2));rw[Wk] at hbl;have e2:r.reverse.map pH++((t9 p.asked m.name (m.fs.map (·.2))).map pH).reverse=(t9 p.asked m.name (m.fs.map (·.2))++r).reverse.map pH:=by rw[List.reverse_append,Wv,<- List.map_reverse]
        rw[e2];show next j _ dn _ (λs' h=>h) (by rw[hcl,Wm];cbv) ?_ (Mv p.asked m.name (by rw[Wk];exact Ny) hen) (MX p.asked m.name _ hls) (.inr hj) (Xw _)
        rw[hdj];exact hfin
def LA(v:Vl):D:=.str (aH v.T)
theorem BS(as:!Vl)(h:JY as):((((d4 as).map aH).map (·.length)).sum)<=30 * t6 as:=by
 rw[WV,show ((λx:Str=>x.length)∘aH)=List.length from funext λl=>bz l];exact tW as h
theorem EO(as:!Vl):as.map LA=((d4 as).map aH).map D.str:=by rw[m9,WV,WV];rfl
theorem Gn{k:Nat}{f:AC}{fd:Gc}{ps:!Str}{g:zE}{t:YA}(h:∀ ds R,¬ t ds R):bY P w K mg base bu k f fd ps (cA K g t):=(fj (g:=g)).imp λvs H Q E #[M,ds,R,_,_,q,_]=>(h ds R q).elim
theorem xY{W:bZ}:∀ {ks:!Str} {as:!Vl},zt W ks as->∀ u∈as,∃ k,VK W k u
 | ks,[],h,u,hu=>nomatch hu
 | ks,v::r,h,u,hu=>by
  let(k,ks',_,h1,h2):=h;rcases WI.mp hu with rfl | hu
  .exact#[k,h1]
  .exact xY h2 u hu
def Tb(n:Nat):YA:=λds R=>∃ (W:bZ) (k:Str) (v:Vl),ds=[vD v]/\(fb W/\VK W k v/\v.sz<=400/\v.dp < n)/\R (LA v)
theorem Gx(F:Own K mg g8)(T:Txt K mg):∀ n:Nat,aa0 P w K mg base g8 (n+1) (Tb n)
 | 0=>F.c λf fd F=>Gn λds R #[W,k,v,_,#[_,_,_,h],_]=>absurd h (Nat.not_lt_zero _)
 | n+1=>by
  have Pt:=Gx F T n;show F.d (nos:=0) mD (λds R h=>?_) λf bq A outer s H E M hr=>#[_,(af (bS (fw (dQ Ci Mo U T.Oh PyProof.Rows.boot_isinstance (aa (vd 0) (aa (dc (d:=.ty "int") (yz (v:=.ty "int") U T.int (by decide+kernel) U) U) ae))))
 (aj (aN (bB qM Cf U T.str (by decide+kernel) (aa (vd 0) ae))))
 aK)
 (af (kI (qk (lX (i:=1) mD.nd U U (ts:=["_law_part"]) (us:=[]) #[U,U,U,U,U,U] rfl (b8 (fM (vd 0) ai)) (λ_ _ _ _=>(gM 0 ["_law_part"])) (λ_ _ _ _=>du)
 (λ_ _ _ _=>(bh hr Pt (aa (vd 0) ae))))))
 (af (bS (az aW cf (fM (vd 0) ai) ak (av _))
 (aj (aN (a9 aB bp (a9 aB bp (a9 aB bp (fM (vd 0) ai) ak) (tu ak (aa (vd 1) ae))) ak)))
 aK)
 (aj (aN (a9 aB bp (a9 aB bp ak (tu ak (aa (DN.de (eg cQ cO (DN.de (aO (aa (fM (vd 0) ai) ae))) (vd 1))) ae))) ak)))))),λds R h=>?_]
  .let(W,k,v,rfl,_):=h
   rfl
  .let(W,k0,v,rfl,(bG,hv,hsz,hdp),q):=h;have dF:=bA;have gv:=EJ bG v hv;cases v with
   | num i =>
    show#[_,U,_,_,_,U,U,_,U,gC U ?_];show#[_,U,.inl #[i,U,Hg gv.1 gv.2,?_]];have e:LA (.num i)=.str (cY i):=congrArg D.str (gu _);rw[e] at q;exact q
   | ir k nm as =>
    let(kd,hkd,mk,hmk,_,_,hnm,hs):=hv;let(gn,hl3,ga):=gv;have hz:1+t6 as<=400:=hsz;have hd:1+qf as < n+1:=hdp;have hn:=xj gn;have ln:=bz (oB nm);have e9:RU nm=D.str (aH (oB nm)):=by rw[hnm];exact congrArg D.str (gu mk.name).symm
    have e8:vD (.ir k nm as)=.tup [.str (bC k),.str (aH (oB nm)),.tup (yA as)]:=by rw[vD,e9]
    rw[e8];show#[_,U,_,_,_,U,U,_,U,gq U ?_];have hl:=BS as ga;have hv:(d4 as).length=as.length:=by rw[m9,Wk]
    have Om:=jr 44 (d4 as);have Rc:=jr 32 (oB nm::d4 as);have hT:=tW as ga;have l44:=bz (cK 44 (d4 as));have l32:=bz (cK 32 (oB nm::d4 as));rw[Wu,XC,Ws] at Rc;show#[_,U,_,_,_,U,U,U,_,.inr U,?_];rw[eW];show cy vD LA as (λu hu k' hk=>?_) ?_
    .have:=xE hu;have:=yc hu;let(k',hk'):=xY hs u hu;exact#[_,U,W,k',u,U,#[bG,hk',by cbv,by cbv],hk _ U]
    rw[WQ,EO];show#[_,U,_,_,_,U,U,U,#[U,U,U],_,U,?_];cases k with
    | false =>
     show gC (dY false) ?_;have e4:Txt.join "," ((d4 as).map aH)=aH (cK 44 (d4 as)):=vn 44 _;have e5:aH (oB nm)++"("++aH (cK 44 (d4 as))++")"=aH (Vl.ir false nm as).T:=by
      show ko ?_;rw[ij,ij,ij];change oB nm++[40]++cK 44 (d4 as)++[41]=oB nm++40::(cK 44 (d4 as)++[41]);simp
     have o1:(aH (oB nm)++("(":Str)).length<=18:=by rw[XW,ln,show (("(":Str)).length=1 from U];cbv
     have o2:(aH (oB nm)++"("++aH (cK 44 (d4 as))).length<=13000:=by rw[XW,l44];cbv
     right;show#[by rw[ln];change _+1<=_;cbv,?_];right;show#[by rw[Wk,hv];change _+_ * 1<=_;cbv,?_];rw[e4];right;show#[by rw[l44];cbv,?_];right;show#[by change _+1<=_;cbv,?_];rw[e5];exact q
    | true =>
     show gq (dY true) ?_;have e4:Txt.join " " (aH (oB nm)::(d4 as).map aH)=aH (cK 32 (oB nm::d4 as)):=vn 32 (oB nm::d4 as);have e5:("[":Str)++aH (cK 32 (oB nm::d4 as))++"]"=aH (Vl.ir true nm as).T:=by
      show ko ?_;rw[ij,ij]
      rfl
     have o2:(("[":Str)++aH (cK 32 (oB nm::d4 as))).length<=13000:=by rw[XW,l32,show (("[":Str)).length=1 from U];cbv
     right;show#[by rw[Wk,Wk,hv];change 1+_<=_;cbv,?_];right;show#[aH (oB nm)::(d4 as).map aH,U,by rw[Wu,XC,Ws,Wk,hv,ln];change _+_+_ * 1<=_;cbv,?_];rw[e4];right;show#[by rw[l32];change 1+_<=_;cbv,?_];right;show#[by change _+1<=_;cbv,?_];rw[e5];exact q
mutual
noncomputable def nV:Vl->Nat
 | .num _=>1
 | .ir _ _ as=>uo as
noncomputable def uo:!Vl->Nat
 | []=>0
 | v::r=>nV v+uo r
end
theorem yf:∀ a b:!Vl,uo (a++b)=uo a+uo b
 | [],b=>by rw[List.nil_append];simp[uo]
 | u::r,b=>by
  change nV u+uo (r++b)=nV u+uo r+uo b;rw[yf r b];cbv
mutual
theorem Ff:∀ v:Vl,v.sz=v.th+nV v
 | .num _=>rfl
 | .ir k n as=>by
  have:=Bv as;change 1+t6 as=1+lq as+uo as;cbv
theorem Bv:∀ as:!Vl,t6 as=lq as+uo as
 | []=>rfl
 | v::r=>by
  have:=Ff v;have:=Bv r;change v.sz+t6 r=v.th+lq r+(nV v+uo r);cbv
end
def tT(r:Nat):Nat:=[1,1,4,5,6,9,10,13,14,15,16,19,20].getD r 0
def tN(r:Nat):Nat:=[3,3,9,9,9,18,18,27,27,27,27,36,36].getD r 0
theorem Wd:∀ r:Nat,r < 13->2<=r->∀ L:Nat,L < 4->1+L * tT ((r - 1) / L)<=tT r/\L * tN ((r - 1) / L)<=tN r:=by decide+kernel
theorem rA:∀ r:Nat,r < 13->1<=tT r/\3<=tN r/\tT r<=20/\tN r<=36:=by decide+kernel
theorem Nt{r:Int}(h0:0<=r)(h1:r < 2):∃ m:Int,gR [D.int 10,D.int 1000000] r=some (.int m)/\(m=10\/m=1000000):=by
 have:r=0\/r=1:=by cbv
 rcases this with rfl | rfl
 .exact#[10,bQ,.inl U]
 .exact#[1000000,jj,.inr U]
def SY(d:AC):Nat->YA
 | 0=>λ_ _=>False
 | n+1=>λds R=>∃ (W:bZ) (k:Str) (room:Int),ds=[.cT d,j5 W,.str k,.int room]/\(fb W/\qz W k/\(k="number"\/0<=room/\room+1<=n)/\room<=12)/\∀ v:Vl,VK W k v->(v.th<=tT room.toNat/\nV v<=tN room.toNat/\(k="number"->v.th=0/\nV v=1))->R (vD v)
theorem uH{W:bZ}:∀ {ks:!Str} {as:!Vl} {k:Str} {v:Vl},zt W ks as->VK W k v->zt W (ks++[k]) (as++[v])
 | ks,[],k,v,h,hv=>by
  have h:ks=[]:=h;subst h;exact#[k,[],U,hv,U]
 | ks,u::r,k,v,h,hv=>by
  let(k0,ks',rfl,h1,h2):=h;exact#[k0,ks'++[k],U,h1,uH h2 hv]
theorem Gb{d l:AC}(dZ:C4 P w K mg base bu ba 1 (cA K (aT d l) (gb d)))(F:Own K mg fW)(T:Txt K mg):∀ n:Nat,C4 P w K mg base bu fW (n+2) (cA K (aT d l) (SY d n))
 | 0=>F.c λ_ _ _=>fj
 | n+1=>by
  have Pr:=Gb dZ F T n;show F.d (nos:=1) b4 (λds R h=>?_) λf bq A outer s H E M hr=>#[_,(af (bS (az aW cf (vd 2) ak (av _))
 (aj (aN (aq hr dZ (aa (vd 0) (aa (iz (DN.de (aO (aa ai (aa ai ae)))) (aq hr dZ (aa (vd 0) (aa ai ae)))) ae)))))
 aK)
 (af (nF (n:=1000) (iz (DN.de (nC ["_law_one"] [2] (b8 (eQ (bx (dm hr) (DE.pe (vd 1)) (DE.pe ak) (λ_ _=>rfl)))) (λ_ _ _ _=>(gM 0 ["_law_one","_law_kind"])) (λ_ _ _ _=>eK (az aW cf (fM (vd 0) ai) (vd 1) (av _)))
 (λ_ _ _ _=>(vd 0)))) ai) (dC (m:=4) U (aE (gN 4 b4.nd) (aE (gN 5 b4.nd) (aE (gN 6 b4.nd) (aE (gN 7 b4.nd) dE))))))
 (af (nF (n:=1000) (fM (vd 6) (a9 i8 z6 (aq hr dZ (aa (vd 0) (aa (gp T.len (aa (vd 6) ae)) ae))) (bB cH fq U T.int (by decide+kernel) (aa (gG kX mT (vd 3) ai (av _)) ae)))) (dC (m:=2) U (aE (gN 8 b4.nd) (aE (gN 9 b4.nd) dE))))
 (af (sN 0 10 b4.nd (aO ae))
 (af (sF (b8 (vd 9)) (gN 11 b4.nd)
 (aj (wM 10 (aa (aq hr Pr (aa (vd 0) (aa (vd 1) (aa (fM (vd 11) ai) (aa (a9 d5 z6 (a9 jP fN (vd 3) ai) (gp T.len (aa (vd 9) ae))) ae))))) ae))))
 (aj (aN (aQ (aa (vd 4) (aa (vd 8) (aa (jy T.tuple (aa (za (pv 10)) ae)) ae))))))))))),λds R h=>?_]
  .let(W,k,room,rfl,_):=h
   rfl
  .let(W,k,room,rfl,(bG,hk,hroom,h12),q):=h;have dF:=bA;show#[_,U,#[U,U,U],_,U,?_];show aI (b':=decide (k="number")) bO (λe=>?_) λe=>?_
   .have e:k="number":=by simpa using e
    show#[_,U,_,U,_,U,#[by decide,by decide],λr r0 r1=>?_];let(m,em,hm):=Nt r0 r1;show#[_,_,_,U,U,em,_,U,#[by cbv,by cbv],λi i0 i1=>?_];exact q (.num i) #[e,i0,by cbv] #[WG _,Wr (show 1<=3 by decide) (rA room.toNat (by cbv)).2.1,λ_=>#[U,U]]
   .have e:k≠"number":=by simpa using e
    let(h0,h1):=hroom.resolve_left e;obtain⟨m,rfl⟩:∃ m,n=m+1:=#[n - 1,by cbv];let(kd,hkd,hmk,hnm,nn,z7):=kinds_of bG hk e;have Sv:=(bG.kw kd hkd).2.1;have hmpos:0 < kd.bK.length:=XZ.mpr hmk;show#[_,U,?_];show c9 #[_,U,_,.inl U,?_];show bj l6 l6 (λx=>decide (x.name=k)) _ (λx hx kk N h1 h2=>?_) ?_
    .refine#[_,U,_,_,_,U,U,U,_,U,#[U,U,U],_,U,?_];exact aI (b':=decide (x.name=k)) bO (λe=>#[_,U,h1 e _ U]) λe=>h2 e _ U
    rw[z7,WQ];show#[_,_,_,U,U,bQ,_,U,U,_,_,U,_,_,U,_,_,U,_,_,U,U,?_];show#[_,U,_,U,_,U,_,.inr U,_,U,#[by rw[Wk];omega,by rw[Wk];omega],λr r0 r1=>?_];rw[Wk] at r1;show#[_,U,_,_,U,U,.inr #[decide ((1:Int) < room),U,?_]];have hix:∃ mk∈kd.bK,gR (kd.bK.map dG) (r * (if decide ((1:Int) < room)=true then 1 else 0))=some (dG mk)/\(room<=1->∀ p∈mk.fs,p.2="number"):=by
     by_cases hb:1 < room
     .rw[decide_eq_true hb,if_pos U,Int.mul_one];let(mk,hmk,em):=iS (f:=dG) (xs:=kd.bK) r0 r1;exact#[mk,hmk,em,λh=>absurd hb (by cbv)]
     .rw[decide_eq_false hb,if_neg (),Int.mul_zero];let(m0,mr,hms):=XU hmk;show#[m0,by rw[hms];exact Wt,by rw[hms];exact bQ,λ_=>bG.ft kd hkd m0 mr hms]
    let(mk,hmkm,em,hft):=hix;let(hmn,hf3,_,hfk):=bG.mo kd hkd mk hmkm;show#[_,_,U,U,?_,_,_,_,U,U,em,_,U,U,_,_,U,_,_,U,U,?_]
    .exact .inr (by split<;>decide)
    right;have hdiv:∀ L:Nat,0 < L->L<=3->(2<=room->0<=(room - 1) / (L:Int))/\(room - 1) / (L:Int)<=max (room - 1) (-1)/\(2<=room->((room - 1) / (L:Int)).toNat=(room.toNat - 1) / L):=λL h1 h3=>by
     have:L=1\/L=2\/L=3:=by cbv
     rcases this with rfl | rfl | rfl<;>cbv
    obtain⟨ca,cb,hab,hcb⟩:∃ ca cb:Nat,(1+mk.fs.length * ca<=tT room.toNat/\mk.fs.length * cb<=tN room.toNat)/\((room<=1->ca=0/\cb=1)/\(2<=room->ca=tT ((room.toNat - 1) / mk.fs.length)/\cb=tN ((room.toNat - 1) / mk.fs.length))):=by
     by_cases hb:room<=1
     .refine#[0,1,#[?_,?_],λ_=>#[U,U],λh=>absurd h (by cbv)]
      .exact (rA room.toNat (by cbv)).1
      .have:=(rA room.toNat (by cbv)).2.1;cbv
     .have:=Wd room.toNat (by cbv) (by cbv) mk.fs.length (by cbv);exact#[_,_,this,λh=>absurd h (by cbv),λ_=>#[U,U]]
    show wC pairD (λdn s=>∃ (as:!Vl) (ff:Sl),ff.pl=true/\zt W (dn.map (·.2)) as/\lq as<=dn.length * ca/\uo as<=dn.length * cb/\s=#[[.dat (.cT d),.dat (j5 W),.dat (.str k),.dat (.int room),.dat (.str (bC kd.asked)),.dat (.str kd.name),.dat (.tup (kd.bK.map dG)),.dat (.tup (kd.dM.map gj)),.dat (.str mk.name),.dat (et mk.fs),.own 0,ff],[some (.lst (yA as))]]) ?_ ?_ _ #[[],.no,U,U,WG _,WG _,U]
    .rintro s ⟨as,ff,_,hs,hz,hdp,rfl⟩;right;show q (.ir kd.asked (.w mk.name) as) #[kd,hkd,mk,hmkm,hnm,U,U,hs] #[?_,Wr hdp hab.2,λz=>absurd z e];change 1+lq as<=_;exact Wr (Nat.add_le_add_left hz 1) hab.1
    .rintro dn f0 td s E2 e ⟨as,ff,hx,hs,hz,hdp,rfl⟩ hN hE;have hf0:f0∈mk.fs:=by rw[e];simp
     have hLl:dn.length+(td.length+1)=mk.fs.length:=by rw[e];simp
     have hal:as.length=dn.length:=by rw[sy hs,Wk]
     let(d1,d2,d3):=hdiv mk.fs.length (by cbv) hf3;right;rw[Wk];show#[#[by cbv,by cbv],?_];show#[W,f0.2,_,U,#[bG,hfk f0 hf0,?_,by cbv],λv hv #[hv1,hv2,hv3]=>?_]
     .by_cases hb:room<=1
      .exact .inl (hft hb f0 hf0)
      .exact .inr #[d1 (by cbv),by cbv]
     right;show#[by rw[eW,Wk];cbv,?_];show hN _ #[as++[v],.dat (pairD f0),U,by rw[Wv];exact uH hs hv,?_,?_,?_]
     .rw[yu,Wm];change lq as+(v.th+0)<=(dn.length+1) * ca;rw[Nat.add_mul,Nat.one_mul];show Nat.add_le_add hz ?_;by_cases hb:room<=1
      .rw[(hv3 (hft hb f0 hf0)).1];exact WG _
      .rw[(hcb.2 (by cbv)).1,<- d3 (by cbv)];exact hv1
     .rw[yf,Wm];change uo as+(nV v+0)<=(dn.length+1) * cb;rw[Nat.add_mul,Nat.one_mul];show Nat.add_le_add hdp ?_;by_cases hb:room<=1
      .rw[(hv3 (hft hb f0 hf0)).2,(hcb.1 hb).2];exact Wo _
      .rw[(hcb.2 (by cbv)).2,<- d3 (by cbv)];exact hv2
     .rw[eW,eW,Wv]
      rfl
end
section
variable{P:Fa}{w:FS}{K:Frag}{mg:Str->Option AT}{base:Ev}
def RF:YA:=λds R=>∃ (l:!Nat) (sg:Str) (p:Nat->Bool),ds=[.str (aH l),.str sg]/\(l.length<=4000/\∀ c:Nat,(not ((GE.Str.occurrences sg #[#v[c]] 0 sg.length 1).isEmpty))=p c)/\R (.str (aH (l.takeWhile p)))
theorem Bg{l:!Nat}{j:Nat}:Txt.slice (aH l) none (some (j:Int))=aH (l.take j):=by
 have h:=BK (l:=l) (i:=0) (j:=j) (WG _) (WG _);rw[XG,Nat.sub_zero] at h;rw[<- h]
 rfl
theorem KD(F:Own K mg fo)(T:Txt K mg):aa0 P w K mg base fo 1 RF:=by
 show F.d (nos:=0) iJ (λds R h=>?_) λf bq A outer s H E M hr=>#[_,(af (sS 2 iJ.nd ai)
 (af (tQ PassesOwn.never (DW.dt (gL (az xh mT (vd 2) (dQ cm jV U T.len Xi (aa (vd 0) ae)) (av _)) (eS (az qi Gm (rV iB oh (vd 0) (vd 2) (λ_ _=>rfl)) (vd 1) U))))
 (aj (sS 2 iJ.nd (a9 cw fN (vd 2) ai))))
 (aj (aN (aY (vd 0) bw (aL (vd 2))))))),λds R h=>?_]
 .let(l,sg,p,rfl,_):=h
  rfl
 .let(l,sg,p,rfl,(hl,hp),q):=h;have dF:=bA;have hz:(aH l).length<=FB:=by rw[bz];cbv
  have hwr:=W3 (p:=p) (l:=l);have hlen:=congrArg List.length hwr;rw[Wm] at hlen;right;show#[λm s=>∃ k:Nat,k<=(l.takeWhile p).length/\m=l.length - k/\s=#[[.dat (.str (aH l)),.dat (.str sg),.dat (.int k)],[]],#[_,0,WG _,U,U],?_];rintro m s ⟨k,hk,rfl,rfl⟩;have done:k=(l.takeWhile p).length->R (.str (Txt.slice (aH l) none (some (k:Int)))):=λe=>by
   have ht:(l.takeWhile p++l.dropWhile p).take (l.takeWhile p).length=l.takeWhile p:=List.take_left' U;rw[hwr] at ht;rw[Bg,e,ht];exact q
  right;show#[hz,?_];rw[bz];right;by_cases hkl:k < l.length
  .refine gC (decide_eq_true (by cbv)) ?_;have hat:gR (aH l).cps.toList (k:Int)=some l[k]:=eZ (j:=k) (Wy hkl);show#[_,U,_,U,_,_,_,U,U,hz,hat,_,U,_,_,U,U,_,U,?_];rw[hp];by_cases hkw:k < (l.takeWhile p).length
   .have e1:l[k]=(l.takeWhile p)[k]:=by
     rw[List.getElem_of_eq hwr.symm hkl,List.getElem_append_left hkw]
    show gC (by rw[e1];exact rn _ (X7 hkw)) ?_;right;exact#[_,by cbv,k+1,hkw,U,U]
   .have ek:k=(l.takeWhile p).length:=by cbv
    have hr0:l.dropWhile p=l[k]::l.drop (k+1):=by
     have this:(l.takeWhile p++l.dropWhile p).drop k=l.dropWhile p:=by
      rw[ek];exact List.drop_left' U
     rw[hwr] at this;rw[<- this,W2 hkl]
    show gq (yy hr0) ?_;right;exact#[hz,done ek]
  .refine gq (decide_eq_false (by cbv)) ?_;right;exact#[hz,done (by cbv)]
def JX:Option (Vl×!Nat)->D
 | some q=>.tup [vD q.1,.str (aH q.2)]
 | none=>.br
noncomputable def Hq (l:!Nat):Option (Vl×!Nat):=(mZ (l.takeWhile bg)).map λi=>(.num i,l.dropWhile bg)
def RL:YA:=λds R=>∃ l:!Nat,ds=[.str (aH l)]/\(l.length<=4000/\zW l<=500)/\R (JX (Hq l))
theorem BG:∀ (w:!Nat) (a:Nat),(∀ c∈w,bg c=true)->w.foldl (λacc c=>acc * 10+(c - 48)) a < (a+1) * 10 ^ w.length
 | [],a,_=>by change a < (a+1) * 1;cbv
 | c::r,a,h=>by
  have h1:=BG r (a * 10+(c - 48)) λd hd=>h d (Wq _ hd);have h2:=nI (h c Wt);show WB h1 ?_;rw[Ws,Nat.pow_succ,Nat.mul_comm (10 ^ r.length) 10,<- Nat.mul_assoc];exact Nat.mul_le_mul_right _ (by cbv)
theorem Es{w:!Nat}(h:∀ c∈w,bg c=true)(hl:w.length<=500):(((NumText.digitsVal w:Nat):Int)).natAbs.log2 < 1920:=by
 have h1:=BG w 0 h;have h3:10 ^ w.length<=10 ^ 500:=Nat.pow_le_pow_right () hl;have h4:10 ^ 500 < 2 ^ 1920:=by decide+kernel
 have h2:NumText.digitsVal w < 2 ^ 1920:=WB (by rw[Yx,Nat.one_mul] at h1;exact h1) (Wr h3 (XY h4));rw[Int.natAbs_natCast];by_cases z:NumText.digitsVal w=0
 .rw[z];decide
 .exact (Nat.log2_lt z).mpr h2
theorem DM{i:Int}(h:0<=i):((NumText.digitsVal (cd (cY i)):Nat):Int)=i:=by
 let(n,rfl):=W0 h;rw[qT,PySem.W.KIN.val_back]
theorem Ms(N9:aa0 P w K mg base fo 1 RF)(F:Own K mg fe)(T:Txt K mg):aa0 P w K mg base fe 2 RL:=by
 show F.d (nos:=0) jN (λds R h=>?_) λf bq A outer s H E M hr=>#[_,(af (sS 1 jN.nd (bh hr N9 (aa (vd 0) (aa ak ae))))
 (af (bS (DW.dt (mB (az aW cf (vd 1) ak (av _)) (mB (az uP Dz (vd 1) (bB qM Cf U T.str (by decide+kernel) (aa (bB lY wj U T.int (by decide+kernel) (aa (vd 1) ae)) ae)) (av _)) (oa (az kX mT (bB lY wj U T.int (by decide+kernel) (aa (vd 1) ae)) ai (av _))))))
 (aj (aN d6))
 aK)
 (aj (aN (aQ (aa (bB lY wj U T.int (by decide+kernel) (aa (vd 1) ae)) (aa (aY (vd 0) (aL (dQ cm jV U T.len Xi (aa (vd 1) ae))) bw) ae))))))),λds R h=>?_]
 .let(l,rfl,_):=h
  rfl
 .let(l,rfl,(hl,hf),q):=h;have dF:=bA;have hz:(aH l).length<=FB:=by rw[bz];cbv
  show#[_,U,l,_,bg,U,#[hl,λc=>by have:=CF c;rwa [gu] at this],?_];have hwf:∀ c∈l.takeWhile bg,bg c=true:=rn;have lW:(l.takeWhile bg).length<=500:=Wr (CJ bg 0 l) hf;have hj:=rC (p:=bg) (l:=l) (i:=0) (WG _);rw[Yx,XG] at hj;have q0:mZ (l.takeWhile bg)=none->R .br:=λe=>by
   unfold Hq at q;rw[e] at q;exact q
  have q1:∀ i,mZ (l.takeWhile bg)=some i->R (.tup [.int i,.str (aH (l.dropWhile bg))]):=λi e=>by
   unfold Hq at q;rw[e] at q;exact q
  have hw0:l.takeWhile bg=[]->mZ (l.takeWhile bg)=none:=λe=>by
   cases hn:mZ (l.takeWhile bg) with
   | none=>rfl
   | some i =>
    let((h0,_),e2):=gD hn;have:=rO h0;rw[<- e2,e] at this;exact absurd this ()
  generalize l.takeWhile bg=w at hwf lW hj q0 q1 hw0;show#[_,U,#[U,U,U],_,U,?_];show aI (b':=decide (aH w="")) bO (λe=>?_) λe=>?_
  .refine gC U ?_;exact q0 (hw0 (congrArg cd (of_decide_eq_true e)))
  .have oJ:w≠[]:=λz=>of_decide_eq_false e (by rw[z];rfl);have hdg:NumText.AllDigits (aH w).cps.toList/\(aH w).cps.toList≠[]/\(aH w).length<=640:=#[λc hc=>nI (hwf c hc),oJ,by rw[bz];cbv];have hlog:=Es hwf lW;have q2:∀ i,mZ w=some i->((NumText.digitsVal w:Nat):Int)=i/\w=cd (cY (NumText.digitsVal w:Nat))/\i < 1000000:=λi e=>by
    let((h0,h1),e2):=gD e;have:((NumText.digitsVal w:Nat):Int)=i:=by rw[e2];exact DM h0
    exact#[this,by rw[this];exact e2,h1]
   show#[_,U,_,U,_,U,hdg,.inl #[_,U,hlog,#[U,U,U],_,U,?_]];have hnn:∀ (p:Prop),(∀ i,mZ w=some i->p)->(mZ w=none->p)->p:=λp h1 h2=>by
    cases h:mZ w with
    | none=>exact h2 h
    | some i=>exact h1 i h
   by_cases e2:w=cd (cY (NumText.digitsVal w:Nat))
   .have e3:aH w=cY (NumText.digitsVal w:Nat):=(congrArg aH e2).trans (gu _);show gq (by rw[show decide (fv (D.str (aH w))=fv (D.str (Str.ofString (toString ((NumText.digitsVal (aH w).cps.toList:Nat):Int)))))=true from decide_eq_true (congrArg V.str e3)];rfl) ?_;show#[_,U,_,U,hdg,_,_,U,U,_,U,?_];show aI U (λh9=>?_) λh9=>?_
    .refine q0 ?_;cases hn:mZ w with
     | none=>rfl
     | some i =>
      let(a1,_,a3):=q2 i hn;have h9:(999999:Int) < ((NumText.digitsVal w:Nat):Int):=of_decide_eq_true h9;cbv
    .have h9:¬ (999999:Int) < ((NumText.digitsVal w:Nat):Int):=of_decide_eq_false h9;have hnu:mZ w=some ((NumText.digitsVal w:Nat):Int):=(congrArg mZ e2).trans (sX (by cbv) (by cbv));right;show#[hdg,?_];right;show#[by rw[bz];cbv,?_];show#[_,U,_,U,hz,?_];rw[bz,ip hj.1,hj.2];exact q1 _ hnu
   .refine gC (by rw[show decide (fv (D.str (aH w))=fv (D.str (Str.ofString (toString ((NumText.digitsVal (aH w).cps.toList:Nat):Int)))))=false from decide_eq_false λz=>e2 (congrArg cd (V.str.inj z))];rfl) ?_;show gC U ?_;show q0 ?_;cases hn:mZ w with
    | none=>rfl
    | some i=>exact absurd (q2 i hn).2.1 e2
theorem wu{α:Type}(f:α->Str)(y:Str):∀ {l:!α},(l.map f).Nodup->l.filter (λx=>decide (f x=y))=(l.find? λx=>decide (f x=y)).toList
 | [],_=>rfl
 | a::l,h=>by
  rw[Wu,Xy] at h;rw[List.filter_cons,Yw];by_cases e:f a=y
  .rw[decide_eq_true e,if_pos U];have:l.filter (λx=>decide (f x=y))=[]:=List.filter_eq_nil_iff.mpr λx hx z=>h.1 (by rw[e,<- of_decide_eq_true z];exact WJ hx);rw[this]
   rfl
  .rw[decide_eq_false e,if_neg ()];exact wu f y h.2
theorem HF(x:!Nat)(m:fO):decide (m.name=aH x)=decide (cd m.name=x):=decide_eq_decide.mpr #[λh=>by rw[h],λh=>by rw[<- h,gu]]
theorem k9{c z z':!Nat}(h:cL c z=some z'):z'=z.drop 1/\z.take 1=c:=by
 unfold cL at h;split at h
 .cases h;exact#[U,by assumption]
 .cases h
theorem take1{a:Nat}{z:!Nat}(h:z.take 1=[a]):1<=z.length:=by
 cases z with
 | nil=>cases h
 | cons b r=>exact Yn (WG _)
theorem Fi(x:Str){n:Int}(h:n=0\/n=1):PySem.MulOk x n:=by
 rcases h with rfl | rfl
 .exact#[by decide,λh=>absurd () h,λh=>absurd () h]
 .exact#[by decide,λ_ h=>by simp at h,λ_ h=>by simp at h]
theorem mul_one(x:Str):Txt.mul x 1=x:=by
 unfold Txt.mul;rw[if_neg (),if_pos (by simp)]
theorem Dn(b f:Bool)(zr:!Nat):Txt.startswith (aH zr) (aH (if b=true then [32] else if f=true then [] else [44]))=(if b=true then cL [32] zr else if f=true then some zr else cL [44] zr).isSome/\∀ y,(if b=true then cL [32] zr else if f=true then some zr else cL [44] zr)=some y->Txt.slice (aH zr) (some (((if b=true then [32] else if f=true then [] else [44]:!Nat).length:Nat):Int)) none=aH y/\y.Sublist zr:=by
 have one:∀ a:Nat,Txt.startswith (aH zr) (aH [a])=(cL [a] zr).isSome/\∀ y,cL [a] zr=some y->Txt.slice (aH zr) (some 1) none=aH y/\y.Sublist zr:=λa=>#[ib a zr,λy h=>by
  let(rfl,ht):=k9 h;exact#[ip (i:=1) (take1 ht),XB _ _]]
 cases b with
 | true=>exact one 32
 | false =>
  cases f with
  | true=>exact#[vS zr,λy h=>by cases h;exact#[ip (i:=0) (WG _),Xm _]]
  | false=>exact one 44
def Tt(n:Nat):YA:=λds R=>∃ (W:bZ) (k:Str) (l:!Nat),ds=[j5 W,.str k,.str (aH l)]/\(fb W/\(k="number"\/∃ kd∈W.kinds,kd.name=k)/\Ex l n)/\R (JX (cJ W n k l))
theorem Fq(N9:aa0 P w K mg base fo 1 RF)(SR:aa0 P w K mg base fe 2 RL)(F:Own K mg ia)(T:Txt K mg):∀ n:Nat,aa0 P w K mg base ia (n+3) (Tt n)
 | 0=>F.c λf fd F=>Gn λds R #[W,k,l,_,#[_,_,_,_,h],_]=>absurd h (Nat.not_lt_zero _)
 | n+1=>by
  have Pw:=Fq N9 SR F T n;show F.d (nos:=1) aU (λds R h=>?_) λf bq A outer s H E M hr=>#[_,(af (bS (az aW cf (vd 1) ak (av _))
 (aj (aN (bh hr SR (aa (vd 2) ae))))
 aK)
 (af (nF (n:=1000) (iz (DN.de (nC ["_law_one"] [1] (b8 (eQ (bx (dm hr) (DE.pe (vd 0)) (DE.pe ak) (λ_ _=>rfl)))) (λ_ _ _ _=>(gM 0 ["_law_one","_law_kind"])) (λ_ _ _ _=>eK (az aW cf (fM (vd 0) ai) (vd 1) (av _)))
 (λ_ _ _ _=>(vd 0)))) ai) (dC (m:=4) U (aE (gN 3 aU.nd) (aE (gN 4 aU.nd) (aE (gN 5 aU.nd) (aE (gN 6 aU.nd) dE))))))
 (af (bS (DW.dt (gL (az aW cf (vd 3) ak (av _)) (eS (jX (fw (lg (vd 2) (aa ak ae)))))))
 (aj (aN d6))
 aK)
 (af (sS 2 aU.nd (aY (vd 2) (aL (bB cH fq U T.int (by decide+kernel) (aa (gG aW cf (vd 3) ak (av _)) ae))) bw))
 (af (kI (eM (i:=7) aU.nd U (Or.inr U) (DE.pe (bh hr N9 (aa (vd 2) (aa ak ae))))))
 (af (kI (qk (lX (i:=8) aU.nd U U (ts:=["_law_name","_law_fields"]) (us:=[7]) #[U,U,U,U,U,U] rfl (b8 (vd 5)) (λ_ _ _ _=>(dC (m:=2) U (aE (gM 0 ["_law_name","_law_fields","_law_c"]) (aE (gM 1 ["_law_name","_law_fields","_law_c"]) dE)))) (λ_ _ _ _=>eK (az aW cf (vd 0) (vd 2) (av _)))
 (λ_ _ _ _=>(vd 1)))))
 (af (sS 9 aU.nd (aY (vd 2) (aL (dQ cm jV U T.len Xi (aa (vd 7) ae))) bw))
 (af (bS (DW.dt (mB (az (vR (oZ hr)) qt (vd 8) (DN.de (aO ae)) (av _)) (oa (DW.dt (gL (az aW cf (vd 3) ak (av _)) (eS (jX (fw (lg (vd 9) (aa ak ae))))))))))
 (aj (aN d6))
 aK)
 (af (sS 9 aU.nd (aY (vd 9) (aL (bB cH fq U T.int (by decide+kernel) (aa (gG aW cf (vd 3) ak (av _)) ae))) bw))
 (af (sN 0 10 aU.nd (aO ae))
 (af (sF (GX U T.enumerate (aa (iz (vd 8) ai) ae)) (dC (m:=2) U (aE (gN 11 aU.nd) (aE (gN 12 aU.nd) dE)))
 (af (sS 13 aU.nd (a9 j2 vW (iz (DN.de (aO (aa ak (aa ak ae)))) (bB cH fq U T.int (by decide+kernel) (aa (gG aW cf (vd 3) ak (av _)) ae))) (bB cH fq U T.int (by decide+kernel) (aa (OS (gG aW cf (vd 3) ak (av _)) (LQ (gG kX mT (vd 11) ai (av _)))) ae))))
 (af (bS (jX (fw (lg (vd 9) (aa (vd 13) ae))))
 (aj (aN d6))
 aK)
 (af (sS 14 aU.nd (bh hr Pw (aa (vd 0) (aa (fM (vd 12) ai) (aa (aY (vd 9) (aL (dQ cm jV U T.len Xi (aa (vd 13) ae))) bw) ae)))))
 (af (bS (az lB qo (vd 14) d6 (av _))
 (aj (aN d6))
 aK)
 (af (wM 10 (aa (fM (vd 14) ai) ae))
 (aj (sS 9 aU.nd (fM (vd 14) ai)))))))))
 (af (bS (jX (fw (lg (vd 9) (aa (iz (DN.de (aO (aa ak (aa ak ae)))) (bB cH fq U T.int (by decide+kernel) (aa (gG aW cf (vd 3) ak (av _)) ae))) ae))))
 (aj (aN d6))
 aK)
 (aj (aN (aQ (aa (aQ (aa (vd 3) (aa (vd 7) (aa (jy T.tuple (aa (za (pv 10)) ae)) ae)))) (aa (aY (vd 9) (aL ai) bw) ae))))))))))))))))),λds R h=>?_]
  .let(W,k,l,rfl,_):=h
   rfl
  .let(W,k,l,rfl,(bG,hk,hl),q):=h;have dF:=bA;show#[_,U,#[U,U,U],_,U,?_];show aI (b':=decide (k="number")) bO (λe=>?_) λe=>?_
   .have e:k="number":=of_decide_eq_true e;subst e;rw[cJ,if_pos U] at q;exact#[_,U,l,U,#[hl.1,hl.2.1],q]
   .have e:¬ k="number":=of_decide_eq_false e;let(kd,hkd,rfl):=hk.resolve_left e;rw[cJ,if_neg e,j7 bG.kn hkd,WM] at q;have hmn:(kd.bK.map fO.name).Nodup:=(Yr.mp bG.mn).1 kd hkd;have e91:("[":Str)=aH [91]:=rfl;have e40:("(":Str)=aH [40]:=rfl;have hsl:∀ z:!Nat,z.Sublist l->(aH z).length<=FB:=λz hz=>by
     have:=hz.length_le;have:=hl.1;rw[bz];cbv
    show#[_,U,?_];show c9 #[_,U,_,.inl U,?_];show bj l6 l6 (λx=>decide (x.name=kd.name)) _ (λx hx kk N h1 h2=>?_) ?_
    .refine#[_,U,_,_,_,U,U,U,_,U,#[U,U,U],_,U,?_];exact aI (b':=decide (x.name=kd.name)) bO (λe=>#[_,U,h1 e _ U]) λe=>h2 e _ U
    rw[wu Kd.name kd.name bG.kn,j7 bG.kn hkd,WQ];show#[_,_,_,U,U,bQ,_,U,U,_,_,U,_,_,U,_,_,U,_,_,U,U,?_];show#[_,U,#[U,U,U],_,U,?_];refine' jn (C:=∀ z1:!Nat,z1.Sublist l->(kd.asked=true->cR z1 < cR l)->R (JX ((kd.bK.find? λm=>decide (cd m.name=z1.takeWhile aR)).bind λm=>(if kd.asked=true then some (z1.dropWhile aR) else cL [40] (z1.dropWhile aR)).bind λz2=>(fz (cJ W n) kd.asked true (m.fs.map (·.2)) z2).bind λq=>(cL (if kd.asked=true then [93] else [41]) q.2).map λz3=>((.ir kd.asked (.w m.name) q.1,z3):Vl×!Nat)))->(?G:!Nat->Prop) z1) ?hrest λhrest=>?main
    case main =>
     show aI (b':=kd.asked) (bF kd.asked) (λha=>?_) λha=>?_
     .rw[if_pos ha] at q;right;rw[e91,ib]
      revert q
      cases hs:cL [91] l with
      | none =>
       intro q;show gC U ?_;exact q
      | some z1 =>
       intro q;let(hz1,ht1):=k9 hs;have hZ:=lL (.inr U) hs;have hsub:=gZ hs;show gq U ?_;show#[_,U,_,U,#[U,U,U],.inr #[_,U,_,U,_,U,hsl l (Xm _),?_]];rw[show Txt.slice (aH l) (some (if decide (fv (D.str (bC kd.asked))=fv (D.str "asked"))=true then 1 else 0)) none=aH z1 by rw[bF,if_pos ha,hz1];exact ip (take1 ht1)];exact hrest z1 hsub (λ_=>hZ) q
     .rw[if_neg (by rw[ha];decide)] at q;show gq U ?_;show#[_,U,_,U,#[U,U,U],.inr #[_,U,_,U,_,U,hsl l (Xm _),?_]];rw[show Txt.slice (aH l) (some (if decide (fv (D.str (bC kd.asked))=fv (D.str "asked"))=true then 1 else 0)) none=aH l by rw[bF,if_neg (by rw[ha];decide)];exact ip (i:=0) (WG _)];exact hrest l (Xm _) (λz=>by rw[z] at ha;cases ha) q
    case hrest =>
     intro z1 hsub hop q;have hz1:=hl.sub hsub;let(hj,hdj):=rC (p:=aR) (l:=z1) (i:=0) (WG _);rw[Yx,XG] at hj hdj;show#[_,U,z1,_,aR,U,#[hz1.1,λc=>by have:=Jr c;rwa [gu] at this],?_];show#[_,U,_,.inr U,?_];show bj dG (λm:fO=>et m.fs) (λm=>decide (m.name=aH (z1.takeWhile aR))) _ (λm hm kk N h1 h2=>?_) ?_
     .refine#[_,U,U,_,_,U,_,_,U,U,?_];show#[_,U,_,U,#[U,U,U],_,U,?_];exact aI (b':=decide (m.name=aH (z1.takeWhile aR))) bO (λe=>#[_,U,h1 e _ U]) λe=>h2 e _ U
     rw[wu fO.name _ hmn,WQ,show (λm:fO=>decide (m.name=aH (z1.takeWhile aR)))=λm=>decide (cd m.name=z1.takeWhile aR) from funext (HF _)];have hww:(aH (z1.takeWhile aR)).length<=FB:=hsl _ ((List.takeWhile_sublist _).trans hsub);show#[_,U,_,U,_,U,hww,_,U,_,U,hsl z1 hsub,?_];rw[bz,ip hj,hdj]
     revert q
     cases hm:kd.bK.find? λm=>decide (cd m.name=z1.takeWhile aR) with
     | none =>
      intro q;show#[_,U,#[U,U,.inr ()],_,U,gC U (gC U ?_)];exact q
     | some m =>
      intro q;have hmm:m∈kd.bK:=Xd hm;have hmw:cd m.name=z1.takeWhile aR:=by simpa using List.find?_some hm
      let(h1n,hps):=bG.mo kd hkd m hmm;have hpk:mU (et m.fs)=true:=tV bG (λx hx=>bG.nm x (W7 _ (Xj hx))) hps;let(hf3,_,hfk):=hps;have hdsub:(z1.dropWhile aR).Sublist l:=(XH _).trans hsub;have eN:aH (z1.takeWhile aR)=m.name:=by rw[<- hmw,gu]
      show#[_,U,#[by change (mU (et m.fs)&&true)=true;rw[hpk];rfl,U,.inr ()],_,U,gq U ?_];have q:R (JX ((if kd.asked=true then some (z1.dropWhile aR) else cL [40] (z1.dropWhile aR)).bind λz2=>(fz (cJ W n) kd.asked true (m.fs.map (·.2)) z2).bind λq=>(cL (if kd.asked=true then [93] else [41]) q.2).map λz3=>((.ir kd.asked (.w m.name) q.1,z3):Vl×!Nat))):=q;show#[_,U,#[U,U,U],_,U,?_];refine' jn (C:=∀ z2:!Nat,Ex z2 n->R (JX ((fz (cJ W n) kd.asked true (m.fs.map (·.2)) z2).bind λq=>(cL (if kd.asked=true then [93] else [41]) q.2).map λz3=>((.ir kd.asked (.w m.name) q.1,z3):Vl×!Nat)))->(?G2:!Nat->Prop) z2) ?hrest2 λhrest2=>?main2
      case main2 =>
       show aI (b':=(not kd.asked)) (dY kd.asked) (λha=>?_) λha=>?_
       .have ha:kd.asked=false:=by simpa using ha
        rw[if_neg (by rw[ha];decide)] at q;right;rw[e40,ib]
        revert q
        cases hs:cL [40] (z1.dropWhile aR) with
        | none =>
         intro q;show gC U ?_;exact q
        | some z2 =>
         intro q;let(hz2,ht2):=k9 hs;have hZ:=lL (.inl U) hs;have hx:=hl.sub ((gZ hs).trans hdsub);show gq U ?_;show#[_,U,_,U,#[U,U,U],.inr #[_,U,_,U,_,U,hsl _ hdsub,?_]];rw[show Txt.slice (aH (z1.dropWhile aR)) (some (if decide (fv (D.str (bC kd.asked))=fv (D.str "made"))=true then 1 else 0)) none=aH z2 by rw[dY,ha,hz2];exact ip (take1 ht2)];exact hrest2 z2 #[hx.1,hx.2.1,by have:=k8 hdsub;have:=hl.2.2;cbv] q
       .have ha:kd.asked=true:=by simpa using ha
        rw[if_pos ha] at q;have hx:=hl.sub hdsub;have ho:=hop ha;show gq U ?_;show#[_,U,_,U,#[U,U,U],.inr #[_,U,_,U,_,U,hsl _ hdsub,?_]];rw[show Txt.slice (aH (z1.dropWhile aR)) (some (if decide (fv (D.str (bC kd.asked))=fv (D.str "made"))=true then 1 else 0)) none=aH (z1.dropWhile aR) by rw[dY,ha];exact ip (i:=0) (WG _)];exact hrest2 _ #[hx.1,hx.2.1,by have:=iU aR z1;have:=hl.2.2;cbv] q
      case hrest2 =>
       intro z2 hz2 q;have tU:∀ z:!Nat,z.length<=4000->(aH z).length<=FB:=λz hz=>by
        rw[bz];cbv
       right;rw[zp];show wC (λq:(Str×Str)×Nat=>.tup [.int (q.2:Nat),pairD q.1]) (λdn s=>∃ (as:!Vl) (zr:!Nat) (ff fY gm vb:Sl),(ff.pl=true/\fY.pl=true/\gm.pl=true/\vb.pl=true)/\Ex zr n/\as.length=dn.length/\fz (cJ W n) kd.asked true (m.fs.map (·.2)) z2=(fz (cJ W n) kd.asked dn.isEmpty ((m.fs.drop dn.length).map (·.2)) zr).map (λp=>(as++p.1,p.2))/\s=#[[.dat (j5 W),.dat (.str kd.name),.dat (.str (aH z1)),.dat (.str (bC kd.asked)),.dat (.str kd.name),.dat (.tup (kd.bK.map dG)),.dat (.tup (kd.dM.map gj)),.dat (.str (aH (z1.takeWhile aR))),.dat (.lst [et m.fs]),.dat (.str (aH zr)),.own 0,ff,fY,gm,vb],[some (.lst (yA as))]]) ?_ ?_ _ #[[],z2,.no,.no,.no,.no,#[U,U,U,U],hz2,U,?_,U]
       .rintro s ⟨as,zr,ff,fY,gm,vb,eR,hzr,hal,hrd,rfl⟩;have hzl:(aH zr).length<=FB:=tU zr hzr.1;rw[List.length_zipIdx,Yo] at hrd;have hrd:fz (cJ W n) kd.asked true (m.fs.map (·.2)) z2=some (as,zr):=by rw[hrd];change some (as++[],zr)=_;rw[WH]
        rw[hrd,WM] at q;have q:R (JX ((cL (if kd.asked=true then [93] else [41]) zr).map λz3=>(.ir kd.asked (.w m.name) as,z3))):=q;have hcl:(if kd.asked=true then [93] else [41]:!Nat)=[if kd.asked=true then 93 else 41]:=by cases kd.asked<;>rfl
        rw[hcl] at q;have hat:gR [D.str ")",D.str "]"] (if decide (fv (D.str (bC kd.asked))=fv (D.str "asked"))=true then 1 else 0)=some (.str (aH [if kd.asked=true then 93 else 41])):=by
         rw[bF];cases kd.asked
         .exact bQ
         .exact jj
        right;show#[hat,_,U,_,U,?_];rw[ib]
        revert q
        cases hs:cL [if kd.asked=true then 93 else 41] zr with
        | none =>
         intro q;show gC U ?_;exact q
        | some z3 =>
         intro q;let(rfl,ht3):=k9 hs;have q:R (.tup [.tup [.str (bC kd.asked),.str m.name,.tup (yA as)],.str (aH (zr.drop 1))]):=q;show gq U ?_;rw[eN];right;show#[hzl,?_];rw[show Txt.slice (aH zr) (some 1) none=aH (zr.drop 1) from ip (i:=1) (take1 ht3)];exact q
       .rintro dn f0 td s E2 e ⟨as,zr,ff,fY,gm,vb,eR,hzr,hal,hrd,rfl⟩ hN hE;have hzl:(aH zr).length<=FB:=tU zr hzr.1;obtain⟨hfi,hfd⟩:f0.2=dn.length/\m.fs.drop dn.length=f0.1::m.fs.drop (dn.length+1):=by
         have h1:(m.fs.zipIdx 0)[dn.length]?=some f0:=by rw[e,Xk (Wo _),Nat.sub_self];rfl
         rw[List.getElem?_zipIdx] at h1;let(x,h2,rfl):=WD.mp h1;let(h3,h4):=Wn.mp h2;exact#[Yx _,by rw[W2 h3,h4]]
        have hf0:f0.1∈m.fs:=X8 (i:=dn.length) (by rw[hfd];exact Wt);rw[hfd] at hrd;have hat:gR [D.str " ",D.str ","] (if decide (fv (D.str (bC kd.asked))=fv (D.str "made"))=true then 1 else 0)=some (.str (aH [if kd.asked=true then 32 else 44])):=by
         rw[dY];cases kd.asked
         .exact jj
         .exact bQ
        right;show#[hat,?_];refine' jn (C:=∀ sg:!Nat,sg=(if kd.asked=true then [32] else if dn.isEmpty=true then [] else [44])->(?G3:!Nat->Prop) sg) ?hr3 λhr3=>?main3
        case main3 =>
         show#[_,U,#[U,U,U],_,U,?_];show aI (b':=kd.asked) (bF kd.asked) (λha=>?_) λha=>?_
         .refine .inr #[_,U,_,_,U,U,Fi _ (.inr U),?_];obtain⟨sg,h1,h2⟩:∃ sg:!Nat,sg=(if kd.asked=true then [32] else if dn.isEmpty=true then [] else [44])/\Txt.mul (aH [if kd.asked=true then 32 else 44]) (if true=true then 1 else 0)=aH sg:=#[_,U,by rw[if_pos ha,if_pos ha];exact mul_one _];rw[h2];exact hr3 sg h1
         .refine#[_,U,_,_,U,U,?_];show .inr #[_,U,_,_,U,U,Fi _ (by split;exact .inr U;exact .inl U),?_];obtain⟨sg,h1,h2⟩:∃ sg:!Nat,sg=(if kd.asked=true then [32] else if dn.isEmpty=true then [] else [44])/\Txt.mul (aH [if kd.asked=true then 32 else 44]) (if decide ((0:Int) < ((f0.2:Nat):Int))=true then 1 else 0)=aH sg:=#[_,U,by
           rw[ha,hfi];cases dn with
           | nil=>rfl
           | cons d0 dr =>
            rw[decide_eq_true (show (0:Int) < (((d0::dr).length:Nat):Int) by rw[Ws];cbv)];exact mul_one _]
          rw[h2];exact hr3 sg h1
        case hr3 =>
         intro sg hsg;let(nq,hsl2):=Dn kd.asked dn.isEmpty zr;rw[<- hsg] at nq hsl2;have hrd:fz (cJ W n) kd.asked true (m.fs.map (·.2)) z2=((if kd.asked=true then cL [32] zr else if dn.isEmpty=true then some zr else cL [44] zr).bind λy=>(cJ W n f0.1.2 y).bind λq=>(fz (cJ W n) kd.asked false ((m.fs.drop (dn.length+1)).map (·.2)) q.2).map λp=>(q.1::p.1,p.2)).map (λp=>(as++p.1,p.2)):=hrd;have qn:fz (cJ W n) kd.asked true (m.fs.map (·.2)) z2=none->R .br:=λh=>by
          rw[h] at q;exact q
         have hsgl:(aH sg).length<=FB:=by
          rw[bz,hsg];have:(if kd.asked=true then [32] else if dn.isEmpty=true then [] else [44]:!Nat).length<=1:=by cases kd.asked<;>cases dn.isEmpty<;>decide
          cbv
         right;rw[nq]
         revert hrd hsl2
         cases ho:(if kd.asked=true then cL [32] zr else if dn.isEmpty=true then some zr else cL [44] zr) with
         | none =>
          intro hsl2 hrd;show gC U ?_;exact hE _ (qn hrd)
         | some y =>
          intro hsl2 hrd;let(hsl3,hsub3):=hsl2 y U;have hy:=hzr.sub hsub3;show gq U ?_;show#[_,U,_,U,_,_,_,U,U,U,_,U,_,U,_,U,hsgl,_,U,_,U,hzl,?_];rw[bz,hsl3];show#[W,f0.1.2,y,U,#[bG,?_,hy],?_]
          .rcases hfk f0.1 hf0 with h | ⟨kd',h1,_,h2⟩
           .exact .inl h
           .exact .inr #[kd',h1,h2]
          have hrd:fz (cJ W n) kd.asked true (m.fs.map (·.2)) z2=((cJ W n f0.1.2 y).bind λq=>(fz (cJ W n) kd.asked false ((m.fs.drop (dn.length+1)).map (·.2)) q.2).map λp=>(q.1::p.1,p.2)).map (λp=>(as++p.1,p.2)):=hrd
          revert hrd
          cases hv:cJ W n f0.1.2 y with
          | none =>
           intro hrd;show#[_,U,U,_,U,gC U ?_];exact hE _ (qn hrd)
          | some p =>
           intro hrd;show#[_,U,U,_,U,gq U ?_];right;have hdl:dn.length+(td.length+1)=m.fs.length:=by
            have:=congrArg List.length e;rw[List.length_zipIdx,Wm,Ws] at this;cbv
           show#[by rw[eW,Wk,hal];cbv,?_];right;show hN _ #[as++[p.1],p.2,_,_,_,_,#[U,U,U,U],hy.sub (xm hv),by rw[Wm,Wm,hal];rfl,?_,by rw[eW,eW,Wv];rfl];rw[hrd,Wm,show (dn++[f0]).isEmpty=false by cases dn<;>rfl];change (Option.map _ (fz (cJ W n) kd.asked false ((m.fs.drop (dn.length+1)).map (·.2)) p.2)).map _=Option.map _ (fz (cJ W n) kd.asked false ((m.fs.drop (dn.length+1)).map (·.2)) p.2);rw[Option.map_map];show congrArg (λf=>Option.map f _) (funext λr=>?_);change (as++(p.1::r.1),r.2)=((as++[p.1])++r.1,r.2);rw[WN]
           rfl
       .show fz _ _ _ _ _=(fz _ _ true _ _).map _;rw[List.length_nil,XG];cases fz (cJ W n) kd.asked true (m.fs.map (·.2)) z2<;>rfl
def sv:Option Vl->D
 | some v=>.tup [.str "read",vD v]
 | none=>.tup [.str "none"]
def Ts(n:Nat):YA:=λds R=>∃ (W:bZ) (k:Str) (l:!Nat),ds=[j5 W,.str k,.str (aH l)]/\(fb W/\(k="number"\/∃ kd∈W.kinds,kd.name=k)/\Ex l n)/\R (sv (j6 W k l))
theorem K5{n:Nat}(Pw:aa0 P w K mg base ia (n+3) (Tt n))(F:Own K mg jt)(T:Txt K mg):aa0 P w K mg base jt (n+4) (Ts n):=by
 show F.d (nos:=0) oz (λds R h=>?_) λf bq A outer s H E M hr=>#[_,(af (sS 3 oz.nd (bh hr Pw (aa (vd 0) (aa (vd 1) (aa (vd 2) ae)))))
 (af (bS (DW.dt (mB (az lB qo (vd 3) d6 (av _)) (oa (az uP Dz (fM (vd 3) ai) ak (av _)))))
 (aj (aN (aQ (aa ak ae))))
 aK)
 (aj (aN (aQ (aa ak (aa (fM (vd 3) ai) ae))))))),λds R h=>?_]
 .let(W,k,l,rfl,_):=h
  rfl
 .let(W,k,l,rfl,hh,q):=h;unfold j6 at q;rw[gA (X6 _) hh.2.2.2.2] at q;right;show#[hh,?_]
  revert q
  cases cJ W n k l with
  | none =>
   intro q;show#[_,U,U,_,U,gC U (gC U ?_)];exact q
  | some p =>
   intro q;have q:R (sv (if p.2=[] then some p.1 else none)):=q;show#[_,U,U,_,U,gq U ?_];show#[_,U,_,_,_,U,U,U,#[U,U,U],_,U,?_];by_cases e:p.2=[]
   .rw[if_pos e] at q;show gq (by rw[e];rfl) ?_;right;exact q
   .rw[if_neg e] at q;show gC (by rw[bO,decide_eq_false λz=>e (congrArg cd z)];rfl) ?_;exact q
structure SA(K:Frag)(mg:Str->Option AT)(aS a0 a1 a2 a3 a4 a5 a6 a7:AC):Prop where
 ve:mg "ValueError"=none
 nS:mg "SideError"=some (.ref aS)
 n0:mg "NoText"=some (.ref a0)
 n1:mg "NoProgram"=some (.ref a1)
 n2:mg "NoTerm"=some (.ref a2)
 n3:mg "NoValue"=some (.ref a3)
 n4:mg "NotFlat"=some (.ref a4)
 n5:mg "NoKind"=some (.ref a5)
 n6:mg "NoEdit"=some (.ref a6)
 n7:mg "NoRow"=some (.ref a7)
 t:MB K a3
 em:PySem.W.exmOne K (.ref a3) (.ref aS)=some true
 kO:kitAny K (.ref a3) ([a6,a5,a1,a7,a2,a0,a4].map AT.ref)=some false
 k3:kitOne K (.ref a3) (.ref a3)=some true
 kV:kitOne K (.ref a3) (.type "ValueError")=some true
theorem Pl(a:AC)(cv:V)(u:AT)(h1:RelV cv (.ref a))(h2:RelV cv u):u=.ref a:=by
 cases cv with
 | ref b=>cases (show AT.ref a=AT.ref b from h1);exact h2
 | br=>exact nomatch (show AT.ref a=AT.none from h1)
 | bl b=>exact nomatch (show AT.ref a=AT.bool b from h1)
 | int b=>let(t,e):=h1;exact nomatch e
 | str b=>let(t,e):=h1;exact nomatch e
 | vv b=>let(t,e):=h1;exact nomatch e
 | JP b=>let(t,e):=h1;exact nomatch e
 | ty n=>exact nomatch (show AT.ref a=AT.type n from h1)
theorem OT(x:String)(cv:V)(u:AT)(h1:RelV cv (.type x))(h2:RelV cv u):u=.type x:=by
 cases cv with
 | ty b=>cases (show AT.type x=AT.type b from h1);exact h2
 | br=>exact nomatch (show AT.type x=AT.none from h1)
 | bl b=>exact nomatch (show AT.type x=AT.bool b from h1)
 | int b=>let(t,e):=h1;exact nomatch e
 | str b=>let(t,e):=h1;exact nomatch e
 | vv b=>let(t,e):=h1;exact nomatch e
 | JP b=>let(t,e):=h1;exact nomatch e
 | ref n=>exact nomatch (show AT.type x=AT.ref n from h1)
def SX:YA:=λds R=>∃ (W:bZ) (n:Nat) (ps:!PK) (k:Str) (l:!Nat),ds=[.tup (ps.map pN),.str k,.str (aH l)]/\(Gs W n ps/\(∀ p∈ps,p.asked=p.kd.asked)/\l.length<=4000/\zW l<=500)/\R (sv (j6 W k l))
theorem MR{aS a0 a1 a2 a3 a4 a5 a6 a7:AC}(TE:SA K mg aS a0 a1 a2 a3 a4 a5 a6 a7)(VJ:C4 P w K mg base (pJ P w) fc 5 (MY K (Sf a3)))(F:Own K mg gY)(T:Txt K mg):aa0 P w K mg base gY 6 SX:=by
 show F.d (nos:=0) eI (λds R h=>?_) λf bq A outer s H E M hr=>#[_,(af (sS 3 eI.nd d6)
 (af (sS 4 eI.nd d6)
 (EF 4 5 3 TE.em U U eI.nd U U U (Or.inl U) (Or.inl U) U U TE.nS (λ_=>pv 5) hr VJ (aa (vd 0) (aa (vd 1) (aa (vd 2) ae))) (af (bS (az lB qo (vd 3) d6 (av _)) (aj (aN (aQ (aa ak (aa (vd 4) ae))))) aK) oo) (λM1 H1 ea dd tZ hD=>(af (bS (az lB qo (vd 3) d6 (av _)) oo aK) (af (sS 6 eI.nd (Ib (cs:=[a6,a5,a1,a7,a2,a0,a4]) (Nat.le_of_ble_eq_true U) tZ hD TE.t TE.kO (dw (zT U) U T.Oh PyProof.Rows.boot_isinstance (aX (pv 3) (aX (Cj (aX (eX (v:=.ref a6) U TE.n6 U) (aX (eX (v:=.ref a5) U TE.n5 U) (aX (eX (v:=.ref a1) U TE.n1 U) (aX (eX (v:=.ref a7) U TE.n7 U) (aX (eX (v:=.ref a2) U TE.n2 U) (aX (eX (v:=.ref a0) U TE.n0 U) (aX (eX (v:=.ref a4) U TE.n4 U) dR)))))))) dR))))) (af (bS (DW.dt (mB (fw (vd 6)) (mB (jX (fw (GA (c:=.ref a3) (cv:=.ref a3) U tZ hD TE.t TE.k3 (dw (ue U (Pl a3)) U T.Oh PyProof.Rows.boot_isinstance (aX (pv 3) (aX (eX (v:=.ref a3) U TE.n3 U) dR)))))) (oa (jX (fw (GA (c:=.type "ValueError") (cv:=.ty "ValueError") U tZ hD TE.t TE.kV (dw (ue U (OT "ValueError")) U T.Oh PyProof.Rows.boot_isinstance (aX (pv 3) (aX (yz (v:=.ty "ValueError") U TE.ve PyProof.Rows.Boot.«ValueError» rfl) dR)))))))))) oo aK) (aj (aN (aQ (aa ak ae))))))))))),λds R h=>?_]
 .let(W,n,ps,k,l,rfl,_):=h
  rfl
 .let(W,n,ps,k,l,rfl,hh,q):=h;right;show#[show 5 < 7 by decide,W,n,ps,k,l,U,hh,?_]
  revert q
  cases j6 W k l with
  | none =>
   intro q;show#[U,U,λea=>?_];right;exact q
  | some v =>
   intro q;show Gz ?_;right;exact q
def Bd(L A B:Nat)(z:Str):Prop:=z.length<=L/\zW (cd z)<=A/\cR (cd z)<=B
noncomputable instance {L A B:Nat} {z:Str}:Decidable (Bd L A B z):=inferInstanceAs (Decidable (_/\_/\_))
theorem Bd.up{L A B L' A' B':Nat}{z:Str}(h:Bd L A B z)(h1:L<=L')(h2:A<=A')(h3:B<=B'):Bd L' A' B' z:=#[Wr h.1 h1,Wr h.2.1 h2,Wr h.2.2 h3]
theorem Bd.app{L A B L' A' B':Nat}{x y:Str}(h:Bd L A B x)(g:Bd L' A' B' y):Bd (L+L') (A+A') (B+B') (x++y):=by
 show#[by rw[XW];exact Nat.add_le_add h.1 g.1,?_,?_]
 .rw[ij];unfold zW;rw[List.countP_append];exact Nat.add_le_add h.2.1 g.2.1
 .rw[ij];unfold cR;rw[List.countP_append];exact Nat.add_le_add h.2.2 g.2.2
def CV:!Str:=[""," ","00","01","007","-1","+1","-0","1_0","1.0","1000000","0999999","999999","1e2","0x1"]
def Iu:!Str:=["()","[]","(1)","[1]","[1 0]","1.0()","[1.0]","1 "," 1"]
def Ie(x:Str):!Str:=CV++(Iu++[x++"\n","\n"++x])++[x++" "," "++x,x++x,x++",","("++x++")","["++x++"]",x++")"]
theorem EA{L A B:Nat}{x:Str}(h:Bd L A B x):∀ z∈Ie x,Bd (2 * L+10) (2 * A+10) (2 * B+3) z:=by
 have o1:∀ z∈CV++Iu,Bd 10 10 3 z:=by
  have:(CV++Iu).all (λz=>decide (Bd 10 10 3 z))=true:=by decide+kernel
  exact λz hz=>of_decide_eq_true (W5.mp this z hz)
 have s1:∀ (s:Str),Bd 1 0 1 s->Bd (2 * L+10) (2 * A+10) (2 * B+3) (x++s):=λs hs=>(h.app hs).up (by cbv) (by cbv) (by cbv);have s2:∀ (s:Str),Bd 1 0 1 s->Bd (2 * L+10) (2 * A+10) (2 * B+3) (s++x):=λs hs=>(hs.app h).up (by cbv) (by cbv) (by cbv);have s3:∀ (s t:Str),Bd 1 0 1 s->Bd 1 0 1 t->Bd (2 * L+10) (2 * A+10) (2 * B+3) (s++x++t):=λs t hs ht=>((hs.app h).app ht).up (by cbv) (by cbv) (by cbv);intro z hz;unfold Ie at hz;simp only[List.mem_append] at hz;rcases hz with (hz | hz | hz) | hz
 .exact (o1 z (W7 _ hz)).up (by cbv) (by cbv) (by cbv)
 .exact (o1 z (WR _ hz)).up (by cbv) (by cbv) (by cbv)
 .simp only[List.mem_cons,List.not_mem_nil,or_false] at hz;rcases hz with rfl | rfl
  .exact s1 _ (by decide+kernel)
  .exact s2 _ (by decide+kernel)
 .simp only[List.mem_cons,List.not_mem_nil,or_false] at hz;rcases hz with rfl | rfl | rfl | rfl | rfl | rfl | rfl
  .exact s1 _ (by decide+kernel)
  .exact s2 _ (by decide+kernel)
  .exact (h.app h).up (by cbv) (by cbv) (by cbv)
  .exact s1 _ (by decide+kernel)
  .exact s3 _ _ (by decide+kernel) (by decide+kernel)
  .exact s3 _ _ (by decide+kernel) (by decide+kernel)
  .exact s1 _ (by decide+kernel)
def RW(d:AC):YA:=λds R=>∃ (x:Str) (L A B:Nat),ds=[.cT d,.str x]/\(Bd L A B x/\L<=100000)/\∀ z,Bd (2 * L+10) (2 * A+10) (2 * B+3) z->R (.str z)
theorem Kr{d l:AC}(dZ:C4 P w K mg base bu ba 1 (cA K (aT d l) (gb d)))(F:Own K mg ji)(T:Txt K mg):C4 P w K mg base bu ji 2 (cA K (aT d l) (RW d)):=by
 show F.d (nos:=0) hV (λds R h=>?_) λf bq A outer s H E M hr=>?_
 .let(x,L,A,B,rfl,_):=h
  rfl
 have hb:aG dg=FV (aG dg) 0 (pS ((aG dg).getD 0 oQ)):=rfl;have ha:ou (pS ((aG dg).getD 0 oQ))=true:=rfl;have hz:ua (pS ((aG dg).getD 0 oQ))=CV:=rfl;have hl3:(pS ((aG dg).getD 0 oQ)).length=CV.length:=rfl;generalize pS ((aG dg).getD 0 oQ)=es at hb ha hz hl3;have hn:(es.length<=1000:Bool)=true:=by rw[hl3];decide
 rw[hb];show#[_,(af (sS 2 hV.nd (DN.de (aO (xS ha hz hl3) hn)))
 (af (sS 2 hV.nd (DN.de (eg cQ cO (vd 2) (DN.de (aO (aa ak (aa ak (aa ak (aa ak (aa ak (aa ak (aa ak (aa ak (aa ak (aa (a9 aB bp (vd 1) ak) (aa (a9 aB bp ak (vd 1)) ae))))))))))))))))
 (af (sS 2 hV.nd (DN.de (eg cQ cO (vd 2) (DN.de (aO (aa (a9 aB bp (vd 1) ak) (aa (a9 aB bp ak (vd 1)) (aa (a9 aB bp (vd 1) (vd 1)) (aa (a9 aB bp (vd 1) ak) (aa (a9 aB bp (a9 aB bp ak (vd 1)) ak) (aa (a9 aB bp (a9 aB bp ak (vd 1)) ak) (aa (a9 aB bp (vd 1) ak) ae))))))))))))
 (aj (aN (iz (vd 2) (aq hr dZ (aa (vd 0) (aa (gp T.len (aa (vd 2) ae)) ae))))))))),λds R h=>?_]
 let(x,L,A0,B,rfl,(hx,hL),q):=h;have hsz:=bA;have hxl:x.length<=100000:=Wr hx.1 hL;have a1:∀ s:Str,s.length=1->x.length+s.length<=FB:=λs h=>by cbv
 have a2:∀ s:Str,s.length=1->s.length+x.length<=FB:=λs h=>by cbv
 have a3:∀ s t:Str,s.length=1->t.length=1->(s++x).length+t.length<=FB:=λs t h h2=>by rw[XW];cbv
 right;show#[a1 _ U,?_];right;show#[a2 _ U,?_];right;show#[by change 15+11<=_;cbv,?_];right;show#[a1 _ U,?_];right;show#[a2 _ U,?_];right;show#[by cbv,?_];right;show#[a1 _ U,?_];right;show#[a2 _ U,?_];right;show#[a3 _ _ U U,?_];right;show#[a2 _ U,?_];right;show#[a3 _ _ U U,?_];right;show#[a1 _ U,?_];right;show#[by change 26+7<=_;cbv,?_];right;show#[#[by change (0:Int) < 33;decide,by change (33:Int) < _;decide],λr r0 r1=>?_];let(z,hz,ez):=lj (zs:=Ie x) r0 (by exact r1);exact#[_,_,_,U,U,ez,q z (EA hx z hz)]
theorem Bd.one(c:Nat):Bd 1 1 1 #[#v[c]]:=#[Wo _,Ys,Ys]
theorem Bd.sub{L A B:Nat}{t z:!Nat}(h:Bd L A B (aH t))(hs:z.Sublist t):Bd L A B (aH z):=#[by rw[bz];show Wr hs.length_le ?_;have:=h.1;rw[bz] at this;exact this,Wr hs.countP_le h.2.1,Wr (k8 hs) h.2.2]
def wA(c:Nat):Nat:=if c=40 then 91 else if c=41 then 93 else if c=91 then 40 else if c=93 then 41 else if c=44 then 32 else if c=32 then 44 else c
theorem xK(t:!Nat):zW (t.map wA)=zW t/\cR (t.map wA)=cR t:=by
 unfold zW cR;rw[List.countP_map,List.countP_map];show#[congrArg (λf=>List.countP f t) (funext λc=>?_),congrArg (λf=>List.countP f t) (funext λc=>?_)]
 .show bg (wA c)=bg c;unfold wA;by_cases h1:c=40
  .subst h1;rfl
  by_cases h2:c=41
  .subst h2;rfl
  by_cases h3:c=91
  .subst h3;rfl
  by_cases h4:c=93
  .subst h4;rfl
  by_cases h5:c=44
  .subst h5;rfl
  by_cases h6:c=32
  .subst h6;rfl
  rw[if_neg h1,if_neg h2,if_neg h3,if_neg h4,if_neg h5,if_neg h6]
 .show (decide (wA c=40)||decide (wA c=91))=(decide (c=40)||decide (c=91));unfold wA;by_cases h1:c=40
  .subst h1;rfl
  by_cases h2:c=41
  .subst h2;rfl
  by_cases h3:c=91
  .subst h3;rfl
  by_cases h4:c=93
  .subst h4;rfl
  by_cases h5:c=44
  .subst h5;rfl
  by_cases h6:c=32
  .subst h6;rfl
  rw[if_neg h1,if_neg h2,if_neg h3,if_neg h4,if_neg h5,if_neg h6]
theorem BF(c:Nat):(bM [(Sum.inr ("(":Str):Key),Sum.inr (")":Str),Sum.inr ("[":Str),Sum.inr ("]":Str),Sum.inr (",":Str),Sum.inr (" ":Str)] [D.str "[",.str "]",.str "(",.str ")",.str " ",.str ","] (Sum.inr (#[#v[c]]:Str))).getD (.str #[#v[c]])=.str #[#v[wA c]]:=by
 have k:∀ a:Nat,c≠a->¬ (Sum.inr (#[#v[a]]:Str):Key)=Sum.inr #[#v[c]]:=λa h z=>h (by
  have:=congrArg cd (Sum.inr.inj z);exact (List.cons.inj this).1.symm)
 by_cases h1:c=40
 .subst h1;rfl
 by_cases h2:c=41
 .subst h2;rfl
 by_cases h3:c=91
 .subst h3;rfl
 by_cases h4:c=93
 .subst h4;rfl
 by_cases h5:c=44
 .subst h5;rfl
 by_cases h6:c=32
 .subst h6;rfl
 unfold wA;rw[if_neg h1,if_neg h2,if_neg h3,if_neg h4,if_neg h5,if_neg h6];unfold bM;rw[if_neg (show ¬ (Sum.inr ("(":Str):Key)=Sum.inr #[#v[c]] from k 40 h1)];unfold bM;rw[if_neg (show ¬ (Sum.inr (")":Str):Key)=Sum.inr #[#v[c]] from k 41 h2)];unfold bM;rw[if_neg (show ¬ (Sum.inr ("[":Str):Key)=Sum.inr #[#v[c]] from k 91 h3)];unfold bM;rw[if_neg (show ¬ (Sum.inr ("]":Str):Key)=Sum.inr #[#v[c]] from k 93 h4)];unfold bM;rw[if_neg (show ¬ (Sum.inr (",":Str):Key)=Sum.inr #[#v[c]] from k 44 h5)];unfold bM;rw[if_neg (show ¬ (Sum.inr (" ":Str):Key)=Sum.inr #[#v[c]] from k 32 h6)]
 rfl
def SI(d:AC):YA:=λds R=>∃ t:!Nat,ds=[.cT d,.str (aH t)]/\(t≠[]/\Bd 1700 220 20 (aH t))/\∀ z,Bd 4000 500 49 z->R (.str z)
theorem Ls{d l:AC}(dZ:C4 P w K mg base bu ba 1 (cA K (aT d l) (gb d)))(R1:C4 P w K mg base bu ji 2 (cA K (aT d l) (RW d)))(F:Own K mg eU)(T:Txt K mg):C4 P w K mg base bu eU 3 (cA K (aT d l) (SI d)):=by
 show F.d (nos:=0) cz (λds R h=>?_) λf bq A outer s H E M hr=>#[_,(af (sS 2 cz.nd (aq hr dZ (aa (vd 0) (aa ai ae))))
 (af (sS 3 cz.nd (aq hr dZ (aa (vd 0) (aa (dQ cm jV U T.len Xi (aa (vd 1) ae)) ae))))
 (af (sS 4 cz.nd (rV iB oh ak (aq hr dZ (aa (vd 0) (aa ai ae))) (λ_ _=>rfl)))
 (af (bS (az xh mT (vd 2) ai (av _))
 (aj (aN (iz (DN.de (aO (aa (a9 aB bp (aY (vd 1) bw (aL (vd 3))) (aY (vd 1) (aL (a9 cw fN (vd 3) ai)) bw)) (aa (a9 aB bp (a9 aB bp (aY (vd 1) bw (aL (vd 3))) (vd 4)) (aY (vd 1) (aL (vd 3)) bw)) (aa (a9 aB bp (a9 aB bp (aY (vd 1) bw (aL (vd 3))) (vd 4)) (aY (vd 1) (aL (a9 cw fN (vd 3) ai)) bw)) ae))))) (vd 2))))
 aK)
 (af (bS (az aW cf (vd 2) ai (av _))
 (aj (aN (a9 aB bp (a9 aB bp (aY (vd 1) bw (aL (vd 3))) (rV iB oh (vd 1) (vd 3) (λ_ _=>rfl))) (aY (vd 1) (aL (vd 3)) bw))))
 aK)
 (af (bS (az aW cf (vd 2) ai (av _))
 (aj (aN (aY (vd 1) bw (aL (vd 3)))))
 aK)
 (af (bS (az aW cf (vd 2) ai (av _))
 (af (sS 5 cz.nd (DN.de (Dr [("(","["),(")","]"),("[","("),("]",")"),(","," "),(" ",",")] rfl (by decide+kernel) () ())) (hx:=Or.inr U))
 (aj (aN (tu ak (aa (DN.de (nC ["_law_one"] [5] (LC (vd 1)) (λ_ _ _ _=>(gM 0 ["_law_one","_law_other"])) (λ_ _ _ _=>du)
 (λ_ _ _ _=>(IY (AU (dm hr) (DE.pe (vd 1)) (DE.pe (vd 0)) (DE.pe (vd 0)) #[U,U,U,U]))))) ae)))))
 aK)
 (af (kI (qk (lX (i:=6) cz.nd U U (ts:=["_law_k"]) (us:=[1]) #[U,U,U,U,U,U] rfl (c6 U T.range (aa (dQ cm jV U T.len Xi (aa (vd 1) ae)) ae)) (λ_ _ _ _=>(gM 0 ["_law_k","_law_text_here"])) (λ_ _ _ _=>eK (az qi Gm (rV iB oh (vd 1) (vd 0) (λ_ _=>rfl)) ak U))
 (λ_ _ _ _=>(vd 0)))))
 (af (bS (DW.dt (gL (az aW cf (vd 2) ai (av _)) (eS (az kX mT (gp T.len (aa (vd 6) ae)) ai (av _)))))
 (af (sS 3 cz.nd (iz (vd 6) (aq hr dZ (aa (vd 0) (aa (gp T.len (aa (vd 6) ae)) ae)))))
 (aj (aN (a9 aB bp (a9 aB bp (aY (vd 1) bw (aL (vd 3))) (aq hr R1 (aa (vd 0) (aa ak ae)))) (aY (vd 1) (aL (a9 cw fN (vd 3) ai)) bw)))))
 aK)
 (aj (aN (aq hr R1 (aa (vd 0) (aa (vd 1) ae)))))))))))))),λds R h=>?_]
 .let(t,rfl,_):=h
  rfl
 let(t,rfl,(oJ,hb),q):=h;have hsz:=bA;have htl:t.length<=1700:=by have:=hb.1;rw[bz] at this;exact this
 have ht0:0 < t.length:=XZ.mpr oJ;have hz:(aH t).length<=FB:=by rw[bz];cbv
 have hT:∀ j,Bd 1700 220 20 (aH (t.take j)):=λj=>hb.sub (Xe _ _);have hD:∀ j,Bd 1700 220 20 (aH (t.drop j)):=λj=>hb.sub (XB _ _);have add:∀ {L A B L' A' B':Nat} {x y:Str},Bd L A B x->Bd L' A' B' y->L+L'<=100000->x.length+y.length<=FB:=λh1 h2 h3=>by have:=h1.1;have:=h2.1;cbv
 right;show#[#[by decide,by decide],λwy w0 w1=>?_];right;show#[hz,?_];rw[bz];right;show#[#[by cbv,by cbv],λat_ a0 a1=>?_];let(i,rfl):=W0 a0;have hi:i < t.length:=by cbv
 have s1:Txt.slice (aH t) none (some (i:Int))=aH (t.take i):=Bg;have s2:Txt.slice (aH t) (some (i:Int)) none=aH (t.drop i):=ip (by cbv);have s3:Txt.slice (aH t) (some ((i:Int)+1)) none=aH (t.drop (i+1)):=ip (i:=i+1) (by cbv);right;show#[#[by decide,by decide],λr r0 r1=>?_];obtain⟨ch,pK⟩:∃ ch,gR ("ab0 ()[],.-x9A_":Str).cps.toList r=some ch:=by
  let(j,rfl):=W0 r0;have hj:j < ("ab0 ()[],.-x9A_":Str).cps.toList.length:=by change j < 15;cbv
  exact#[_,eZ (j:=j) (Wy hj)]
 show#[_,_,_,U,U,by decide,pK,?_];have h1c:=Bd.one ch;have bT:=hT i;have bD:=hD i;have bE:=hD (i+1);right;show aI U (λe3=>?_) λe3=>?_
 .have e3:wy < 3:=of_decide_eq_true e3;right;show#[hz,?_];rw[s1];right;show#[hz,?_];rw[s3];show#[_,_,U,U,add bT bE (),?_];right;show#[hz,?_];rw[s1];right;show#[add bT h1c (),?_];right;show#[hz,?_];rw[s2];show#[_,_,U,U,add (bT.app h1c) bD (),?_];right;show#[hz,?_];rw[s1];right;show#[add bT h1c (),?_];right;show#[hz,?_];rw[s3];show#[_,_,U,U,add (bT.app h1c) bE (),?_];let(z,hzm,ez):=lj (zs:=[aH (t.take i)++aH (t.drop (i+1)),aH (t.take i)++#[#v[ch]]++aH (t.drop i),aH (t.take i)++#[#v[ch]]++aH (t.drop (i+1))]) w0 (by exact e3);show#[_,U,_,_,_,U,U,ez,q z ?_];simp only[List.mem_cons,List.not_mem_nil,or_false] at hzm;rcases hzm with rfl | rfl | rfl
  .exact (bT.app bE).up () () ()
  .exact ((bT.app h1c).app bD).up () () ()
  .exact ((bT.app h1c).app bE).up () () ()
 have three:∀ n:Int,decide (fv (D.int wy)=fv (D.int n))=decide (wy=n):=λn=>by
  show decide_eq_decide.mpr #[λh=>V.int.inj h,λh=>by rw[h]]
 right;show aI (three 3) (λe=>?_) λe=>?_
 .right;show#[hz,?_];rw[s1];have hat:gR (aH t).cps.toList (i:Int)=some t[i]:=eZ (j:=i) (Wy hi);show#[_,U,_,U,_,_,_,U,U,hz,hat,_,_,U,U,add bT (Bd.one t[i]) (),?_];right;show#[hz,?_];rw[s2];show#[_,_,U,U,add (bT.app (Bd.one t[i])) bD (),?_];exact q _ (((bT.app (Bd.one t[i])).app bD).up () () ())
 right;show aI (three 4) (λe=>?_) λe=>?_
 .right;show#[hz,?_];rw[s1];exact q _ (bT.up () () ())
 right;show aI (three 5) (λe=>?_) λe=>?_
 .right;show#[hz,?_];rw[show List.map D.str (R7 (aH t))=t.map λc=>D.str #[#v[c]] from WV];show cy (λc:Nat=>D.str #[#v[c]]) (λc=>D.str #[#v[wA c]]) t (λc hc k hk=>?_) ?_
  .rw[<- BF c] at hk;exact#[_,U,U,_,U,_,U,.inl #[_,_,_,U,U,hk _ U]]
  have hsum:∀ l:!Nat,((l.map λc=>(#[#v[wA c]]:Str)).map (·.length)).sum=l.length:=λl=>by
   induction l with
   | nil=>rfl
   | cons a r ih=>rw[Wu,Wu,XC,ih,Ws];exact Nat.add_comm _ _
  rw[WQ];show#[t.map λc=>#[#v[wA c]],by rw[WV];rfl,by rw[hsum];change _+_ * 0<=_;cbv,?_];have hj:=pj (t.map wA);rw[WV] at hj;show q _ ?_;have e1:cd (Txt.join ("":Str) (t.map λc=>(#[#v[wA c]]:Str)))=t.map wA:=hj;show#[by rw[<- gi,e1,Wk];cbv,?_,?_]
  .rw[e1,(xK t).1];exact Wr hb.2.1 ()
  .rw[e1,(xK t).2];exact Wr hb.2.2 ()
 right;show#[hz,?_];rw[bz];right;show#[#[by cbv,by cbv],?_];rw[show ee 0 ((t.length:Nat):Int).toNat=(List.range t.length).map λj:Nat=>D.int (j:Nat) from Yf λj _=>by rw[Int.zero_add]];show bj (λj:Nat=>D.int (j:Nat)) (λj:Nat=>D.int (j:Nat)) (λj=>bg (t.getD j 0)) _ (λj hj kk N h1 h2=>?_) ?_
 .have hj:j < t.length:=Xg.mp hj;have hat:gR (aH t).cps.toList (j:Int)=some (t.getD j 0):=eZ (j:=j) (by change t[j]?=_;rw[Wy hj,Yb,Wy hj];rfl);have hin:(not ((GE.Str.occurrences ("0123456789":Str) #[#v[t.getD j 0]] 0 ("0123456789":Str).length 1).isEmpty))=bg (t.getD j 0):=by have:=CF (t.getD j 0);rwa [gu] at this
  show#[_,U,_,U,_,_,_,U,U,hz,hat,_,_,U,U,_,U,?_];exact aI hin (λe=>#[_,U,h1 e _ U]) λe=>h2 e _ U
 rw[WQ];have z7:((List.range t.length).filter λj=>bg (t.getD j 0)).length<=1700:=Wr (Xh _ _) (by rw[XX];exact htl);have hfm:∀ j∈(List.range t.length).filter λj=>bg (t.getD j 0),j < t.length:=λj hj=>Xg.mp (Xs.mp hj).1;generalize (List.range t.length).filter (λj=>bg (t.getD j 0))=js at z7 hfm;have last:∀ z,Bd (2 * 1700+10) (2 * 220+10) (2 * 20+3) z->R (.str z):=λz h=>q z (h.up () () ());right;show aI (three 6) (λe=>?_) λe=>?_
 .right;rw[Wk];show aI U (λh0=>?_) λh0=>?_
  .have h0:(0:Int) < ((js.length:Nat):Int):=of_decide_eq_true h0;right;rw[Wk];show#[#[by cbv,by cbv],λr r0 r1=>?_];let(j,hjm,ej):=iS (f:=λj:Nat=>D.int (j:Nat)) (xs:=js) r0 r1;have hj:=hfm j hjm;show#[_,_,_,U,U,ej,?_];right;show#[hz,?_];rw[show Txt.slice (aH t) none (some (j:Int))=aH (t.take j) from Bg];show#[_,U,"1",1,1,0,U,#[by decide+kernel,by decide],λz hzb=>?_];show#[_,_,U,U,add (hT j) hzb (),?_];right;show#[hz,?_];rw[show Txt.slice (aH t) (some ((j:Int)+1)) none=aH (t.drop (j+1)) from ip (i:=j+1) (by cbv)];show#[_,_,U,U,add ((hT j).app hzb) (hD (j+1)) (),?_];exact q _ ((((hT j).app hzb).app (hD (j+1))).up () () ())
  .right;exact#[#[hb,by decide],last]
 .refine gq U ?_;right;exact#[#[hb,by decide],last]
theorem IL{p:Nat->Bool}{l:!Nat}(h:∀ c∈l,p c=false):l.countP p=0:=List.countP_eq_zero.mpr λc hc z=>by rw[h c hc] at z;cases z
theorem xP{c:Nat}(h:97<=c/\c<=122):bg c=false/\(decide (c=40)||decide (c=91))=false:=by
 unfold bg;rw[decide_eq_false (show ¬ c<=57 by cbv),decide_eq_false (show ¬ c=40 by cbv),decide_eq_false (show ¬ c=91 by cbv),Bool.and_false];exact#[U,U]
theorem ym(p:Nat->Bool)(b:Bool)(n:!Nat)(ts:!(!Nat))(Rc:p 32=false)(Om:p 44=false)(Vd:p 93=false)(Ug:p 41=false):(zY b n ts).countP p<=n.countP p+(ts.map (List.countP p)).sum+(if p (if b=true then 91 else 40)=true then 1 else 0):=by
 cases b with
 | true =>
  change (91::(cK 32 (n::ts)++[93])).countP p<=n.countP p+(ts.map (List.countP p)).sum+(if p 91=true then 1 else 0);rw[Ya,Yk,cnt_join p 32 Rc,Wu,XC,Ya,Vd,List.countP_nil,if_neg ()];cbv
 | false =>
  change (n++40::(cK 44 ts++[41])).countP p<=n.countP p+(ts.map (List.countP p)).sum+(if p 40=true then 1 else 0);rw[Yk,Ya,Yk,cnt_join p 44 Om,Ya,Ug,List.countP_nil,if_neg ()];cbv
theorem Hs{i:Int}(h0:0<=i)(h1:i < 1000000):(cY i).length<=6:=by
 have h:=qx h0 h1;unfold isNum at h;split at h
 .rename_i hl
  exact hl.2
 .cases h
mutual
theorem Nb{W:bZ}(w:fb W):∀ (v:Vl) {k:Str},VK W k v->zW v.T<=6 * nV v/\cR v.T<=v.th
 | .num i,k,h=>by
  let(_,h0,h1):=h;show#[?_,Yu (IL λc hc=>?_)]
  .have h2:=Hs h0 h1;have h3:=Ys (p:=bg) (l:=cd (cY i));rw[gi] at h3;exact Wr h3 (Wr h2 (by change _<=6 * 1;decide))
  .have:=nI (xN h0 c hc);rw[decide_eq_false (show ¬ c=40 by cbv),decide_eq_false (show ¬ c=91 by cbv)]
   rfl
 | .ir b n as,k,h=>by
  let(kd,hkd,m,hm,_,_,rfl,hs):=h;let(h1,h2):=FW w as hs;have lw:=(w.mo kd hkd m hm).1.1;have c1:(cd m.name).countP bg=0:=IL λc hc=>(xP (lw c hc)).1;have c2:(cd m.name).countP (λc=>decide (c=40)||decide (c=91))=0:=IL λc hc=>(xP (lw c hc)).2;have a1:=ym bg b (cd m.name) (d4 as) U U U U;have a2:=ym (λc=>decide (c=40)||decide (c=91)) b (cd m.name) (d4 as) U U U U;rw[c1] at a1;rw[c2] at a2;show#[?_,?_]
  .show (zY b (cd m.name) (d4 as)).countP bg<=6 * uo as;have:(if bg (if b=true then 91 else 40)=true then 1 else 0)=0:=by cases b<;>rfl
   cbv
  .show (zY b (cd m.name) (d4 as)).countP _<=1+lq as;show Wr a2 ?_;rw[Yx,Nat.add_comm];exact Nat.add_le_add (by split<;>decide) h2
theorem FW{W:bZ}(w:fb W):∀ (as:!Vl) {ks:!Str},zt W ks as->((d4 as).map (List.countP bg)).sum<=6 * uo as/\((d4 as).map (List.countP λc=>decide (c=40)||decide (c=91))).sum<=lq as
 | [],ks,h=>#[Wo _,Wo _]
 | v::r,ks,h=>by
  let(k,ks',rfl,h1,h2):=h;let(a1,a2):=Nb w v h1;let(b1,b2):=FW w r h2;have a1:v.T.countP bg<=6 * nV v:=a1;have a2:v.T.countP (λc=>decide (c=40)||decide (c=91))<=v.th:=a2;show#[?_,?_]
  .show v.T.countP bg+((d4 r).map (List.countP bg)).sum<=6 * (nV v+uo r);cbv
  .show v.T.countP _+((d4 r).map _).sum<=v.th+lq r;cbv
end
theorem Rh{W:bZ}(w:fb W)(v:Vl){k:Str}(h:VK W k v):v.T≠[]:=by
 cases v with
 | num i =>
  intro z;have:=rO h.2.1;rw[show cd (cY i)=[] from z] at this;exact absurd this ()
 | ir b n as =>
  intro z;have z:zY b (oB n) (d4 as)=[]:=z;unfold zY at z;cases b with
  | true=>cases z
  | false =>
   rw[if_neg ()] at z;exact absurd (congrArg List.length z) (by rw[List.length_append,List.length_cons];simp)
theorem Js{W:bZ}(w:fb W){v:Vl}{k:Str}(h:VK W k v)(h1:v.th<=20)(h2:nV v<=36):Bd 1700 220 20 (aH v.T)/\v.sz<=400/\v.dp<=20:=by
 let(a1,a2):=Nb w v h;have a3:=Fx v (EJ w v h);have a4:=Ff v;have a5:=(FA v (EJ w v h)).2.2;show#[#[by rw[bz];cbv,?_,?_],by cbv,by cbv]
 .show zW v.T<=220;cbv
 .show cR v.T<=20;cbv
theorem Gy{W:bZ}(w:fb W){v:Vl}{k:Str}(h:VK W k v):j6 W k v.T=some v:=by
 have e:=CP w v (n:=cR v.T+v.dp+1) (r:=[]) h (by cbv) (λc r' z=>nomatch z);rw[WH] at e;unfold j6;rw[gA (m:=cR v.T+v.dp+1) (X6 _) (by cbv),e]
 rfl
theorem BJ{W:bZ}(w:fb W)(k:Str){l:!Nat}(hl:cR l < 50):mU (sv (j6 W k l))=true/\uF (sv (j6 W k l))<=150:=by
 unfold j6;rw[gA (m:=50) (X6 _) hl];cases h:cJ W 50 k l with
 | none=>exact#[by decide+kernel,by decide+kernel]
 | some q =>
  let(h1,h2):=CY h;let(a1,a2):=Fh w q.1 h1;change mU (sv (if q.2=[] then some q.1 else none))=true/\uF (sv (if q.2=[] then some q.1 else none))<=150;split
  .refine#[?_,?_]
   .show (GM.strOk "read"&&(mU (vD q.1)&&true))=true;rw[a1,show GM.strOk "read"=true by decide+kernel];rfl
   .show max 0 (max (toP (vD q.1)).depth 0)+1<=150;cbv
  .exact#[by decide+kernel,by decide+kernel]
end
section
variable{P:Fa}{w:FS}{K:Frag}{mg:Str->Option AT}{base:Ev}
theorem rY:aw ["_law_deal_here","_law_many","_law_number_here","_law_one","_law_other"] ["_law_deal_here","_law_many"] (ag nT):=gX
theorem Jk(F:Own K mg ba)(T:Txt K mg):C4 P w K mg base bu ba 1 cP.vL:=by
 show F.c λf fd F=>?_;show cP.Dw F rY λbq A outer s H E hu=>?_;exact bP (uZ PassesOwn.never (PW.pt (pw_and (hJ aW (bx hu (pv 0) cD (λ_ _=>rfl)) bH (av _)) (pw_and1 (hJ kX (dw eT U T.len Xi (aX (bx hu (pv 0) cD (λ_ _=>rfl)) dR)) bH (av _)))))
   (eh (nj hu (pv 0) cD (Bo X0 Xp Xq tL (bx hu (pv 0) cD (λ_ _=>rfl))) U)))
  (bP (eM (i:=2) rY.nd U (Or.inl U) (bx hu (pv 0) cD (λ_ _=>rfl)))
  (bP (Cz (hJ kX (pv 2) bH (av _)) (bP (nj hu (pv 0) cD (cX d5 (pv 2) (pv 1)) U) (eh (iW (cX gk (pv 2) (pv 1))))) nB)
  (bP (eM (i:=3) rY.nd U (Or.inl U) (cX gk (cX cw (cX i8 (bx hu (pv 0) cD (λ_ _=>rfl)) bH) bH) bH))
  (bP (nj hu (pv 0) cD (cX gk (cX cw (cX i8 (pv 3) bH) bH) bH) U)
  (bP (eM (i:=4) rY.nd U (Or.inl U) (cX gk (cX i8 (bx hu (pv 0) cD (λ_ _=>rfl)) (bx hu (pv 0) cD (λ_ _=>rfl))) bH))
  (eh (iW (cX gk (cX cw (cX i8 (cX gk (cX i8 (pv 3) (pv 3)) bH) bH) (pv 4)) (pv 1)))))))))
theorem oG:aw ["_law_script","_law_base","_law_some","_law_number_here","_law_one"] ["_law_script","_law_base"] (ag oj):=gX
theorem RZ:(["_law_one"]:!Str).Nodup:=by decide+kernel
theorem HB(F:Own K mg ig)(T:Txt K mg):C4 P w K mg base bu ig 1 (cP.w6 K):=by
 show F.c λf fd F=>?_;show cP.Ew F oG λbq A outer s H E=>?_;exact bP (yg (ts:=["_law_one"]) (us:=[]) (i:=2) oG.nd U U #[U,U,U,U,U,U] rfl (so (i3 sR (pv 0) (nE (pv 1)) (nE bH))) (λ_ _ _ _=>er (i:=0) RZ U (Or.inl U)) (λ_ _ _ _=>sE)
   (λ_ _ _ _=>dw (lC U) U T.max PyProof.Rows.boot_max (aX (pv 0) (aX (cX jP bH (pv 0)) dR))))
  (bP (eM (i:=3) oG.nd U (Or.inl U) (cX cw bH (pv 1)))
  (bP (Bq PassesOwn.never U (so (pv 2)) (er (i:=4) oG.nd U (Or.inl U)) (eh (eM (i:=3) oG.nd U (Or.inl U) (cX gk (cX cw (cX i8 (pv 3) bH) (cX gk (pv 4) bH)) bH))))
  (eh (iW (xk (kE cD (pv 3) (kE cD bH (kE cD (wa U U T.list U T.rev
   (sA (ts:=["_law_one"]) (us:=[]) #[U,U,U,U,U,U] rfl (so (pv 2)) (λ_ _ _ _=>er (i:=0) RZ U (Or.inl U)) (λ_ _ _ _=>xa (hJ FT (pv 0) (cX HU bH bH) (av _))) (λ_ _ _ _=>pv 0))) yC))) U U (by simp) ())))))
theorem Hw(dZ:∀ d l,C4 P w K mg base bu ba 1 (cA K (aT d l) (gb d)))(U9:∀ d l,C4 P w K mg base bu fT 4 (cA K (aT d l) (Tv d)))(Uu:∀ d l,C4 P w K mg base bu eD 10 (cA K (aT d l) (Sw d 1)))(Pr:∀ d l,C4 P w K mg base bu fW 18 (cA K (aT d l) (SY d 16)))(Vz:∀ d l,C4 P w K mg base bu eU 3 (cA K (aT d l) (SI d)))(GH:aa0 P w K mg base dj 1 Ol)(Pt:aa0 P w K mg base g8 23 (Tb 22))(Ql:aa0 P w K mg base gY 6 SX)(TU:aa0 P w K mg base jt 54 (Ts 50))(GL:C4 P w K mg base bu ig 1 (cP.w6 K)){f:AC}{fd:Gc}(F:ny K "law" "law" kR f fd)(T:Txt K mg):bY P w K mg base bu 126 f fd ["_law_script"] (yj K):=by
 let(fL,Ob,GL,FL,mL,bL):=GL;show F.ok eB (λvs H Q E h=>?_) (λbq A outer s H vs Q E hr h=>?_)
 .let(a,ns,rfl,_):=h
  rfl
 .let(a,ns,rfl,hS,hlen,k):=h;have hrL:bU 1 _:=hr.mono ();show#[_,(bP (eM (i:=1) eB.nd U (Or.inl U) (jb GL hrL U mL FL.kp bL .nil pz (aX (pv 0) (aX bH dR)))) (B4 (F:=nP K a (ns.map V.int)) λd l M0 H0 fS=>(af (sS 2 eB.nd (aq hr (U9 d l) (aa (vd 1) (aa ai (aa GW ae)))))
 (af (sS 3 eB.nd (aq hr (Uu d l) (aa (vd 1) (aa (vd 2) (aa ai ae)))))
 (af (sS 4 eB.nd (DN.de (eg cQ cO (DN.de (nC ["_law_one"] [] (b8 (bh hr GH (aa (vd 2) ae))) (λ_ _ _ _=>(gM 0 ["_law_one"])) (λ_ _ _ _=>du)
 (λ_ _ _ _=>(fM (vd 0) ai)))) (DN.de (aO (aa ak ae))))))
 (af (sS 5 eB.nd (DN.de (eg cQ cO (DN.de (nC ["_law_one"] [] (b8 (eQ (bx (dm hr) (DE.pe (vd 2)) (DE.pe ak) (λ_ _=>rfl)))) (λ_ _ _ _=>(gM 0 ["_law_one"])) (λ_ _ _ _=>du)
 (λ_ _ _ _=>(fM (vd 0) ai)))) (DN.de (aO (aa ak ae))))))
 (af (sF (c6 U T.range (aa (a9 cw fN ai (Ki fS U (dw eT U T.len Xi (aX (i3 sR (pv 0) yk (nE bH)) dR)))) ae)) (gN 6 eB.nd)
 (af (sS 7 eB.nd (iz (vd 4) (aq hr (dZ d l) (aa (vd 1) (aa (gp T.len (aa (vd 4) ae)) ae)))))
 (af (sS 8 eB.nd (aq hr (Pr d l) (aa (vd 1) (aa (vd 2) (aa (vd 7) (aa (iz (DN.de (aO (aa ai (aa ai ae)))) (aq hr (dZ d l) (aa (vd 1) (aa ai ae)))) ae))))))
 (af (sS 9 eB.nd (bh hr Pt (aa (vd 8) ae)))
 (af (sS 10 eB.nd (vd 7))
 (af (bS (az aW cf (aq hr (dZ d l) (aa (vd 1) (aa ai ae))) ai (av _))
 (aj (sS 10 eB.nd (iz (vd 5) (aq hr (dZ d l) (aa (vd 1) (aa (gp T.len (aa (vd 5) ae)) ae))))))
 aK)
 (af (sS 11 eB.nd (iz (DN.de (aO (aa (aq hr (Vz d l) (aa (vd 1) (aa (vd 9) ae))) (aa (vd 9) ae)))) (bB cH fq U T.int (by decide+kernel) (aa (gG uP Dz (vd 10) (vd 7) (av _)) ae))))
 (af (bS (az (sJ (oZ hr)) qt (bh hr Ql (aa (vd 3) (aa (vd 10) (aa (vd 11) ae)))) (bh hr TU (aa (vd 2) (aa (vd 10) (aa (vd 11) ae)))) (av _))
 (aj (aN GW))
 aK)
 (aj (bS (az (sJ (oZ hr)) qt (bh hr Ql (aa (vd 3) (aa (vd 7) (aa (vd 9) ae)))) (aQ (aa ak (aa (vd 8) ae))) (av _))
 (aj (aN GW))
 aK))))))))))
 (aj (aN (gG (vR (oZ hr)) qt (bh hr Ql (aa (vd 3) (aa (iz (eQ (bx (dm hr) (DE.pe (vd 2)) (DE.pe ak) (λ_ _=>rfl))) ai) (aa ak ae)))) (aQ (aa ak ae)) (av _))))))))))),?_]
  show#[_,U,a,ns,0,U,hS,hlen,by decide,by decide,λd l H1 hd hl D1 s1=>?_];show Ef (n:=10) (nos:=0) (a:=a) (nP.of hS hd hl s1) D1 U U U ?_ k;have hsz:=bA;right;show#[#[by decide,by decide],λws ks lW JB hwm vx=>?_];have bG:=vx.bG false lW JB hwm;have hnv:=vx.LV lW JB;right;show#[#[#[bG,U],by decide,by decide,by decide],λps hps has=>?_];have htl:(things (b5 ws ks false)).length<=5:=Wr (Xh _ _) bG.kl;have hal:(b5 ws ks false).kinds.length<=5:=bG.kl;have hK:∀ k0∈(things (b5 ws ks false)).map Kd.name++[("number":Str)],qz (b5 ws ks false) k0:=λk0 hx=>by
   rcases WS.mp hx with hx | hx
   .let(kd,hkd,rfl):=WO.mp hx;let(h1,h2):=Xs.mp hkd;exact .inr #[kd,h1,(λz=>by rw[z] at h2;cases h2),U]
   .exact .inl (WA.mp hx)
  have hA:∀ k0∈(b5 ws ks false).kinds.map Kd.name++[("number":Str)],k0="number"\/∃ kd∈(b5 ws ks false).kinds,kd.name=k0:=λk0 hx=>by
   rcases WS.mp hx with hx | hx
   .let(kd,hkd,rfl):=WO.mp hx;exact .inr #[kd,hkd,U]
   .exact .inl (WA.mp hx)
  have hkA:∀ k0,qz (b5 ws ks false) k0->k0="number"\/∃ kd∈(b5 ws ks false).kinds,kd.name=k0:=λk0 h=>by
   rcases h with h | ⟨kd,h1,_,h2⟩
   .exact .inl h
   .exact .inr #[kd,h1,h2]
  have e8:(jU (ns.map V.int) none (some 8)).length<=63:=by
   unfold jU;rw[Xc,WY,Wk];cbv
  right;show#[bG,?_];right;show cy l6 (λkd:Kd=>D.str kd.name) _ (λkd hkd k' hk=>?_) ?_
  .right;exact hk _ U
  rw[WQ];right;show#[by rw[Wk];change _+1<=_;cbv,?_];show#[_,U,?_];show c9 #[_,U,_,.inl U,?_];show cy l6 (λkd:Kd=>D.str kd.name) _ (λkd hkd k' hk=>?_) ?_
  .right;exact hk _ U
  rw[WQ];right;show#[by rw[Wk];change _+1<=_;cbv,?_];rw[show (things (b5 ws ks false)).map (λkd:Kd=>D.str kd.name)++[D.str "number"]=((things (b5 ws ks false)).map Kd.name++[("number":Str)]).map D.str by rw[Wv,WV];rfl,show (b5 ws ks false).kinds.map (λkd:Kd=>D.str kd.name)++[D.str "number"]=((b5 ws ks false).kinds.map Kd.name++[("number":Str)]).map D.str by rw[Wv,WV];rfl];have hKl:0 < ((things (b5 ws ks false)).map Kd.name++[("number":Str)]).length/\((things (b5 ws ks false)).map Kd.name++[("number":Str)]).length<=6:=by rw[Wm,Wk];change 0 < _+1/\_+1<=6;cbv
  have hAl:0 < ((b5 ws ks false).kinds.map Kd.name++[("number":Str)]).length/\((b5 ws ks false).kinds.map Kd.name++[("number":Str)]).length<=6:=by rw[Wm,Wk];change 0 < _+1/\_+1<=6;cbv
  generalize (things (b5 ws ks false)).map Kd.name++[("number":Str)]=K1 at hK hKl;generalize (b5 ws ks false).kinds.map Kd.name++[("number":Str)]=K2 at hA hAl;generalize (jU (ns.map V.int) none (some 8)).length=n8 at e8;right;show#[#[by cbv,by cbv],?_];show dq (λxs s=>∃ x6 x7 x8 x9 iM ff:Sl,(x6.pl=true/\x7.pl=true/\x8.pl=true/\x9.pl=true/\iM.pl=true/\ff.pl=true)/\s=#[[.dat (.cT a),.dat (.cT d),.dat (j5 (b5 ws ks false)),.dat (.tup (ps.map pN)),.dat (.lst (K1.map D.str)),.dat (.lst (K2.map D.str)),x6,x7,x8,x9,iM,ff],[]]) ?_ ?_ _ _ #[.no,.no,.no,.no,.no,.no,#[U,U,U,U,U,U],U]
  .rintro s ⟨x6,x7,x8,x9,iM,ff,_,rfl⟩;obtain⟨x0,r0,hv0⟩:∃ x0 r0,(b5 ws ks false).vars=x0::r0:=List.exists_cons_of_length_pos (by rw[bG.vl];decide);have hx0:x0∈(b5 ws ks false).vars:=by rw[hv0];exact Wt
   have hnn:x0≠"number":=λz=>by
    have:=bG.nm x0 (WR _ hx0);rw[z] at this;exact absurd this (by decide+kernel)
   have hno:j6 (b5 ws ks false) x0 [49]=none:=by
    have hfn:(b5 ws ks false).kinds.find? (λkd=>decide (kd.name=x0))=none:=List.find?_eq_none.mpr λkd hkd z=>hnv x0 hx0 kd hkd (of_decide_eq_true z);unfold j6;rw[cJ,if_neg hnn,hfn]
    rfl
   show#[_,U,_,U,?_];show qF #[_,U,_,_,_,U,U,by rw[hv0];exact bQ,?_];show#[_,_,ps,x0,[49],U,#[hps,has,by decide,by decide],?_];rw[hno];show#[#[by decide+kernel,by decide+kernel,.inl (by decide+kernel)],?_];exact congrArg D.bl (oC _)
  .rintro x xs s E2 ⟨x6,x7,x8,x9,iM,ff,_,rfl⟩ hN hE;right;rw[Wk];show#[#[by cbv,by cbv],λr r0 r1=>?_];let(k0,hk0,ek0):=lj (zs:=K1) r0 r1;show#[_,_,_,U,U,ek0,?_];have hk0:=hK k0 hk0;right;show#[#[by decide,by decide],λr r0 r1=>?_];obtain⟨rm,erm,rm0,rm1⟩:∃ rm:Int,gR [D.int 3,D.int 12] r=some (.int rm)/\0<=rm/\rm<=12:=by
    have:r=0\/r=1:=by cbv
    rcases this with rfl | rfl
    .exact#[3,bQ,by decide,by decide]
    .exact#[12,jj,by decide,by decide]
   show#[_,_,_,U,U,erm,?_];show#[_,k0,rm,U,#[bG,hk0,.inr #[rm0,by change rm+1<=15;cbv],rm1],λv hv hvs=>?_];have hb4:=rA rm.toNat (by cbv);let(hbd,hsz4,hdp):=Js bG hv (Wr hvs.1 hb4.2.2.1) (Wr hvs.2.1 hb4.2.2.2);have oJ:=Rh bG v hv;show#[_,U,_,k0,v,U,#[bG,hv,hsz4,by cbv],?_];right;show#[#[by decide,by decide],λr r0 r1=>?_];show#[#[U,U,U],_,U,?_];refine' jn (C:=∀ k2:Str,(k2="number"\/∃ kd∈(b5 ws ks false).kinds,kd.name=k2)->(?G:Str->Prop) k2) ?hrest λhrest=>?main
   case main =>
    show aI U (λ_=>?_) λ_=>?_
    .right;rw[Wk];show#[#[by cbv,by cbv],λr r0 r1=>?_];let(k2,hk2,ek2):=lj (zs:=K2) r0 r1;show#[_,_,_,U,U,ek2,?_];exact hrest k2 (hA k2 hk2)
    .exact hrest k0 (hkA k0 hk0)
   case hrest =>
    intro k2 hk2;show#[_,U,_,U,v.T,U,#[oJ,hbd],λz hz=>?_];obtain⟨y,hy,ey⟩:∃ y:Str,Bd 4000 500 49 y/\gR [D.str z,LA v] (if (not (decide (fv (D.str k2)=fv (D.str k0))))=true then 1 else 0)=some (.str y):=by
     split
     .exact#[aH v.T,hbd.up () () (),jj]
     .exact#[z,hz,bQ]
    right;show#[ey,?_];have ecy:D.str y=D.str (aH (cd y)):=by rw[gu]
    have yB:Ex (cd y) 50:=#[by rw[gi];exact hy.1,hy.2.1,by have:=hy.2.2;cbv];let(d1,d2):=BJ bG k2 yB.2.2;rw[ecy];right;show#[#[hps,has,yB.1,yB.2.1],?_];show#[_,U,_,U,_,U,_,k2,cd y,U,#[bG,hk2,yB],?_];show#[#[d1,d1,.inl d2],_,U,gq (by rw[oC];rfl) ?_];have hyv:Ex v.T 50:=#[Wr (by have:=hbd.1;rw[bz] at this;exact this) (),Wr hbd.2.1 (),XI hbd.2.2 ()];let(c1,c2):=BJ bG k0 hyv.2.2;rw[Gy bG hv] at c1 c2;show#[_,U,_,U,_,U,_,_,ps,k0,v.T,U,#[hps,has,hyv.1,hyv.2.1],?_];rw[Gy bG hv];show#[_,U,#[c1,c1,.inl c2],_,U,gq (by change (not (FX (sv (some v)) (sv (some v))))=false;rw[oC];rfl) ?_];exact hN _ #[_,_,_,_,_,_,#[U,U,U,U,U,U],U]
structure Cl(K:Frag)(C:AC)(up:!AT):Prop where
 mro:∃ cd,PySem.W.clsIn K C=some cd/\cd.mro=.ref C::up
 ty:typeIn K (.ref C)=some (.type "type")
theorem Cl.sub{K:Frag}{C:AC}{up:!AT}(c:Cl K C up)(b:AT):PySem.W.subIn K (.ref C) b=some ((AT.ref C::up).contains b):=by
 let(cd,h1,h2):=c.mro;change PySem.W.mroIn K C b=_;unfold PySem.W.mroIn;rw[h1,Option.bind_some,h2,if_neg (by simp)]
theorem Cl.LZ{K:Frag}{C D:AC}{up JV:!AT}(c:Cl K C up)(d:Cl K D JV):PySem.W.kitCls K (.ref C) (.ref D)=some ((AT.ref C::up).contains (.ref D)):=by
 let(cd,h1,h2):=d.mro;change (if ((PySem.W.clsIn K D).isSome&&typeIn K (.ref D) == some (.type "type"))=true then PySem.W.subIn K (.ref C) (.ref D) else none)=_;rw[h1,d.ty,if_pos (by simp),c.sub]
theorem Cl.V0{K:Frag}{C D:AC}{up JV:!AT}(c:Cl K C up)(d:Cl K D JV)(hb:(AT.ref D::JV).contains (.type "BaseException")=true):PySem.W.exmOne K (.ref C) (.ref D)=some ((AT.ref C::up).contains (.ref D)):=by
 unfold PySem.W.exmOne;rw[d.sub,hb,if_pos (by simp),c.LZ d]
theorem Cl.Sh{K:Frag}{C D:AC}{up JV:!AT}(c:Cl K C up)(d:Cl K D JV):kitOne K (.ref C) (.ref D)=some ((AT.ref C::up).contains (.ref D)):=by
 unfold kitOne;by_cases h:(AT.ref C == AT.ref D)=true
 .have e:C=D:=AT.ref.inj (beq_iff_eq.mp h);subst e;rw[if_pos h];simp
 .rw[if_neg h,c.LZ d]
theorem wI:PySem.W.kitMeta "ValueError"=true:=by decide+kernel
theorem Cl.QI{K:Frag}{C:AC}{up:!AT}(c:Cl K C up)(h:(AT.ref C::up).contains (.type "ValueError")=true):kitOne K (.ref C) (.type "ValueError")=some true:=by
 unfold kitOne;rw[if_neg (by simp)];change (if PySem.W.kitMeta "ValueError"=true then PySem.W.subIn K (.ref C) (.type "ValueError") else none)=_;rw[wI,if_pos U,c.sub,h]
theorem lb{l:!AC}(h:l.Nodup){i j:Nat}{x y:AC}(hi:l[i]?=some x)(hj:l[j]?=some y)(Si:i≠j):x≠y:=λe=>by
 subst e;let(h1,e1):=Wn.mp hi;let(h2,e2):=Wn.mp hj;exact Si ((X5 h).mp (e1.trans e2.symm))
theorem Lz{C S D:AC}(h1:C≠D)(h2:S≠D):(AT.ref C::AT.ref S::jJ).contains (.ref D)=false:=by
 simp[jJ,Ne.symm h1,Ne.symm h2]
theorem isIn{C S:AC}:(AT.ref C::AT.ref S::jJ).contains (.ref C)=true:=by simp
theorem Rj{C S:AC}:(AT.ref C::AT.ref S::jJ).contains (.ref S)=true:=by simp
theorem Rk{C S:AC}:(AT.ref C::AT.ref S::jJ).contains (.type "ValueError")=true:=by simp[jJ]
theorem KL{S:AC}:(AT.ref S::jJ).contains (.type "BaseException")=true:=by simp[jJ]
theorem GB{K:Frag}{C S:AC}{nm q:Str}{N:AC}{bs:!AT}{sn:!Str}{sub:!AT}{ab:Bool}{col:Option Bool}{dd:Option AC}{k0 k1 k2 k3 k5:Option AT}(l:K.lookup C=some (excClassObj nm q C N bs (.ref S::jJ) true sn sub ab col dd k0 k1 k2 k3 k5 "ValueError.__new__"))(t:typeIn K (.ref C)=some (.type "type")):Cl K C (.ref S::jJ):=by
 show#[#[{ name:=nm,bases:=bs,mro:=.ref C::.ref S::jJ,ns:=N,qualname:=q,hasDict:=true,slotNames:=sn,subclasses:=sub,abstract:=ab,collection:=col,hasDel:=false },?_,U],t]
 .unfold PySem.W.clsIn;rw[l]
abbrev i5:FM:=inClass (top 5) 0
theorem Vp:aw ["self"] ["self"] (ag i5):=#[U,U,U,by decide+kernel,U,by decide+kernel,by decide+kernel]
theorem Kw{S C f:AC}{fd:Gc}(F:ny K "__init__" "NoValue.__init__" i5 f fd)(B:Gd K S)(hS:mg "SideError"=some (.ref S))(x:ExC K C):bY P w K mg base bu 1 f fd ["self"] (He C):=by
 show F.ok Vp (λvs H Q E h=>?_) (λbq A outer s H vs Q E hr h=>?_)
 .let(ea,rfl,_):=h
  rfl
 .let(ea,rfl,e,q):=h;show#[_,eh (xT (Ae B U hS (aX (pv 0) dR))),?_];exact#[_,U,ea,_,_,_,_,U,e,x,by decide,q]
theorem HC{S C D:AC}(c:Cl K C (.ref S::jJ))(d:Cl K D (.ref S::jJ))(h1:C≠D)(h2:S≠D):kitOne K (.ref C) (.ref D)=some false:=(c.Sh d).trans (congrArg some (Lz h1 h2))
theorem xD{S C:AC}(c:Cl K C (.ref S::jJ)):∀ {ds:!AC},(∀ d∈ds,Cl K d (.ref S::jJ)/\C≠d/\S≠d)->kitAny K (.ref C) (ds.map AT.ref)=some false
 | [],_=>rfl
 | d::ds,h=>by
  let(h1,h2,h3):=h d Wt;change (match kitOne K (.ref C) (.ref d) with | some true=>some true | some false=>kitAny K (.ref C) (ds.map AT.ref) | none=>none)=_;rw[HC c h1 h2 h3];exact xD c λx hx=>h x (Wq _ hx)
end
theorem all_mk{l:PySem.W.OpenLaw}{w:FS}{K:Frag}{h:Ev}{mg:Str->Option AT}{fa C S PB a0 N0 a1 N1 a2 N2 a3 N3 a4 N4 a5 N5 a6 N6 a7 N7 QM Ot NU Oj Oq fx:AC}{tm:Tok}(X:K.In h)(G:h.Ns GT mg)(Vj:mg "law"=some (.ref fa)){cS cN:AT}{dS dN:Option AC}{F1:ClassData}{NS Oa:Array (Option AT)}{es:Array Sc}{ep:Nat}{O9 KU Pj Qb Q4 Ro Ph QL QH Q9 Ua U7:Option AC}{QN OU Qx Qc PQ Us:Array (Option AT)}{Qu Lk Nk Md HY KG RJ O0 Rg OL Nr OF PN Qf OO RI LY QB P6 PX QR Ru ND Pf Qk Q0 O4 OY Nq Pp UX VZ UT TR SV ctx:AT}{VT q0 Ur q1 U3 q2 Qy q3 UK q4 NX q5 MW q6 TL q7:Str}{U5 PR U6 Rm UN QY V6 OM T9 QG UG QS Vu RA Ui RB:!AT}{Va TQ UJ TK Vq US Uv Ue:!Str}{Uk V1 Uh Um Ut Vw UC Vg:Bool}{Qm O7 P5 Rf P0 Qg Rt RG:Option Bool}{Wa Tz Uc Vk UI Uz Vh VS:Option AC}{VU Up Uo TN VN Tw TZ Vy VP TC UM VI Vs TV VB U0 UW VM Vc Uq TM Uy Ul VL V7 TH TF VX V3 VQ UY UO TB VD VF VC Vx Ud V9 U4:Option AT}(Sk:Own K mg gd)(Te:Own K mg dH)(R4:Own K mg fU)(RV:Own K mg ju)(Tq:Own K mg oR)(To:Own K mg iA)(Su:Own K mg eF)(Sa:Own K mg d7)(Tn:Own K mg eY)(R9:Own K mg eE)(Sx:Own K mg fc)(R5:Own K mg ig)(S0:Own K mg ba)(SF:Own K mg fP)(S5:Own K mg f9)(S8:Own K mg fQ)(S9:Own K mg dj)(Sm:Own K mg fX)(JU:Own K mg ik)(LX:Own K mg gE)(MJ:Own K mg jd)(NL:Own K mg jR)(KP:Own K mg lr)(JN:Own K mg fA)(RT:Own K mg fT)(Tf:Own K mg f7)(R8:Own K mg eD)(Sz:Own K mg g8)(Sd:Own K mg fW)(SW:Own K mg fo)(SH:Own K mg fe)(RO:Own K mg ia)(SD:Own K mg jt)(Sn:Own K mg gY)(S7:Own K mg ji)(S4:Own K mg eU)(QP:nsIn K GT "law"=some (some (.ref QM)))(O5:K.lookup QM=some #[Qu,O9,.func (fnOf "law" "law" (dk kR) (aG kR) (ag kR) .none Lk Nk Md KU HY KG),QN])(Qn:codeIn K HY "law"=true)(Rz:keepIn K (.ref QM)=true)(aC:nsIn K GT "ValueRead"=some (some (.ref C)))(Ij:findIn K (.ref C) "__init__"=some (some (.ref Ot)))(OX:K.lookup Ot=some #[RJ,Pj,.func (fnOf "__init__" "ValueRead.__init__" (dk fh) (aG fh) (ag fh) .none O0 Rg OL Qb Nr OF),OU])(OG:codeIn K Nr "ValueRead.__init__"=true)(O6:keepIn K (.ref Ot)=true)(HK:PySem.W.isFn K (.ref Ot)=true)(Ju:findIn K (.ref C) "plan"=some (some (.ref NU)))(OZ:K.lookup NU=some #[PN,Q4,.func (fnOf "plan" "ValueRead.plan" (dk fi) (aG fi) (ag fi) .none Qf OO RI Ro LY QB),Qx])(Qw:codeIn K LY "ValueRead.plan"=true)(NT:keepIn K (.ref NU)=true)(GP:PySem.W.isFn K (.ref NU)=true)(ID:findIn K (.ref C) "need_sign"=some (some (.ref Oj)))(Rn:K.lookup Oj=some #[P6,Ph,.func (fnOf "need_sign" "ValueRead.need_sign" (dk cE) (aG cE) (ag cE) .none PX QR Ru QL ND Pf),Qc])(Q7:codeIn K ND "ValueRead.need_sign"=true)(Oz:keepIn K (.ref Oj)=true)(Hn:PySem.W.isFn K (.ref Oj)=true)(G9:findIn K (.ref C) "take_word"=some (some (.ref Oq)))(Q8:K.lookup Oq=some #[Qk,QH,.func (fnOf "take_word" "ValueRead.take_word" (dk cG) (aG cG) (ag cG) .none Q0 O4 OY Q9 Nq Pp),PQ])(QJ:codeIn K Nq "ValueRead.take_word"=true)(Od:keepIn K (.ref Oq)=true)(HA:PySem.W.isFn K (.ref Oq)=true)(C1:PySem.W.plainGet K C Str.empty=true)(C2:PySem.W.hasDictIn K C=true)(C3:PySem.W.plainOver K C=true)(RH:findIn K (.ref C) "__setattr__"=some (some (.builtin "object.__setattr__")))(OR:findIn K (.ref C) "text"=some none)(O2:findIn K (.ref C) "place"=some none)(Qa:findIn K (.ref C) "ahead"=some none)(Rq:findIn K (.ref C) "done"=some none)(M1:PySem.W.makesIn K C=true)(M4:keepIn K (.ref C)=true)(aM:nsIn K GT "MOST_FIGURES"=some (some (.int 6 tm)))(BQ:nsIn K GT "all"=some none)(vY:nsIn K GT "dict"=some none)(i7:nsIn K GT "enumerate"=some none)(Cc:nsIn K GT "int"=some none)(gQ:nsIn K GT "isinstance"=some none)(AA:nsIn K GT "len"=some none)(wL:nsIn K GT "list"=some none)(CS:nsIn K GT "max"=some none)(Cs:nsIn K GT "min"=some none)(sG:nsIn K GT "range"=some none)(jY:nsIn K GT "reversed"=some none)(BC:nsIn K GT "str"=some none)(sC:nsIn K GT "tuple"=some none)(CA:nsIn K GT "zip"=some none)(vO:nsIn K GT "bool"=some none)(hU:nsIn K GT "ValueError"=some none)(aS:nsIn K GT "SideError"=some (some (.ref S)))(lS:K.lookup S=some #[cS,dS,.cls F1,NS])(mS:F1.mro=.ref S::jJ)(eN:F1.ns=PB)(lN:K.lookup PB=some #[cN,dN,.dict es ep,Oa])(sN:Hc es=true)(iN:nsIn K PB "__init__"=some none)(tS:typeIn K (.ref S)=some (.type "type"))(b1:specialIn K (.ref S) "__getattribute__"=some (some (.builtin "type.__getattribute__")))(b2:PySem.W.readsIn K S (.type "type")=true)(b3:PySem.W.findCls K (.ref S) (.type "type") "__init__"=some (.val (.builtin "ValueError.__init__")))(A0:nsIn K GT "NoText"=some (some (.ref a0)))(L0:K.lookup a0=some (excClassObj VT q0 a0 N0 U5 (.ref S::jJ) true Va PR Uk Qm Wa VU Up Uo TN VN "ValueError.__new__"))(T0:typeIn K (.ref a0)=some (.type "type"))(A1:nsIn K GT "NoProgram"=some (some (.ref a1)))(L1:K.lookup a1=some (excClassObj Ur q1 a1 N1 U6 (.ref S::jJ) true TQ Rm V1 O7 Tz Tw TZ Vy VP TC "ValueError.__new__"))(T1:typeIn K (.ref a1)=some (.type "type"))(A2:nsIn K GT "NoTerm"=some (some (.ref a2)))(L2:K.lookup a2=some (excClassObj U3 q2 a2 N2 UN (.ref S::jJ) true UJ QY Uh P5 Uc UM VI Vs TV VB "ValueError.__new__"))(T2:typeIn K (.ref a2)=some (.type "type"))(A3:nsIn K GT "NoValue"=some (some (.ref a3)))(L3:K.lookup a3=some (excClassObj Qy q3 a3 N3 V6 (.ref S::jJ) true TK OM Um Rf Vk U0 UW VM Vc Uq "ValueError.__new__"))(T3:typeIn K (.ref a3)=some (.type "type"))(A4:nsIn K GT "NotFlat"=some (some (.ref a4)))(L4:K.lookup a4=some (excClassObj UK q4 a4 N4 T9 (.ref S::jJ) true Vq QG Ut P0 UI TM Uy Ul VL V7 "ValueError.__new__"))(T4:typeIn K (.ref a4)=some (.type "type"))(A5:nsIn K GT "NoKind"=some (some (.ref a5)))(L5:K.lookup a5=some (excClassObj NX q5 a5 N5 UG (.ref S::jJ) true US QS Vw Qg Uz TH TF VX V3 VQ "ValueError.__new__"))(T5:typeIn K (.ref a5)=some (.type "type"))(A6:nsIn K GT "NoEdit"=some (some (.ref a6)))(L6:K.lookup a6=some (excClassObj MW q6 a6 N6 Vu (.ref S::jJ) true Uv RA UC Rt Vh UY UO TB VD VF "ValueError.__new__"))(T6:typeIn K (.ref a6)=some (.type "type"))(A7:nsIn K GT "NoRow"=some (some (.ref a7)))(L7:K.lookup a7=some (excClassObj TL q7 a7 N7 Ui (.ref S::jJ) true Ue RB Vg RG VS VC Vx Ud V9 U4 "ValueError.__new__"))(T7:typeIn K (.ref a7)=some (.type "type"))(PZ:findIn K (.ref a3) "__setattr__"=some (some (.builtin "object.__setattr__")))(QT:findIn K (.ref a3) "__getattribute__"=some (some (.builtin "BaseException.__getattribute__")))(Qs:findIn K (.ref a3) "__getattr__"=some none)(QW:findIn K (.ref a3) "__class__"=some (some (.builtin "object.__class__")))(in4:findIn K (.ref a3) "__init__"=some (some (.ref fx)))(Rw:typeIn K (.ref fx)=some (.type "function"))(Py:keepIn K (.ref a3)=true)(lx:K.lookup fx=some #[UX,Ua,.func (fnOf "__init__" "NoValue.__init__" (dk i5) (aG i5) (ag i5) .none VZ UT TR U7 SV ctx),Us])(cx:codeIn K SV "NoValue.__init__"=true)(kx:keepIn K (.ref fx)=true)(nd:([S,a0,a1,a2,a3,a4,a5,a6,a7]:!AC).Nodup) :
  ∃ fd:Gc,(∀ (s:Da) (v:AT),BindsTo s fd #[[v],[]] [("_law_script",v)])/\∀ base:Ev,K.In base->base.Ns GT mg->bY l.prog w K mg base bu 126 fa fd ["_law_script"] (yj K):=by
 have e:=Vj.symm.trans (Xb X G QP);cases e;subst eN;have iNo:nsFind es "__init__"=none:=by
  unfold nsIn at iN;rw[lN] at iN;dsimp only at iN;split at iN
  .cases iN
  .rename_i he
   unfold nsFind findBy;rw[<- Array.find?_toList,he]
   rfl
 have xc4:ExC K a3:=#[#[_,_,_,S,_,_,_,_,_,_,_,_,_,_,_,_,_,_,_,_,_,_,_,_,L3,lS,lN,sN,iNo],PZ,QT,Qs];have cS':Cl K S jJ:=#[#[F1,by unfold PySem.W.clsIn;rw[lS],mS],tS];have cl0:=GB L0 T0;have cl1:=GB L1 T1;have cl2:=GB L2 T2;have cl3:=GB L3 T3;have cl4:=GB L4 T4;have cl5:=GB L5 T5;have cl6:=GB L6 T6;have cl7:=GB L7 T7;have F4:=iF (st:=i5) lx cx kx;have bN:=F4.binds (ps:=["self"]) λ_ _ _ _ _ _ us hl=>match us,hl with | [_],_=>rfl
 have MN:Kc K a3 fx:=#[xc4,in4,Rw,Py];have kO:kitAny K (.ref a3) ([a6,a5,a1,a7,a2,a0,a4].map AT.ref)=some false:=by
  show xD cl3 λd hd=>?_;simp only[List.mem_cons,List.not_mem_nil,or_false] at hd;rcases hd with rfl | rfl | rfl | rfl | rfl | rfl | rfl
  .exact#[cl6,lb nd (i:=4) (j:=7) U U (),lb nd (i:=0) (j:=7) U U ()]
  .exact#[cl5,lb nd (i:=4) (j:=6) U U (),lb nd (i:=0) (j:=6) U U ()]
  .exact#[cl1,lb nd (i:=4) (j:=2) U U (),lb nd (i:=0) (j:=2) U U ()]
  .exact#[cl7,lb nd (i:=4) (j:=8) U U (),lb nd (i:=0) (j:=8) U U ()]
  .exact#[cl2,lb nd (i:=4) (j:=3) U U (),lb nd (i:=0) (j:=3) U U ()]
  .exact#[cl0,lb nd (i:=4) (j:=1) U U (),lb nd (i:=0) (j:=1) U U ()]
  .exact#[cl4,lb nd (i:=4) (j:=5) U U (),lb nd (i:=0) (j:=5) U U ()]
 have TE:SA K mg S a0 a1 a2 a3 a4 a5 a6 a7:=#[WW X G hU,Xb X G aS,Xb X G A0,Xb X G A1,Xb X G A2,Xb X G A3,Xb X G A4,Xb X G A5,Xb X G A6,Xb X G A7,#[xc4,QW],(cl3.V0 cS' KL).trans (congrArg some Rj),kO,(cl3.Sh cl3).trans (congrArg some isIn),cl3.QI Rk];have T:Txt K mg:=#[WW X G BQ,WW X G vY,WW X G i7,WW X G Cc,WW X G gQ,WW X G AA,WW X G wL,WW X G CS,WW X G Cs,WW X G sG,WW X G jY,WW X G BC,WW X G sC,WW X G CA,WW X G vO];have V:EY K C:=#[#[C1,C2,C3,RH],OR,O2,Qa,Rq];have J:SE K mg:=#[#[tm,Xb X G aM]];have FLa:=iF (st:=kR) O5 Qn Rz;have FvI:=iF (st:=fh) OX OG O6;have BvI:=FvI.binds (ps:=["self","text"]) λ_ _ _ _ _ _ us hl=>match us,hl with | [_,_],_=>rfl
 have FvP:=iF (st:=fi) OZ Qw NT;have BvP:=FvP.binds (ps:=["self","tasks"]) λ_ _ _ _ _ _ us hl=>match us,hl with | [_,_],_=>rfl
 have OP:pR K C "ValueRead.plan" gx:=#[_,_,FvP,#[Ju,GP,NT],BvP];have FvN:=iF (st:=cE) Rn Q7 Oz;have BvN:=FvN.binds (ps:=["self","sign"]) λ_ _ _ _ _ _ us hl=>match us,hl with | [_,_],_=>rfl
 have ON:pR K C "ValueRead.need_sign" c5:=#[_,_,FvN,#[ID,Hn,Oz],BvN];have FvW:=iF (st:=cG) Q8 QJ Od;have BvW:=FvW.binds (ps:=["self","first","last"]) λ_ _ _ _ _ _ us hl=>match us,hl with | [_,_,_],_=>rfl
 have OW:pR K C "ValueRead.take_word" c7:=#[_,_,FvW,#[G9,HA,Od],BvW];show#[fnOf "law" "law" (dk kR) (aG kR) (ag kR) .none Lk Nk Md KU HY KG,λs v=>.of_eq U,λbase _ _=>?_];have GN:=Kw (P:=l.prog) (w:=w) (base:=base) F4 #[b1,b2,b3] (Xb X G aS) xc4;have Z:NV l.prog w K mg base a3:=#[fx,_,MN,GN,bN,Xb X G A3];have gTh:=Kf (P:=l.prog) (w:=w) (base:=base) S9 T;have gDr:=λd l'=>(Jk (P:=l.prog) (w:=w) (base:=base) S0 T).imp λ_ _=>EW (d:=d) (l:=l');have gWo:=λd l'=>AV (gDr d l') SF T;have gPa:=λd l'=>LL (gDr d l') S5 T;have gHe:=λd l'=>Nh (gDr d l') (gPa d l') S8 T;have gWd:=λd l'=>J8 (gWo d l') (gHe d l') RT T;have gBo:=λd l'=>LJ (gDr d l') Sm T;have gLe:=λd l'=>FI (gDr d l') JU T 2;have gTe:=λd l'=>FU (gDr d l') gTh (gBo d l') (gLe d l') LX MJ NL KP JN T 2;have gCs:=λd l'=>LG (gDr d l') (gTe d l') Tf T ();have gPr:=λd l'=>Ll (gDr d l') (gCs d l') R8 T ();have gTG:=λd l'=>Gb (gDr d l') Sd T 16;have gOD:=λd l'=>Kr (gDr d l') S7 T;have gSL:=λd l'=>Ls (gDr d l') (gOD d l') S4 T;have gMI:=Mp (P:=l.prog) (w:=w) (base:=base) Sk T;have gKC:=KC (P:=l.prog) (w:=w) (base:=base) Te T;have gMO:=Kq gKC gMI R4 T;have gSO:=MQ gKC RV T;let(fL0,fdL0,FL0,mL0,bL0):=id Tq;have gNU:C4 l.prog w K mg base bu iA 2 (cA K .no (Pz isNum)):=To.c λ_ _ F=>K3 (yL F T J FL0 mL0 bL0);have gPL:=Lv (P:=l.prog) (w:=w) (base:=base) (mg:=mg) OP V T;have gNG:=K9 Z ON V T;have gTW:=Kk (P:=l.prog) (w:=w) (base:=base) (mg:=mg) OW V T;have gRN:=K8 Z gTW gNU Su V T;have gTB:=NH (P:=l.prog) (w:=w) (base:=base) Sa T;have gBT:=Kt (P:=l.prog) (w:=w) (base:=base) R9 V T;have gRT:=MK Z gSO gMO gTB gPL gNG gTW Tn V T;have gI:Td l.prog w K mg base C 1 (Lu K C (OQ C)):=#[_,_,KY FvI V,#[M1,Ij,HK,M4],BvI,Xb X G aC];have gRV:=Lj gI gPL gNG gBT gRN gRT Sx V T;have gTX:=Gx (P:=l.prog) (w:=w) (base:=base) Sz T 22;have gUP:=KD (P:=l.prog) (w:=w) (base:=base) SW T;have gRD:=Fq gUP (Ms gUP SH T) RO T 50;have gDU:=K5 gRD SD T;have gTD:=MR TE gRV Sn T;exact Hw gDr gWd gPr gTG gSL gTh gTX gTD gDU (HB (P:=l.prog) (w:=w) (base:=base) R5 T) FLa T
theorem walk{l:PySem.W.OpenLaw}{q:Fa}{loose:!Str}{XP:(Str->Option AT)->Ev->Prop}{YP:FS->Ev->Prop}{d:DefRec}{K:TD->Frag}(hn:l.most=some 63)(LW:d.params.defaults=[])(hY:∀ (w:FS) (h:Ev),YP w h->(K w.params).In h)(F:∀ (w:FS) (mg:Str->Option AT) (fa:AC) (h:Ev),(K w.params).In h->h.Ns GT mg->mg d.name=some (.ref fa) ->
   ∃ fd:Gc,(∀ (s:Da) (u:AT),BindsTo s fd #[[u],[]] [("_law_script",u)])/\∀ base:Ev,(K w.params).In base->base.Ns GT mg->bY l.prog w (K w.params) mg base bu 126 fa fd ["_law_script"] (yj (K w.params))) :
  PySem.W.WalkO q loose XP YP l.row.toRowW d [] (λf vs=>PySem.call f vs) :=
 L2.EV (n:=63) (k:=126) (x:="_law_script") (CX:=λ_=>bu) (sp:=λw=>yj (K w.params)) hn () LW #[U,by decide,by decide] hY F (λ_ _ a ns hl _ hS=>#[a,ns,U,hS,hl,λ_=>rfl]) λ_ _ _ _ _ z=>z
end MH
end
end
end
section
local macro_rules
 | `(#check [$n,*])=>do return Lean.mkNullNode (<-n.getElems.mapM fun x=>`(command|theorem $(Lean.mkIdent (.mkSimple s!"tw{x.raw.isNatLit?.get!}")):ident :True:=trivial))
namespace PySem.W.Fast
#check [9915044526463443994,13791469612051440904,6754331982089407167,4552653017680671087,5381246830351161620,17200974113228282159,2377049760669757997,10534457790396951421,13229324063490968695,1011165018985419943,14780851421467069329,4508415945613482324,16807278807077608981,580280009296724349,1658452363444249411,7317417082376258344,1677414722607551415,13101747671467622674,13952803994174272503,13274024432778520511,12790272775276090794,585294013051324390,4788242215776567170,14599153364581152573,13816047561870613445,10539636658475647038,4696145557463258650,7791546043834962300,8906395870412334804,10443700179272460858,15102928027383749841,1794464543028993592,14262956578513110202,1323533998049897090,13176962869144875530,7581585185682046650,16212163345362728569,16526807522553400803,14632606714695700169,13485028963073663484,4755682357553151257,17125098165626332234,16020995376473738432,10809202363888519268,17855842932277577533,7269767632974586450,4549706684102421524,6986515505135770839,14128042218876080175,12073633605002942772,16677698695507245344,1431048387901491891,8304526326223787709,11746301538121505417,17751707688048855111,1474060151358150847,8221537605770461445,6524361653270981117,2199971730023206445,14288885980051143724,16378103026719082624,8286202478473004697,14928398029942845747,10009980084753508479,15520630221910085563,6883235983928665956,10440465299913212515,18365532959105598238,6542902103503557852,2872641984721817003,12445814209505498179,3717713069530850521,16669821938383301217,11678909519766673630,8587644308660160707,8241361903728974403,13448741587817948217,11996916450712434104,18294925213296643141,11172731064940197877,6199123672737083442,18152543068825899930,17376916892801421728,11138592640280410890,425447103769503439,7375529633117459020,10567655268319679055,14356626133973413775,756296503146888295,9882028192530895729,11539987750542637771,9232681903370390313,8724236447691710510,6994806470988962096,17867442355851373134,18050003854642756169,3651425442968563953,2900243344005314470,250597077803684942,6329575511869184015,13787343335664008073,6447293109290166942,5228890074791698845,4297909202672234230,13339000307558245337,10107129260642131887,1063337572475067670,14359847100968902836,4140530722501617441,6691349432195798390,12837536418010652990,13954207345455271983,8248297506662675651,6439296246406171171,15637871109661668288,15344963845495479067,3834760166858959529,3648337078067993555,17941296007208229846,1202352554232214363,11426111821757350310,5842265101913603024,11764762236718541381,16949721698855808048,6342429562112970474,9015124161303905570,9490695443932743834,10360976305710098815,11688018515068878732,15979893217259379234,10089444861137175047,6293834688044348037,6259944318145228251,9521585912245475542,13748681742244814556,10213748277905999264,9399407608380179371,7686211752960882787,1045892073150524679,6316286403861917806,5784871089413591850,8994629404569494720,4676118941482105623,2099141667651944463,3725169561181697518,1185709842281103737,16226867635387562809,13248172025465289384,8309894301693967620,17352681222942697796,340875306183186633,18113798721089935272,7479310966353233862,15380987142583129690,2145526627990742231,15514485574234392956,8868705594698422096,10676606785605471583,3149728144007127677,13098426129510160542,4409014222805562663,13171832789692279031,11405014627822889590,4765157307553698333,7729729978506928177,11150313763434929395,7552254648844221400,9522194993622759370,6531446178661030918,8658069330904954863,16450804891995624201,13228465193151456351,16817234985901105714,10038282429663356761,15419027276898858647,13173088313548775444,18317026920374995912,2285822442734465217,15080507090680377113,9389474732956772531,4696934190214643938,17696152596695265778,13194386356207390897,3025004888627301324,11415982929728253617,1474334284870359811,3758547859196679289,15467273840025894601,8942274580529185580,8349743534698432170,8110055490653750457,7625156657408013690,7521249447754852341,2697184207469094849,5888455877763486462,1139647380153790606,4286121486395751223,17952913087191316898,12472700297493587533,5396998848653125219,1019027515698030620,16514923787479676769,11662892455548922620,6298904831740213285,11645330759242498100,11594176019790641888,10752215042158378527,3487962109064635451,15563350822328403229,6272940155691653938,7724829073143909719,3691146071478392486,1823948852212501615,3526667333202500648,5445236146790303883,12728334241074789099,14767626993745517741,1249637474736047098,4152231621690937728,1898428218217196422,14501711107220704119,12723164598578253169,2513428829925719548,13389176546628960353,14014693780353052157,7566588630719396359,2575034990212794399,14736408029336652318,4784699469624331064,3441448187983191691,16120116401251605494,12187412985326427015,9099064957992638770,742271026573430409,6490027383025763773,11240629779508609883,3954018969554013143,326329993317667759,13362804344210686397,7617311484568507433,8928937473552607112,992548770610486269,16793479989426999885,299786807792707880,12156825234567898815,11177230695191881656,9801519506325225261,4371441416521501251,7522610488642057890,13559352488594346970,15794396077669033534,10758479693226637346,6967351474153331048,3915137165371420047,3118844210341451278,12175267215466291890,7495603753498284132,17478360349746244004,440081684309458477,3431237229608215742,14802548086515965429,3205865707271327800,10824141094257094163,18248095911198920150,14159476347104252940,1852963632772085208,6826899943572005604,7059977281370290057,16873558379636345031,15730281728433633041,8501581813937849050,12804059625251299878,16995499255637096771,7921038270088238003,6688893342014338667,3420076933116726586,18047845152776997247,3442862188478393905,292142788304890394,11278878353234211344,1429068892084198058,9996788170965257136,1946433268908934594,3802635838910184150,1094030824074002337,9140421978643287542,5541589648694220381,10054495534618075547,4496654538380969548,3140221261691491943,10344894953449794679,10833317083003204113,12113615959056290851,2123243400380554975,7292472450324838977,3230883697596594796,948412271032434582,7056380702791780682,3201651471027290071,8392232602401787777,14273881491467171919,5684649592358421525,247986677002988782,16447018734012399795,17728481176103884128,1911211515758257855,9468884487925354545,13338060409371754244,16007630147053809574,16651443643323963426,4569490318689157774,14749433929950320137,15585482912695530666,17961405231665222754,15553496208012715204,8058032911395977344,13580430391824363812,4754891899805041900,16677377340042908546,8575961701586988666,8782664535481355855,6314002013114508335,8134207176436805432,16975645444334007370,9290382323330386668,5741840619946583728,14495154420217401400,6170785658982820686,11522722154027701416,6516088929176344057,17809577543061051553,12565603353895302420,2060102305341507780,1824021845652481295,14029843748642729941,8043839365628495119,4834368387834898807,15727986418685465347,9576605336675571560,7647274094649147171,18302485041576257323,15410344802370285554,8537258111604552259,16820041096737570202,14361694089044051526,6327514759463003860,5702680439472941412,14646431299981806614,10752631214462181558,4218507152144262741,16481985619216511345,13630112762617960559,1678835329824860498,6360098470786981485,3234454669786723556,16426793256631944367,8796393331623561891,4678739719029910665,17594869252759442829,13122797798214218838,2203652828555933934,15464847488454662698,2610992088776317522,15739827241940339086,15932757632036665119,15878686275127957791,15502245562303755302,3256869031459180550,10477156392733352009,14890231165631327307,14299719761264082092,14328888305912679569,1764176346851375309,18328530003199262851,3407248348522093577,6476475768235634794,8520423346066003130,1746174454642838166,11142054787081816900,7562509171777426558,518428521594852166,11132468562322908751,4263111414292461516,9690443547314764546,8104555664625492509,3522099687788595086,9457838023763047254,83503152359425626,10821330762486601234,11416110593329975484,10838595538278447533,13511432256466188732,5387472355187594654,18265560047656365391,11370950636555418996,13205424976163386435,6134567540858957898,10778623712148688023,2324994817295591864,11078279894431941844]
end PySem.W.Fast
end
open PySem PySem.W PyProof.Rows
set_option maxRecDepth 100000 in
set_option maxHeartbeats 0 in
theorem PySem.Challenge.cw_sideturn_k17_texts_that_are_no_values_holds : PySem.Challenge.rw_sideturn_k17_texts_that_are_no_values.Holds := by
 w_on;o_law;k_head;(case hw=>w_witness2)
 k_fill
 refine MH.walk (l:=PySem.Challenge.rw_sideturn_k17_texts_that_are_no_values) U U (λw h Y=>PySem.W.kIn_of Y) ?F
 case F =>
  intro w mg fa h KX G hmg
  refine' MH.all_mk KX G hmg ?Sk ?Te ?R4 ?RV ?Tq ?To ?Su ?Sa ?Tn ?R9 ?Sx ?R5 ?S0 ?SF ?S5 ?S8 ?S9 ?Sm ?JU ?LX ?MJ ?NL ?KP ?JN ?RT ?Tf ?R8 ?Sz ?Sd ?SW ?SH ?RO ?SD ?Sn ?S7 ?S4 ?QP ?O5 ?Qn ?Rz ?aC ?Ij ?OX ?OG ?O6 ?HK ?Ju ?OZ ?Qw ?NT ?GP ?ID ?Rn ?Q7 ?Oz ?Hn ?G9 ?Q8 ?QJ ?Od ?HA ?C1 ?C2 ?C3 ?RH ?OR ?O2 ?Qa ?Rq ?M1 ?M4 ?aM ?BQ ?vY ?i7 ?Cc ?gQ ?AA ?wL ?CS ?Cs ?sG ?jY ?BC ?sC ?CA ?vO ?hU ?aS ?lS ?mS ?eN ?lN ?sN ?iN ?tS ?b1 ?b2 ?b3 ?A0 ?L0 ?T0 ?A1 ?L1 ?T1 ?A2 ?L2 ?T2 ?A3 ?L3 ?T3 ?A4 ?L4 ?T4 ?A5 ?L5 ?T5 ?A6 ?L6 ?T6 ?A7 ?L7 ?T7 ?PZ ?QT ?Qs ?QW ?in4 ?Rw ?Py ?lx ?cx ?kx ?nd
  all_goals try (refine' DL.HS KX G ?a ?l ?c ?k ?b;(case a=>k_is);(case l=>k_is);(case c=>k_is);(case k=>k_is);(case b=>intro _ _ _ _ _ _ us hl;rcases us with _ | ⟨_,_ | ⟨_,_ | ⟨_,_ | ⟨_,_ | ⟨_,_ | ⟨_,_⟩⟩⟩⟩⟩⟩<;>first | rfl | cases hl))
  (case QP=>k_is)
  (case O5=>k_is)
  (case Qn=>k_is)
  (case Rz=>k_is)
  (case aC=>k_is)
  (case Ij=>k_is)
  (case OX=>k_is)
  (case OG=>k_is)
  (case O6=>k_is)
  (case HK=>k_is)
  (case Ju=>k_is)
  (case OZ=>k_is)
  (case Qw=>k_is)
  (case NT=>k_is)
  (case GP=>k_is)
  (case ID=>k_is)
  (case Rn=>k_is)
  (case Q7=>k_is)
  (case Oz=>k_is)
  (case Hn=>k_is)
  (case G9=>k_is)
  (case Q8=>k_is)
  (case QJ=>k_is)
  (case Od=>k_is)
  (case HA=>k_is)
  (case C1=>k_is)
  (case C2=>k_is)
  (case C3=>k_is)
  (case RH=>k_is)
  (case OR=>k_is)
  (case O2=>k_is)
  (case Qa=>k_is)
  (case Rq=>k_is)
  (case M1=>k_is)
  (case M4=>k_is)
  (case aM=>k_is)
  (case BQ=>k_is)
  (case vY=>k_is)
  (case i7=>k_is)
  (case Cc=>k_is)
  (case gQ=>k_is)
  (case AA=>k_is)
  (case wL=>k_is)
  (case CS=>k_is)
  (case Cs=>k_is)
  (case sG=>k_is)
  (case jY=>k_is)
  (case BC=>k_is)
  (case sC=>k_is)
  (case CA=>k_is)
  (case vO=>k_is)
  (case hU=>k_is)
  (case aS=>k_is)
  (case lS=>k_is)
  (case mS=>rfl)
  (case eN=>rfl)
  (case lN=>k_is)
  (case sN=>rfl)
  (case iN=>k_is)
  (case tS=>k_is)
  (case b1=>k_is)
  (case b2=>k_is)
  (case b3=>k_is)
  (case A0=>k_is)
  (case L0=>k_is)
  (case T0=>k_is)
  (case A1=>k_is)
  (case L1=>k_is)
  (case T1=>k_is)
  (case A2=>k_is)
  (case L2=>k_is)
  (case T2=>k_is)
  (case A3=>k_is)
  (case L3=>k_is)
  (case T3=>k_is)
  (case A4=>k_is)
  (case L4=>k_is)
  (case T4=>k_is)
  (case A5=>k_is)
  (case L5=>k_is)
  (case T5=>k_is)
  (case A6=>k_is)
  (case L6=>k_is)
  (case T6=>k_is)
  (case A7=>k_is)
  (case L7=>k_is)
  (case T7=>k_is)
  (case PZ=>k_is)
  (case QT=>k_is)
  (case Qs=>k_is)
  (case QW=>k_is)
  (case in4=>k_is)
  (case Rw=>k_is)
  (case Py=>k_is)
  (case lx=>k_is)
  (case cx=>k_is)
  (case kx=>k_is)
  (case nd=>decide+kernel)
