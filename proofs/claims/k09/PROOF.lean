import PyProof.Rows.All
import Wide.All
import OpenK.AllK
import Wide.FinOn
import Lean
import PyProof.EqAt
import PyProof.EqKinds
import PyProof.TupleCall
import PyProof.ZipIter
import PyProof.NeData
import PyProof.Draws
import PyProof.EnumMake
import PyProof.IsiHeapPairs
import PyProof.IsiNone
import PyProof.ConsumeWalk
import PyProof.TupleOfStr
import PyProof.DictWalks
import KE.KDictSum
import KE.KDictOf
import PyProof.IsiH_list
import PySem.Challenge.RW_sideturn_k09_programs_let_by
set_option genSizeOf false
set_option genInjectivity false
set_option Elab.async false
set_option linter.all false
set_option maxRecDepth 100000
set_option maxHeartbeats 8000000
open Lean in
def cv:Nat->Term->MacroM (TSyntax `rcasesPat)
 |0,_=>Macro.throwUnsupported
 |n+1,t=>do match t with
  |`(($a,$b,*))=>let p<-(#[a]++b.getElems).mapM (cv n);`(rcasesPat|⟨$[$p:rcasesPat],*⟩)
  |`($x:ident)=>`(rcasesPat|$x:ident)
  |`(_)=>`(rcasesPat|_)
  |`(())=>`(rcasesPat|⟨⟩)
  |_=>Macro.throwUnsupported
section
local macro_rules
 | `(tactic|let ($a,$b,*):=$e)=>do `(tactic|obtain $(<-cv 9 (<-`(($a,$b,*)))):rcasesPat:=$e)
local macro_rules
 | `(#[$a,*])=>`(⟨$a,*⟩)
local macro_rules
 | `(#v[$a,*])=>`(List.toArray [$a,*])
local macro_rules
 | `(↑$s)=>`(($s).heap.objs.size)
local macro_rules
 | `(tactic|cbv)=>`(tactic|first|with_reducible assumption|with_reducible exact Nat.le_refl _|with_reducible exact Nat.lt_succ_self _|lia|omega)
local macro_rules
 | `(tactic|ac_nf)=>`(tactic|first|exact .inl rfl|exact .inr rfl|assumption)
local macro_rules
 | `(tactic|ac_rfl)=>`(tactic|first|decide|cbv)
local macro_rules
 | `(command|def $i:declId $s:optDeclSig $v:declVal)=>`(command|noncomputable def $i:declId $s:optDeclSig $v:declVal)
local macro_rules
 | `(command|abbrev $i:declId $s:optDeclSig $v:declVal)=>`(command|noncomputable abbrev $i:declId $s:optDeclSig $v:declVal)
local macro_rules
 | `(!$x)=>`(List $x)
local macro_rules
 | `(tactic|show $t)=>`(tactic|refine $t)
open PySem renaming Addr→AC,Value→AT,wpAny_bind→Ch,Expr→Cl,Shared→Da,wpAny→Db,Heap→EQ,Stmt→Ev,sizeLine→FB,wpAny_pure→FS,World→Fa,Builtin→Fk,Around→Fr,Program→GE,mainGlobals→GM,starEach→GT,PyData→Gc,FuncData→Go,NameKind→IN,backTo→IR,IsPair→Ix,wpAny_field→KB,rawInt→KF,compareOp→KM,wpAny_holding→NE,wpAny_mono→Os,wpAny_seqItems→PP,sysModules→Ps,backToKw→P3,keywordEach→Re,Keyword→Rs,binaryOp→SC,wpAny_call_entry→SL,wpAny_newObj_type→ST,DictEntry→SZ,Params→TD
local macro_rules
 | `(())=>`(by decide)
theorem Tk(h:True:=by rfl):True:=h
theorem Tl(h:True:=by decide):True:=h
local macro_rules
 | `($x⁻¹)=>`(autoParam $x Tk._auto_1)
local macro_rules
 | `(~~~$x)=>`(autoParam $x Tl._auto_1)
open PySem.W (Frag nsIn findIn keepIn typeIn kitOne fnOf kitAny codeIn InstAt Looks specialIn)
section
open PySem
def V8:=@List.length_map
def V9:=@EQ.get?_push_of_some
def Wa:=@List.length_append
def Wb:=@List.getElem?_eq_some_iff
def Wc:=@List.map_append
def Wd:=@List.mem_cons_of_mem
def We:=@Nat.le_refl
def Wf:=@List.append_nil
def Wg:=@List.mem_cons_self
def Wh:=@EQ.lt_size
def Wi:=@List.length_cons
def Wj:=@List.map_cons
def Wk:=@List.mem_map
def Wl:=@EQ.get?_push_size
def Wm:=@Bool.false_ne_true
def Wn:=@List.mem_singleton
def Wo:=@List.map_map
def Wq:=@List.getElem?_eq_getElem
def Wr:=@List.mem_map_of_mem
def Ws:=@Nat.le_trans
def Wt:=@List.getElem?_set_ne
def Wu:=@List.mem_cons
def Wv:=@List.flatMap_cons
def Ww:=@Nat.ne_of_lt
def Wx:=@List.size_toArray
def Wy:=@List.nil_append
def Wz:=@Nat.lt_of_lt_of_le
def WA:=@List.mem_append
def WB:=@List.append_assoc
def WC:=@Option.some.inj
def WD:=@List.mem_append_right
def WE:=@List.flatMap_append
def WG:=@PySem.W.mg_of
def WH:=@Nat.zero_le
def WI:=@List.nodup_append
def WJ:=@List.mem_of_getElem?
def WK:=@List.getElem?_set_self
def WL:=@List.getElem?_map
def WM:=@PySem.W.mg_none_of
def WN:=@Option.map_eq_some_iff
def WO:=@List.of_mem_zip
def WQ:=@List.mem_append_left
def WR:=@List.map_nil
def WS:=@EQ.size_push
def WT:=@List.take_sublist
def WU:=@Bool.and_eq_true
def WV:=@List.flatMap_nil
def WW:=@List.drop_eq_getElem_cons
def WX:=@EQ.get?_update_self
def WY:=@List.length_filter_le
def WZ:=@List.length_zip
def W0:=@EQ.get?_update_other
def W2:=@PySem.mem_of_lookup
def W3:=@List.nodup_cons
def W4:=@List.length_set
def W5:=@List.getElem?_append_left
def W6:=@Nat.lt_irrefl
def W7:=@List.mem_of_mem_take
def W8:=@List.length_range
def W9:=@List.mem_filter
def Xa:=@List.getElem?_append_right
def Xb:=@List.exists_cons_of_ne_nil
def Xc:=@List.map_fst_zip
def Xd:=@List.mem_flatMap
def Xe:=@PySem.F.slot_list_pop
def Xf:=@PySem.F.type_list_pop
def Xg:=@Option.isSome_iff_exists
def Xh:=@Int.toNat_natCast
def Xi:=@List.Sublist.refl
def Xj:=@List.eq_nil_of_length_eq_zero
def Xk:=@List.getElem_of_mem
def Xl:=@List.length_take
def Xm:=@List.length_drop
def Xn:=@List.lookup_cons
def Xo:=@List.all_eq_true
def Xp:=@List.mem_range
def Xq:=@Nat.ne_of_gt
def Xr:=@Int.emod_lt_of_pos
def Xs:=@PySem.StrLaws.glued_eq_join
def Xt:=@Int.emod_nonneg
def Xu:=@List.take_append_drop
def Xv:=@List.any_cons
def Xw:=@List.getElem?_of_mem
def Xx:=@PySem.F.plainAttrs_list
def Xy:=@List.getElem?_drop
def Xz:=@List.reverse_cons
def XA:=@Array.getElem?_toList
def XB:=@List.getElem?_eq_none
def XC:=@List.perm_append_comm
def XD:=@List.pairwise_flatMap
def XE:=@List.any_eq_true
def XF:=@List.getElem_mem
def XG:=@List.mem_of_mem_drop
def XH:=@Nat.mul_le_mul_right
def XI:=@List.nodup_iff_pairwise_ne
def XJ:=@List.map_congr_left
def XM:=@List.Sublist.append
def XN:=@List.length_pos_iff
def XO:=@Bool.eq_iff_iff
def XQ:=@Nat.le_of_eq
def XR:=@PySem.W.callWith_K
def XS:=@PySem.F.slot_list_extend
def XT:=@PySem.F.type_list_extend
def XU:=@List.nodup_nil
def XW:=@List.append_cancel_left
def XX:=@List.flatMap_eq_nil_iff
def XY:=@List.zip_map_left
def XZ:=@Nat.le_succ
def X0:=@List.getElem_inj
def X1:=@Nat.le_add_right
def X2:=@List.flatMap_map
def X3:=@List.getElem?_zipWith
def X4:=@Nat.le_of_lt
def X5:=@Int.ediv_nonneg
def X6:=@Nat.le_add_left
end
open PySem in
abbrev X7:=AT->Da->Prop
open PySem in
abbrev X8:=!(AC×Obj)
open PySem in abbrev Ya (N:Env)(e:Cl)(r:!Cl):Prop:=GT (e::r) N=(false,eval e N)::GT r N
open PySem in abbrev Yb (N:Env)(p:Pos)(r:!Cl):Prop:=(IR p (GT r N)).any (·.1)=false
open PySem in abbrev Yc (x:Str):Prop:=(x == ("__debug__":Str))=false
theorem U.{u}{α:Sort u}{a:α}:a=a:=rfl
namespace L2
open PySem PySem.Spec PyProof.Rows
abbrev Key:=Sum Int Str
def rK:Key->AT->Bool
 | .inl k,v=>AT.isInt k v
 | .inr x,v=>AT.isStrOf x v
def TV(w:Fa):Key->Int
 | .inl k=>hashInt k
 | .inr x=>hashStr w x
theorem ck:∀ {k:Key} {v:AT},rK k v=true->(∃ i t,k=Sum.inl i/\v=AT.int i t)\/(∃ x t,k=Sum.inr x/\v=AT.str x t)
 | .inl i,v,h=>by
  let(t,e):=AT.isInt_shape (k:=i) (v:=v) h;exact .inl #[i,t,U,e]
 | .inr x,v,h=>by
  let(t,e):=AT.isStrOf_shape (x:=x) (v:=v) h;exact .inr #[x,t,U,e]
theorem zr(i:Int)(t:Tok):rK (.inl i) (.int i t)=true:=by simp[rK,AT.isInt]
theorem zm(x:Str)(t:Tok):rK (.inr x) (.str x t)=true:=by simp[rK,AT.isStrOf]
theorem Hc(a b:Int):decide ((Sum.inl a:Key)=Sum.inl b)=(a == b):=by
 by_cases e:a=b
 .subst e;simp
 .have h:¬ (Sum.inl a:Key)=Sum.inl b:=λq=>e (Sum.inl.inj q);rw[decide_eq_false h];exact (beq_eq_false_iff_ne.mpr e).symm
theorem Hq(a b:Str):decide ((Sum.inr a:Key)=Sum.inr b)=decide (a=b):=by
 by_cases e:a=b
 .subst e;simp
 .have h:¬ (Sum.inr a:Key)=Sum.inr b:=λq=>e (Sum.inr.inj q);rw[decide_eq_false h,decide_eq_false e]
theorem J0(a:Int)(b:Str):decide ((Sum.inl a:Key)=Sum.inr b)=false:=decide_eq_false (λq=>nomatch q)
theorem HN(a:Str)(b:Int):decide ((Sum.inr a:Key)=Sum.inl b)=false:=decide_eq_false (λq=>nomatch q)
def cC(prog:GE)(w:Fa):PySem.KeyKind prog w Key where
 is:=rK
 hash:=TV w
 inj:=λv a b ha hb=>by
  rcases ck ha with ⟨i,t,rfl,rfl⟩ | ⟨x,t,rfl,rfl⟩
  .rcases ck hb with ⟨j,u,rfl,e⟩ | ⟨y,u,rfl,e⟩
   .injection e with e1 _;rw[e1]
   .exact nomatch e
  .rcases ck hb with ⟨j,u,rfl,e⟩ | ⟨y,u,rfl,e⟩
   .exact nomatch e
   .injection e with e1 _;rw[e1]
 byValue:=λk v h=>by
  rcases ck h with ⟨i,t,rfl,rfl⟩ | ⟨x,t,rfl,rfl⟩<;>rfl
 pyHash:=λhv h=>by
  rcases ck hv with ⟨i,t,rfl,rfl⟩ | ⟨x,t,rfl,rfl⟩
  .exact wpAny_pyHash_int h
  .exact wpAny_pyHash_str h
 eqBool:=λhu hv h=>by
  rcases ck hu with ⟨i,t,rfl,rfl⟩ | ⟨x,t,rfl,rfl⟩
  .rcases ck hv with ⟨j,u,rfl,rfl⟩ | ⟨y,u,rfl,rfl⟩
   .rw[Hc] at h;exact wpAny_eqBool_int h
   .rw[J0] at h;exact SeqAt.EqAt.int_str i t y u _ _ _ _ h
  .rcases ck hv with ⟨j,u,rfl,rfl⟩ | ⟨y,u,rfl,rfl⟩
   .rw[HN] at h;exact SeqAt.EqAt.str_int x t j u _ _ _ _ h
   .rw[Hq] at h;exact wpAny_eqBool_str h
 «strs»:=λk x t v h=>by
  rcases ck h with ⟨i,u,rfl,e⟩ | ⟨y,u,rfl,e⟩
  .exact nomatch e
  .injection e with e1 _;subst e1;cases v<;>rfl
theorem uL(prog:GE)(w:Fa)(i:Int)(t:Tok):(cC prog w).is (.inl i) (.int i t)=true:=zr i t
theorem vh(prog:GE)(w:Fa)(x:Str)(t:Tok):(cC prog w).is (.inr x) (.str x t)=true:=zm x t
set_option genInjectivity true in inductive V where
 | bT | bl (b:Bool) | int (i:Int) | str (x:Str) | yw (b:Array UInt8) | QZ (b:UInt64) | ref (a:AC) | ty (n:String)
 deriving DecidableEq
def RelV:V->AT->Prop
 | .bT,u=>u=AT.none
 | .bl b,u=>u=AT.bool b
 | .int i,u=>∃ t,u=AT.int i t
 | .str x,u=>∃ t,u=AT.str x t
 | .yw b,u=>∃ t,u=AT.bytes b t
 | .QZ b,u=>∃ t,u=AT.float b t
 | .ref a,u=>u=AT.ref a
 | .ty n,u=>u=AT.type n
abbrev Vals:!V->!AT->Prop:=Paired RelV
theorem Vals.length{xs:!V}{us:!AT}(r:Vals xs us):xs.length=us.length:=Paired.length r
theorem Vals.get:∀ {xs:!V} {us:!AT} {i:Nat} {x:V},Vals xs us->xs[i]?=some x->∃ u,us[i]?=some u/\RelV x u
 | _,_,_,_,.nil,e=>by simp at e
 | _,_,0,_,.cons r _,e=>by simp at e;subst e;exact#[_,rfl,r]
 | _,_,i+1,x,.cons _ t,e=>by
  let(u,h1,h2):=Vals.get (i:=i) (x:=x) t (by simpa using e);exact#[u,by simpa using h1,h2]
theorem Vals.set{x:V}{u:AT}(r:RelV x u):∀ {xs:!V} {us:!AT} (i:Nat),Vals xs us->Vals (xs.set i x) (us.set i u)
 | _,_,_,.nil=>.nil
 | _,_,0,.cons _ t=>.cons r t
 | _,_,i+1,.cons q t=>.cons q (Vals.set r i t)
theorem Vals.append:∀ {xs ys:!V} {us ws:!AT},Vals xs us->Vals ys ws->Vals (xs++ys) (us++ws)
 | _,_,_,_,.nil,s=>s
 | _,_,_,_,.cons r t,s=>.cons r (Vals.append t s)
theorem Vals.take:∀ {xs:!V} {us:!AT} (n:Nat),Vals xs us->Vals (xs.take n) (us.take n)
 | _,_,0,_=>.nil
 | _,_,_+1,.nil=>.nil
 | _,_,n+1,.cons r t=>.cons r (Vals.take n t)
theorem Vals.drop:∀ {xs:!V} {us:!AT} (n:Nat),Vals xs us->Vals (xs.drop n) (us.drop n)
 | _,_,0,r=>r
 | _,_,_+1,.nil=>.nil
 | _,_,n+1,.cons _ t=>Vals.drop n t
def jG:Option V->Option AT->Prop
 | some v,some u=>RelV v u
 | none,none=>True
 | _,_=>False
def KV{κ:Type}:!(κ×V)->!(κ×AT)->Prop:=Paired λ(p:κ×V) (q:κ×AT)=>p.1=q.1/\RelV p.2 q.2
def kV:Key->V
 | .inl i=>.int i
 | .inr x=>.str x
inductive HO where
  | lst (xs:!V)
  | tup (xs:!V)
  | dK (kvs:!(Key×V)) | dT (kvs:!(!Key×V))
  | set (S:Int->Bool) (n:Nat)
  | ins (C dx:AC) (fs:!(Str×V))
  | own (x:AC)
  | xd (fs:!(Str×V))
  | met (f x:AC)
  | S8 (lo hi:Int)
  | iJ (o:Obj) (u:HO)
  | HU (ps:Array AT)
  | ext (φ:EQ->Prop)
abbrev Hp:=AC->Option HO
def upd(H:Hp)(a:AC)(o:HO):Hp:=λb=>if b=a then some o else H b
theorem aA{H:Hp}{a:AC}{o:HO}:upd H a o a=some o:=by unfold upd;rw[if_pos U]
theorem aw{H:Hp}{a b:AC}{o:HO}(h:b≠a):upd H a o b=H b:=by unfold upd;rw[if_neg h]
theorem lg{H:Hp}{a:AC}{o u:HO}:upd (upd H a o) a u=upd H a u:=by
 funext b;unfold upd;split<;>rfl
theorem Gv{H:Hp}{a b:AC}{o u:HO}(h:H a=some o)(h':H b=some u)(d:o≠u):a≠b:=by
 intro e;subst e;rw[h] at h';exact d (WC h')
theorem aE{H:Hp}{a b:AC}{o:HO}(h:H a=some o)(h':H b=none):a≠b:=by
 intro e;subst e;rw[h] at h';cases h'
def iQ(h:EQ)(a:AC)(items:Array AT):Prop:=∃ o,h.get? a=some o/\o.cls=.type "tuple"/\∃ n,o.data=.seq items n/\o.dict=none
theorem iQ.tup{h:EQ}{a:AC}{items:Array AT}(x:iQ h a items):IsTup h a items:=let #[o,e,c,n,d,_]:=x;#[o,e,c,n,d]
theorem iQ.new(h:EQ)(items:Array AT):iQ (h.push { cls:=.type "tuple",data:=.seq items }) h.objs.size items:=#[_,Wl _ U,U,_,U,U]
section
variable(P:GE)(w:Fa)
def b6(H:Hp)(h:EQ)(a:AC):HO->Prop
 | .lst xs=>xs.length<=FB/\∃ (its:!AT) (n:Nat),Vals xs its/\h.get? a=some { cls:=.type "list",data:=.seq its.toArray n }
 | .tup xs=>xs.length<=FB/\∃ its:!AT,Vals xs its/\iQ h a its.toArray
 | .dK kvs=>kvs.length<=FB/\(a == Ps)=false/\∃ vs,KV kvs vs/\h.DictOf (cC P w) a vs
 | .dT kvs=>kvs.length<=FB/\(a == Ps)=false/\∃ xs:!(!Key×AC×AT),
   Paired (λ(p:!Key×V) (q:!Key×AC×AT)=>p.1=q.1/\H q.2.1=some (.tup (p.1.map kV))/\RelV p.2 q.2.2) kvs xs /\
   ∃ o es ep,h.get? a=some o/\o.ExactDict/\o.data=.dict es ep/\es.toList=xs.map (entryOfKey (tupleKind (cC P w)))/\(xs.map (·.1)).Nodup
 | .set S n=>h.SetOf (intKind P w) a S n
 | .ins C dx fs=>H dx=some (.own a)/\fs.length<=1000/\dx≠a/\h.get? a=some (PySem.W.instObj C dx) /\
   ∃ mA,h.Ns1 dx mA/\(∀ f,jG (fs.lookup f) (mA f))/\PySem.Within mA (fs.map (·.1))
 | .own _=>∃ o,h.get? a=some o
 | .xd fs=>∃ mA,h.Ns1 a mA/\∀ f,jG (fs.lookup f) (mA f)
 | .S8 lo hi=>∃ t u v,h.get? a=some { cls:=.type "range",data:=.fields #v[.int lo t,.int hi u,.int 1 v] }
 | .iJ o u=>h.get? a=some o/\b6 H h a u
 | .HU ps=>h.get? a=some { cls:=.none,data:=.fields ps }
 | .met f x=>h.get? a=some (PySem.W.methodObj (.ref f) (.ref x))
 | .ext φ=>φ h/\(∃ o,h.get? a=some o)/\∀ h1 h2:EQ,φ h1->(∀ o,h1.get? a=some o->h2.get? a=some o)->φ h2
def ko(H:Hp)(h:EQ):Prop:=∀ a o,H a=some o->b6 P w H h a o
end
section
variable{P:GE}{w:Fa}{H H':Hp}{h h':EQ}{a:AC}{o:HO}
theorem b6.lt(x:b6 P w H h a o):a < h.objs.size:=by
 cases o with
 | lst xs=>let(_,_,_,_,e):=x;exact Wh e
 | tup xs=>let(_,_,_,p):=x;exact p.tup.lt
 | dK kvs=>let(_,_,_,_,o,_,_,e,_):=x;exact Wh e
 | dT kvs=>let(_,_,_,_,o,_,_,e,_):=x;exact Wh e
 | set S n=>let(o,_,_,_,e,_):=x;exact Wh e
 | ins C dx fs=>let(_,_,_,e,_):=x;exact Wh e
 | own y=>let(_,e):=x;exact Wh e
 | xd fs=>let(_,(_,_,_,e,_),_):=x;exact Wh e
 | S8 lo hi=>let(_,_,_,e):=x;exact Wh e
 | iJ ob u=>let(e,_):=x;exact Wh e
 | HU ps=>exact Wh (show h.get? a=some _ from x)
 | met f y=>exact Wh (show h.get? a=some _ from x)
 | ext φ=>let(_,(_,e),_):=x;exact Wh e
theorem Paired.uQ{α β:Type}{F G:α->β->Prop}:∀ {l₁:!α} {l₂:!β},Paired F l₁ l₂->(∀ a b,F a b->G a b)->Paired G l₁ l₂
 | _,_,.nil,_=>.nil
 | _,_,.cons r t,f=>.cons (f _ _ r) (Paired.uQ t f)
theorem b6.uR(x:b6 P w H h a o)(k:∀ b u,(b=a\/H b=some (.own a))->h.get? b=some u->h'.get? b=some u)(ho:∀ b,H b=some (.own a)->H' b=some (.own a))(ht:∀ b xs,H b=some (.tup xs)->H' b=some (.tup xs)):b6 P w H' h' a o:=by
 induction o with
 | lst xs=>let(z,its,n,r,e):=x;exact#[z,its,n,r,k _ _ (.inl U) e]
 | tup xs=>let(z,its,r,ob,e,c):=x;exact#[z,its,r,ob,k _ _ (.inl U) e,c]
 | dK kvs=>let(z,y,vs,r,ob,es,ep,e,c):=x;exact#[z,y,vs,r,ob,es,ep,k _ _ (.inl U) e,c]
 | dT kvs =>
  let(z,y,xs,r,ob,es,ep,e,c):=x;exact#[z,y,xs,Paired.uQ r λp q z=>#[z.1,ht _ _ z.2.1,z.2.2],ob,es,ep,k _ _ (.inl U) e,c]
 | set S n=>let(ob,es,ep,t,e,c):=x;exact#[ob,es,ep,t,k _ _ (.inl U) e,c]
 | ins C dx fs =>
  let(d,z,ne,e,mA,(od,es,ep,e2,c),r):=x;exact#[ho _ d,z,ne,k _ _ (.inl U) e,mA,#[od,es,ep,k _ _ (.inr d) e2,c],r]
 | own y=>let(ob,e):=x;exact#[ob,k _ _ (.inl U) e]
 | xd fs=>let(mA,(od,es,ep,e,c),r):=x;exact#[mA,#[od,es,ep,k _ _ (.inl U) e,c],r]
 | S8 lo hi=>let(t,u,v,e):=x;exact#[t,u,v,k _ _ (.inl U) e]
 | iJ ob u ih=>let(e,q):=x;exact#[k _ _ (.inl U) e,ih q]
 | HU ps =>
  have e:h.get? a=some { cls:=.none,data:=.fields ps }:=x;change h'.get? a=some { cls:=.none,data:=.fields ps };exact k a _ (.inl U) e
 | met f y =>
  have e:h.get? a=some (PySem.W.methodObj (.ref f) (.ref y)):=x;change h'.get? a=some (PySem.W.methodObj (.ref f) (.ref y));exact k a _ (.inl U) e
 | ext φ=>let(p,(o,e),st):=x;exact#[st _ _ p λo q=>k _ _ (.inl U) q,#[o,k _ _ (.inl U) e],st]
theorem ko.lt(x:ko P w H h)(e:H a=some o):a < h.objs.size:=(x a o e).lt
theorem ko.fresh(x:ko P w H h)(e:h.objs.size<=a):H a=none:=by
 cases q:H a with
 | none=>rfl
 | some u=>exact absurd (Wz (x.lt q) e) (W6 _)
theorem ko.kept(x:ko P w H h)(k:∀ b u,h.get? b=some u->h'.get? b=some u):ko P w H h':=λa o e =>
 (x a o e).uR (λb u _ q=>k b u q) (λ_ q=>q) λ_ _ q=>q
theorem ko.laid(x:ko P w H h)(k:∀ b u,h.get? b=some u->h'.get? b=some u)(hp:h.objs.size<=a)(new:b6 P w (upd H a o) h' a o):ko P w (upd H a o) h':=λb u e=>by
 have hn:=x.fresh hp;by_cases hb:b=a
 .subst hb;rw[aA] at e;cases e;exact new
 .rw[aw hb] at e;exact (x b u e).uR (λc v _ q=>k c v q) (λc q=>by rw[aw (aE q hn)];exact q) λc xs q=>by rw[aw (aE q hn)];exact q
end
def Rd(H:Hp)(a:AC)(u:HO):Prop:=H a=some u\/∃ o,H a=some (.iJ o u)
theorem Rd.ok{P:GE}{w:Fa}{H:Hp}{h:EQ}{a:AC}{u:HO}(r:Rd H a u)(x:ko P w H h):b6 P w H h a u:=by
 rcases r with r | ⟨o,r⟩
 .exact x a u r
 .let(_,q):=x a _ r;exact q
def OI:Option HO->Prop
 | some (.lst _)=>True
 | some (.dK _)=>True
 | some (.dT _)=>True
 | some (.set _ _)=>True
 | some (.ins _ _ _)=>True
 | some (.ext _)=>True
 | _=>False
section
variable{P:GE}{w:Fa}{H:Hp}{h h':EQ}{x e:AC}{o':HO}
theorem ko.write(ok:ko P w H h)(mu:OI (H x))(he:e=x\/H e=some (.own x))(k:∀ b u,b≠e->h.get? b=some u->h'.get? b=some u)(K3:∃ u,h'.get? e=some u)(new:b6 P w (upd H x o') h' x o'):ko P w (upd H x o') h':=λb u q=>by
 have nown:∀ c y,H c=some (.own y)->c≠x:=λc y r z=>by subst z;rw[r] at mu;exact mu
 have BS:∀ c xs,H c=some (.tup xs)->c≠x:=λc xs r z=>by subst z;rw[r] at mu;exact mu
 by_cases hb:b=x
 .subst hb;rw[aA] at q;cases q;exact new
 .rw[aw hb] at q;by_cases hbe:b=e
  .have q':H b=some (.own x):=by
    rcases he with z | z
    .exact absurd (hbe.trans z) hb
    .rw[hbe];exact z
   rw[q] at q';cases q';let(v,hv):=K3;exact#[v,by rw[hbe];exact hv]
  .refine (ok b u q).uR (λc v hc r=>k c v ?_ r) (λc r=>by rw[aw (nown c b r)];exact r) λc xs r=>by rw[aw (BS c xs r)];exact r
   rcases hc with rfl | hc
   .exact hbe
   .rintro rfl;rcases he with z | z
    .exact nown c b hc z
    .rw[hc] at z;cases z;exact hb U
end
structure Un(fs ex:!AC)(H H':Hp)(h h':EQ):Prop where
 keep:∀ b o,h.get? b=some o->H b=none->b∉fs->b∉ex->h'.get? b=some o
 slot:∀ b o,h.get? b=some o->H b=none->b∈fs->b∉ex->∃ sl,h'.get? b=some { o with slots:=sl }
 free:∀ b o,h.get? b=some o->H b=none->b∉ex->H' b=none
 there:∀ b o,h.get? b=some o->b∉ex->∃ o',h'.get? b=some o'
 uX:∀ b xs,H b=some (.tup xs)->H' b=some (.tup xs)
 tD:∀ b o u,H b=some (.iJ o u)->H' b=some (.iJ o u)
 vk:∀ b ps,H b=some (.HU ps)->∃ more,H' b=some (.HU (ps++more))
section
variable{fs VS ex V2:!AC}{H H1 H2:Hp}{h h1 h2 h':EQ}{a x e:AC}{o:HO}
theorem Un.any(u:Un fs ex H H1 h h1){b:AC}{ob:Obj}(q:h.get? b=some ob)(n:H b=none)(hx:b∉ex):∃ sl,h1.get? b=some { ob with slots:=sl }:=by
 by_cases hb:b∈fs
 .exact u.slot b ob q n hb hx
 .exact#[ob.slots,u.keep b ob q n hb hx]
theorem Un.kept(k:∀ b u,h.get? b=some u->h'.get? b=some u):Un fs ex H H h h' :=
 #[λb ob q _ _ _=>k b ob q,λb ob q _ _ _=>#[ob.slots,k b ob q],λ_ _ _ n _=>n,λb ob q _=>#[ob,k b ob q],λ_ _ q=>q,λ_ _ _ q=>q,λ_ ps q=>#[#v[],by rw[q];simp]]
theorem Un.refl:Un fs ex H H h h:=Un.kept λ_ _ q=>q
theorem Un.laid(k:∀ b u,h.get? b=some u->h'.get? b=some u)(hp:h.objs.size<=a)(hn:H a=none):Un fs ex H (upd H a o) h h' where
 keep:=λb u q _ _ _=>k b u q
 slot:=λb u q _ _ _=>#[u.slots,k b u q]
 free:=λb u q n _=>by rw[aw (Ww (Wz (Wh q) hp))];exact n
 there:=λb u q _=>#[u,k b u q]
 uX:=λb xs q=>by rw[aw (aE q hn)];exact q
 tD:=λb u xs q=>by rw[aw (aE q hn)];exact q
 vk:=λb ps q=>#[#v[],by rw[aw (aE q hn),q];simp]
theorem Un.write(mu:OI (H x))(he:e=x\/H e=some (.own x))(k:∀ b u,b≠e->h.get? b=some u->h'.get? b=some u)(K3:∃ u,h'.get? e=some u):Un fs ex H (upd H x o) h h':=by
 have hx:∀ b,H b=none->b≠x:=λb n z=>by subst z;rw[n] at mu;exact mu
 have hb:∀ b,H b=none->b≠e:=λb n z=>by
  subst z;rcases he with r | r
  .exact hx b n r
  .rw[n] at r;cases r
 have hm:∀ b u,H b=some u->¬ OI (some u)->b≠x:=λb u q nm z=>by subst z;rw[q] at mu;exact nm mu
 show#[λb u q n _ _=>k b u (hb b n) q,λb u q n _ _=>#[u.slots,k b u (hb b n) q],λb u q n _=>by rw[aw (hx b n)];exact n,λb u q _=>?_,
  λb xs q=>by rw[aw (hm b _ q λz=>z)];exact q,λb u xs q=>by rw[aw (hm b _ q λz=>z)];exact q,λb ps q=>#[#v[],by rw[aw (hm b _ q λz=>z),q];simp]]
 by_cases hbe:b=e
 .subst hbe;exact K3
 .exact#[u,k b u hbe q]
end
def Q9(h:EQ)(H:Hp):!AC:=(List.range h.objs.size).filter λa=>(H a).isSome
def sj(h:EQ)(H:Hp):EQ:=PySem.W.hideAll h (Q9 h H)
theorem yV(h:EQ)(H:Hp):(sj h H).objs.size=h.objs.size:=PySem.W.hideAll_size _ _
theorem CY{h:EQ}{H:Hp}{b:AC}{o:Obj}(e:h.get? b=some o)(n:H b=none):(sj h H).get? b=some o :=
 PySem.W.hideAll_get _ e λhm=>by
  have q:(H b).isSome=true:=(W9.mp hm).2;rw[n] at q;simp at q
theorem Em{h:EQ}{H:Hp}{b:AC}{o:Obj}(e:(sj h H).get? b=some o):h.get? b=some o/\H b=none:=by
 have e':h.get? b=some o:=PySem.W.of_hideAll (Q9 h H) e;show#[e',?_];cases q:H b with
 | none=>rfl
 | some x =>
  have hm:b∈Q9 h H:=List.mem_filter.mpr #[List.mem_range.mpr (EQ.lt_size e'),by simp[q]];have z:(sj h H).get? b=none:=PySem.W.hideAll_none (Q9 h H) hm;rw[z] at e;cases e
structure Mod(K:Frag)(mg:Str->Option AT)(base:EQ):Prop where
 K8:K.In base
 glob:base.Ns GM mg
 blt:∃ mb,base.Ns builtinsNs mb/\∀ x:Str,x≠"__name__"->mb x=bootBuiltins x
 nolimit:base.NoLimit
structure Cx where
 prog:GE
 w:Fa
 K:Frag
 mg:Str->Option AT
 base:EQ
 A:Fr
 N:!Str
 s₀:Da
 H₀:Hp
 env:Env
 outer:!Env
 stack:!Env
 ex:!AC
 fn:Str->Bool
 calm:Bool
 pn:X8
 xe:X7
def Ct(l:!Env):!AC:=l.filterMap (·.frame)
abbrev Cx.fs(X:Cx):!AC:=Ct X.outer
def Lh(sc:Scope)(x:Str):Prop:=sc.names.lookup x=some .local\/sc.names.lookup x=some .cell\/sc.names.lookup x=some .free
def Loc(sc:Scope)(x:Str):Prop:=sc.names.lookup x=some .local\/sc.names.lookup x=some .cell
def Look(env:Env)(h:EQ)(m:Str->Option AT)(x:Str)(u:AT):Prop :=
 (env.kindOf x=some .local/\m x=some u)\/((env.kindOf x=some .cell\/env.kindOf x=some .free)/\∃ c,env.cells.lookup x=some c/\h.IsCell c (some u))
structure Cx.Ok(X:Cx):Prop where
 mod:Mod X.K X.mg X.base
 kind:X.env.scope.kind=.function
 glob:X.env.globals=GM
 blt:X.env.builtins=builtinsNs
 above:X.s₀.heap.objs.size<=X.env.locals
 inj:∀ x y c,X.env.cells.lookup x=some c->X.env.cells.lookup y=some c->x=y
 has:∀ x,(X.env.kindOf x=some .cell\/X.env.kindOf x=some .free)->∃ c,X.env.cells.lookup x=some c
 Lx:∀ x c,X.fn x=true->X.env.cells.lookup x=some c->X.s₀.heap.objs.size<=c
 hd:X.calm=true->X.A.handled=none
 frames:X.A.frames=some X.stack
 QX:X.stack=X.outer\/(X.stack=X.env::X.outer/\X.env.frame=some X.env.locals)
 QV:∀ b∈X.ex,b≠X.env.locals/\∀ x c,X.env.cells.lookup x=some c->c≠b
 bs:∀ b o,X.base.get? b=some o->X.s₀.heap.get? b=some o/\X.H₀ b=none
 EM:X.base.objs.size<=X.s₀.heap.objs.size
 Al:∀ b o,X.base.get? b=some o->b∉X.ex
 A8:∀ b∈X.ex,b∉X.fs
 nq:X.s₀.heap.FunFrames X.base X.outer
 JW:∀ b∈X.fs,X.H₀ b=none
structure Inv(X:Cx)(TW:X8)(σ:!(Option V))(H:Hp)(s:Da):Prop where
 ok:X.Ok
 os:s.os=X.s₀.os
 bare:AllBare s.gens
 base:Un X.fs X.ex X.H₀ H X.s₀.heap s.heap
 loc:∃ m,s.heap.Ns X.env.locals m/\∀ (i:Nat) (x:Str) (v:V),X.N[i]?=some x->σ[i]?=some (some v)->Lh X.env.scope x->∃ u,RelV v u/\Look X.env s.heap m x u
 cell:∀ x c,X.env.cells.lookup x=some c->∃ v,s.heap.IsCell c v
 free:H X.env.locals=none
 ja:∀ x c,X.env.cells.lookup x=some c->H c=none
 pin:∀ p∈X.pn++TW,s.heap.get? p.1=some p.2/\H p.1=none/\p.1≠X.env.locals/\p.1∉X.fs/\∀ v,p.2.data≠.cell v
 bx:ko X.prog X.w H s.heap
 len:σ.length=X.N.length
section
variable{X:Cx}{TW:X8}{σ:!(Option V)}{H H':Hp}{s:Da}{h':EQ}
theorem Cx.Ok.SG(ok:X.Ok){b:AC}{o:Obj}(e:X.base.get? b=some o):b∉X.fs:=λhb=>by
 have:=(ok.nq.mem hb).1;rw[e] at this;cases this
theorem Inv.bs(I:Inv X TW σ H s):∀ b o,X.base.get? b=some o->s.heap.get? b=some o/\H b=none:=λb o e =>
 #[I.base.keep b o (I.ok.bs b o e).1 (I.ok.bs b o e).2 (I.ok.SG e) (I.ok.Al b o e),I.base.free b o (I.ok.bs b o e).1 (I.ok.bs b o e).2 (I.ok.Al b o e)]
theorem Inv.bk(I:Inv X TW σ H s):∀ b o,X.base.get? b=some o->s.heap.get? b=some o:=λb o e=>(I.bs b o e).1
theorem Inv.mod(I:Inv X TW σ H s):Mod X.K X.mg X.base:=I.ok.mod
theorem Inv.vC(I:Inv X TW σ H s):X.K.In s.heap:=I.ok.mod.K8.keeps I.bk
theorem Inv.lt(I:Inv X TW σ H s):X.env.locals < ↑s:=let #[_,hn,_]:=I.loc;hn.lt
theorem Inv.sz(I:Inv X TW σ H s):X.s₀.heap.objs.size<=↑s:=Ws I.ok.above (X4 I.lt)
theorem Inv.SD(I:Inv X TW σ H s){a:AC}(h:↑s<=a):a∉X.fs:=λhb=>by
 let(_,o,ho,_):=I.ok.nq.mem hb;exact absurd (Wz (Wh ho) (Ws I.sz h)) (W6 _)
theorem Inv.HJ(I:Inv X TW σ H s):∀ x c,X.env.cells.lookup x=some c->c≠X.env.locals:=λx c e z=>by
 let(v,o,ho,hd):=I.cell x c e;let(m,(o',es,ep,ho',hd',_),_):=I.loc;rw[z,ho'] at ho;cases ho;rw[hd'] at hd;cases hd
theorem Inv.nq(I:Inv X TW σ H s):s.heap.FunFrames X.base X.outer:=by
 have all:∀ (l:!Env),(∀ b∈Ct l,b∈X.fs)->X.s₀.heap.FunFrames X.base l->s.heap.FunFrames X.base l:=by
  intro l
  induction l with
  | nil=>intro _ _;trivial
  | cons env r ih =>
   intro hs hl;let(hk,(L,o,hf,hn,ho,hd),hr):=hl;have hL:L∈X.fs:=hs L (by unfold Ct;rw[List.filterMap_cons,hf];exact List.mem_cons_self);let(sl,e):=I.base.slot L o ho (I.ok.JW L hL) hL λz=>I.ok.A8 L z hL;exact#[hk,#[L,_,hf,hn,e,hd],ih (λb hb=>hs b (by unfold Ct;rw[List.filterMap_cons,hf];exact List.mem_cons_of_mem _ hb)) hr]
 exact all X.outer (λ_ hb=>hb) I.ok.nq
theorem Inv.stack(I:Inv X TW σ H s):s.heap.FunFrames X.base X.stack:=by
 rcases I.ok.QX with e | ⟨e,hf⟩
 .rw[e];exact I.nq
 .rw[e];let(m,hn,_):=I.loc;show .cons (by rw[I.ok.kind];decide) hf hn ?_ I.nq;exact EQ.get?_none_of_le (Ws I.ok.EM I.ok.above)
theorem Inv.vI(I:Inv X TW σ H s):∀ b∈Ct X.stack,b∈X.env.locals::X.fs:=λb hb=>by
 rcases I.ok.QX with e | ⟨e,hf⟩
 .rw[e] at hb;exact Wd _ hb
 .rw[e] at hb;unfold Ct at hb;rw[List.filterMap_cons,hf] at hb;exact hb
theorem Inv.xX(I:Inv X TW σ H s):∀ b∈Ct X.stack,H b=none:=λb hb=>by
 rcases Wu.mp (I.vI b hb) with e | hb
 .rw[e];exact I.free
 .let(_,o,ho,_):=I.ok.nq.mem hb;exact I.base.free b o ho (I.ok.JW b hb) λz=>I.ok.A8 b z hb
theorem Inv.step{g':Array GenState}{t':Nat}{d':Drawn}{ch:!AC}(I:Inv X TW σ H s)(xN:∀ b∈ch,(b∈X.ex\/X.s₀.heap.objs.size<=b)/\b≠X.env.locals/\(∀ x c,X.env.cells.lookup x=some c->c≠b)/\∀ p∈X.pn++TW,p.1≠b)(keep:∀ b o,b≠X.env.locals->b∉X.fs->b∉ch->s.heap.get? b=some o->H b=none->h'.get? b=some o)(slot:∀ b o,b≠X.env.locals->b∈X.fs->b∉ch->s.heap.get? b=some o->H b=none->∃ sl,h'.get? b=some { o with slots:=sl })(free:∀ b o,b∉ch->s.heap.get? b=some o->H b=none->H' b=none)(there:∀ b o,b∉ch->s.heap.get? b=some o->∃ o',h'.get? b=some o')(uX:∀ b xs,H b=some (.tup xs)->H' b=some (.tup xs))(tD:∀ b o u,H b=some (.iJ o u)->H' b=some (.iJ o u))(vk:∀ b ps,H b=some (.HU ps)->∃ more,H' b=some (.HU (ps++more)))(ns:∀ m,s.heap.Ns X.env.locals m->h'.Ns X.env.locals m)(bx:ko X.prog X.w H' h')(hg:AllBare g') :
  Inv X TW σ H' { s with heap:=h',gens:=g',drawn:=d',toks:=t' }:=by
 have neL:∀ b o,X.s₀.heap.get? b=some o->b≠X.env.locals:=λb o e=>Ww (Wz (Wh e) I.ok.above);have neC:∀ b o,X.s₀.heap.get? b=some o->b∉X.ex->b∉ch:=λb o e hx hb=>by
  rcases (xN b hb).1 with z | z
  .exact hx z
  .exact absurd (Wz (Wh e) z) (W6 _)
 have cellK:∀ x c,X.env.cells.lookup x=some c->∀ v,s.heap.IsCell c v->h'.IsCell c v:=λx c e v z1r=>by
  let(o,ho,hd):=z1r;have nch:c∉ch:=λz=>(xN c z).2.2.1 x c e U;by_cases hc:c∈X.fs
  .let(sl,q):=slot c o (I.HJ x c e) hc nch ho (I.ja x c e);exact#[_,q,hd]
  .exact#[o,keep c o (I.HJ x c e) hc nch ho (I.ja x c e),hd]
 show#[I.ok,I.os,hg,#[λb o e n hb hx=>?_,λb o e n hb hx=>?_,λb o e n hx=>?_,λb o e hx=>?_,λb xs e=>uX b xs (I.base.uX b xs e),λb o xs e=>tD b o xs (I.base.tD b o xs e),λb ps e=>?_],?_,λx c e=>?_,?_,λx c e=>?_,λp hp=>?_,bx,I.len]
 .exact keep b o (neL b o e) hb (neC b o e hx) (I.base.keep b o e n hb hx) (I.base.free b o e n hx)
 .let(sl,e1):=I.base.slot b o e n hb hx;let(sl',e2):=slot b _ (neL b o e) hb (neC b o e hx) e1 (I.base.free b o e n hx);exact#[sl',e2]
 .let(o',e1):=I.base.there b o e hx;exact free b o' (neC b o e hx) e1 (I.base.free b o e n hx)
 .let(o',e1):=I.base.there b o e hx;exact there b o' (neC b o e hx) e1
 .let(m1,e1):=I.base.vk b ps e;let(m2,e2):=vk b _ e1;exact#[m1++m2,by rw[e2,Array.append_assoc]]
 .let(m,hn,hl):=I.loc;show#[m,ns m hn,λi x v e1 e2 e3=>?_];let(u,r,l):=hl i x v e1 e2 e3;show#[u,r,?_];rcases l with l | ⟨k,c,e,z⟩
  .exact .inl l
  .exact .inr #[k,c,e,cellK x c e _ z]
 .let(v,z):=I.cell x c e;exact#[v,cellK x c e v z]
 .let(m,(o,_,_,ho,_),_):=I.loc;exact free _ o (λz=>(xN _ z).2.1 U) ho I.free
 .let(v,o,ho,hd):=I.cell x c e;exact free c o (λz=>(xN c z).2.2.1 x c e U) ho (I.ja x c e)
 .let(e,n,ne,nf,d):=I.pin p hp;have nch:p.1∉ch:=λz=>(xN p.1 z).2.2.2 p hp U;exact#[keep p.1 p.2 ne nf nch e n,free p.1 p.2 nch e n,ne,nf,d]
theorem Inv.un{t':Nat}(I:Inv X TW σ H s)(u:Un X.fs [] H H' s.heap h')(bx:ko X.prog X.w H' h'):Inv X TW σ H' { s with heap:=h',toks:=t' }:=by
 let(m,(o,es,ep,ho,r),_):=id I.loc;let(sl,hL):=u.any ho I.free (by simp);exact I.step (g':=s.gens) (d':=s.drawn) (ch:=[]) (λ_ z=>nomatch z) (λb o _ hb _ e n=>u.keep b o e n hb (by simp)) (λb o _ hb _ e n=>u.slot b o e n hb (by simp)) (λb o _ e n=>u.free b o e n (by simp)) (λb o _ e=>u.there b o e (by simp)) u.uX u.tD u.vk (λm' hm=>by
  let(o',es',ep',ho',r'):=hm;rw[ho] at ho';cases ho';exact#[_,es',ep',hL,r']) bx I.bare
theorem Inv.call{g':Array GenState}{t':Nat}{d':Drawn}{ch:!AC}(I:Inv X TW σ H s)(u:Un (Ct X.stack) ch H H' s.heap h')(bx:ko X.prog X.w H' h')(hg:AllBare g')(xN:∀ b∈ch,(b∈X.ex\/X.s₀.heap.objs.size<=b)/\b≠X.env.locals/\(∀ x c,X.env.cells.lookup x=some c->c≠b)/\∀ p∈X.pn++TW,p.1≠b) :
  Inv X TW σ H' { s with heap:=h',gens:=g',drawn:=d',toks:=t' }:=by
 let(m,(o,es,ep,ho,r),_):=id I.loc;let(sl,hL):=u.any ho I.free λz=>(xN _ z).2.1 U;exact I.step (ch:=ch) xN (λb o hL hb hc e n=>u.keep b o e n (λz=>(Wu.mp (I.vI b z)).elim hL hb) hc) (λb o _ _ hc e n=>u.any e n hc) (λb o hc e n=>u.free b o e n hc) (λb o hc e=>u.there b o e hc) u.uX u.tD u.vk (λm' hm=>by
  let(o',es',ep',ho',r'):=hm;rw[ho] at ho';cases ho';exact#[_,es',ep',hL,r']) bx hg
theorem Inv.turned{t':Nat}{it:AC}(I:Inv X TW σ H s)(k:∀ b o,b≠it->s.heap.get? b=some o->h'.get? b=some o)(hn:H it=none)(hL:it≠X.env.locals)(h1:it∈X.ex\/X.s₀.heap.objs.size<=it)(h2:∀ x c,X.env.cells.lookup x=some c->c≠it)(h3:∀ p∈X.pn++TW,p.1≠it):Inv X TW σ H { s with heap:=h',toks:=t' }:=by
 have nit:∀ b u,H b=some u->b≠it:=λb u e z=>by rw[z,hn] at e;cases e
 show I.step (g':=s.gens) (d':=s.drawn) (ch:=[it]) (λb hb=>?_) (λb o _ _ hc e _=>k b o (λz=>hc (by simp[z])) e) (λb o _ _ hc e _=>#[o.slots,k b o (λz=>hc (by simp[z])) e]) (λ_ _ _ _ n=>n)
  (λb o hc e=>#[o,k b o (λz=>hc (by simp[z])) e]) (λ_ _ e=>e) (λ_ _ _ e=>e) (λb ps e=>#[#v[],by rw[e];simp]) (λm hm=>?_) (λb u e=>?_) I.bare
 .have e:b=it:=by simpa using hb
  subst e;exact#[h1,hL,h2,h3]
 .let(o,es,ep,ho,r):=hm;exact#[o,es,ep,k _ o (Ne.symm hL) ho,r]
 .refine (I.bx b u e).uR (λc v hc q=>k c v ?_ q) (λ_ q=>q) λ_ _ q=>q;rcases hc with z | z
  .rw[z];exact nit b u e
  .exact nit c _ z
theorem Inv.tok(I:Inv X TW σ H s)(t:Nat):Inv X TW σ H { s with toks:=t }:=I.un (h':=s.heap) (t':=t) Un.refl I.bx
theorem Inv.kept{t':Nat}(I:Inv X TW σ H s)(k:∀ b u,s.heap.get? b=some u->h'.get? b=some u):Inv X TW σ H { s with heap:=h',toks:=t' }:=I.un (Un.kept k) (I.bx.kept k)
theorem Inv.laid{a:AC}{o:HO}{t':Nat}(I:Inv X TW σ H s)(k:∀ b u,s.heap.get? b=some u->h'.get? b=some u)(hp:↑s<=a)(new:b6 X.prog X.w (upd H a o) h' a o) :
  Inv X TW σ (upd H a o) { s with heap:=h',toks:=t' }:=I.un (Un.laid k hp (I.bx.fresh hp)) (I.bx.laid k hp new)
theorem Inv.write{x e:AC}{o:HO}{t':Nat}(I:Inv X TW σ H s)(mu:OI (H x))(he:e=x\/H e=some (.own x))(k:∀ b u,b≠e->s.heap.get? b=some u->h'.get? b=some u)(K3:∃ u,h'.get? e=some u)(new:b6 X.prog X.w (upd H x o) h' x o):Inv X TW σ (upd H x o) { s with heap:=h',toks:=t' }:=I.un (Un.write mu he k K3) (I.bx.write mu he k K3 new)
theorem Inv.weak{σ':!(Option V)}(I:Inv X TW σ H s)(hl:σ'.length=σ.length)(w:∀ (i:Nat) v,σ'[i]?=some (some v)->σ[i]?=some (some v)):Inv X TW σ' H s :=
 #[I.ok,I.os,I.bare,I.base,let #[m,hn,hl']:=I.loc;#[m,hn,λi x v e1 e2 e3=>hl' i x v e1 (w i v e2) e3],I.cell,I.free,I.ja,I.pin,I.bx,hl.trans I.len]
theorem Inv.xR{Gi:X8}(I:Inv X TW σ H s)(h:∀ p∈Gi,s.heap.get? p.1=some p.2/\H p.1=none/\p.1≠X.env.locals/\p.1∉X.fs/\∀ v,p.2.data≠.cell v):Inv X Gi σ H s :=
 #[I.ok,I.os,I.bare,I.base,I.loc,I.cell,I.free,I.ja,λp hp=>(WA.mp hp).elim (λz=>I.pin p (WQ _ z)) (h p),I.bx,I.len]
theorem vj{N:!Str}(hN:N.Nodup){i j:Nat}{x:Str}(a:N[i]?=some x)(b:N[j]?=some x):i=j:=by
 let(h1,e1):=Wb.mp a;let(h2,e2):=Wb.mp b;exact (X0 hN).mp (e1.trans e2.symm)
abbrev Yd (X:Cx)(x:Str):Prop:=X.fn x=true\/X.env.scope.names.lookup x=some .local
theorem rj{M:Model}{A:Fr}{E:X7}{i:Nat}{x:Str}{v:V}{u:AT}{Q:Unit->Da->Prop}(I:Inv X TW σ H s)(hN:X.N.Nodup)(hi:X.N[i]?=some x)(hx:Loc X.env.scope x)(r:RelV v u)(h:∀ s',Inv X TW (σ.set i (some v)) H s'->(∃ a,EQ.SameBut a s.heap s'.heap/\(a=X.env.locals\/X.env.cells.lookup x=some a))->Q Unit.unit s')(hf:Yd X x:=by ac_nf):Db M A (storeName X.env x u) Q E s:=by
 let(m,hn,hl):=id I.loc;have hcls:(X.env.scope.kind == .class||(X.env.scope.kind == .module&&X.env.locals != X.env.globals))=false:=by rw[I.ok.kind];rfl
 have hiσ:i < σ.length:=by rw[I.len];exact (Wb.mp hi).1
 have HJ:=I.HJ;have tracked:∀ {a:AC} {h':EQ},(∃ o,s.heap.get? a=some o/\H a=none)->EQ.SameBut a s.heap h'->ko X.prog X.w H h':=λ{a h'} ha hs b ob e=>by
  let(_,_,hfree):=ha;show (I.bx b ob e).uR (λc w' hc q=>(hs.2 c ?_).trans q) (λ_ q=>q) λ_ _ q=>q;rintro rfl;rcases hc with rfl | hc
  .rw[hfree] at e;cases e
  .rw[hfree] at hc;cases hc
 rcases hx with hk | hk
 .refine wpAny_storeName_local hk hn (λh' hn' hs=>?_) hcls;let(oL,_,_,hoL,_):=id hn;show h _ #[I.ok,I.os,I.bare,#[λb o e n hb hx=>?_,λb o e n hb hx=>?_,I.base.free,λb o e hx=>?_,I.base.uX,I.base.tD,I.base.vk],#[_,hn',λj y v' e1 e2 e3=>?_],λy c e=>?_,I.free,I.ja,λp hp=>?_,tracked #[oL,hoL,I.free] hs,by simpa using I.len] #[_,hs,.inl U]
  .exact (hs.2 b (Ww (Wz (Wh e) I.ok.above))).trans (I.base.keep b o e n hb hx)
  .let(sl,e1):=I.base.slot b o e n hb hx;exact#[sl,(hs.2 b (Ww (Wz (Wh e) I.ok.above))).trans e1]
  .let(o',e1):=I.base.there b o e hx;exact#[o',(hs.2 b (Ww (Wz (Wh e) I.ok.above))).trans e1]
  .by_cases hj:j=i
   .subst hj;rw[hi] at e1;cases e1;rw[WK hiσ] at e2;cases e2;exact#[u,r,.inl #[hk,by simp]]
   .rw[Wt (Ne.symm hj)] at e2;let(u',r',q):=hl j y v' e1 e2 e3;show#[u',r',?_];rcases q with ⟨k,e⟩ | ⟨k,c,e,z⟩
    .refine .inl #[k,?_];have:y≠x:=λe=>hj (vj hN e1 (e▸hi));simp[this,e]
    .exact .inr #[k,c,e,z.sameBut hs (HJ y c e)]
  .let(w',z):=I.cell y c e;exact#[w',z.sameBut hs (HJ y c e)]
  .let(e,n,ne,nf,d):=I.pin p hp;exact#[(hs.2 p.1 ne).trans e,n,ne,nf,d]
 .have hfn:X.fn x=true:=by
   rcases hf with z | z
   .exact z
   .rw[z] at hk;cases hk
  let(c,hc):=I.ok.has x (.inl hk);let(w',z):=I.cell x c hc;show wpAny_storeName_cell I.ok.kind hk hc z (λh' hc' hs=>?_);let(oc,hoc,hocd):=id z;show h { s with heap:=h' } #[I.ok,I.os,I.bare,#[λb o e n hb hx=>?_,λb o e n hb hx=>?_,I.base.free,λb o e hx=>?_,I.base.uX,I.base.tD,I.base.vk],#[m,hn.sameBut hs (Ne.symm (HJ x c hc)),λj y v' e1 e2 e3=>?_],λy c' e=>?_,I.free,I.ja,λp hp=>?_,tracked #[oc,hoc,I.ja x c hc] hs,by simpa using I.len] #[c,hs,.inr hc]
  .exact (hs.2 b (Ww (Wz (Wh e) (I.ok.Lx x c hfn hc)))).trans (I.base.keep b o e n hb hx)
  .let(sl,e1):=I.base.slot b o e n hb hx;exact#[sl,(hs.2 b (Ww (Wz (Wh e) (I.ok.Lx x c hfn hc)))).trans e1]
  .let(o',e1):=I.base.there b o e hx;exact#[o',(hs.2 b (Ww (Wz (Wh e) (I.ok.Lx x c hfn hc)))).trans e1]
  .by_cases hj:j=i
   .subst hj;rw[hi] at e1;cases e1;rw[WK hiσ] at e2;cases e2;exact#[u,r,.inr #[.inl hk,c,hc,hc']]
   .rw[Wt (Ne.symm hj)] at e2;let(u',r',q):=hl j y v' e1 e2 e3;show#[u',r',?_];rcases q with q | ⟨k,c',e,z'⟩
    .exact .inl q
    .refine .inr #[k,c',e,z'.sameBut hs ?_];rintro rfl;exact hj (vj hN e1 (I.ok.inj _ _ _ e hc▸hi))
  .by_cases hcc:c'=c
   .subst hcc;exact#[_,hc']
   .let(w2,z2):=I.cell y c' e;exact#[w2,z2.sameBut hs hcc]
  .let(e,n,ne,nf,d):=I.pin p hp;show#[(hs.2 p.1 ?_).trans e,n,ne,nf,d];intro q;rw[q,hoc] at e;have q':oc=p.2:=WC e;exact d w' (by rw[<- q'];exact hocd)
theorem uD{M:Model}{A:Fr}{E:X7}{i:Nat}{x:Str}{v:V}{u:AT}{Q:Unit->Da->Prop}(I:Inv X TW σ H s)(hN:X.N.Nodup)(hi:X.N[i]?=some x)(hx:Loc X.env.scope x)(r:RelV v u)(h:∀ s',Inv X TW (σ.set i (some v)) H s'->Q Unit.unit s')(hf:Yd X x:=by ac_nf):Db M A (storeName X.env x u) Q E s :=
 rj I hN hi hx r (λs' I' _=>h s' I') hf
theorem Inv.MS{s':Da}{ch:!AC}(I:Inv X TW σ H s)(ho:s'.os=s.os)(u:Un (Ct X.stack) ch H H' s.heap s'.heap)(bx:ko X.prog X.w H' s'.heap)(hg:AllBare s'.gens)(xN:∀ b∈ch,(b∈X.ex\/X.s₀.heap.objs.size<=b)/\b≠X.env.locals/\(∀ x c,X.env.cells.lookup x=some c->c≠b)/\∀ p∈X.pn++TW,p.1≠b):Inv X TW σ H' s':=by
 let(h',g',d',t',o'):=s';have e:o'=s.os:=ho;subst e;exact I.call (g':=g') (t':=t') (d':=d') u bx hg xN
end
abbrev XK:=AT->Option AC->Hp->Prop
abbrev St:=!(Option V)
abbrev VK:=V->Hp->Prop
abbrev TE:=St->Hp->VK->Prop
abbrev TT:=St->Hp->(Bool->Hp->Prop)->Prop
abbrev TA:=St->Hp->(!V->Hp->Prop)->Prop
structure Ends where
 nx:St->Hp->Prop
 rt:VK
 bk:St->Hp->Prop:=λ_ _=>False
 ct:St->Hp->Prop:=λ_ _=>False
abbrev TS:=Ends->St->Hp->Prop
def EP(X:Cx)(TW:X8)(σ:St)(Q:VK)(u:AT)(s':Da):Prop:=∃ v H',Inv X TW σ H' s'/\RelV v u/\Q v H'
def TP(X:Cx)(TW:X8)(σ:St)(Q:Bool->Hp->Prop)(b:Bool)(s':Da):Prop:=∃ H',Inv X TW σ H' s'/\Q b H'
def AP(X:Cx)(TW:X8)(σ:St)(Q:!V->Hp->Prop)(us:!AT)(s':Da):Prop:=∃ vs H',Inv X TW σ H' s'/\Vals vs us/\Q vs H'
def SP(X:Cx)(TW:X8)(D:Ends)(f:Flow)(s':Da):Prop :=
 match f with
 | .next=>∃ σ' H',Inv X TW σ' H' s'/\D.nx σ' H'
 | .brk=>∃ σ' H',Inv X TW σ' H' s'/\D.bk σ' H'
 | .cont=>∃ σ' H',Inv X TW σ' H' s'/\D.ct σ' H'
 | .ret u=>∃ v σ' H',Inv X TW σ' H' s'/\RelV v u/\D.rt v H'
def PE(X:Cx)(e:Cl)(t:TE):Prop :=
 ∀ (TW:X8) (s:Da) (σ:St) (H:Hp) (Q:VK),Inv X TW σ H s->t σ H Q->Db (model X.prog X.w) X.A (eval e X.env) (EP X TW σ Q) X.xe s
def PT(X:Cx)(e:Cl)(t:TT):Prop :=
 ∀ (TW:X8) (s:Da) (σ:St) (H:Hp) (Q:Bool->Hp->Prop),Inv X TW σ H s->t σ H Q->Db (model X.prog X.w) X.A (isTrue e X.env (eval e X.env)) (TP X TW σ Q) X.xe s
def PW(X:Cx)(e:Cl)(t:TT):Prop :=
 ∀ (whole:Sem AT) (TW:X8) (s:Da) (σ:St) (H:Hp) (Q:Bool->Hp->Prop),Inv X TW σ H s->t σ H Q->Db (model X.prog X.w) X.A (isTrue e X.env whole) (TP X TW σ Q) X.xe s
theorem PW.pt{X:Cx}{e:Cl}{t:TT}(h:PW X e t):PT X e t:=h _
def PA(X:Cx)(es:!Cl)(t:TA):Prop :=
 ∀ (pos:Pos) (TW:X8) (s:Da) (σ:St) (H:Hp) (Q:!V->Hp->Prop),Inv X TW σ H s->t σ H Q->Db (model X.prog X.w) X.A (spliced (IR pos (GT es X.env))) (AP X TW σ Q) X.xe s
def PS(X:Cx)(st:Ev)(t:TS):Prop :=
 ∀ (TW:X8) (s:Da) (σ:St) (H:Hp) (D:Ends),Inv X TW σ H s->t D σ H->Db (model X.prog X.w) X.A (exec st X.env) (SP X TW D) X.xe s
def nK(X:Cx)(st:!Ev)(t:TS):Prop :=
 ∀ (TW:X8) (s:Da) (σ:St) (H:Hp) (D:Ends),Inv X TW σ H s->t D σ H->Db (model X.prog X.w) X.A (execs st X.env) (SP X TW D) X.xe s
theorem b3{α:Type}{t:Sem α}{Q Q':α->Da->Prop}{M:Model}{A:Fr}{E:X7}{s:Da}(h:Db M A t Q E s)(hQ:∀ a s,Q a s->Q' a s):Db M A t Q' E s:=Os h hQ λ_ _ x=>x
theorem el2{α β:Type}{P Q R:α->β->Prop}{C:Prop}(h:∃ a b,P a b/\Q a b/\R a b)(k:∀ a b,P a b->Q a b->R a b->C):C:=h.elim λa h=>h.elim λb h=>k a b h.1 h.2.1 h.2.2
section
variable{X:Cx}
def bN(i:Nat):TE:=λσ H Q=>∃ v,σ[i]?=some (some v)/\Q v H
def tC(v:V):TE:=λ_ H Q=>Q v H
theorem w8{i:Nat}{x:Str}{pos:Pos}(hN:X.N[i]?=some x)(hv:Lh X.env.scope x)(hd: ~~~(Yc x))(sW: ~~~((x == ("__classdict__":Str))=false)):PE X (.Name x pos) (bN i):=by
 intro TW s σ H Q I h;let(v,e,h):=h;let(m,hn,hl):=I.loc;let(u,r,l):=hl i x v hN e hv;have fin:EP X TW σ Q u s:=#[v,H,I,r,h];rcases l with ⟨hk,hm⟩ | ⟨hk,c,hc,hcell⟩
 .exact wpAny_Name (wpAny_loadName_local I.ok.kind hk hn hm fin) hd
 .rcases hk with hk | hk
  .exact wpAny_Name (wpAny_loadName_cell I.ok.kind hk hc hcell fin) hd
  .exact wpAny_Name (wpAny_loadName_free I.ok.kind hk hc hcell fin sW) hd
theorem bQ{i j pos}:PE X (.Constant (.int i) j pos) (tC (.int i)):=λ_ _ _ H _ I h=>wpAny_Constant_int #[.int i,H,I.tok _,#[_,U],h]
theorem Oy{b j pos}:PE X (.Constant (.bool b) j pos) (tC (.bl b)):=λ_ _ _ H _ I h=>Constant_bool #[.bl b,H,I,U,h]
theorem KC{j pos}:PE X (.Constant .none j pos) (tC .bT):=λ_ _ _ H _ I h=>Constant_none #[.bT,H,I,U,h]
theorem dJ{x j pos}:PE X (.Constant (.str x) j pos) (tC (.str x)):=λ_ _ _ H _ I h=>Calls.Constant_str #[.str x,H,I.tok _,#[_,U],h]
def Gl(X:Cx)(x:Str):Prop:=X.env.kindOf x=some .globalImplicit
theorem t6{E:X7}{TW:X8}{s:Da}{σ:St}{H:Hp}{x:Str}{u:AT}{pos:Pos}{Q:X7}(I:Inv X TW σ H s)(hg:Gl X x)(hm:X.mg x=some u)(h:Q u s)(hd: ~~~(Yc x)):Db (model X.prog X.w) X.A (eval (.Name x pos) X.env) Q E s :=
 Calls.Name_function_global I.ok.kind hg (Calls.loadGlobal_global (by rw[I.ok.glob];exact I.mod.glob.keeps I.bk) hm h) hd
theorem ib{E:X7}{TW:X8}{s:Da}{σ:St}{H:Hp}{x:Str}{u:AT}{pos:Pos}{Q:X7}(I:Inv X TW σ H s)(hg:Gl X x)(hm:X.mg x=none)(hv:bootBuiltins x=some u)(h:Q u s)(hn: ~~~(x≠"__name__"))(hd: ~~~(Yc x)):Db (model X.prog X.w) X.A (eval (.Name x pos) X.env) Q E s:=by
 let(mb,h1,h2):=I.mod.blt;exact Calls.Name_function_global I.ok.kind hg (Calls.loadGlobal_builtin (by rw[I.ok.glob];exact I.mod.glob.keeps I.bk) hm (by rw[I.ok.blt];exact h1.keeps I.bk) ((h2 x hn).trans hv) h) hd
theorem Fv{x:Str}{v:V}{u:AT}{pos:Pos}(hg:Gl X x)(hm:X.mg x=some u)(r:RelV v u)(hd: ~~~(Yc x)):PE X (.Name x pos) (tC v) :=
 λ_ _ _ H _ I h=>t6 I hg hm #[v,H,I,r,h] hd
variable{a b:Cl}{ta tb:TE}{pos:Pos}
def PC(X:Cx)(op:CmpOp)(a b:Cl)(t:TE):Prop :=
 ∀ (TW:X8) (s:Da) (σ:St) (H:Hp) (Q:VK),Inv X TW σ H s->t σ H Q ->
  Db (model X.prog X.w) X.A (eval a X.env) (λv s₁=>Db (model X.prog X.w) X.A (eval b X.env) (λu s₂=>Db (model X.prog X.w) X.A (KM op v u) (EP X TW σ Q) X.xe s₂) X.xe s₁) X.xe s
def tB(t:TE):TT:=λσ H Q=>t σ H λx H1=>∃ c,x=.bl c/\Q c H1
theorem JS{op:CmpOp}{t:TE}(h:PC X op a b t)(h1:behindInMarks op b=false:=by first | exact BL _ () () | rfl):PE X (.Compare a [op] [b] pos) t:=λTW s σ H Q I hw=>wpAny_Compare1 (h TW s σ H Q I hw) h1
theorem oE{op:CmpOp}{t:TE}(h:PC X op a b t)(h1:behindInMarks op b=false:=by first | exact BL _ () () | rfl):PT X (.Compare a [op] [b] pos) (tB t):=by
 intro TW s σ H Q I hw;show wpAny_isTrue_Compare1 (b3 (h TW s σ H _ I hw) λv s1 h1=>b3 h1 λu s2 h2=>b3 h2 λc s3 #[x,H1,I1,r1,q1]=>?_) h1;let(d,rfl,q):=q1;cases r1;exact wpAny_truthy_bool #[H1,I1,q]
theorem HK{e:Cl}{t:TE}(h:PE X e t)(he:∀ whole,isTrue e X.env whole=(do let v <- whole;standAt e.pos;holding [v] (truthy v)):=by intro _;rfl):PT X e (tB t):=by
 intro TW s σ H Q I hw;show isTrue_plain (b3 (h TW s σ H _ I hw) λv s1 zz=>el2 zz λx H1 I1 r1 q1=>?_) (he _);let(d,rfl,q):=q1;cases r1;exact wpAny_truthy_bool #[H1,I1,q]
variable{tA Rk:TT}{rest:!Cl}
def Nj(t u:TT):TT:=λσ H Q=>t σ H λc H1=>if c=true then u σ H1 Q else Q false H1
def Vp(t u:TT):TT:=λσ H Q=>t σ H λc H1=>if c=true then Q true H1 else u σ H1 Q
def Rz(t:TT):TT:=λσ H Q=>t σ H λc H1=>Q (not c) H1
theorem pw_and1(ha:PT X a tA):PW X (.BoolOp .And [a] pos) tA:=by
 intro wh TW s σ H Q I h;show isTrue_and (b3 (ha TW s σ H Q I h) λc s1 e=>?_);cases c with
 | true=>exact isTrue_and_nil e
 | false=>exact e
theorem pw_or1(ha:PT X a tA):PW X (.BoolOp .Or [a] pos) tA:=by
 intro wh TW s σ H Q I h;show isTrue_or (b3 (ha TW s σ H Q I h) λc s1 e=>?_);cases c with
 | false=>exact isTrue_or_nil e
 | true=>exact e
theorem pw_and(ha:PT X a tA)(hb:PW X (.BoolOp .And (b::rest) pos) Rk):PW X (.BoolOp .And (a::b::rest) pos) (Nj tA Rk):=by
 intro wh TW s σ H Q I h;show isTrue_and (b3 (ha TW s σ H _ I h) λc s1 #[H1,I1,q1]=>?_);cases c with
 | true=>exact hb wh TW s1 σ H1 Q I1 q1
 | false=>exact#[H1,I1,q1]
theorem pw_or(ha:PT X a tA)(hb:PW X (.BoolOp .Or (b::rest) pos) Rk):PW X (.BoolOp .Or (a::b::rest) pos) (Vp tA Rk):=by
 intro wh TW s σ H Q I h;show isTrue_or (b3 (ha TW s σ H _ I h) λc s1 #[H1,I1,q1]=>?_);cases c with
 | true=>exact#[H1,I1,q1]
 | false=>exact hb wh TW s1 σ H1 Q I1 q1
theorem Kh(ha:PT X a tA):PT X (.UnaryOp .Not a pos) (Rz tA):=by
 intro TW s σ H Q I h;exact isTrue_not (ha TW s σ H (λc H1=>Q (not c) H1) I h)
def Qk(ta tb:TE):TE:=λσ H Q=>ta σ H λx H1=>∃ c,x=.bl c/\if c=true then tb σ H1 Q else Q (.bl false) H1
theorem IZ{op}{t:TE}(h:PE X a t):PE X (.BoolOp op [a] pos) t:=λTW s σ H Q I hw=>BoolOp_one (h TW s σ H Q I hw)
theorem Hx(ha:PE X a ta)(hb:PE X (.BoolOp .And (b::rest) pos) tb):PE X (.BoolOp .And (a::b::rest) pos) (Qk ta tb):=by
 intro TW s σ H Q I h;show BoolOp_and (b3 (ha TW s σ H _ I h) λv s1 zz=>el2 zz λx H1 I1 r1 q1=>?_);let(c,rfl,q1):=q1;cases r1;show wpAny_truthy_bool ?_;cases c with
 | true=>exact hb TW s1 σ H1 Q I1 q1
 | false=>exact#[.bl false,H1,I1,U,q1]
def Vu(t:TT)(ta tb:TE):TE:=λσ H Q=>t σ H λc H1=>if c=true then ta σ H1 Q else tb σ H1 Q
theorem AH{c:Cl}(hc:PT X c tA)(ha:PE X a ta)(hb:PE X b tb):PE X (.IfExp c a b pos) (Vu tA ta tb):=by
 intro TW s σ H Q I h;show wpAny_IfExp (b3 (hc TW s σ H _ I h) λd s1 #[H1,I1,q1]=>?_);cases d with
 | true=>exact ha TW s1 σ H1 Q I1 q1
 | false=>exact hb TW s1 σ H1 Q I1 q1
end
def d8(K:Frag)(H:Hp)(a:AC)(xs:!V):Prop :=
 Rd H a (.lst xs) \/
  ∃ (o:Obj) (its:Array AT) (n:Nat),K.lookup a=some o/\o.cls=.type "list"/\o.dict=none/\o.data=.seq its n/\its.size<=FB/\Vals xs its.toList
def jx(K:Frag)(H:Hp)(a:AC)(xs:!V):Prop :=
 Rd H a (.tup xs) \/
  ∃ (o:Obj) (its:Array AT) (n:Nat),K.lookup a=some o/\o.cls=.type "tuple"/\o.data=.seq its n/\its.size<=FB/\Vals xs its.toList
def Ts:AT->Option V
 | .none=>some .bT
 | .bool b=>some (.bl b)
 | .int i _=>some (.int i)
 | .str x _=>some (.str x)
 | .bytes b _=>some (.yw b)
 | .float b _=>some (.QZ b)
 | .ref a=>some (.ref a)
 | .type n=>some (.ty n)
 | _=>none
theorem RelV.abs{x:V}{u:AT}(r:RelV x u):Ts u=some x:=by
 cases x with
 | bT=>cases r;rfl
 | bl _=>cases r;rfl
 | int _=>let(t,rfl):=r;rfl
 | str _=>let(t,rfl):=r;rfl
 | yw _=>let(t,rfl):=r;rfl
 | QZ _=>let(t,rfl):=r;rfl
 | ref _=>cases r;rfl
 | ty _=>cases r;rfl
theorem RelV.inj{x y:V}{u:AT}(r:RelV x u)(q:RelV y u):x=y:=WC (r.abs.symm.trans q.abs)
theorem Vals.inj:∀ {xs ys:!V} {us:!AT},Vals xs us->Vals ys us->xs=ys
 | _,_,_,.nil,.nil=>rfl
 | _,_,_,.cons r t,.cons r' t'=>by rw[r.inj r',Vals.inj t t']
section
variable{X:Cx}{TW:X8}{σ:St}{H:Hp}{s:Da}{a:AC}{xs ys:!V}
theorem d8.of{K:Frag}(h:H a=some (.lst xs)):d8 K H a xs:=.inl (.inl h)
theorem jx.of{K:Frag}(h:H a=some (.tup xs)):jx K H a xs:=.inl (.inl h)
theorem Inv.list(I:Inv X TW σ H s)(h:d8 X.K H a xs):∃ its:!AT,Vals xs its/\PlainL s.heap a its.toArray/\xs.length<=FB:=by
 rcases h with h | ⟨o,its,n,hk,hc,hd,hs,hz,r⟩
 .let(z,its,n,r,e):=h.ok I.bx;exact#[its,r,#[_,n,e,U,U,U],z]
 .refine#[its.toList,r,#[o,n,I.vC a o hk,hc,hd,by simpa using hs],?_];have e:=r.length;simp only[Array.length_toList] at e;cbv
theorem Inv.tuple(I:Inv X TW σ H s)(h:jx X.K H a xs):∃ its:!AT,Vals xs its/\IsTup s.heap a its.toArray/\xs.length<=FB:=by
 rcases h with h | ⟨o,its,n,hk,hc,hs,hz,r⟩
 .let(z,its,r,p):=h.ok I.bx;exact#[its,r,p.tup,z]
 .refine#[its.toList,r,#[o,I.vC a o hk,hc,n,by simpa using hs],?_];have e:=r.length;simp only[Array.length_toList] at e;cbv
theorem Inv.uo(I:Inv X TW σ H s)(h:d8 X.K H a xs)(h':d8 X.K H a ys):xs=ys:=by
 let(its,r,(o,n,e,_,_,d),_):=I.list h;let(its',r',(o',n',e',_,_,d'),_):=I.list h';rw[e] at e';cases e';rw[d] at d';injection d' with d1 _;have:its=its':=by simpa using congrArg Array.toList d1
 subst this;exact r.inj r'
theorem Inv.lG(I:Inv X TW σ H s)(h:jx X.K H a xs)(h':jx X.K H a ys):xs=ys:=by
 let(its,r,(o,e,_,n,d),_):=I.tuple h;let(its',r',(o',e',_,n',d'),_):=I.tuple h';rw[e] at e';cases e';rw[d] at d';injection d' with d1 _;have:its=its':=by simpa using congrArg Array.toList d1
 subst this;exact r.inj r'
end
abbrev Cx.qh(X:Cx)(E:X7):Cx:={ X with xe:=E }
abbrev Cx.wD(X:Cx):Cx:=X.qh λ_ _=>False
theorem Cx.Ok.qh{X:Cx}(ok:X.Ok)(E:X7):(X.qh E).Ok :=
 #[ok.mod,ok.kind,ok.glob,ok.blt,ok.above,ok.inj,ok.has,ok.Lx,ok.hd,ok.frames,ok.QX,ok.QV,ok.bs,ok.EM,ok.Al,ok.A8,ok.nq,ok.JW]
theorem Cx.Ok.iU{X:Cx}{E:X7}(ok:(X.qh E).Ok):X.Ok :=
 #[ok.mod,ok.kind,ok.glob,ok.blt,ok.above,ok.inj,ok.has,ok.Lx,ok.hd,ok.frames,ok.QX,ok.QV,ok.bs,ok.EM,ok.Al,ok.A8,ok.nq,ok.JW]
section
variable{X:Cx}{TW:X8}{σ:St}{H:Hp}{s:Da}{E:X7}
theorem Inv.qh(I:Inv X TW σ H s)(E:X7):Inv (X.qh E) TW σ H s:=#[I.ok.qh E,I.os,I.bare,I.base,I.loc,I.cell,I.free,I.ja,I.pin,I.bx,I.len]
theorem Inv.iU(I:Inv (X.qh E) TW σ H s):Inv X TW σ H s:=#[I.ok.iU,I.os,I.bare,I.base,I.loc,I.cell,I.free,I.ja,I.pin,I.bx,I.len]
theorem SP.iU{D:Ends}{f:Flow}{s':Da}(h:SP (X.qh E) TW D f s'):SP X TW D f s':=by
 cases f with
 | next=>let(σ',H',I,q):=h;exact#[σ',H',I.iU,q]
 | brk=>let(σ',H',I,q):=h;exact#[σ',H',I.iU,q]
 | cont=>let(σ',H',I,q):=h;exact#[σ',H',I.iU,q]
 | ret u=>let(v,σ',H',I,r,q):=h;exact#[v,σ',H',I.iU,r,q]
theorem nK.wD{st:!Ev}{t:TS}(h:nK X.wD st t):nK X st t:=λTW s σ H D I hw =>
 Os (h TW s σ H D (I.qh _) hw) (λ_ _ q=>q.iU) λ_ _ z=>False.elim z
end
section
variable{X:Cx}{st:Ev}{rest:!Ev}{t u:TS}{e:Cl}{te:TE}{pos:Pos}
def FD:TS:=λD σ H=>D.nx σ H
def oi(t u:TS):TS:=λD σ H=>t { D with nx:=u D } σ H
theorem t9:nK X [] FD:=λ_ _ σ H _ I h=>wpAny_execs_nil #[σ,H,I,h]
theorem b4(h1:PS X st t)(h2:nK X rest u):nK X (st::rest) (oi t u):=by
 intro TW s σ H D I h;show wpAny_execs_cons (b3 (h1 TW s σ H { D with nx:=u D } I h) λf s1 q=>?_);cases f with
 | next =>
  let(σ',H',I',q):=q;exact h2 TW s1 σ' H' D I' q
 | ret v=>exact q
 | brk=>exact q
 | cont=>exact q
theorem jk(h1:PS X st t):nK X [st] t:=by
 intro TW s σ H D I h;show wpAny_execs_cons (b3 (h1 TW s σ H D I h) λf s1 q=>?_);cases f with
 | next=>exact wpAny_execs_nil q
 | ret v=>exact q
 | brk=>exact q
 | cont=>exact q
theorem Inv.quiet{TW:X8}{σ:St}{H:Hp}{s:Da}(I:Inv X TW σ H s):interactive X.env=false:=by simp[interactive,I.ok.kind]
def Ny(te:TE):TS:=λD σ H=>te σ H λ_ H1=>D.nx σ H1
theorem Dx(he:PE X e te)(hs:(swapsWith e none pos.line X.env=pure false)⁻¹):PS X (.Expr e pos) (Ny te):=by
 intro TW s σ H D I h;exact wpAny_Expr_any (b3 (he TW s σ H _ I h) λv s1 zz=>el2 zz λx H1 I1 r1 q1=>#[σ,H1,I1,q1]) I.quiet hs
def DR(te:TE):TS:=λD σ H=>te σ H D.rt
theorem me(he:PE X e te):PS X (.Return (some e) pos) (DR te):=by
 intro TW s σ H D I h;exact wpAny_Return_some (b3 (he TW s σ H _ I h) λv s1 zz=>el2 zz λx H1 I1 r1 q1=>#[x,σ,H1,I1,r1,q1])
def OX(c:TT)(t u:TS):TS:=λD σ H=>c σ H λb H1=>if b=true then t D σ H1 else u D σ H1
theorem FR{c:Cl}{a b:!Ev}{tc:TT}(hc:PT X c tc)(ha:nK X a t)(hb:nK X b u):PS X (.If c a b pos) (OX tc t u):=by
 intro TW s σ H D I h;show wpAny_If (b3 (hc TW s σ H _ I h) λd s1 #[H1,I1,q1]=>?_);cases d with
 | true=>exact ha TW s1 σ H1 D I1 q1
 | false=>exact hb TW s1 σ H1 D I1 q1
def HG:TS:=λ_ _ _=>False
theorem yM{qW:!Ev}:nK X qW HG:=λ_ _ _ _ _ _ h=>h.elim
end
abbrev TG:=V->St->Hp->(St->Hp->Prop)->Prop
abbrev Fo:=!V->St->Hp->(St->Hp->Prop)->Prop
def PG(X:Cx)(target:Cl)(t:TG):Prop :=
 ∀ (TW:X8) (s:Da) (σ:St) (H:Hp) (v:V) (u:AT) (Q:St->Hp->Prop),Inv X TW σ H s->RelV v u->t v σ H Q ->
  Db (model X.prog X.w) X.A (assign target X.env u) (λ_ s'=>∃ σ' H',Inv X TW σ' H' s'/\Q σ' H') X.xe s
def GP(X:Cx)(ts:!Cl)(t:Fo):Prop :=
 ∀ (TW:X8) (s:Da) (σ:St) (H:Hp) (vs:!V) (us:!AT) (Q:St->Hp->Prop),Inv X TW σ H s->Vals vs us->t vs σ H Q ->
  Db (model X.prog X.w) X.A (assignInOrder ((assignEach ts X.env).map (·.2)) us) (λ_ s'=>∃ σ' H',Inv X TW σ' H' s'/\Q σ' H') X.xe s
abbrev JT:=V->V->V->Hp->(Hp->Prop)->Prop
def MY(X:Cx)(t:JT):Prop :=
 ∀ (TW:X8) (s:Da) (σ:St) (H:Hp) (o i v:V) (ov iv u:AT) (Q:Hp->Prop),Inv X TW σ H s->RelV o ov->RelV i iv->RelV v u->t o i v H Q ->
  Db (model X.prog X.w) X.A (setItem ov iv u) (λ_ s'=>∃ H',Inv X TW σ H' s'/\Q H') X.xe s
section
variable{X:Cx}{pos:Pos}
def ef(i:Nat):TG:=λv σ H Q=>Q (σ.set i (some v)) H
theorem eU{i:Nat}{x:Str}(hN:X.N.Nodup)(hi:X.N[i]?=some x)(hx:Loc X.env.scope x)(hf:Yd X x:=by ac_nf):PG X (.Name x pos) (ef i):=by
 intro TW s σ H v u Q I r h;exact wpAny_assign_Name (uD I hN hi hx r (λs' I'=>#[_,H,I',h]) hf)
def RI:Fo:=λvs σ H Q=>vs=[]/\Q σ H
def PR(t:TG)(u:Fo):Fo:=λvs σ H Q=>∃ v r,vs=v::r/\t v σ H λσ' H'=>u r σ' H' Q
theorem Ek:GP X [] RI:=by
 intro TW s σ H vs us Q I r h;let(e,h):=h;subst e;cases r;exact assignInOrder_nil #[σ,H,I,h]
theorem CS{e:Cl}{es:!Cl}{t:TG}{u:Fo}(h1:PG X e t)(h2:GP X es u)(hs:((assignEach (e::es) X.env).map (·.2)=assign e X.env::(assignEach es X.env).map (·.2))⁻¹):GP X (e::es) (PR t u):=by
 intro TW s σ H vs us Q I r h;let(v,vr,e1,h):=h;subst e1;cases r with
 | cons r rr =>
  rw[hs];show assignInOrder_cons (b3 (h1 TW s σ H _ _ _ I r h) λ_ s1 #[σ1,H1,I1,q1]=>?_);exact h2 TW s1 σ1 H1 _ _ Q I1 rr q1
def R3(K:Frag)(n:Nat)(t:Fo):TG:=λv σ H Q=>∃ a xs,v=.ref a/\jx K H a xs/\xs.length=n/\t xs σ H Q
theorem HW{es:!Cl}{k:Nat}{t:Fo}{n:Nat}(hc:X.calm=true)(h:GP X es t)(hn:((assignEach es X.env).length=n)⁻¹)(gn:((assignEach es X.env).findIdx? (·.1)=none)⁻¹):PG X (.Tuple es k pos) (R3 X.K n t):=by
 intro TW s σ H v u Q I r hw;let(a,xs,e1,hq,hl,hw):=hw;subst e1;cases r;let(its,rv,ht,hz):=I.tuple hq;show assign_Tuple_tuple (I.ok.hd hc) ht (by simp[hn,<- hl,rv.length]) gn λh' hx=>?_;have I1:Inv X TW σ H { s with heap:=h' }:=I.kept (t':=s.toks) λb o e=>hx b o (Ww (Wh e)) e;exact h TW _ σ H xs _ Q I1 (by simpa using rv) hw
def Pl(to ti:TE)(t:JT):TG:=λv σ H Q=>to σ H λo H1=>ti σ H1 λi H2=>t o i v H2 λH3=>Q σ H3
theorem Hv{o i:Cl}{to ti:TE}{t:JT}(ho:PE X o to)(hi:PE X i ti)(hs:MY X t)(ha:∀ v,assign (.Subscript o i pos) X.env v=(do
   let ov <- holding [v] (eval o X.env);let iv <- holding [v,ov] (eval i X.env)
   standAt pos
   holding [v,ov,iv] (setItem ov iv v)
   release [v,ov,iv] []):=by intro _;rfl):PG X (.Subscript o i pos) (Pl to ti t):=by
 intro TW s σ H v u Q I r h;rw[ha];show Ch (NE (b3 (ho TW s σ H _ I h) λov s1 z1q=>?_));let(x,H1,I1,r1,q1):=z1q;show Ch (NE (b3 (hi TW s1 σ H1 _ I1 q1) λiv s2 z2q=>?_));let(y,H2,I2,r2,q2):=z2q;show Ch (wpAny_standAt (Ch (NE (b3 (hs TW s2 σ H2 x y v ov iv u _ I2 r1 r2 r q2) λ_ s3 z3q=>?_))));let(H3,I3,q3):=z3q;exact wpAny_release #[σ,H3,I3,q3]
def jE(te:TE)(g:TG):TS:=λD σ H=>te σ H λx H1=>g x σ H1 D.nx
theorem Ap{tg e:Cl}{te:TE}{g:TG}(he:PE X e te)(hg:PG X tg g)(hs:(swapsWithSole [tg] e pos.line X.env=pure false)⁻¹)(hw:(swappedStores [tg] e X.env=pure none)⁻¹)(h1:((assignEach [tg] X.env).map (·.2)=[assign tg X.env])⁻¹):PS X (.Assign [tg] e pos) (jE te g):=by
 intro TW s σ H D I h;show wpAny_Assign_stores (b3 (he TW s σ H _ I h) λv s1 zz=>el2 zz λx H1 I1 r1 q1=>?_) hs hw;rw[h1];exact b3 (hg TW s1 σ H1 x v _ I1 r1 q1) λ_ s2 q=>q
theorem gz{i:Nat}{x:Str}{e:Cl}{te:TE}{pos':Pos}(hN:X.N.Nodup)(hi:X.N[i]?=some x)(hx:Loc X.env.scope x)(he:PE X e te)(hs:(swapsWith e (some (.Name x pos')) pos.line X.env=pure false)⁻¹)(hf:Yd X x:=by ac_nf) :
  PS X (.Assign [.Name x pos'] e pos) (jE te (ef i)):=by
 intro TW s σ H D I h;show wpAny_Assign_Name (b3 (he TW s σ H _ I h) λv s1 zz=>el2 zz λy H1 I1 r1 q1=>?_) hs;exact uD I1 hN hi hx r1 (λs2 I2=>#[_,H1,I2,q1]) hf
def Cb(c:TT)(tb:TS):TS:=λD σ H=>∃ W:Nat->St->Hp->Prop,(∃ m,W m σ H)/\∀ m σ H,W m σ H ->
 c σ H λb H1=>if b=true then ∃ N:St->Hp->Prop,(∀ σ' H',N σ' H'->∃ m',m' < m/\W m' σ' H')/\tb { D with nx:=N,ct:=N,bk:=D.nx } σ H1 else D.nx σ H1
theorem vv{c:Cl}{body:!Ev}{tc:TT}{tb:TS}(hp:PassesOwn (model X.prog X.w) X.A X.env X.xe)(hc:PT X c tc)(hb:nK X body tb):PS X (.While c body [] pos) (Cb tc tb):=by
 intro TW s σ H D I h;let(W,(m0,w0),turn):=h;show wpAny_While (codeAny_whileLoop (λn s'=>∃ σ' H',Inv X TW σ' H' s'/\W n σ' H') ?_ m0 #[σ,H,I,w0]);rintro n s1 ⟨σ1,H1,I1,w1⟩;show wpAny_passesOwn hp (b3 (hc TW s1 σ1 H1 _ I1 (turn n σ1 H1 w1)) λb s2 z4q=>?_);let(H2,I2,q2):=z4q;cases b with
 | true =>
  let(N,hN,q2):=q2;rw[if_pos U];show wpAny_passesOwn hp (b3 (hb TW s2 σ1 H2 _ I2 q2) λf s3 q3=>?_);cases f with
  | next =>
   let(σ3,H3,I3,n3):=q3;let(m',hm,w3):=hN σ3 H3 n3;exact#[m',hm,σ3,H3,I3,w3]
  | cont =>
   let(σ3,H3,I3,n3):=q3;let(m',hm,w3):=hN σ3 H3 n3;exact#[m',hm,σ3,H3,I3,w3]
  | brk=>exact q3
  | ret v=>exact q3
 | false =>
  rw[if_neg Wm];exact wpAny_execs_nil #[σ1,H2,I2,q2]
end
structure It where
 go:Nat->Hp->Prop
 Pq:Nat->Hp->V->Hp->Prop
 stop:Nat->Hp->Prop
def fb(X:Cx)(TW:X8)(H:Hp)(b:AC):Prop :=
 H b=none/\b≠X.env.locals/\b∉X.fs/\(b∈X.ex\/X.s₀.heap.objs.size<=b)/\(∀ x c,X.env.cells.lookup x=some c->c≠b)/\∀ p∈X.pn++TW,p.1≠b
theorem Inv.pQ{X:Cx}{TW:X8}{σ:St}{H H':Hp}{s:Da}{b:AC}(I:Inv X TW σ H s)(hb:↑s<=b)(hn:H' b=none):fb X TW H' b:=by
 show#[hn,Xq (Wz I.lt hb),I.SD hb,.inr (Ws I.sz hb),λx c e z=>?_,λp hp z=>?_]
 .let(v,q):=I.cell x c e;exact absurd (Wz q.lt (by rw[z];exact hb)) (W6 _)
 .exact absurd (Wz (Wh (I.pin p hp).1) (by rw[z];exact hb)) (W6 _)
structure Turn(P:GE)(w:Fa)(K:Frag)(tg:Cl)(J:It)(fp:!AC)(it:AC)(tn:Nat->EQ->Prop):Prop where
 mem:it∈fp
 obj:∀ i h,tn i h->∀ b∈fp,∃ o,h.get? b=some o/\∀ v,o.data≠.cell v
 keep:∀ i h h',tn i h->(∀ b∈fp,∀ o,h.get? b=some o->h'.get? b=some o)->tn i h'
 item:∀ (X:Cx),X.prog=P->X.w=w->X.K=K->X.calm=true->∀ (i:Nat) (TW:X8) (s:Da) (σ:St) (H:Hp) (E:X7),Inv X TW σ H s->(∀ b∈fp,fb X TW H b)->tn i s.heap->J.go i H ->
  Db (model P w) X.A (pyNext (.ref it)) (λr s1=>∃ u,r=some u /\
   Db (model P w) X.A (letOwnedTupleGo tg (.ref it) u) (λ_ s2=>∃ x H',Inv X TW σ H' s2/\RelV x u/\J.Pq i H x H'/\tn (i+1) s2.heap/\∀ b∈fp,H' b=none) E s1) E s
 done:∀ (X:Cx),X.prog=P->X.w=w->X.K=K->X.calm=true->∀ (i:Nat) (TW:X8) (s:Da) (σ:St) (H:Hp) (E:X7),Inv X TW σ H s->(∀ b∈fp,fb X TW H b)->tn i s.heap->J.stop i H ->
  Db (model P w) X.A (pyNext (.ref it)) (λr s1=>r=none/\Inv X TW σ H s1) E s
 self:∀ (A:Fr) (i:Nat) (s:Da) (Q:X7) (E:X7),tn i s.heap->Q (.ref it) s->Db (model P w) A (pyIter (.ref it)) Q E s
abbrev TI:=St->Hp->(It->Hp->Prop)->Prop
def Ve(X:Cx)(TW:X8)(σ:St)(tg:Cl)(R:It->Hp->Prop)(QS:AT)(s2:Da):Prop :=
 ∃ (it:AC) (fp:!AC) (tn:Nat->EQ->Prop) (J:It) (H':Hp),QS=.ref it/\Inv X TW σ H' s2/\Turn X.prog X.w X.K tg J fp it tn/\tn 0 s2.heap/\(∀ b∈fp,fb X TW H' b)/\R J H'
def PI(X:Cx)(tg iter:Cl)(wi:TI):Prop :=
 ∀ (TW:X8) (s:Da) (σ:St) (H:Hp) (R:It->Hp->Prop),Inv X TW σ H s->wi σ H R ->
  Db (model X.prog X.w) X.A (eval iter X.env) (λv s1=>Db (model X.prog X.w) X.A (pyIter v) (Ve X TW σ tg R) X.xe s1) X.xe s
theorem An{M:Model}{A:Fr}{E:X7}{s:Da}{tg:Cl}{it:AC}{u:AT}{o:Obj}{n:String}{vs:Array AT}{Q:Unit->Da->Prop}(ho:s.heap.get? it=some o)(hc:o.cls=.type n)(hd:o.data=.fields vs)(hn:["enumerate","zip","dict_itemiterator","dict_reverseitemiterator","odict_iterator","itertools.zip_longest","itertools.pairwise"].contains n=false)(hQ:Q Unit.unit s):Db M A (letOwnedTupleGo tg (.ref it) u) Q E s:=by
 unfold letOwnedTupleGo;cases tg<;>first
  | exact FS hQ
  | (cases u<;>first
    | exact FS hQ
    | (show Ch (wpAny_load ho ?_)
       rw[hc,hd];change Db M A (if (["enumerate","zip","dict_itemiterator","dict_reverseitemiterator","odict_iterator","itertools.zip_longest","itertools.pairwise"].contains n&&vs[0]? == some (KF _))=true then _ else _) Q E s;rw[if_neg (by intro h;rw[hn,Bool.false_and] at h;cases h)];exact FS hQ))
def JC(K:Frag)(a:AC):It :=
 #[λi H=>∃ xs x,d8 K H a xs/\xs[i]?=some x,λi H x H'=>H'=H/\∀ xs,d8 K H a xs->xs[i]?=some x,λi H=>∃ xs,d8 K H a xs/\xs.length<=i]
def UI(K:Frag)(a:AC):It :=
 #[λi H=>∃ xs x,jx K H a xs/\xs[i]?=some x,λi H x H'=>H'=H/\∀ xs,jx K H a xs->xs[i]?=some x,λi H=>∃ xs,jx K H a xs/\xs.length<=i]
def QY(lo:Int)(n:Nat):It:=#[λi _=>i < n,λi H x H'=>H'=H/\x=.int (lo+i),λi _=>n<=i]
theorem qo{P:GE}{w:Fa}{K:Frag}{tg:Cl}(a it:AC):Turn P w K tg (JC K a) [it] it (λi h=>h.IsListIter it a i) where
 mem:=by simp
 obj:=λi h st b hb=>by
  have e:b=it:=by simpa using hb
  subst e;let(o,e,c,d):=st;exact#[o,e,λv z=>by rw[d] at z;cases z]
 keep:=λi h h' st k=>st.at λo e=>k it (by simp) o e
 item:=by
  intro X hP hw hK hc i TW s σ H E I hf st hg;subst hP hw hK;let(xs,x,hq,hx):=hg;let(its,rv,p,hz):=I.list hq;let(u,hu,ru):=rv.get hx;let(f0,f1,f2,f3,f4,f5):=hf it (by simp);show wpAny_pyNext_list_item st p.isList (x:=u) (by simpa using hu) λh' oq sb=>?_;have I1:Inv X TW σ H { s with heap:=h' }:=I.turned (t':=s.toks) (λb o hb e=>(sb.2 b hb).trans e) f0 f1 f3 f4 f5;let(o,e,c,d):=id oq;exact#[u,U,An (s:={ s with heap:=h' }) e c d () #[x,H,I1,ru,#[U,λys hy=>by rw[I.uo hy hq];exact hx],oq,λb hb=>(hf b hb).1]]
 done:=by
  intro X hP hw hK hc i TW s σ H E I hf st hg;subst hP hw hK;let(xs,hq,hx):=hg;let(its,rv,p,hz):=I.list hq;let(f0,f1,f2,f3,f4,f5):=hf it (by simp);have hl:=rv.length;exact wpAny_pyNext_list_end (I.ok.hd hc) st p.isList (by simp;cbv) λh' eb=>#[U,I.turned (t':=s.toks) (λb o hb e=>eb b o hb e) f0 f1 f3 f4 f5]
 self:=λ_ _ _ _ _ st h=>wpAny_pyIter_listiter st h
theorem xb{P:GE}{w:Fa}{K:Frag}{tg:Cl}(a it:AC):Turn P w K tg (UI K a) [it] it (λi h=>h.IsTupleIter it a i) where
 mem:=by simp
 obj:=λi h st b hb=>by
  have e:b=it:=by simpa using hb
  subst e;let(o,e,c,d):=st;exact#[o,e,λv z=>by rw[d] at z;cases z]
 keep:=λi h h' st k=>st.at λo e=>k it (by simp) o e
 item:=by
  intro X hP hw hK hc i TW s σ H E I hf st hg;subst hP hw hK;let(xs,x,hq,hx):=hg;let(its,rv,p,hz):=I.tuple hq;let(u,hu,ru):=rv.get hx;let(f0,f1,f2,f3,f4,f5):=hf it (by simp);show wpAny_pyNext_tuple_item st (show s.heap.IsTuple a its.toArray from p) (x:=u) (by simpa using hu) λh' oq sb=>?_;have I1:Inv X TW σ H { s with heap:=h' }:=I.turned (t':=s.toks) (λb o hb e=>(sb.2 b hb).trans e) f0 f1 f3 f4 f5;let(o,e,c,d):=id oq;exact#[u,U,An (s:={ s with heap:=h' }) e c d () #[x,H,I1,ru,#[U,λys hy=>by rw[I.lG hy hq];exact hx],oq,λb hb=>(hf b hb).1]]
 done:=by
  intro X hP hw hK hc i TW s σ H E I hf st hg;subst hP hw hK;let(xs,hq,hx):=hg;let(its,rv,p,hz):=I.tuple hq;let(f0,f1,f2,f3,f4,f5):=hf it (by simp);have hl:=rv.length;exact wpAny_pyNext_tuple_end (I.ok.hd hc) st (show s.heap.IsTuple a its.toArray from p) (by simp;cbv) λh' eb=>#[U,I.turned (t':=s.toks) (λb o hb e=>eb b o hb e) f0 f1 f3 f4 f5]
 self:=λ_ _ _ _ _ st h=>wpAny_pyIter_tupleiter st h
theorem vR{P:GE}{w:Fa}{K:Frag}{tg:Cl}(it:AC)(lo:Int)(n:Nat):Turn P w K tg (QY lo n) [it] it (λi h=>IsRangeIter h it (lo+(i:Nat) * 1) ((n:Int) - (i:Nat)) 1) where
 mem:=by simp
 obj:=λi h st b hb=>by
  have e:b=it:=by simpa using hb
  subst e;exact#[_,st,λv z=>by
   have z':Data.fields _=Data.cell v:=z;cases z']
 keep:=λi h h' st k=>k it (by simp) _ st
 item:=by
  intro X hP hw hK hc i TW s σ H E I hf st hg;subst hP hw hK;let(f0,f1,f2,f3,f4,f5):=hf it (by simp);have W:=Walks.range (prog:=X.prog) (w:=X.w) (I.ok.hd hc) it lo 1 n;show W.item i s _ _ hg st λv h' tk hv oq kk=>?_;let(t,rfl):=hv;have I1:Inv X TW σ H { s with heap:=h',toks:=tk }:=I.turned (λb o hb e=>kk b o (by simpa using hb) e) f0 f1 f3 f4 f5;show#[_,U,An (s:={ s with heap:=h',toks:=tk }) (n:="range_iterator") oq U U () #[.int (lo+i),H,I1,#[t,?_],#[U,U],oq,λb hb=>(hf b hb).1]];rw[Int.mul_one]
 done:=by
  intro X hP hw hK hc i TW s σ H E I hf st hg;subst hP hw hK;let(f0,f1,f2,f3,f4,f5):=hf it (by simp);exact wpAny_pyNext_range_end (I.ok.hd hc) st (by have:n<=i:=hg;cbv) λh' eb=>#[U,I.turned (t':=s.toks) (λb o hb e=>eb b o hb e) f0 f1 f3 f4 f5]
 self:=λ_ _ _ _ _ st h=>wpAny_pyIter_rangeiter st h
section
variable{X:Cx}{tg:Cl}
def xy(K:Frag)(tl:TE):TI:=λσ H R=>tl σ H λx H1=>∃ a,x=.ref a/\(∃ xs,d8 K H1 a xs)/\R (JC K a) H1
theorem rL{l:Cl}{tl:TE}(hl:PE X l tl):PI X tg l (xy X.K tl):=by
 intro TW s σ H R I h;show b3 (hl TW s σ H _ I h) λv s1 z5q=>?_;let(x,H1,I1,r1,q1):=z5q;let(a,e,(xs,hq),q):=q1;subst e;cases r1;let(its,rv,p,hz):=I1.list hq;show wpAny_pyIter_list p.isList ?_;show#[↑s1,[↑s1],_,_,H1,U,I1.kept (t':=s1.toks) λb o e=>V9 _ e,qo a _,#[_,Wl _ U,U,U],λb hb=>?_,q];have e:b=↑s1:=by simpa using hb
 subst e;exact I1.pQ (We _) (I1.bx.fresh (We _))
theorem CM{TW:X8}{σ:St}{H:Hp}{s:Da}{R:It->Hp->Prop}{E:X7}{lo hi:Int}{t u v:Tok}{tk:Nat}(I:Inv X TW σ H s)(h1:-(2 ^ 62)<=lo)(h2:lo < 2 ^ 62)(h3:-(2 ^ 62)<=hi)(h4:hi < 2 ^ 62)(q:R (QY lo (hi - lo).toNat) H):Db (model X.prog X.w) X.A (pyIter (.ref ↑s)) (Ve X TW σ tg R) E { s with heap:=s.heap.push { cls:=.type "range",data:=.fields #v[.int lo t,.int hi u,.int 1 v] },toks:=tk }:=by
 show wpAny_pyIter_range (IsRange.new ..) (small_one h1 h2 h3 h4) ?_;have I1:Inv X TW σ H { s with heap:=s.heap.push { cls:=.type "range",data:=.fields #v[.int lo t,.int hi u,.int 1 v] },toks:=tk }:=I.kept λb o e=>V9 _ e;show#[(s.heap.push { cls:=.type "range",data:=.fields #v[.int lo t,.int hi u,.int 1 v] }).objs.size,[(s.heap.push { cls:=.type "range",data:=.fields #v[.int lo t,.int hi u,.int 1 v] }).objs.size],_,_,H,U,
  I1.kept (t':=tk) λb o e=>V9 _ e,vR _ lo (hi - lo).toNat,?_,λb hb=>?_,q]
 .have e1:lo+((0:Nat):Int) * 1=lo:=by simp
  have e2:(((hi - lo).toNat:Nat):Int) - ((0:Nat):Int)=Fk.Range.rangeSize lo hi 1:=by rw[rangeSize_one];split<;>cbv
  change IsRangeIter _ _ (lo+((0:Nat):Int) * 1) ((((hi - lo).toNat:Nat):Int) - ((0:Nat):Int)) 1;rw[e1,e2];exact Wl _ U
 .have e:b=(s.heap.push { cls:=.type "range",data:=.fields #v[.int lo t,.int hi u,.int 1 v] }).objs.size:=by simpa using hb
  subst e;exact I1.pQ (We _) (I1.bx.fresh (We _))
def ON(ta:TA):TI:=λσ H R=>ta σ H λvs H1=>∃ j:Int,vs=[.int j]/\-(2 ^ 62)<=j/\j < 2 ^ 62/\R (QY 0 j.toNat) H1
theorem yO{a:Cl}{ta:TA}{p pos:Pos}(hg:Gl X "range")(hm:X.mg "range"=none)(ha:PA X [a] ta)(hs:(GT [a] X.env=[(false,eval a X.env)])⁻¹):PI X tg (.Call (.Name "range" p) [a] [] pos) (ON ta):=by
 intro TW s σ H R I h;show Call_ (ib I hg hm boot_range (PyProof.Rows.callWith_type1 (b3 (ha pos TW s σ H _ I h) λus s1 zz=>el2 zz λvs H1 I1 r1 q1=>?_) hs U));let(j,e,q1,q2,q):=q1;subst e;cases r1 with
 | cons r rr =>
  cases rr;let(t,rfl):=r;exact call_range_1 (CM I1 (by cbv) (by cbv) q1 q2 (by simpa using q))
def NI(wi:TI)(g:TG)(tb:TS):TS:=λD σ H=>wi σ H λJ H1=>∃ W:Nat->Nat->St->Hp->Prop,(∃ m,W 0 m σ H1)/\∀ i m σ H,W i m σ H ->
 (J.stop i H/\D.nx σ H)\/(J.go i H/\∃ N:St->Hp->Prop,(∀ σ' H',N σ' H'->∃ m',m' < m/\W (i+1) m' σ' H')/\∀ x H',J.Pq i H x H'->g x σ H' λσ2 H2=>tb { D with nx:=N,ct:=N,bk:=D.nx } σ2 H2)
def nV(fp:!AC)(h:EQ):X8:=fp.filterMap λb=>(h.get? b).map λo=>(b,o)
theorem iD{fp:!AC}{h:EQ}{b:AC}{o:Obj}(hb:b∈fp)(e:h.get? b=some o):(b,o)∈nV fp h:=List.mem_filterMap.mpr #[b,hb,by rw[e];rfl]
theorem zt{fp:!AC}{h:EQ}{p:AC×Obj}(hp:p∈nV fp h):p.1∈fp/\h.get? p.1=some p.2:=by
 let(b,hb,e):=List.mem_filterMap.mp hp;cases q:h.get? b with
 | none=>rw[q] at e;cases e
 | some o =>
  rw[q] at e;have e':(b,o)=p:=WC e;subst e';exact#[hb,q]
theorem Inv.pinned{TW:X8}{σ:St}{H:Hp}{s:Da}{fp:!AC}(I:Inv X TW σ H s)(hf:∀ b∈fp,fb X TW H b)(ho:∀ b∈fp,∃ o,s.heap.get? b=some o/\∀ v,o.data≠.cell v):Inv X (TW++nV fp s.heap) σ H s :=
 I.xR λp hp=>(WA.mp hp).elim (λz=>I.pin p (WD _ z)) λz=>by
  let(hb,e):=zt z;let(f0,f1,f2,_):=hf p.1 hb;let(o,e',d):=ho p.1 hb;rw[e] at e';cases e';exact#[e,f0,f1,f2,d]
theorem Inv.la{TW pl:X8}{σ:St}{H:Hp}{s:Da}(I:Inv X (TW++pl) σ H s):Inv X TW σ H s:=I.xR λp hp=>I.pin p (WD _ (WQ _ hp))
abbrev Ye (i:Cl)(N:Env):Prop:=∀ x,foldedSetIterable i N x=pure x
theorem B5{iter:Cl}{body:!Ev}{wi:TI}{g:TG}{tb:TS}{pos:Pos}(hp:PassesOwn (model X.prog X.w) X.A X.env X.xe)(hc:X.calm=true)(hi:PI X tg iter wi)(hg:PG X tg g)(hb:nK X body tb)(hs:Ye iter X.env:=by intro _;rfl):PS X (.For tg iter body [] pos) (NI wi g tb):=by
 intro TW s σ H D I h;show wpAny_For (b3 (hi TW s σ H _ I h) λv s1 h1=>b3 h1 λQS s2 h2=>?_) hs;let(it,fp,tn,J,H2,e,I2,T,FZ,f2,W,(m0,w0),turn):=h2;subst e
 -- what stays true of the iterator's objects through the loop
 have stat:∀ {H':Hp},(∀ b∈fp,H' b=none)->∀ b∈fp,fb X TW H' b:=λhn b hb=>#[hn b hb,(f2 b hb).2];show codeAny_forLoop_any (λn s'=>∃ i σ' H',Inv X TW σ' H' s'/\tn i s'.heap/\(∀ b∈fp,H' b=none)/\W i n σ' H') ?_ m0 #[0,σ,H2,I2,FZ,λb hb=>(f2 b hb).1,w0];rintro n s3 ⟨i,σ3,H3,I3,st3,fr3,w3⟩;rcases turn i n σ3 H3 w3 with ⟨stop,qn⟩ | ⟨go,N,hN,step⟩
 .refine wpAny_passesOwn hp (b3 (T.done X U U U hc i TW s3 σ3 H3 X.xe I3 (stat fr3) st3 stop) λr s4 z6q=>?_);let(hr,I4):=z6q;subst hr;exact wpAny_execs_nil #[σ3,H3,I4,qn]
 .refine wpAny_passesOwn hp (b3 (T.item X U U U hc i TW s3 σ3 H3 X.xe I3 (stat fr3) st3 go) λr s4 z7q=>?_);let(u,hr,h4):=z7q;subst hr;show wpAny_passesOwn hp (b3 h4 λ_ s5 z8q=>?_);let(x,H5,I5,r5,y5,st5,fr5):=z8q;have I5':=I5.pinned (stat fr5) (T.obj _ _ st5);show wpAny_passesOwn hp (b3 (hg _ s5 σ3 H5 x u _ I5' r5 (step x H5 y5)) λ_ s6 z9q=>?_);let(σ6,H6,I6,q6):=z9q;show wpAny_passesOwn hp (b3 (hb _ s6 σ6 H6 _ I6 q6) λf s7 q7=>?_);have again:∀ {σ7:St} {H7:Hp},Inv X (TW++nV fp s5.heap) σ7 H7 s7->N σ7 H7->∃ m,m < n/\∃ i σ' H',Inv X TW σ' H' s7/\tn i s7.heap/\(∀ b∈fp,H' b=none)/\W i m σ' H':=λ{σ7 H7} I7 n7=>by
   let(m',hm,w7):=hN σ7 H7 n7;show#[m',hm,i+1,σ7,H7,I7.la,T.keep _ _ _ st5 λb hb o e=>(I7.pin (b,o) (WD _ (WD _ (iD hb e)))).1,λb hb=>?_,w7];let(o,e,d):=T.obj _ _ st5 b hb;exact (I7.pin (b,o) (WD _ (WD _ (iD hb e)))).2.1
  cases f with
  | next=>let(σ7,H7,I7,n7):=q7;exact again I7 n7
  | cont=>let(σ7,H7,I7,n7):=q7;exact again I7 n7
  | brk=>let(σ7,H7,I7,q7):=q7;exact#[σ7,H7,I7.la,q7]
  | ret v=>let(x7,σ7,H7,I7,r7,q7):=q7;exact#[x7,σ7,H7,I7.la,r7,q7]
end
theorem zJ{K:Frag}{a:AC}{xs:!V}{g:TG}{tb:TS}{D:Ends}{σ:St}{H:Hp}(Pv:Nat->St->Hp->Prop)(h0:Pv 0 σ H)(hl:∀ i σ H,i<=xs.length->Pv i σ H->d8 K H a xs)(hs:∀ i x σ H,xs[i]?=some x->Pv i σ H->g x σ H λσ2 H2=>tb { D with nx:=Pv (i+1),ct:=Pv (i+1),bk:=D.nx } σ2 H2)(hd:∀ σ H,Pv xs.length σ H->D.nx σ H) :
  ∃ W:Nat->Nat->St->Hp->Prop,(∃ m,W 0 m σ H)/\∀ i m σ H,W i m σ H ->
   ((JC K a).stop i H/\D.nx σ H)\/((JC K a).go i H/\∃ N:St->Hp->Prop,(∀ σ' H',N σ' H'->∃ m',m' < m/\W (i+1) m' σ' H')/\∀ x H',(JC K a).Pq i H x H'->g x σ H' λσ2 H2=>tb { D with nx:=N,ct:=N,bk:=D.nx } σ2 H2):=by
 show#[λi m σ H=>m=xs.length - i/\i<=xs.length/\Pv i σ H,#[xs.length,by simp,Nat.zero_le _,h0],?_];rintro i m σ H ⟨rfl,hi,p⟩;have q:=hl i σ H hi p;by_cases gE:i < xs.length
 .refine .inr #[#[xs,xs[i],q,by simp[gE]],Pv (i+1),λσ' H' p'=>#[xs.length - (i+1),by cbv,U,gE,p'],λx H' y=>?_];let(e,y):=y;subst e;exact hs i x σ _ (y xs q) p
 .have e:i=xs.length:=by cbv
  subst e;exact .inl #[#[xs,q,We _],hd σ H p]
abbrev R2:=V->V->Hp->VK->Prop
def jC(X:Cx)(f:AT->AT->Sem AT)(r:R2):Prop :=
 ∀ (TW:X8) (s:Da) (σ:St) (H:Hp) (x y:V) (v u:AT) (Q:VK),Inv X TW σ H s->RelV x v->RelV y u->r x y H Q ->
  Db (model X.prog X.w) X.A (f v u) (EP X TW σ Q) X.xe s
def Tr(X:Cx)(f:AT->Sem AT)(r:V->Hp->VK->Prop):Prop :=
 ∀ (TW:X8) (s:Da) (σ:St) (H:Hp) (x:V) (v:AT) (Q:VK),Inv X TW σ H s->RelV x v->r x H Q ->
  Db (model X.prog X.w) X.A (f v) (EP X TW σ Q) X.xe s
def fo(X:Cx)(f:AT)(r:!V->Hp->VK->Prop):Prop :=
 ∀ (TW:X8) (s:Da) (σ:St) (H:Hp) (xs:!V) (us:!AT) (Q:VK),Inv X TW σ H s->Vals xs us->r xs H Q ->
  Db (model X.prog X.w) X.A (call f us) (EP X TW σ Q) X.xe s
def Sg(X:Cx)(r:V->Hp->(Bool->Hp->Prop)->Prop):Prop :=
 ∀ (TW:X8) (s:Da) (σ:St) (H:Hp) (x:V) (v:AT) (Q:Bool->Hp->Prop),Inv X TW σ H s->RelV x v->r x H Q ->
  Db (model X.prog X.w) X.A (truthy v) (TP X TW σ Q) X.xe s
def iW(r:R2)(ta tb:TE):TE:=λσ H Q=>ta σ H λx H1=>tb σ H1 λy H2=>r x y H2 Q
def Vf(r:V->Hp->VK->Prop)(ta:TE):TE:=λσ H Q=>ta σ H λx H1=>r x H1 Q
def rI(C:Int->Int->Prop)(g:Int->Int->V):R2:=λx y H Q=>∃ i j,x=.int i/\y=.int j/\C i j/\Q (g i j) H
def ua(g:Int->Int->V):R2:=λx y H Q=>∃ i j,x=.int i/\y=.int j/\Q (g i j) H
def rU(g:Int->V):V->Hp->VK->Prop:=λx H Q=>∃ i,x=.int i/\Q (g i) H
section
variable{X:Cx}{a b c:Cl}{ta tb tc:TE}{pos:Pos}
theorem Jy(ha:PE X a ta)(hb:PE X b tb){TW:X8}{s:Da}{σ:St}{H:Hp}{R:V->V->Hp->Prop}(I:Inv X TW σ H s)(h:ta σ H λx H1=>tb σ H1 λy H2=>R x y H2){Q:X7}{f:AT->AT->Sem AT}(hf:∀ v u s2 x y H2,Inv X TW σ H2 s2->RelV x v->RelV y u->R x y H2->Db (model X.prog X.w) X.A (f v u) Q X.xe s2) :
  Db (model X.prog X.w) X.A (eval a X.env) (λv s₁=>Db (model X.prog X.w) X.A (eval b X.env) (λu s₂=>Db (model X.prog X.w) X.A (f v u) Q X.xe s₂) X.xe s₁) X.xe s:=by
 show b3 (ha TW s σ H _ I h) λv s1 zz=>el2 zz λx H1 I1 r1 q1=>?_;show b3 (hb TW s1 σ H1 _ I1 q1) λu s2 zz=>el2 zz λy H2 I2 r2 q2=>?_;exact hf v u s2 x y H2 I2 r1 r2 q2
theorem c5{op:Operator}{r:R2}(ho:jC X (SC op) r)(ha:PE X a ta)(hb:PE X b tb):PE X (.BinOp a op b pos) (iW r ta tb):=by
 intro TW s σ H Q I h;exact wpAny_BinOp (Jy ha hb I h λv u s2 x y H2 I2 rx ry q=>ho TW s2 σ H2 x y v u Q I2 rx ry q)
theorem Ng{op:UnaryOp}{r:V->Hp->VK->Prop}(ho:Tr X (unaryOp op) r)(ha:PE X a ta):PE X (.UnaryOp op a pos) (Vf r ta):=by
 intro TW s σ H Q I h;exact UnaryOp_ (b3 (ha TW s σ H _ I h) λv s1 zz=>el2 zz λx H1 I1 r1 q1=>ho TW s1 σ H1 x v Q I1 r1 q1)
theorem QW{f:AT->AT->Sem AT}{C:Int->Int->Prop}{g:Int->Int->Int}(rule:∀ (i j:Int) (t u:Tok) (s:Da) (Q:X7) (E:X7),C i j->Q (.int (g i j) s.toks) { s with toks:=s.toks+1 }->Db (model X.prog X.w) X.A (f (.int i t) (.int j u)) Q E s) :
  jC X f (rI C λi j=>.int (g i j)):=by
 intro TW s σ H x y v u Q I rx ry h;let(i,j,rfl,rfl,hc,q):=h;let(t,rfl):=rx;let(t',rfl):=ry;exact rule i j t t' s _ _ hc #[.int (g i j),H,I.tok _,#[_,U],q]
theorem Oe{f:AT->AT->Sem AT}{g:Int->Int->Int}(rule:∀ (i j:Int) (t u:Tok) (s:Da) (Q:X7) (E:X7),Q (.int (g i j) s.toks) { s with toks:=s.toks+1 }->Db (model X.prog X.w) X.A (f (.int i t) (.int j u)) Q E s) :
  jC X f (ua λi j=>.int (g i j)):=by
 intro TW s σ H x y v u Q I rx ry h;let(i,j,rfl,rfl,q):=h;let(t,rfl):=rx;let(t',rfl):=ry;exact rule i j t t' s _ _ #[.int (g i j),H,I.tok _,#[_,U],q]
theorem Jp{f:AT->AT->Sem AT}{g:Int->Int->Bool}(rule:∀ (i j:Int) (t u:Tok) (s:Da) (Q:X7) (E:X7),Q (.bool (g i j)) s->Db (model X.prog X.w) X.A (f (.int i t) (.int j u)) Q E s) :
  jC X f (ua λi j=>.bl (g i j)):=by
 intro TW s σ H x y v u Q I rx ry h;let(i,j,rfl,rfl,q):=h;let(t,rfl):=rx;let(t',rfl):=ry;exact rule i j t t' s _ _ #[.bl (g i j),H,I,U,q]
def Ly(i j:Int):Prop:=0<=j/\j<=1000000/\i.natAbs < 2 ^ 64
def tW(i j:Int):Prop:=(-(2 ^ 64) < i/\i < 2 ^ 64)\/(-(2 ^ 64) < j/\j < 2 ^ 64)
theorem tW.ok{i j:Int}(h:tW i j):IntMulOk i j:=by
 rcases h with ⟨h1,h2⟩ | ⟨h1,h2⟩
 .exact .of_left (intBits_le_64 h1 h2)
 .exact .of_right (intBits_le_64 h1 h2)
theorem dg:jC X (SC .Add) (ua λi j=>.int (i+j)):=Oe λ_ _ _ _ _ _ _ q=>add_int q
theorem iV:jC X (SC .Sub) (ua λi j=>.int (i - j)):=Oe λ_ _ _ _ _ _ _ q=>sub_int q
theorem jV:jC X (SC .Mult) (rI tW λi j=>.int (i * j)):=QW λ_ _ _ _ _ _ _ hc q=>mul_int q hc.ok
theorem gC:jC X (SC .Mod) (rI (λ_ j=>0 < j) λi j=>.int (i % j)):=QW λi j _ _ _ _ _ hc q=>by
 have h1:(0:Int) < j:=hc;exact mod_int' (by cbv) (by rw[Int.fmod_eq_emod_of_nonneg i (by cbv)];exact q)
theorem Jh:jC X (SC .Pow) (rI Ly λi j=>.int (i ^ j.toNat)):=QW λ_ _ _ _ _ _ _ hc q=>pow_int_small hc.1 hc.2.1 hc.2.2 q
theorem Vw{f:AT->Sem AT}{g:Int->Int}(rule:∀ (i:Int) (t:Tok) (s:Da) (Q:X7) (E:X7),Q (.int (g i) s.toks) { s with toks:=s.toks+1 }->Db (model X.prog X.w) X.A (f (.int i t)) Q E s) :
  Tr X f (rU λi=>.int (g i)):=by
 intro TW s σ H x v Q I rx h;let(i,rfl,q):=h;let(t,rfl):=rx;exact rule i t s _ _ #[.int (g i),H,I.tok _,#[_,U],q]
theorem Kn:Tr X (unaryOp .USub) (rU λi=>.int (-i)):=Vw λ_ _ _ _ _ q=>neg_int q
end
def Dy:V->V->Bool
 | .bT,.bT=>true | .bT,.int _=>true | .int _,.bT=>true | .bT,.bl _=>true | .bl _,.bT=>true | .bT,.str _=>true | .str _,.bT=>true
 | .int _,.int _=>true | .bl _,.bl _=>true | .str _,.str _=>true | .yw _,.yw _=>true
 | .int _,.str _=>true | .str _,.int _=>true | .bl _,.str _=>true | .str _,.bl _=>true
 | _,_=>false
def TM:R2:=λx y H Q=>Dy x y=true/\Q (.bl (decide (x=y))) H
def Ue:R2:=λx y H Q=>Dy x y=true/\Q (.bl (not (decide (x=y)))) H
theorem xv{i j:Int}:decide (V.int i=V.int j)=(i == j):=by
 rw[XO];simp
theorem zQ{i j:Bool}:decide (V.bl i=V.bl j)=(i == j):=by
 rw[XO];simp
theorem ym{i j:Str}:decide (V.str i=V.str j)=(i == j):=by
 rw[XO];simp
theorem xI{i j:Array UInt8}:decide (V.yw i=V.yw j)=(i.toList == j.toList):=by
 rw[XO];cases i;cases j;simp
section
variable{X:Cx}{a b c:Cl}{ta tb tc:TE}{pos:Pos}
theorem bq{TW:X8}{σ:St}{H:Hp}{s:Da}{Q:VK}{k k':Bool}(I:Inv X TW σ H s)(q:Q (.bl k) H)(e:k=k'):EP X TW σ Q (.bool k') s:=by
 subst e;exact#[.bl k,H,I,U,q]
theorem cw:jC X (KM .Eq) TM:=by
 intro TW s σ H x y v u Q I rx ry h;let(hs,q):=h;cases x with
 | bT =>
  cases rx;cases y with
  | bT=>cases ry;exact PySem.EqNone.eq_none_none (bq I q (by simp))
  | bl j=>cases ry;exact PySem.EqNone.eq_none_bool (bq I q (by simp))
  | int j=>let(t',rfl):=ry;exact PySem.EqNone.eq_none_int (bq I q (by simp))
  | str j=>let(t',rfl):=ry;exact PySem.EqNone.eq_none_str (bq I q (by simp))
  | _=>exact absurd (show false=true from hs) Wm
 | bl i =>
  cases rx;cases y with
  | bT=>cases ry;exact PySem.EqNone.eq_bool_none (bq I q (by simp))
  | bl j=>cases ry;exact eq_bool (bq I q zQ)
  | str j=>let(t',rfl):=ry;exact PySem.EqMixed.eq_bool_str (bq I q (by simp))
  | _=>exact absurd (show false=true from hs) Wm
 | int i =>
  let(t,rfl):=rx;cases y with
  | bT=>cases ry;exact PySem.EqNone.eq_int_none (bq I q (by simp))
  | int j=>let(t',rfl):=ry;exact eq_int (bq I q xv)
  | str j=>let(t',rfl):=ry;exact PySem.EqMixed.eq_int_str (bq I q (by simp))
  | _=>exact absurd (show false=true from hs) Wm
 | str i =>
  let(t,rfl):=rx;cases y with
  | bT=>cases ry;exact PySem.EqNone.eq_str_none (bq I q (by simp))
  | bl j=>cases ry;exact PySem.EqMixed.eq_str_bool (bq I q (by simp))
  | int j=>let(t',rfl):=ry;exact PySem.EqMixed.eq_str_int (bq I q (by simp))
  | str j=>let(t',rfl):=ry;exact eq_str (bq I q ym)
  | _=>exact absurd (show false=true from hs) Wm
 | yw i =>
  let(t,rfl):=rx;cases y with
  | yw j=>let(t',rfl):=ry;exact PySem.W.eq_bytes (bq I q xI)
  | _=>exact absurd (show false=true from hs) Wm
 | _=>cases y<;>exact absurd (show false=true from hs) Wm
theorem oF:jC X (KM .NotEq) Ue:=by
 intro TW s σ H x y v u Q I rx ry h;let(hs,q):=h;cases x with
 | bT =>
  cases rx;cases y with
  | bT=>cases ry;exact PySem.EqNone.ne_none_none (bq I q (by simp))
  | bl j=>cases ry;exact PySem.EqNone.ne_none_bool (bq I q (by simp))
  | int j=>let(t',rfl):=ry;exact PySem.EqNone.ne_none_int (bq I q (by simp))
  | str j=>let(t',rfl):=ry;exact PySem.EqNone.ne_none_str (bq I q (by simp))
  | _=>exact absurd (show false=true from hs) Wm
 | bl i =>
  cases rx;cases y with
  | bT=>cases ry;exact PySem.EqNone.ne_bool_none (bq I q (by simp))
  | bl j=>cases ry;exact ne_bool (bq I q (congrArg not zQ))
  | str j=>let(t',rfl):=ry;exact PySem.EqMixed.ne_bool_str (bq I q (by simp))
  | _=>exact absurd (show false=true from hs) Wm
 | int i =>
  let(t,rfl):=rx;cases y with
  | bT=>cases ry;exact PySem.EqNone.ne_int_none (bq I q (by simp))
  | int j=>let(t',rfl):=ry;exact ne_int (bq I q (congrArg not xv))
  | str j=>let(t',rfl):=ry;exact PySem.EqMixed.ne_int_str (bq I q (by simp))
  | _=>exact absurd (show false=true from hs) Wm
 | str i =>
  let(t,rfl):=rx;cases y with
  | bT=>cases ry;exact PySem.EqNone.ne_str_none (bq I q (by simp))
  | bl j=>cases ry;exact PySem.EqMixed.ne_str_bool (bq I q (by simp))
  | int j=>let(t',rfl):=ry;exact PySem.EqMixed.ne_str_int (bq I q (by simp))
  | str j=>let(t',rfl):=ry;exact ne_str (bq I q (congrArg not ym))
  | _=>exact absurd (show false=true from hs) Wm
 | yw i =>
  let(t,rfl):=rx;cases y with
  | yw j=>let(t',rfl):=ry;exact PySem.W.ne_bytes (bq I q (congrArg not xI))
  | _=>exact absurd (show false=true from hs) Wm
 | _=>cases y<;>exact absurd (show false=true from hs) Wm
theorem FV:jC X (KM .Lt) (ua λi j=>.bl (decide (i < j))):=Jp λ_ _ _ _ _ _ _ q=>lt_int q
theorem mO:jC X (KM .Gt) (ua λi j=>.bl (decide (j < i))):=Jp λ_ _ _ _ _ _ _ q=>gt_int q
theorem Ga:jC X (KM .GtE) (ua λi j=>.bl (decide (j<=i))):=Jp λ_ _ _ _ _ _ _ q=>ge_int q
theorem Fz:jC X (KM .IsNot) (λx y H Q=>y=.bT/\Q (.bl (not (decide (x=.bT)))) H):=by
 intro TW s σ H x y v u Q I rx ry h;let(rfl,q):=h;cases ry;show isnot_none_gen (bq I q ?_);cases x<;>first
  | (cases rx;rfl)
  | (let(t,rfl):=rx;rfl)
theorem aF(b:Cl){op:CmpOp}(h: ~~~(op≠.In))(h2: ~~~(op≠.NotIn)):behindInMarks op b=false:=by
 have e1:(op == CmpOp.In)=false:=by cases op<;>first | rfl | exact absurd U h
 have e2:(op == CmpOp.NotIn)=false:=by cases op<;>first | rfl | exact absurd U h2
 cases b<;>simp[behindInMarks,e1,e2]
theorem Es{op:CmpOp}{r:R2}(ho:jC X (KM op) r)(ha:PE X a ta)(hb:PE X b tb)(hm:behindInMarks op b=false):PE X (.Compare a [op] [b] pos) (iW r ta tb):=by
 intro TW s σ H Q I h;exact wpAny_Compare1 (Jy ha hb I h λv u s2 x y H2 I2 rx ry q=>ho TW s2 σ H2 x y v u Q I2 rx ry q) hm
def qz(t:TE):TT:=λσ H Q=>t σ H λx H'=>∃ k,x=.bl k/\Q k H'
theorem hW{op:CmpOp}{r:R2}(ho:jC X (KM op) r)(ha:PE X a ta)(hb:PE X b tb)(hm:behindInMarks op b=false):PT X (.Compare a [op] [b] pos) (qz (iW r ta tb)):=by
 intro TW s σ H Q I h;show wpAny_isTrue_Compare1 (b3 (ha TW s σ H _ I h) λv s1 zz=>el2 zz λx H1 I1 r1 q1=>b3 (hb TW s1 σ H1 _ I1 q1) λu s2 zz=>el2 zz λy H2 I2 r2 q2 =>
  b3 (ho TW s2 σ H2 x y v u _ I2 r1 r2 q2) λc s3 #[z,H3,I3,r3,k,e,q3]=>?_) hm
 subst e;cases r3;exact wpAny_truthy_bool #[H3,I3,q3]
def LW(K:Frag)(x:V)(H:Hp)(k:Bool):Prop :=
 match x with
 | .bT=>k=false
 | .bl b=>k=b
 | .int i=>k=(i != 0)
 | .str y=>y.length<=FB/\k=((y.length:Int) != 0)
 | .yw y=>y.size<=FB/\k=((y.size:Int) != 0)
 | .ref p=>(∃ xs,d8 K H p xs/\k=(not xs.isEmpty))\/(∃ xs,jx K H p xs/\k=(not xs.isEmpty))\/∃ kvs,H p=some (.dK kvs)/\k=(not kvs.isEmpty)
 | _=>False
theorem xh{κ:Type}{kvs:!(κ×V)}{vs:!(κ×AT)}(r:KV kvs vs):(not vs.isEmpty)=(not kvs.isEmpty):=by
 cases r<;>rfl
theorem oo{xs:!V}{its:!AT}(r:Vals xs its):(not its.toArray.isEmpty)=(not xs.isEmpty):=by
 cases r<;>simp
theorem jX:(FB:Nat) < 2 ^ 63:=by rw[sizeLine_eq];decide
theorem Im:Sg X (λx H Q=>∃ k,LW X.K x H k/\Q k H):=by
 intro TW s σ H x v Q I rx h;let(k,e,q):=h;have hl:=jX;have hs:FB=16777216:=sizeLine_eq;cases x with
 | bT =>
  cases rx;have e':k=false:=e;subst e';exact truthy_none #[H,I,q]
 | bl b =>
  cases rx;have e':k=b:=e;subst e';exact wpAny_truthy_bool #[H,I,q]
 | int i =>
  let(t,rfl):=rx;have e':k=(i != 0):=e;subst e';exact PySem.P.truthy_int #[H,I,q]
 | str y =>
  let(t,rfl):=rx;obtain⟨hy,e'⟩:y.length<=FB/\k=((y.length:Int) != 0):=e;subst e';exact PySem.P.truthy_str (by cbv) #[H,I.tok _,q]
 | yw y =>
  let(t,rfl):=rx;obtain⟨hy,e'⟩:y.size<=FB/\k=((y.size:Int) != 0):=e;subst e';exact PySem.W.truthy_bytes (by cbv) #[H,I.tok _,q]
 | ref p =>
  cases rx;have e':(∃ xs,d8 X.K H p xs/\k=(not xs.isEmpty))\/(∃ xs,jx X.K H p xs/\k=(not xs.isEmpty))\/∃ kvs,H p=some (.dK kvs)/\k=(not kvs.isEmpty):=e;rcases e' with ⟨xs,hx,e'⟩ | ⟨xs,hx,e'⟩ | ⟨kvs,hx,e'⟩
  .subst e';let(its,r,pl,hz):=I.list hx;have hlen:=r.length;exact wpAny_truthy_list pl.isList (by simp only[List.size_toArray];cbv) #[H,I.tok _,by rw[oo r];exact q]
  .subst e';let(its,r,pl,hz):=I.tuple hx;have hlen:=r.length;exact truthy_tuple pl (by simp only[List.size_toArray];cbv) #[H,I.tok _,by rw[oo r];exact q]
  .subst e';obtain⟨hz,hS,vs,r,m⟩:kvs.length<=FB/\(p == Ps)=false/\∃ vs,KV kvs vs/\s.heap.DictOf (cC X.prog X.w) p vs:=I.bx p _ hx;have hlen:kvs.length=vs.length:=Paired.length r;exact wpAny_truthy_dict hS m (by cbv) #[H,I.tok _,by rw[xh r];exact q]
 | _=>exact (show False from e).elim
theorem Cu(ha:PE X a ta)(he:∀ whole,isTrue a X.env whole=(do let v <- whole;standAt a.pos;holding [v] (truthy v))) :
  PT X a (λσ H Q=>ta σ H λx H'=>∃ k,LW X.K x H' k/\Q k H'):=by
 intro TW s σ H Q I h;exact isTrue_plain (b3 (ha TW s σ H _ I h) λv s1 zz=>el2 zz λx H1 I1 r1 q1=>Im TW s1 σ H1 x v Q I1 r1 q1) (he _)
theorem eK:jC X (SC .Add) (λx y H Q=>∃ i j,x=.str i/\y=.str j/\i.length+j.length<=FB/\Q (.str (i++j)) H):=by
 intro TW s σ H x y v u Q I rx ry h;let(i,j,rfl,rfl,hz,q):=h;let(t,rfl):=rx;let(t',rfl):=ry;exact add_str (λt' tk=>#[.str (i++j),H,I.tok _,#[_,U],q]) hz
theorem vals1{x:V}{us:!AT}(r:Vals [x] us):∃ u,us=[u]/\RelV x u:=by
 cases r with
 | cons r1 r2=>cases r2;exact#[_,U,r1]
theorem vals2{x y:V}{us:!AT}(r:Vals [x,y] us):∃ u w',us=[u,w']/\RelV x u/\RelV y w':=by
 cases r with
 | cons r1 r2 =>
  cases r2 with
  | cons r3 r4=>cases r4;exact#[_,_,U,r1,r3]
theorem l4(hc:X.calm=true):fo X (.builtin "max") (λxs H Q=>∃ i j,xs=[.int i,.int j]/\Q (.int (if j > i then j else i)) H):=by
 intro TW s σ H xs us Q I r h;let(i,j,rfl,q):=h;let(u,w',rfl,(t,rfl),(t',rfl)):=vals2 r;show max_two_ints (I.ok.hd hc) λh' tk k=>#[_,H,I.kept k,?_,q];by_cases hj:j > i
 .rw[if_pos hj,if_pos hj];exact#[_,U]
 .rw[if_neg hj,if_neg hj];exact#[_,U]
theorem yX(hc:X.calm=true):fo X (.builtin "min") (λxs H Q=>∃ i j,xs=[.int i,.int j]/\Q (.int (if j < i then j else i)) H):=by
 intro TW s σ H xs us Q I r h;let(i,j,rfl,q):=h;let(u,w',rfl,(t,rfl),(t',rfl)):=vals2 r;show min_two_ints (I.ok.hd hc) λh' tk k=>#[_,H,I.kept k,?_,q];by_cases hj:j < i
 .rw[if_pos hj,if_pos hj];exact#[_,U]
 .rw[if_neg hj,if_neg hj];exact#[_,U]
theorem jo:fo X (.type "int") (λxs H Q=>(∃ i,xs=[.int i]/\Q (.int i) H)\/∃ k,xs=[.bl k]/\Q (.int (if k then 1 else 0)) H):=by
 intro TW s σ H xs us Q I r h;rcases h with ⟨i,rfl,q⟩ | ⟨k,rfl,q⟩
 .let(u,rfl,t,rfl):=vals1 r;exact call_int_int #[.int i,H,I,#[_,U],q]
 .let(u,rfl,r1):=vals1 r;cases r1;exact call_int_bool #[.int (if k then 1 else 0),H,I.tok _,#[_,U],q]
end
structure vP(h:EQ)(x dx C:AC)(mA:Str->Option AT):Prop where
 obj:h.get? x=some (PySem.W.instObj C dx)
 ns:h.Ns1 dx mA
 ne:dx≠x
theorem yL{h:EQ}{dx:AC}{mA:Str->Option AT}(n:h.Ns1 dx mA):∃ od,h.get? dx=some od/\∀ name,PySem.W.lookIn name od=some (mA name):=by
 let(o,es,ep,ho,hd,hk,_,hm):=n;show#[o,ho,λname=>?_];have e:=hm name;unfold nsFind findBy at e;rw[<- Array.find?_toList] at e;unfold PySem.W.lookIn;rw[hd];dsimp only;split
 .rename_i y q
  rw[q] at e;exact congrArg some e
 .rename_i q
  rw[q] at e;have a:es.toList.any (·.refKey)=false:=by
   rw[List.any_eq_false];intro y hy;let(z,t,hkey):=hk y (Array.mem_toList_iff.mp hy);simp[SZ.refKey,hkey]
  have a':¬ es.toList.any (·.refKey)=true:=by rw[a];exact Wm
  rw[if_neg a'];exact congrArg some e
theorem vP.look{h:EQ}{x dx C:AC}{mA:Str->Option AT}(I:vP h x dx C mA):∃ od,InstAt h x (PySem.W.instObj C dx) C (some od)/\∀ name,PySem.W.lookIn name od=some (mA name) :=
 let #[od,ho,hl]:=yL I.ns
 #[od,#[I.obj,U,U,ho],hl]
section
variable{prog:GE}{w:Fa}{A:Fr}{E:X7}{s:Da}{K:Frag}{x dx C f:AC}{mA:Str->Option AT}{name:Str}{v:AT}
theorem get_map{expr:Bool}{Q:X7}(X:K.In s.heap)(I:vP s.heap x dx C mA)(hg:PySem.W.plainGet K C name=true)(hh:PySem.W.hasDictIn K C=true)(ha:findIn K (.ref C) name=some none)(hv:mA name=some v)(Ra:PySem.W.handedIn v=true)(h:Q v { s with toks:=s.toks+1 }) :
  Db (model prog w) A (getAttr (.ref x) name expr) Q E s:=by
 let(od,J,hl):=I.look;exact PySem.W.get_value X J (PySem.W.plainGet_of hg).1 (PySem.W.findObj_own hh ha U (by rw[hl,hv])) Ra h
theorem A3{pl:Sem Bool}{Q:AT×!AT->Da->Prop}(X:K.In s.heap)(I:vP s.heap x dx C mA)(hg:PySem.W.plainGet K C name=true)(hf:findIn K (.ref C) name=some (some (.ref f)))(ht:PySem.W.isFn K (.ref f)=true)(hv:mA name=none)(h:Q (.ref f,[.ref x]) s) :
  Db (model prog w) A (getMethod (.ref x) name pl) Q E s:=by
 let(od,J,hl):=I.look;exact PySem.W.method_fn X J (PySem.W.plainGet_of hg).1 (PySem.W.plainGet_of hg).2 hf (beq_iff_eq.mp ht) (by change (PySem.W.lookIn name od).map (·.isSome)=some false;rw[hl,hv];rfl) h
theorem EK{ns:!Str}{Q:Unit->Da->Prop}(X:K.In s.heap)(I:vP s.heap x dx C mA)(hs:findIn K (.ref C) "__setattr__"=some (some (.builtin "object.__setattr__")))(hp:PySem.W.plainOver K C=true)(ht:PySem.W.takerIn K C name=some none)(hh:PySem.W.hasDictIn K C=true)(hw:PySem.Within mA ns)(hsz:ns.length<=FB)(h:∀ h',vP h' x dx C (λy=>if y=name then some v else mA y)->EQ.SameBut dx s.heap h'->Q Unit.unit { s with heap:=h',toks:=s.toks+2 }) :
  Db (model prog w) A (setAttr (.ref x) name v) Q E s:=by
 let(od,J,hl):=I.look;show PySem.W.set_plain X J hs (PySem.W.osa_open (s:={ s with toks:=s.toks+1 }) (r:=none) X J hp ht λb=>?_);let(cd,hc,hd'):=PySem.W.any_some hh;have hx:s.heap.get? x=some #[.ref C,some dx,.plain,#v[]]:=I.obj;show Ch (FS (Ch (Ch (wpAny_loadPart hx (Ch (Looks.here (s:={ s with toks:=s.toks+1 }) (PySem.W.looks_clsIn X hc) ?_))))));rw[hd'];show FS (a:=some dx) (Ch (FS (Ch ?_)));show wpAny_nsSet1 (s:={ s with toks:=s.toks+1 }) I.ns λh' Gh oX=>?_;let(oD,esD,epD,hoD,LV,hcD):=Gh.count (PySem.Within.cons name v hw);show Ch (wpAny_lookBehind hoD (by rw[LV];exact pastItsLine_dict (Ws hcD (by rw[Wi];cbv))) ?_);exact FS (h _ #[(oX.2 _ (Ne.symm I.ne)).trans I.obj,Gh,I.ne] oX)
theorem BO{R:Result->Da->Prop}{vs:!AT}{kw:!(Str×AT)}(X:K.In s.heap)(hm:PySem.W.makesIn K C=true)(hi:findIn K (.ref C) "__init__"=some (some (.ref f)))(hf:typeIn K (.ref f)=some (.type "function"))(h:codeAny (model prog w) (A.under (.builtin "type.__call__" #[.ref C::vs,kw])) (.call (.ref f) #[.ref (↑s+1)::vs,kw]) (PySem.W.InitBack (↑s+1) R)
   { s with heap:=(s.heap.push PySem.W.emptyDict).push (PySem.W.instObj C ↑s) }) :
  codeAny (model prog w) A (.call (.ref C) #[vs,kw]) R s:=by
 let(hh,g,d,t,os):=s;exact PySem.W.make_core (PySem.W.makes_of X hm) (PySem.W.looks_findIn X hi) (λself=>PySem.W.bind_fn X self hf) (.inl U) h
end
def gS(f:Str)(v:V):!(Str×V)->!(Str×V)
 | []=>[(f,v)]
 | (g,x)::r=>if g=f then (g,v)::r else (g,x)::gS f v r
theorem mh(f g:Str)(v:V):∀ fs:!(Str×V),(gS f v fs).lookup g=if g=f then some v else fs.lookup g
 | []=>by
  change List.lookup g [(f,v)]=_;by_cases h:g=f
  .have hb:(g == f)=true:=beq_iff_eq.mpr h;simp only[List.lookup,hb,if_pos h]
  .have hb:(g == f)=false:=beq_eq_false_iff_ne.mpr h;simp only[List.lookup,hb,if_neg h]
 | (k,x)::r=>by
  have ih:=mh f g v r;rw[show gS f v ((k,x)::r)=(if k=f then (k,v)::r else (k,x)::gS f v r) from U];by_cases hk:k=f
  .rw[if_pos hk];by_cases h:g=k
   .have hb:(g == k)=true:=beq_iff_eq.mpr h;simp only[List.lookup,hb,if_pos (h.trans hk)]
   .have hb:(g == k)=false:=beq_eq_false_iff_ne.mpr h;simp only[List.lookup,hb,if_neg (λe:g=f=>h (e.trans hk.symm))]
  .rw[if_neg hk];by_cases h:g=k
   .have hb:(g == k)=true:=beq_iff_eq.mpr h;simp only[List.lookup,hb,if_neg (λe:g=f=>hk (h.symm.trans e))]
   .have hb:(g == k)=false:=beq_eq_false_iff_ne.mpr h;simp only[List.lookup,hb];exact ih
theorem l6(f:Str)(v:V):∀ fs:!(Str×V),f∈(gS f v fs).map (·.1)/\∀ g,g∈fs.map (·.1)->g∈(gS f v fs).map (·.1)
 | []=>#[by simp[gS],λg h=>by simp at h]
 | (k,x)::r=>by
  let(i1,i2):=l6 f v r;rw[show gS f v ((k,x)::r)=(if k=f then (k,v)::r else (k,x)::gS f v r) from U];by_cases hk:k=f
  .rw[if_pos hk];subst hk;exact#[by simp,λg h=>by simpa using h]
  .rw[if_neg hk];show#[?_,λg h=>?_]
   .rw[Wj];exact Wd _ i1
   .rw[Wj] at h ⊢;rcases Wu.mp h with e | e
    .exact Wu.mpr (.inl e)
    .exact Wd _ (i2 g e)
theorem mq(f:Str)(v:V):∀ fs:!(Str×V),(gS f v fs).length<=fs.length+1
 | []=>by simp[gS]
 | (k,x)::r=>by
  have ih:=mq f v r;rw[show gS f v ((k,x)::r)=(if k=f then (k,v)::r else (k,x)::gS f v r) from U];by_cases hk:k=f
  .rw[if_pos hk,Wi,Wi];cbv
  .rw[if_neg hk,Wi,Wi];cbv
theorem jG.some_of{v:V}{o:Option AT}(r:jG (some v) o):∃ u,o=some u/\RelV v u:=by
 cases o with
 | none=>exact (show False from r).elim
 | some u=>exact#[u,U,r]
theorem jG.none_of{o:Option AT}(r:jG none o):o=none:=by
 cases o with
 | none=>rfl
 | some u=>exact (show False from r).elim
theorem zj{v:V}{u:AT}(r:RelV v u):PySem.W.handedIn u=true:=by
 cases v with
 | bT=>cases (show u=AT.none from r);rfl
 | bl b=>cases (show u=AT.bool b from r);rfl
 | int i=>let(t,e):=(show ∃ t,u=AT.int i t from r);cases e;rfl
 | str x=>let(t,e):=(show ∃ t,u=AT.str x t from r);cases e;rfl
 | yw b=>let(t,e):=(show ∃ t,u=AT.bytes b t from r);cases e;rfl
 | QZ b=>let(t,e):=(show ∃ t,u=AT.float b t from r);cases e;rfl
 | ref a=>cases (show u=AT.ref a from r);rfl
 | ty n=>cases (show u=AT.type n from r);rfl
section
variable{P:GE}{w:Fa}{H H':Hp}{h h':EQ}{a C dx:AC}{fs VS:!(Str×V)}
theorem sD(bx:ko P w H h)(e:H a=some (.ins C dx fs)):∃ mA,vP h a dx C mA/\(∀ f,jG (fs.lookup f) (mA f))/\PySem.Within mA (fs.map (·.1))/\fs.length<=1000/\H dx=some (.own a):=by
 let(d,z,ne,ob,mA,n,r,q):=(show b6 P w H h a (.ins C dx fs) from bx a _ e);exact#[mA,#[ob,n,ne],r,q,z,d]
end
structure sZ(K:Frag)(C:AC):Prop where
 pg:PySem.W.plainGet K C Str.empty=true
 hd:PySem.W.hasDictIn K C=true
 po:PySem.W.plainOver K C=true
 sa:findIn K (.ref C) "__setattr__"=some (some (.builtin "object.__setattr__"))
theorem sZ.get{K:Frag}{C:AC}(c:sZ K C)(f:Str):PySem.W.plainGet K C f=true:=c.pg
def cz(K:Frag)(C:AC)(f:Str):Prop:=findIn K (.ref C) f=some none
theorem cz.Qu{K:Frag}{C:AC}{f:Str}(n:cz K C f):PySem.W.takerIn K C f=some none:=by
 unfold PySem.W.takerIn;rw[show findIn K (.ref C) f=some none from n]
 rfl
structure Meth(K:Frag)(C:AC)(m:Str)(f:AC):Prop where
 at_:findIn K (.ref C) m=some (some (.ref f))
 fn:PySem.W.isFn K (.ref f)=true
 kp:keepIn K (.ref f)=true
section
variable{X:Cx}{TW:X8}{σ:St}{H:Hp}{s:Da}{a C dx:AC}{fs:!(Str×V)}{f:Str}{v:V}{A:Fr}{E:X7}
theorem wq{b:Bool}{Q:X7}(I:Inv X TW σ H s)(e:H a=some (.ins C dx fs))(c:sZ X.K C)(n:cz X.K C f)(l:fs.lookup f=some v)(h:∀ u s',Inv X TW σ H s'->RelV v u->Q u s'):Db (model X.prog X.w) A (getAttr (.ref a) f b) Q E s:=by
 let(mA,O,r,_,_,_):=sD I.bx e;let(u,hu,ru):=jG.some_of (v:=v) (o:=mA f) (by rw[<- l];exact r f);exact get_map I.vC O (c.get f) c.hd n hu (zj ru) (h u _ (I.tok _) ru)
theorem oZ{m:Str}{g:AC}{pl:Sem Bool}{Q:AT×!AT->Da->Prop}(I:Inv X TW σ H s)(e:H a=some (.ins C dx fs))(c:sZ X.K C)(k:Meth X.K C m g)(l:fs.lookup m=none)(h:Q (.ref g,[.ref a]) s):Db (model X.prog X.w) A (getMethod (.ref a) m pl) Q E s:=by
 let(mA,O,r,_,_,_):=sD I.bx e;have hn:mA m=none:=jG.none_of (by rw[<- l];exact r m);exact A3 I.vC O (c.get m) k.at_ k.fn hn h
theorem xa{y:V}{u:AT}{Q:Unit->Da->Prop}(I:Inv X TW σ H s)(e:H a=some (.ins C dx fs))(c:sZ X.K C)(n:cz X.K C f)(hl:fs.length < 1000)(ry:RelV y u)(h:∀ s',Inv X TW σ (upd H a (.ins C dx (gS f y fs))) s'->Q Unit.unit s'):Db (model X.prog X.w) A (setAttr (.ref a) f u) Q E s:=by
 let(mA,O,r,wi,_,ho):=sD I.bx e;have hz:(fs.map (·.1)).length<=FB:=by rw[V8,sizeLine_eq];cbv
 show EK I.vC O c.sa c.po n.Qu c.hd wi hz λh' O' sb=>h _ ?_;have hd:∃ o,h'.get? dx=some o:=let #[o,_,_,e',_]:=O'.ns;#[o,e'];show I.write (x:=a) (e:=dx) (by rw[e];exact True.intro) (.inr ho) (λb q hb z=>(sb.2 b hb).trans z) hd ?_;show#[by rw[aw O.ne];exact ho,?_,O.ne,O'.obj,_,O'.ns,λg=>?_,λg hg=>?_]
 .have:=mq f y fs;cbv
 .show jG ((gS f y fs).lookup g) (if g=f then some u else mA g);rw[mh];by_cases q:g=f
  .rw[if_pos q,if_pos q];exact ry
  .rw[if_neg q,if_neg q];exact r g
 .by_cases q:g=f
  .rw[q];exact (l6 f y fs).1
  .refine (l6 f y fs).2 g (wi g λz=>hg ?_);change (if g=f then some u else mA g)=none;rw[if_neg q];exact z
theorem Inv.made(I:Inv X TW σ H s):Inv X TW σ (upd (upd H ↑s (.own (↑s+1))) (↑s+1) (.ins C ↑s []))
  { s with heap:=(s.heap.push PySem.W.emptyDict).push (PySem.W.instObj C ↑s) }:=by
 have e1:(s.heap.push PySem.W.emptyDict).get? ↑s=some PySem.W.emptyDict:=Wl s.heap U;have e2:((s.heap.push PySem.W.emptyDict).push (PySem.W.instObj C ↑s)).get? (↑s+1)=some (PySem.W.instObj C ↑s):=by
  have:=Wl (s.heap.push PySem.W.emptyDict) (o:=PySem.W.instObj C ↑s) U
  rwa [WS] at this
 have e3:(s.heap.push PySem.W.emptyDict).Ns ↑s (λ_=>none):=#[PySem.W.emptyDict,#v[],_,e1,U,(λe he=>absurd he (by simp)),λ_=>rfl];have I1:=I.laid (a:=↑s) (o:=.own (↑s+1)) (h':=s.heap.push PySem.W.emptyDict) (t':=s.toks) (λb u q=>V9 _ q) (We _) #[_,e1];show I1.laid (a:=↑s+1) (o:=.ins C ↑s []) (t':=s.toks) (λb u q=>V9 _ q) (XQ (WS _ _)) ?_;have ne:↑s≠↑s+1:=Ww (Nat.lt_succ_self _);show#[by rw[aw ne,aA],WH _,ne,e2,λ_=>none,(EQ.Ns1.of_empty e3).at λo q=>V9 _ q,λ_=>True.intro,λy hy=>absurd U hy]
theorem Ei{prog:GE}{w:Fa}{env:Env}{e:Cl}{f:Str}{pos:Pos}{s:Da}{Q:X7}(hb:attributeBase e f env (eval e env)=eval e env)(h:Db (model prog w) A (eval e env) (λo s₁=>Db (model prog w) A (getAttr o f true) Q E s₁) E s):Db (model prog w) A (eval (.Attribute e f pos) env) Q E s :=
 Attribute_any_ h (by rw[arm_eval_Attribute,hb])
end
def RJ(K:Frag)(ta:TE)(f:Str):TE:=λσ H Q=>ta σ H λx H1=>∃ a C dx fs v,x=.ref a/\H1 a=some (.ins C dx fs)/\sZ K C/\cz K C f/\fs.lookup f=some v/\Q v H1
def RX(K:Frag)(ta tv:TE)(f:Str):TS:=λD σ H=>tv σ H λy H1=>ta σ H1 λx H2=>∃ a C dx fs,x=.ref a/\H2 a=some (.ins C dx fs)/\sZ K C/\cz K C f/\fs.length < 1000 /\
 D.nx σ (upd H2 a (.ins C dx (gS f y fs)))
section
variable{X:Cx}{o e value:Cl}{f:Str}{pos pos' ma:Pos}{ta tv:TE}
theorem BY(he:PE X e ta)(hb:attributeBase e f X.env (eval e X.env)=eval e X.env):PE X (.Attribute e f pos) (RJ X.K ta f):=by
 intro TW s σ H Q I h;show Ei hb (b3 (he TW s σ H _ I h) λu s1 #[x,H1,I1,rx,a,C,dx,fs,v,ex,ea,c,n,l,q]=>?_);subst ex;obtain rfl:u=AT.ref a:=rx;exact wq I1 ea c n l λu' s2 I2 ru=>#[v,H1,I2,ru,q]
theorem CH(ha:PE X o ta)(hv:PE X value tv)(hs:swapsWith value (some (.Attribute o f pos')) pos.line X.env=pure false):PS X (.Assign [.Attribute o f pos'] value pos) (RX X.K ta tv f):=by
 intro TW s σ H D I h;show plainObj_wpAny_Assign_Attribute (b3 (hv TW s σ H _ I h) λu s1 zz=>el2 zz λy H1 I1 ry q=>b3 (ha TW s1 σ H1 _ I1 q) λov s2 #[x,H2,I2,rx,a,C,dx,fs,ex,ea,c,n,l,q2]=>?_) hs;subst ex;obtain rfl:ov=AT.ref a:=rx;exact xa I2 ea c n l ry λs3 I3=>#[σ,_,I3,q2]
end
section
variable{X:Cx}{TW:X8}{σ:St}{H:Hp}{s:Da}{A:Fr}{E:X7}{Q:X7}{c:AT}{b:Bool}
end
structure bO(k:Nat)(A:Fr):Prop where
 hd:A.handled=none
 dp:A.depth+3 * k+5 < recursionLimit
 un:A.units+16 * k+200 < cLine
theorem bO.mono{j k:Nat}{A:Fr}(r:bO k A)(h:j<=k):bO j A:=#[r.hd,by have:=r.dp;cbv,by have:=r.un;cbv]
theorem bO.deeper{k:Nat}{A:Fr}(r:bO (k+1) A)(env:Env):bO k (A.deeper env) :=
 #[r.hd,by have:=r.dp;change A.depth+1+3 * k+5 < _;cbv,by have:=r.un;change A.units+3+16 * k+200 < _;cbv]
theorem wa{A:Fr}{C:AC}{us:!AT}{kw:!(Str×AT)}:(A.under (.builtin "type.__call__" #[.ref C::us,kw])).depth=A.depth+1:=by
 first | rfl | simp[Fr.under,Code.weight,Code.isCreation,Code.isGuard,Code.isCaller,Code.frames,Code.isFrame,guardIds]
theorem wW{A:Fr}{C:AC}{us:!AT}{kw:!(Str×AT)}:(A.under (.builtin "type.__call__" #[.ref C::us,kw])).units=A.units+1:=by
 first | rfl | simp[Fr.under,Code.cUnits,Code.frames,Code.isFrame]
theorem bO.make{k:Nat}{A:Fr}(r:bO (k+1) A)(C:AC)(us:!AT)(kw:!(Str×AT)):bO k (A.under (.builtin "type.__call__" #[.ref C::us,kw])) :=
 #[r.hd,by have:=r.dp;rw[wa];cbv,by have:=r.un;rw[wW];cbv]
theorem bO.depth{k:Nat}{A:Fr}(r:bO k A):A.depth < recursionLimit:=by have:=r.dp;cbv
theorem bO.units{k:Nat}{A:Fr}(r:bO k A):A.units+64 < cLine:=by have:=r.un;cbv
def De:TA:=λ_ H Q=>Q [] H
def vB(ta:TE)(tr:TA):TA:=λσ H Q=>ta σ H λx H1=>tr σ H1 λxs H2=>Q (x::xs) H2
section
variable{X:Cx}{e:Cl}{es:!Cl}{te:TE}{t:TA}{pos:Pos}
theorem l8:PA X [] De:=λ_ _ _ _ H Q I h=>Calls.spliced_nil #[[],H,I,.nil,h]
theorem fC(ha:PE X e te)(hr:PA X es t)(hs:(Ya X.env e es)⁻¹):PA X (e::es) (vB te t):=by
 intro pos TW s σ H Q I h;rw[hs];change Db _ _ (spliced ((false,eval e X.env)::IR pos (GT es X.env))) _ _ s;show Calls.spliced_cons (b3 (ha TW s σ H _ I h) λu s1 zz=>el2 zz λx H1 I1 r1 q1=>?_);exact b3 (hr pos TW s1 σ H1 _ I1 q1) λus s2 zz=>el2 zz λxs H2 I2 r2 q2=>#[x::xs,H2,I2,.cons r1 r2,q2]
def RZ(t:TA):TE:=λσ H Q=>t σ H λxs H1=>xs.length<=FB/\∀ p,H1 p=none->Q (.ref p) (upd H1 p (.tup xs))
def S7(t:TA):TE:=λσ H Q=>t σ H λxs H1=>xs.length<=FB/\∀ p,H1 p=none->Q (.ref p) (upd H1 p (.lst xs))
theorem IL{x1}(h:PA X es t):PE X (.Tuple es x1 pos) (RZ t):=by
 intro TW s σ H Q I hq;show wpAny_Tuple_spliced (b3 (h pos TW s σ H _ I hq) λus s1 #[xs,H1,I1,r,z,q]=>#[by rw[<- r.length];exact z,?_]);have hf:H1 ↑s1=none:=I1.bx.fresh (We _);show#[.ref ↑s1,upd H1 ↑s1 (.tup xs),I1.laid (t':=s1.toks) (λb u e=>V9 _ e) (We _) ?_,U,q _ hf];exact#[z,us,r,iQ.new _ _]
theorem IF(h:PA X es t):PE X (.List es pos) (S7 t):=by
 intro TW s σ H Q I hq;show wpAny_List_spliced (b3 (h pos TW s σ H _ I hq) λus s1 #[xs,H1,I1,r,z,q]=>#[by rw[<- r.length];exact z,?_]);have hf:H1 ↑s1=none:=I1.bx.fresh (We _);show#[.ref ↑s1,upd H1 ↑s1 (.lst xs),I1.laid (t':=s1.toks) (λb u e=>V9 _ e) (We _) ?_,U,q _ hf];exact#[z,us,0,r,Wl _ U]
end
abbrev Sp:=!V->Hp->VK->XK->Prop
abbrev wU:=!Env->Hp->Da->XK->X7
structure w9(P:GE)(w:Fa)(K:Frag)(mg:Str->Option AT)(base:EQ)(A:Fr)(outer:!Env)(s:Da)(H:Hp):Prop where
 frames:A.frames=some outer
 mod:Mod K mg base
 bs:∀ b o,base.get? b=some o->s.heap.get? b=some o/\H b=none
 EM:base.objs.size<=↑s
 nq:s.heap.FunFrames base outer
 JW:∀ b∈Ct outer,H b=none
 bx:ko P w H s.heap
 bare:AllBare s.gens
def CE(outer:!Env)(P:GE)(w:Fa)(H:Hp)(s:Da)(Q:VK)(u:AT)(s':Da):Prop :=
 ∃ v H',s'.os=s.os/\AllBare s'.gens/\Un (Ct outer) [] H H' s.heap s'.heap/\ko P w H' s'.heap/\RelV v u/\Q v H'
def CR(CX:wU)(outer:!Env)(P:GE)(w:Fa)(H:Hp)(s:Da)(Q:VK)(E:XK)(r:Result)(s':Da):Prop :=
 match r with
 | .ok (.ret u)=>CE outer P w H s Q u s'
 | .ok _=>False
 | .error e=>CX outer H s E e s'
structure bP(P:GE)(w:Fa)(K:Frag)(mg:Str->Option AT)(base:EQ)(CX:wU)(k:Nat)(f:AC)(fd:Go)(ps:!Str)(sp:Sp):Prop where
 len:∀ vs H Q E,sp vs H Q E->vs.length=ps.length
 run:∀ (A:Fr) (outer:!Env) (s:Da) (H:Hp) (args:Args) (us:!AT) (vs:!V) (Q:VK) (E:XK),bO k A->w9 P w K mg base A outer s H->BindsTo s fd args (ps.zip us)->Vals vs us->sp vs H Q E ->
  codeAny (model P w) A (.call (.ref f) args) (CR CX outer P w H s Q E) s
theorem bP.mono{P:GE}{w:Fa}{K:Frag}{mg:Str->Option AT}{base:EQ}{CX:wU}{j k:Nat}{f:AC}{fd:Go}{ps:!Str}{sp:Sp}(F:bP P w K mg base CX j f fd ps sp)(h:j<=k) :
  bP P w K mg base CX k f fd ps sp:=#[F.len,λA outer s H args us vs Q E hr=>F.run A outer s H args us vs Q E (hr.mono h)]
theorem bP.imp{P:GE}{w:Fa}{K:Frag}{mg:Str->Option AT}{base:EQ}{CX:wU}{k:Nat}{f:AC}{fd:Go}{ps:!Str}{sp O6:Sp}(F:bP P w K mg base CX k f fd ps sp)(h:∀ vs H Q E,O6 vs H Q E->sp vs H Q E):bP P w K mg base CX k f fd ps O6 :=
 #[λvs H Q E q=>F.len vs H Q E (h _ _ _ _ q),λA outer s H args us vs Q E hr he hb hv hs=>F.run A outer s H args us vs Q E hr he hb hv (h _ _ _ _ hs)]
theorem w9.make{P:GE}{w:Fa}{K:Frag}{mg:Str->Option AT}{base:EQ}{A:Fr}{outer:!Env}{s:Da}{H:Hp}(e:w9 P w K mg base A outer s H)(C:AC)(us:!AT)(kw:!(Str×AT)) :
  w9 P w K mg base (A.under (.builtin "type.__call__" #[.ref C::us,kw])) outer s H:=#[by first | exact e.frames | (simpa [Fr.under,Code.envs,Code.isFrame,pushEnvs] using e.frames),e.mod,e.bs,e.EM,e.nq,e.JW,e.bx,e.bare]
section
variable{X:Cx}{TW:X8}{σ:St}{H:Hp}{s s':Da}
theorem Inv.OE(I:Inv X TW σ H s):w9 X.prog X.w X.K X.mg X.base X.A X.stack s H :=
 #[I.ok.frames,I.ok.mod,I.bs,Ws I.ok.EM I.sz,I.stack,I.xX,I.bx,I.bare]
theorem Inv.after{Q:VK}{u:AT}(I:Inv X TW σ H s)(h:CE X.stack X.prog X.w H s Q u s'):EP X TW σ Q u s':=by
 let(v,H',os,bare,un,bx,r,q):=h;let(hh,g,d,t,os'):=s';obtain rfl:os'=s.os:=os;exact#[v,H',I.call (h':=hh) (g':=g) (d':=d) (t':=t) (ch:=[]) un bx bare (λb z=>absurd z (by simp)),r,q]
end
def yx(sp:Sp)(p8:!V)(E:XK)(t:TA):TE:=λσ H Q=>t σ H λvs H1=>sp (vs++p8) H1 Q E
def F1(C:AC)(m:Str)(sp:Sp)(p8:!V)(E:XK)(ta:TE)(t:TA):TE:=λσ H Q=>ta σ H λx H1=>∃ a dx fs,x=.ref a/\H1 a=some (.ins C dx fs)/\fs.lookup m=none /\
 t σ H1 λvs H2=>sp (x::(vs++p8)) H2 Q E
def LG(C:AC)(sp:Sp)(p8:!V)(E:XK)(t:TA):TE:=λσ H Q=>t σ H λvs H1=>∀ x dx,H1 x=none->H1 dx=none->dx≠x ->
 sp (.ref x::(vs++p8)) (upd (upd H1 dx (.own x)) x (.ins C dx [])) (λv H2=>v=.bT/\Q (.ref x) H2) E
def Binds(K:Frag)(fd:Go)(ps:!Str)(ds:!AT):Prop :=
 ∀ (s:Da) (us:!AT),K.In s.heap->(us++ds).length=ps.length->BindsTo s fd #[us,[]] (ps.zip (us++ds))
theorem Binds.all{K:Frag}{fd:Go}{ps:!Str}(h:∀ us:!AT,us.length=ps.length->bindArgs fd #[us,[]]=pure (ps.zip us)):Binds K fd ps []:=λs us _ hl=>by
 rw[Wf] at hl ⊢;exact .of_eq (h us hl)
def Passes(CX:wU)(X:Cx)(E:XK):Prop:=∀ (TW:X8) (σ:St) (H:Hp) (s:Da) (e:AT) (s':Da),Inv X TW σ H s->CX X.stack H s E e s'->X.xe e s'
section
variable{X:Cx}{CX:wU}{k:Nat}{f C:AC}{fd:Go}{ps:!Str}{sp:Sp}{p8:!V}{ds:!AT}{E:XK}{x m:Str}{p pos apos:Pos}{e o:Cl}{es:!Cl}{ta:TE}{t:TA}
theorem rX{TW:X8}{σ:St}{H:Hp}{s:Da}{Q:VK}{us:!AT}{vs:!V}(F:bP X.prog X.w X.K X.mg X.base CX k f fd ps sp)(hr:bO k X.A)(hb:Binds X.K fd ps ds)(hd:Vals p8 ds)(hx:Passes CX X E)(I:Inv X TW σ H s)(r:Vals vs us)(h:sp (vs++p8) H Q E):Db (model X.prog X.w) X.A (call (.ref f) us) (EP X TW σ Q) X.xe s:=by
 have r2:Vals (vs++p8) (us++ds):=r.append hd;have hl:(us++ds).length=ps.length:=by rw[<- r2.length];exact F.len _ _ _ _ h
 show wpAny_call (codeAny_mono (F.run X.A X.stack s H #[us,[]] (us++ds) (vs++p8) Q E hr I.OE (hb s us I.vC hl) r2 h) λr s' hq=>?_);cases r with
 | error e=>exact hx TW σ H s e s' I hq
 | ok fl =>
  cases fl with
  | ret u=>exact I.after hq
  | next=>exact False.elim hq
  | brk=>exact False.elim hq
  | cont=>exact False.elim hq
theorem jw(F:bP X.prog X.w X.K X.mg X.base CX k f fd ps sp)(hr:bO k X.A)(hg:Gl X x)(hm:X.mg x=some (.ref f))(hk:keepIn X.K (.ref f)=true)(hb:Binds X.K fd ps ds)(hd:Vals p8 ds)(hx:Passes CX X E)(ha:PA X (e::es) t)(ig: ~~~(Yc x))(he:(Ya X.env e es)⁻¹)(fq:(Yb X.env pos es)⁻¹) :
  PE X (.Call (.Name x p) (e::es) [] pos) (yx sp p8 E t):=by
 intro TW s σ H Q I h;show wpAny_Call_Name_kw (t6 I hg hm ?_ ig);show XR (h₀:=X.base) I.ok.mod.K8 hk (b3 (ha pos TW s σ H _ I h) λus s1 zz=>el2 zz λvs H1 I1 r q=>#[I1.vC,?_]) he fq;exact rX F hr hb hd hx I1 r q
theorem yl{pl:Sem Bool}(he:PE X o ta)(c:sZ X.K C)(hm:Meth X.K C m f)(F:bP X.prog X.w X.K X.mg X.base CX k f fd ps sp)(hr:bO k X.A)(hb:Binds X.K fd ps ds)(hd:Vals p8 ds)(hx:Passes CX X E)(ha:PA X (e::es) t)(gn:(Ya X.env e es)⁻¹)(fq:(Yb X.env pos es)⁻¹)(ht:(eval (.Call (.Attribute o m apos) (e::es) [] pos) X.env=(do
   let ov <- eval o X.env
   standAt apos.atName
   let (f,first) <- holding [ov] (getMethod ov m pl)
   callWith pos f first (IR pos (GT (e::es) X.env)) (P3 pos (Re [] X.env))))⁻¹) :
  PE X (.Call (.Attribute o m apos) (e::es) [] pos) (F1 C m sp p8 E ta t):=by
 intro TW s σ H Q I h;show PySem.W.methodCall_KW (pl:=pl) (b3 (he TW s σ H _ I h) λu s1 #[x,H1,I1,rx,a,dx,fs,ex,ea,l,q]=>?_) ht;subst ex;obtain rfl:u=AT.ref a:=rx;show oZ I1 ea c hm l ?_;show XR (first:=[.ref a]) (h₀:=X.base) I.ok.mod.K8 hm.kp (b3 (ha pos TW s1 σ H1 _ I1 q) λus s2 zz=>el2 zz λvs H2 I2 r q2=>#[I2.vC,?_]) gn fq;exact rX (us:=.ref a::us) (vs:=.ref a::vs) F hr hb hd hx I2 (.cons U r) q2
theorem Bm{pl:Sem Bool}(he:PE X o ta)(c:sZ X.K C)(hm:Meth X.K C m f)(F:bP X.prog X.w X.K X.mg X.base CX k f fd ps sp)(hr:bO k X.A)(hb:Binds X.K fd ps ds)(hd:Vals p8 ds)(hx:Passes CX X E)(ht:(eval (.Call (.Attribute o m apos) [] [] pos) X.env=(do
   let ov <- eval o X.env
   standAt apos.atName
   let (f,first) <- holding [ov] (getMethod ov m pl)
   callWith pos f first (IR pos (GT [] X.env)) (P3 pos (Re [] X.env))))⁻¹) :
  PE X (.Call (.Attribute o m apos) [] [] pos) (F1 C m sp p8 E ta De):=by
 intro TW s σ H Q I h;show PySem.W.methodCall_KW (pl:=pl) (b3 (he TW s σ H _ I h) λu s1 #[x,H1,I1,rx,a,dx,fs,ex,ea,l,q]=>?_) ht;subst ex;obtain rfl:u=AT.ref a:=rx;show oZ I1 ea c hm l ?_;exact PySem.W.callWith_K0 (first:=[.ref a]) I1.vC hm.kp (rX (us:=[.ref a]) (vs:=[.ref a]) F hr hb hd hx I1 (.cons U .nil) q)
structure Mk(K:Frag)(C f:AC):Prop where
 makes:PySem.W.makesIn K C=true
 init:findIn K (.ref C) "__init__"=some (some (.ref f))
 fn:PySem.W.isFn K (.ref f)=true
 kp:keepIn K (.ref C)=true
theorem A0{TW:X8}{σ:St}{H:Hp}{s:Da}{Q:VK}{us:!AT}{vs:!V}(M:Mk X.K C f)(F:bP X.prog X.w X.K X.mg X.base CX k f fd ps sp)(hr:bO (k+1) X.A)(hb:Binds X.K fd ps ds)(hd:Vals p8 ds)(hx:Passes CX X E)(I:Inv X TW σ H s)(r:Vals vs us)(h:∀ x dx,H x=none->H dx=none->dx≠x->sp (.ref x::(vs++p8)) (upd (upd H dx (.own x)) x (.ins C dx [])) (λv H2=>v=.bT/\Q (.ref x) H2) E) :
  Db (model X.prog X.w) X.A (call (.ref C) us) (EP X TW σ Q) X.xe s:=by
 have hq:=h (↑s+1) ↑s (I.bx.fresh (XZ _)) (I.bx.fresh (We _)) (Ww (Nat.lt_succ_self _));have I2:=Inv.made (C:=C) I;have r2:Vals (V.ref (↑s+1)::(vs++p8)) (AT.ref (↑s+1)::(us++ds)):=.cons U (r.append hd);have hl:(AT.ref (↑s+1)::us++ds).length=ps.length:=by
  have e:=r2.length;rw[F.len _ _ _ _ hq] at e;exact e.symm
 show wpAny_call (BO (f:=f) I.vC M.makes M.init (beq_iff_eq.mp M.fn) (codeAny_mono (F.run _ X.stack _ _ #[AT.ref (↑s+1)::us,[]] (AT.ref (↑s+1)::(us++ds)) _ _ E (hr.make C us [])
  (I2.OE.make C us []) (hb _ (AT.ref (↑s+1)::us) I2.vC hl) r2 hq) λr s' hq'=>?_))
 cases r with
 | error e=>exact hx TW σ _ _ e s' I2 hq'
 | ok fl =>
  cases fl with
  | ret u =>
   let(v,H',I3,rv,ev,q3):=I2.after hq';subst ev;exact#[rv,#[V.ref (↑s+1),H',I3,U,q3]]
  | next=>exact False.elim hq'
  | brk=>exact False.elim hq'
  | cont=>exact False.elim hq'
theorem rR(M:Mk X.K C f)(F:bP X.prog X.w X.K X.mg X.base CX k f fd ps sp)(hr:bO (k+1) X.A)(hg:Gl X x)(hm:X.mg x=some (.ref C))(hb:Binds X.K fd ps ds)(hd:Vals p8 ds)(hx:Passes CX X E)(ha:PA X (e::es) t)(ig: ~~~(Yc x))(he:(Ya X.env e es)⁻¹)(fq:(Yb X.env pos es)⁻¹) :
  PE X (.Call (.Name x p) (e::es) [] pos) (LG C sp p8 E t):=by
 intro TW s σ H Q I h;show wpAny_Call_Name_kw (t6 I hg hm ?_ ig);show XR (h₀:=X.base) I.ok.mod.K8 M.kp (b3 (ha pos TW s σ H _ I h) λus s1 zz=>el2 zz λvs H1 I1 r q=>#[I1.vC,?_]) he fq;exact A0 M F hr hb hd hx I1 r q
end
section
variable{X:Cx}{CX:wU}{k:Nat}{f C:AC}{fd:Go}{ps ks:!Str}{sp:Sp}{E:XK}{x m:Str}{p pos apos Vt:Pos}{e o:Cl}{es:!Cl}{V4:!Rs}{te ta:TE}{t tk:TA}{nm:Option Str}
variable{g:!AT->!AT->!AT}{gV:!V->!V->!V}
end
structure av(N P:!Str)(sc:Scope):Prop where
 kind:sc.kind=.function
 co:sc.isCoroutine=false
 gen:sc.isGenerator=false
 nd:N.Nodup
 pre:N.take P.length=P
 par:∀ x∈P,sc.names.lookup x=some .local\/sc.names.lookup x=some .cell
 HI:∀ y∈sc.names,y.2≠.free
theorem ql{kindOf:Str->Option IN}{x:Str}:∀ {binds:!(Str×AT)} {m:Str->Option AT},(∀ v,(x,v)∉binds)->bindL kindOf binds m x=m x
 | [],_,_=>rfl
 | (n,v)::r,m,h=>by
  unfold bindL;rw[ql λw hw=>h w (Wd _ hw)];split
  .have:x≠n:=by rintro rfl;exact h v Wg
   simp[this]
  .rfl
theorem rh{kindOf:Str->Option IN}{x:Str}:∀ {binds:!(Str×AT)} {m:Str->Option AT},(∀ v,(x,v)∉binds)->bindC kindOf binds m x=m x
 | [],_,_=>rfl
 | (n,v)::r,m,h=>by
  unfold bindC;rw[rh λw hw=>h w (Wd _ hw)];split
  .rfl
  .have:x≠n:=by rintro rfl;exact h v Wg
   simp[this]
theorem qC{kindOf:Str->Option IN}{x:Str}{v:AT}:∀ {P:!Str} {vs:!AT} {i:Nat} {m:Str->Option AT},P.Nodup->P[i]?=some x->vs[i]?=some v->kindOf x=some .local ->
  bindL kindOf (P.zip vs) m x=some v
 | [],_,_,_,_,h,_,_=>by simp at h
 | _::_,[],_,_,_,_,h,_=>by simp at h
 | p::P,w::vs,0,m,nd,h1,h2,hk=>by
  simp at h1 h2;subst h1;subst h2;change bindL kindOf ((p,w)::P.zip vs) m p=_;unfold bindL;rw[ql λv hv=>(W3.mp nd).1 (WO hv).1,if_pos hk];simp
 | p::P,w::vs,i+1,m,nd,h1,h2,hk=>by
  change bindL kindOf ((p,w)::P.zip vs) m x=_;unfold bindL;exact qC (i:=i) (List.nodup_cons.mp nd).2 (by simpa using h1) (by simpa using h2) hk
theorem qE{kindOf:Str->Option IN}{x:Str}{v:AT}:∀ {P:!Str} {vs:!AT} {i:Nat} {m:Str->Option AT},P.Nodup->P[i]?=some x->vs[i]?=some v->kindOf x≠some .local ->
  bindC kindOf (P.zip vs) m x=some v
 | [],_,_,_,_,h,_,_=>by simp at h
 | _::_,[],_,_,_,_,h,_=>by simp at h
 | p::P,w::vs,0,m,nd,h1,h2,hk=>by
  simp at h1 h2;subst h1;subst h2;change bindC kindOf ((p,w)::P.zip vs) m p=_;unfold bindC;rw[rh λv hv=>(W3.mp nd).1 (WO hv).1,if_neg hk];simp
 | p::P,w::vs,i+1,m,nd,h1,h2,hk=>by
  change bindC kindOf ((p,w)::P.zip vs) m x=_;unfold bindC;exact qE (i:=i) (List.nodup_cons.mp nd).2 (by simpa using h1) (by simpa using h2) hk
def start(N:!Str)(vs:!V):St:=vs.map some++List.replicate (N.length - vs.length) none
def iT(CX:wU)(P:GE)(w:Fa)(K:Frag)(mg:Str->Option AT)(base:EQ)(N:!Str)(qual:Str)(scope:Scope)(f:AC)(cd:AT)(A:Fr)(outer:!Env)(s:Da)(H:Hp)(E:XK):Cx where
 prog:=P
 w:=w
 K:=K
 mg:=mg
 base:=base
 A:=A.deeper (envOfC qual scope ↑s f cd)
 N:=N
 s₀:=s
 H₀:=H
 env:=envOfC qual scope ↑s f cd
 outer:=outer
 stack:=envOfC qual scope ↑s f cd::outer
 ex:=[]
 calm:=true
 fn:=λ_=>true
 pn:=[]
 xe:=λe s'=>Db (model P w) (A.deeper (envOfC qual scope ↑s f cd)) (leaving (envOfC qual scope ↑s f cd) e) (λ_ Fy=>CX outer H s E e Fy) (λe' Fy=>CX outer H s E e' Fy) s'
theorem uV{sc:Scope}{n:Nat}{x:Str}(h:sc.names.lookup x=some .cell):∃ c,(cellsFrom n sc.names []).lookup x=some c:=by
 have q:=PySem.W.cellsFrom_some sc.names n [] (.inl h);exact Xg.mp q
theorem zw{CX:wU}{P:GE}{w:Fa}{K:Frag}{mg:Str->Option AT}{base:EQ}{N ps:!Str}{qual:Str}{scope:Scope}{f:AC}{cd:AT}{A:Fr}{outer:!Env}{s s1:Da}{H:Hp}{E:XK}{us:!AT}{vs:!V}(S:av N ps scope)(hd:A.handled=none)(e0:w9 P w K mg base A outer s H)(hl:vs.length=ps.length)(r:Vals vs us)(x:InCallC s ↑s (bindL (envOfC qual scope ↑s f cd).kindOf (ps.zip us) λ_=>none) (cellsFrom (↑s+1) scope.names []) (bindC (envOfC qual scope ↑s f cd).kindOf (ps.zip us) λ_=>none) s1) :
  Inv (iT CX P w K mg base N qual scope f cd A outer s H E) [] (start N vs) H s1:=by
 have fq:ps.length<=N.length:=by have:=congrArg List.length S.pre;rw[Xl] at this;cbv
 let(h1,tk,rfl,hk):=x.done;have noA:∀ b:AC,b∉(iT CX P w K mg base N qual scope f cd A outer s H E).ex:=λb z=>absurd (show b∈([]:!AC) from z) (by simp);show#[#[e0.mod,S.kind,U,U,We _,λy z c h1 h2=>?_,λy hy=>?_,λy c _ h=>?_,λ_=>hd,Fr.frames_deeper e0.frames,.inr #[U,U],λb z=>absurd z (noA b),e0.bs,e0.EM,λb _ _=>noA b,λb z=>absurd z (noA b),e0.nq,e0.JW],
  rfl,e0.bare,Un.kept hk,#[_,x.toInCall.ns,λi y v h1 h2 h3=>?_],λy c h=>#[_,x.cell y c h],e0.bx.fresh (Nat.le_refl _),λy c h=>?_,λp hp=>absurd (show p∈([]:X8) from hp) (by simp),e0.bx.kept hk,?_]
 .exact name_of_addr x.apart (W2 h1) (W2 h2)
 .have hy:scope.names.lookup y=some .cell\/scope.names.lookup y=some .free:=hy;rcases hy with hy | hy
  .exact uV hy
  .exact absurd U (S.HI _ (W2 hy))
 .exact X4 (x.above y c (W2 h))
 .have hi:i < vs.length:=by
   unfold start at h2;by_cases hi:i < vs.length
   .exact hi
   .rw[List.getElem?_append_right (by simpa using hi)] at h2;rw[List.getElem?_replicate] at h2;split at h2<;>cases h2
  have ha:vs[i]?=some v:=by
   unfold start at h2;rw[List.getElem?_append_left (by simpa using hi),List.getElem?_map] at h2;cases e:vs[i]? with
   | none=>rw[e] at h2;cases h2
   | some a=>rw[e] at h2;cases h2;rfl
  let(u,hu,rv):=r.get ha;have hp:ps[i]?=some y:=by
   rw[<- S.pre,List.getElem?_take_of_lt (by cbv)];exact h1
  have ndP:ps.Nodup:=by rw[<- S.pre];exact S.nd.sublist (WT _ _)
  show#[u,rv,?_];rcases S.par y (WJ hp) with k | k
  .exact .inl #[k,qC ndP hp hu k]
  .let(c,e):=uV (n:=↑s+1) k;show .inr #[.inl k,c,e,?_];have q:=x.cell y c e;rw[qE ndP hp hu (by change scope.names.lookup y≠_;rw[k];decide)] at q;exact q
 .exact e0.bx.fresh (X4 (x.above y c (W2 h)))
 .unfold start;change _=N.length;rw[Wa,V8,List.length_replicate];cbv
theorem MD{CX:wU}{P:GE}{w:Fa}{K:Frag}{mg:Str->Option AT}{base:EQ}{k:Nat}{f:AC}{name qual:Str}{params:Arguments}{body:!Ev}{scope:Scope}{dV kV doc pm bh ct oc:AT}{an od:Option AC}{Dn:Array (Option AT)}{N ps:!Str}{sp:Sp}(lk:K.lookup f=some #[oc,od,.func (fnOf name qual params body scope dV kV doc pm an bh ct),Dn])(sW:codeIn K bh qual=true)(S:av N ps scope)(len:∀ vs H Q E,sp vs H Q E->vs.length=ps.length)(CT:∀ (A:Fr) (outer:!Env) (s:Da) (H:Hp) (vs:!V) (Q:VK) (E:XK),bO k (A.deeper (envOfC qual scope ↑s f bh))->sp vs H Q E ->
   ∃ t,nK (iT CX P w K mg base N qual scope f bh A outer s H E) body t/\t { nx:=λ_ H'=>Q .bT H',rt:=Q } (start N vs) H) :
  bP P w K mg base CX (k+1) f (fnOf name qual params body scope dV kV doc pm an bh ct) ps sp:=by
 show#[len,λA outer s H args us vs Q E hr e0 hb r Gz=>?_];have hl:=len _ _ _ _ Gz;have KX:K.In s.heap:=e0.mod.K8.keeps λb o e=>(e0.bs b o e).1;have lim:s.heap.NoLimit:=e0.mod.nolimit.keeps λb o e=>(e0.bs b o e).1;have hkind:∀ y∈ps.zip us,scope.names.lookup y.1=some .local\/(scope.names.lookup y.1=some .cell/\((cellsFrom (↑s+1) scope.names []).lookup y.1).isSome=true):=λz2r hy=>by
  let(n,v):=z2r;rcases S.par n (WO hy).1 with q | q
  .exact .inl q
  .exact .inr #[q,PySem.W.cellsFrom_some _ _ _ (.inl q)]
 show codeAny_call_function hr.depth (KX _ _ lk) U S.co S.gen U (PySem.W.codeRec_of KX sW) (hb _ _ _ _ ?_);show wpAny_newFunctionEnv_cells S.kind hkind λenv he s1 x=>?_;subst he;show#[lim.keeps x.toInCall.keep,codeAny_func ?_];let(t,ht,hq):=CT A outer s H vs Q E (hr.deeper _) Gz;have I:Inv (iT CX P w K mg base N qual scope f bh A outer s H E) [] (start N vs) H s1:=zw S hr.hd e0 hl r x;show Os (ht [] s1 (start N vs) H _ I hq) (λfl s' hs=>?_) λe s' hs=>hs;have fin:∀ {σ':St} {H':Hp} {v:V} {u:AT},Inv (iT CX P w K mg base N qual scope f bh A outer s H E) [] σ' H' s'->RelV v u->Q v H'->CE outer P w H s Q u s' :=
  λ{σ' H' v u} J rv q=>#[v,H',J.os,J.bare,J.base,J.bx,rv,q]
 cases fl with
 | ret u =>
  let(v,σ',H',J,rv,q):=hs;exact fin J rv q
 | next =>
  let(σ',H',J,q):=hs;exact fin (v:=V.bT) (u:=AT.none) J U q
 | brk =>
  let(_,_,_,q):=hs;exact False.elim q
 | cont =>
  let(_,_,_,q):=hs;exact False.elim q
section
variable{X:Cx}{x:Str}{p pos:Pos}{e:Cl}{es:!Cl}{t:TA}{id T:String}{r:!V->Hp->VK->Prop}
def Hb(r:!V->Hp->VK->Prop)(t:TA):TE:=λσ H Q=>t σ H λvs H1=>r vs H1 Q
theorem k7(hc:fo X (.builtin id) r)(hg:Gl X x)(hm:X.mg x=none)(hv:bootBuiltins x=some (.builtin id))(ha:PA X (e::es) t)(hn: ~~~(x≠"__name__"))(ig: ~~~(Yc x))(he:(Ya X.env e es)⁻¹)(fq:(Yb X.env pos es)⁻¹):PE X (.Call (.Name x p) (e::es) [] pos) (Hb r t):=by
 intro TW s σ H Q I h;show wpAny_Call_Name_kw (ib I hg hm hv ?_ hn ig);exact PyProof.Rows.callWith_builtin1 (b3 (ha pos TW s σ H _ I h) λus s1 zz=>el2 zz λvs H1 I1 r1 q1=>hc TW s1 σ H1 vs us Q I1 r1 q1) he fq
theorem qR(hc:fo X (.type T) r)(hg:Gl X x)(hm:X.mg x=none)(hv:bootBuiltins x=some (.type T))(ha:PA X (e::es) t)(hn: ~~~(x≠"__name__"))(ig: ~~~(Yc x))(he:(Ya X.env e es)⁻¹)(fq:(Yb X.env pos es)⁻¹):PE X (.Call (.Name x p) (e::es) [] pos) (Hb r t):=by
 intro TW s σ H Q I h;show wpAny_Call_Name_kw (ib I hg hm hv ?_ hn ig);exact PyProof.Rows.callWith_type1 (b3 (ha pos TW s σ H _ I h) λus s1 zz=>el2 zz λvs H1 I1 r1 q1=>hc TW s1 σ H1 vs us Q I1 r1 q1) he fq
end
end L2
namespace HT
open PySem PyProof.Rows
section
open PySem.SeqAt
open PySem.AutoSeq1 (wpAny_loadPart')
open PySem.MeetsSeq PySem.MeetsSeq2 PySem.MeetsSeq3
end
section
variable{prog:GE}{w:Fa}{A:Fr}{E:X7}{s:Da}
def b8(n d:Nat):Option Int->Nat
 | none=>d
 | some v=>if v < 0 then (v+(n:Int)).toNat else min v.toNat n
theorem JL(n d:Nat)(hd:d<=n)(o:Option Int):b8 n d o<=n:=by
 cases o with
 | none=>exact hd
 | some v =>
  change (if v < 0 then (v+(n:Int)).toNat else min v.toNat n)<=n;by_cases hv:v < 0
  .rw[if_pos hv];cbv
  .rw[if_neg hv];exact Nat.min_le_right _ _
theorem xm(v:Int)(n d:Nat):(if v < 0 then max (v+(n:Int)) 0 else min v (n:Int))=((b8 n d (some v):Nat):Int):=by
 change (if v < 0 then max (v+(n:Int)) 0 else min v (n:Int))=(((if v < 0 then (v+(n:Int)).toNat else min v.toNat n):Nat):Int);by_cases hv:v < 0
 .simp only[if_pos hv];cbv
 .simp only[if_neg hv];cbv
theorem xj(lo hi:Option Int)(n:Nat):Fk.Slice.sliceAdjust lo hi 1 (n:Int)=(((b8 n 0 lo:Nat):Int),((b8 n n hi:Nat):Int)):=by
 have h1:¬ ((1:Int) < 0):=by cbv
 unfold Fk.Slice.sliceAdjust;simp only[h1,if_false];show Prod.ext ?_ ?_
 .cases lo with
  | none=>rfl
  | some v=>exact xm v n 0
 .cases hi with
  | none=>rfl
  | some v=>exact xm v n n
theorem vN(i j:Nat):Fk.Slice.slicePlaces (i:Int) (j:Int) 1=j - i:=by
 unfold Fk.Slice.slicePlaces;have h1:(1:Int) > 0:=by cbv
 simp only[h1,if_true,Int.ediv_one];split<;>cbv
theorem nT{v:AT}{o:Option Int}{Q:Option Int->Da->Prop}(p:IsPart v o)(h:Q o s):Db (model prog w) A (Fk.Slice.slicePartIndex v) Q E s:=by
 cases p with
 | none=>exact slicePart_none h
 | int i t=>exact slicePart_int h
theorem gT{sl:AC}{vl vu:AT}{lo hi:Option Int}{n:Nat}{Q:Int×Int×Nat->Da->Prop}(hs:s.heap.IsSliceOf sl vl vu .none)(pl:IsPart vl lo)(pu:IsPart vu hi)(h:Q (((b8 n 0 lo:Nat):Int),1,b8 n n hi - b8 n 0 lo) s):Db (model prog w) A (Fk.Slice.sliceApplied (.ref sl) (pure (n:Int))) Q E s:=by
 let(os,uc,hcs,hds):=id hs;unfold Fk.Slice.sliceApplied Fk.Slice.sliceFields;show Ch (Ch (KB uc hds (x:=vl) U (Ch (KB uc hds (x:=vu) U (Ch (KB uc hds (x:=.none) U (FS ?_)))))));show Ch (slicePart_none ?_);change Db _ _ (if ((1:Int) == 0)=true then _ else _) _ _ s;rw[if_neg ()];show Ch (nT pl (Ch (nT pu (Ch (FS ?_)))));change Db _ _ (match Fk.Slice.sliceAdjust lo hi 1 (n:Int) with | (lo,hi)=>pure (lo,(1:Int),Fk.Slice.slicePlaces lo hi 1)) _ _ s;rw[xj lo hi n];change Db _ _ (pure (((b8 n 0 lo:Nat):Int),(1:Int),Fk.Slice.slicePlaces ((b8 n 0 lo:Nat):Int) ((b8 n n hi:Nat):Int) 1)) _ _ s;rw[vN];exact FS h
theorem CJ(xs:Array AT)(i k:Nat):((List.range k).filterMap λ(m:Nat)=>xs[((i:Int)+(m:Int) * 1).toNat]?).toArray=((xs.toList.drop i).take k).toArray:=by
 have e:(λ(m:Nat)=>xs[((i:Int)+(m:Int) * 1).toNat]?)=λm=>xs[i+m]?:=by
  funext m
  have:((i:Int)+(m:Int) * 1).toNat=i+m:=by cbv
  rw[this]
 rw[e];have:=pick_run xs i k;rw[List.filterMap_map] at this;have e2:((λx=>xs[x]?)∘λx=>i+x)=λm=>xs[i+m]?:=rfl;rw[e2] at this;rw[this]
theorem lq{t sl:AC}{items:Array AT}{vl vu:AT}{lo hi:Option Int}{Q:X7}(ht:IsTup s.heap t items)(hs:s.heap.IsSliceOf sl vl vu .none)(pl:IsPart vl lo)(pu:IsPart vu hi)(hw:¬ (b8 items.size 0 lo=0/\b8 items.size items.size hi=items.size))(h:Q (.ref ↑s) { s with heap:=s.heap.push { cls:=.type "tuple",data:=.seq ((items.toList.drop (b8 items.size 0 lo)).take (b8 items.size items.size hi - b8 items.size 0 lo)).toArray } })(hsz:items.size<=FB):Db (model prog w) A (getItem (.ref t) (.ref sl)) Q E s:=by
 have htake:sizeOk (.seq ((items.toList.drop (b8 items.size 0 lo)).take (b8 items.size items.size hi - b8 items.size 0 lo)).toArray):=by
  change ((items.toList.drop (b8 items.size 0 lo)).take (b8 items.size items.size hi - b8 items.size 0 lo)).toArray.size<=FB;rw[Wx,Xl,Xm,Array.length_toList];cbv
 have hj:b8 items.size items.size hi<=items.size:=JL _ _ (We _) hi;let(os,uc,hcs,hds):=id hs;have hTs:s.TypeIs (.ref sl) "slice":=#[os,uc,hcs];unfold getItem
 try with_reducible show NE ?_
 first | show Ch (FS ?_) | skip
 show Ch (wpAny_sequenceKey ht.typeIs () ?_);show Ch (wpAny_callSpecial?_slot (name:=Str.ofString "__getitem__") ht.typeIs PyProof.Rows.slot_tuple_getitem
  (SL PyProof.Rows.slot_tuple_getitem ht.typeIs entry_tuple_getitem ?_ (args_tuple_getitem _ _)))
 change Db _ _ (Fk.Tuple.tupleItemsOf (.ref t) >>= _) _ _ s;show Ch (tupleItemsOf_ ht ?_);show Ch (wpAny_typeOf hTs ?_);rw[if_pos ()];show Ch (gT hs pl pu ?_);have hno:¬ ((((b8 items.size 0 lo:Nat):Int) == 0&&(1:Int) == 1&&(b8 items.size items.size hi - b8 items.size 0 lo) == items.size)=true):=by
  intro q;rw[WU,WU] at q;have q1:((b8 items.size 0 lo:Nat):Int)=0:=eq_of_beq q.1.1;have q2:b8 items.size items.size hi - b8 items.size 0 lo=items.size:=eq_of_beq q.2;exact hw #[by cbv,by cbv]
 change Db _ _ (if (((b8 items.size 0 lo:Nat):Int) == 0&&(1:Int) == 1&&(b8 items.size items.size hi - b8 items.size 0 lo) == items.size)=true then _ else _) _ _ s;rw[if_neg hno,CJ]
 first
  | exact Ch (m:=Fk.Tuple.tupleExact _) (ST (FS #[_,U,FS h]) htake)
  | exact Ch (m:=Fk.Tuple.tupleExact _) (ST (Ch (FS (FS #[_,U,FS h]))) htake)
  | exact Ch (Ch (m:=Fk.Tuple.tupleExact _) (ST (FS (FS #[_,U,FS h])) htake))
  | exact Ch (Ch (m:=Fk.Tuple.tupleExact _) (ST (FS #[_,U,FS h]) htake))
end
end HT
namespace L2
open PySem PySem.Spec PyProof.Rows
abbrev TO:=St->Hp->(Option Int->Hp->Prop)->Prop
def PO(X:Cx)(e:Option Cl)(t:TO):Prop :=
 ∀ (TW:X8) (s:Da) (σ:St) (H:Hp) (Q:Option Int->Hp->Prop),Inv X TW σ H s->t σ H Q ->
  Db (model X.prog X.w) X.A (evalPart e X.env) (λu s'=>∃ o H',Inv X TW σ H' s'/\IsPart u o/\Q o H') X.xe s
def Du:TO:=λ_ H Q=>Q none H
def Ai(t:TE):TO:=λσ H Q=>t σ H λx H1=>∃ i,x=.int i/\Q (some i) H1
section
variable{X:Cx}{e:Cl}{te:TE}{lo hi:Option Cl}{tl th:TO}{pos p2:Pos}
theorem DX:PO X none Du:=by
 intro TW s σ H Q I h;rw[evalPart_none];exact FS #[none,H,I,.none,h]
theorem tV(h:PE X e te):PO X (some e) (Ai te):=by
 intro TW s σ H Q I hw;rw[evalPart_some];show b3 (h TW s σ H _ I hw) λu s1 zz=>el2 zz λx H1 I1 r1 q1=>?_;let(i,rfl,q):=q1;let(t,rfl):=r1;exact#[some i,H1,I1,.int i t,q]
def OL(X:Cx)(r:V->Option Int->Option Int->Hp->VK->Prop):Prop :=
 ∀ (TW:X8) (s:Da) (σ:St) (H:Hp) (x:V) (v vl vu:AT) (lo hi:Option Int) (sl:AC) (Q:VK),Inv X TW σ H s->RelV x v->s.heap.IsSliceOf sl vl vu .none->IsPart vl lo->IsPart vu hi->r x lo hi H Q ->
  ∃ T id,typeLookup (.type T) "__getitem__"=pure (some (.builtin id))/\s.TypeIs v T/\Db (model X.prog X.w) X.A (getItem v (.ref sl)) (EP X TW σ Q) X.xe s
def UX(r:V->Option Int->Option Int->Hp->VK->Prop)(te:TE)(tl th:TO):TE:=λσ H Q=>te σ H λx H1=>tl σ H1 λl H2=>th σ H2 λu H3=>r x l u H3 Q
theorem lr{r:V->Option Int->Option Int->Hp->VK->Prop}(hr:OL X r)(he:PE X e te)(hl:PO X lo tl)(hu:PO X hi th):PE X (.Subscript e (.Slice lo hi none p2) pos) (UX r te tl th):=by
 intro TW s σ H Q I h;show Subscript_ (b3 (he TW s σ H _ I h) λv s1 z0q=>?_);let(x,H1,I1,r1,q1):=z0q;show wpAny_Slice (b3 (hl TW s1 σ H1 _ I1 q1) λvl s2 zz=>el2 zz λl H2 I2 pl q2=>b3 (hu TW s2 σ H2 _ I2 q2) λvu s3 z1q=>?_);let(u,H3,I3,pu,q3):=z1q;rw[evalPart_none];show FS ?_;have I4:Inv X TW σ H3 { s3 with heap:=s3.heap.push { cls:=.type "slice",data:=.fields #v[vl,vu,.none] } }:=I3.kept (t':=s3.toks) λb ob q=>V9 _ q;let(T,id,hT,ht,hg):=hr TW { s3 with heap:=s3.heap.push { cls:=.type "slice",data:=.fields #v[vl,vu,.none] } } σ H3 x v vl vu l u ↑s3 Q I4 r1 (EQ.IsSliceOf.new ..) pl pu q3;change Db (model X.prog X.w) X.A (subscriptTail e (.Slice lo hi none p2) v (.ref ↑s3)) (EP X TW σ Q) X.xe { s3 with heap:=s3.heap.push { cls:=.type "slice",data:=.fields #v[vl,vu,.none] } };exact tail_any (ops:=[.ref ↑s3,v]) ht hT hg (by with_unfolding_all rfl)
def o5(xs:!V)(lo hi:Option Int):!V:=(xs.drop (HT.b8 xs.length 0 lo)).take (HT.b8 xs.length xs.length hi - HT.b8 xs.length 0 lo)
theorem mS(xs:!V)(lo hi:Option Int):(o5 xs lo hi).length<=xs.length:=by
 unfold o5;rw[Xl,Xm];cbv
def SV(K:Frag):V->Option Int->Option Int->Hp->VK->Prop:=λx lo hi H Q=>∃ a xs,x=.ref a/\jx K H a xs /\
 ¬ (HT.b8 xs.length 0 lo=0/\HT.b8 xs.length xs.length hi=xs.length)/\∀ p,H p=none->Q (.ref p) (upd H p (.tup (o5 xs lo hi)))
theorem Ja:OL X (SV X.K):=by
 intro TW s σ H x v vl vu lo hi sl Q I rx hs pl pu h;let(a,xs,rfl,hx,hw,q):=h;cases rx;let(its,r,ht,hz):=I.tuple hx;have hlen:its.toArray.size=xs.length:=by rw[Wx];exact r.length.symm
 show#["tuple",_,PyProof.Rows.slot_tuple_getitem.lookup,ht.typeIs,?_];show HT.lq ht hs pl pu (by rw[hlen];exact hw) ?_ (by rw[hlen];exact hz);rw[hlen];show#[.ref ↑s,_,I.laid (t':=s.toks) (o:=.tup (o5 xs lo hi)) (λb ob q=>V9 _ q) (We _) ?_,U,q _ (I.bx.fresh (We _))];exact#[Ws (mS xs lo hi) hz,_,(r.drop (HT.b8 xs.length 0 lo)).take (HT.b8 xs.length xs.length hi - HT.b8 xs.length 0 lo),iQ.new _ _]
end
def Ce(n:Nat)(i:Int):Option Nat:=if 0<=i then (if i < n then some i.toNat else none) else if -(n:Int)<=i then some (i+n).toNat else none
def jF{α:Type}(xs:!α)(i:Int):Option α:=(Ce xs.length i).bind λj=>xs[j]?
theorem xV{n:Nat}{i:Int}{j:Nat}(h:Ce n i=some j):seqIndex? i n=some j/\j < n/\-(n:Int)<=i/\i < n:=by
 unfold Ce at h;by_cases h0:0<=i
 .rw[if_pos h0] at h;by_cases h1:i < n
  .rw[if_pos h1] at h;have e:i.toNat=j:=WC h;exact#[by rw[seqIndex_of h0 h1,e],by cbv,by cbv,h1]
  .rw[if_neg h1] at h;cases h
 .rw[if_neg h0] at h;by_cases h1:-(n:Int)<=i
  .rw[if_pos h1] at h;have e:(i+n).toNat=j:=WC h;exact#[by rw[seqIndex_neg (by cbv) h1,e],by cbv,h1,by cbv]
  .rw[if_neg h1] at h;cases h
theorem tJ{α:Type}{xs:!α}{i:Int}{v:α}(h:jF xs i=some v):∃ j,seqIndex? i xs.length=some j/\xs[j]?=some v/\j < xs.length/\-(xs.length:Int)<=i/\i < xs.length:=by
 unfold jF at h;cases e:Ce xs.length i with
 | none=>rw[e] at h;cases h
 | some j =>
  rw[e] at h;let(h1,h2,h3,h4):=xV e;exact#[j,h1,h,h2,h3,h4]
theorem iC{α:Type}{xs:!α}{j:Nat}{v:α}(h:xs[j]?=some v):jF xs (j:Int)=some v:=by
 have hj:j < xs.length:=(Wb.mp h).1;have e:Ce xs.length (j:Int)=some j:=by
  unfold Ce;rw[if_pos (by cbv),if_pos (by cbv)];simp
 unfold jF;rw[e];exact h
def kO(b:Cl):Prop:=∀ o i,subscripted b false o i=operate [o,i] (getItem o i)
def K4(X:Cx)(r:R2):Prop :=
 ∀ (value slice:Cl) (TW:X8) (s:Da) (σ:St) (H:Hp) (x y:V) (v u:AT) (Q:VK),Inv X TW σ H s->RelV x v->RelV y u->r x y H Q ->
  subscripted slice false v u=operate [v,u] (getItem v u)->Db (model X.prog X.w) X.A (subscriptTail value slice v u) (EP X TW σ Q) X.xe s
def Pr(X:Cx)(id:String)(r:V->!V->Hp->VK->Prop):Prop :=
 ∀ (TW:X8) (s:Da) (σ:St) (H:Hp) (x:V) (xs:!V) (v:AT) (us:!AT) (Q:VK),Inv X TW σ H s->RelV x v->Vals xs us->r x xs H Q ->
  Db (model X.prog X.w) X.A (call (.builtin id) (v::us)) (EP X TW σ Q) X.xe s
section
variable{X:Cx}{a b:Cl}{ta tb:TE}{pos:Pos}
theorem B9{r:R2}(hr:K4 X r)(ha:PE X a ta)(hb:PE X b tb)(hs:kO b):PE X (.Subscript a b pos) (iW r ta tb):=by
 intro TW s σ H Q I h;exact Subscript_ (Jy ha hb I h λv u s2 x y H2 I2 rx ry q=>hr a b TW s2 σ H2 x y v u Q I2 rx ry q (hs _ _))
def Hs(K:Frag):R2:=λx y H Q=>∃ p xs i v,x=.ref p/\y=.int i/\d8 K H p xs/\jF xs i=some v/\Q v H
def Ph(K:Frag):R2:=λx y H Q=>∃ p xs i v,x=.ref p/\y=.int i/\jx K H p xs/\jF xs i=some v/\Q v H
def Qv:R2:=λx y H Q=>∃ z i c,x=.str z/\y=.int i/\z.length<=FB/\jF z.cps.toList i=some c/\Q (.str #[#v[c]]) H
theorem xO:K4 X (Hs X.K):=by
 intro value slice TW s σ H x y v u Q I rx ry h hs;let(p,xs,i,z,rfl,rfl,hq,he,q):=h;cases rx;let(t,rfl):=ry;let(its,r,pl,hz):=I.list hq;let(j,h1,h2,h3,h4,h5):=tJ he;let(w,ew,rw'):=r.get h2;have hl:=r.length;have hn:=jX;have fin:EP X TW σ Q w s:=#[z,H,I,rw',q];by_cases h0:0<=i
 .have hj:i.toNat=j:=by
   rw[seqIndex_of h0 h5] at h1;exact WC h1
  exact item_listR pl.isList h0 (by cbv) (by rw[hj];simpa using ew) fin hs
 .have hj:(i+(its.toArray.size:Int)).toNat=j:=by
   rw[seqIndex_neg (by cbv) h4] at h1;rw[Wx,<- hl];exact WC h1
  exact subscriptTail_builtinR (x:=w) pl.isList.typeIs slot_list_getitem.lookup
   (wpAny_getItem_list_neg (Q:=λr s'=>r=w/\EP X TW σ Q r s') pl.isList (by cbv) (by rw[List.size_toArray]<;>cbv) (by cbv) (by rw[hj];simpa using ew) #[U,fin]) hs
theorem HP:K4 X (Ph X.K):=by
 intro value slice TW s σ H x y v u Q I rx ry h hs;let(p,xs,i,z,rfl,rfl,hq,he,q):=h;cases rx;let(t,rfl):=ry;let(its,r,pl,hz):=I.tuple hq;let(j,h1,h2,h3,h4,h5):=tJ he;let(w,ew,rw'):=r.get h2;have hl:=r.length;have hn:=jX;have fin:EP X TW σ Q w s:=#[z,H,I,rw',q];exact subscriptTail_builtinR (x:=w) pl.typeIs slot_tuple_getitem.lookup
  (getItem_tuple (j:=j) (Q:=λr s'=>r=w/\EP X TW σ Q r s') pl (by cbv) (by cbv) (by rw[List.size_toArray,<- hl];exact h1) (by simpa using ew) #[U,fin]) hs
theorem xi:K4 X Qv:=by
 intro value slice TW s σ H x y v u Q I rx ry h hs;let(z,i,c,rfl,rfl,hz,he,q):=h;let(t,rfl):=rx;let(t',rfl):=ry;let(j,h1,h2,h3,h4,h5):=tJ he;have hl:z.cps.toList.length=z.length:=by simp[Str.length]
 rw[hl] at h1 h4 h5;have hn:=jX;exact tail_any (typeIs_str s z t) slot_str_getitem.lookup (getItem_str (c:=c) (by
  have e1:decide (i < -(2 ^ 63:Int))=false:=decide_eq_false (by cbv);have e2:decide (i ≥ 2 ^ 63)=false:=decide_eq_false (by cbv);rw[e1,e2,Bool.or_false]) (by rw[h1];simpa using h2) #[.str #[#v[c]],H,I.tok _,#[_,U],q]) hs
theorem v5(its:!AT)(n j:Nat)(u:AT):Obj.mapSeq (·.setIfInBounds j u) { cls:=.type "list",data:=.seq its.toArray n }={ cls:=.type "list",data:=.seq (its.set j u).toArray n }:=by
 simp[Obj.mapSeq]
theorem Inv.lst{TW:X8}{σ:St}{H:Hp}{s:Da}{p:AC}{xs:!V}(I:Inv X TW σ H s)(h:H p=some (.lst xs)) :
  ∃ (its:!AT) (n:Nat),Vals xs its/\s.heap.get? p=some { cls:=.type "list",data:=.seq its.toArray n }/\xs.length<=FB:=by
 let(z,its,n,r,e):=I.bx p _ h;exact#[its,n,r,e,z]
theorem Inv.ID{TW:X8}{σ:St}{H:Hp}{s:Da}{p:AC}{xs ys:!V}{its its':!AT}{n n':Nat}{f:Obj->Obj}(I:Inv X TW σ H s)(h:H p=some (.lst xs))(ho:s.heap.get? p=some { cls:=.type "list",data:=.seq its.toArray n })(hf:f { cls:=.type "list",data:=.seq its.toArray n }={ cls:=.type "list",data:=.seq its'.toArray n' })(r:Vals ys its')(hz:ys.length<=FB)(t:Nat) :
  Inv X TW σ (upd H p (.lst ys)) { s with heap:=s.heap.update p f,toks:=t }:=by
 have e:(s.heap.update p f).get? p=some { cls:=.type "list",data:=.seq its'.toArray n' }:=by
  rw[WX f ho (by rw[hf]<;>rfl),hf]
 show I.write (x:=p) (e:=p) (by rw[h];trivial) (.inl U) (λb u hb q=>(W0 _ _ (Ne.symm hb)).trans q) #[_,e] ?_;exact#[hz,its',n',r,e]
def F8:V->V->V->Hp->(Hp->Prop)->Prop:=λo i v H Q=>∃ p xs k j,o=.ref p/\i=.int k/\H p=some (.lst xs)/\Ce xs.length k=some j/\Q (upd H p (.lst (xs.set j v)))
theorem set_list:MY X F8:=by
 intro TW s σ H o i v ov iv u Q I ro ri rv h;let(p,xs,k,j,rfl,rfl,hp,hj,q):=h;cases ro;let(t,rfl):=ri;let(its,n,r,ho,hz):=I.lst hp;let(h1,h2,h3,h4):=xV hj;have hl:=r.length;have hn:=jX;have I':Inv X TW σ (upd H p (.lst (xs.set j v))) { s with heap:=s.heap.update p (Obj.mapSeq (·.setIfInBounds j u)) } :=
  I.ID hp ho (v5 its n j u) (r.set rv j) (by rw[W4];exact hz) s.toks
 by_cases h0:0<=k
 .have hk:k.toNat=j:=by
   rw[seqIndex_of h0 h4] at h1;exact WC h1
  exact PySem.W.ki_setAt ho h0 (by cbv) (by rw[Wx,<- hl];exact h4) (by rw[hk];exact#[_,I',q])
 .have hk:(k+(its.toArray.size:Int)).toNat=j:=by
   rw[seqIndex_neg (by cbv) h3] at h1;rw[Wx,<- hl];exact WC h1
  exact PySem.W.ki_setBack ho (by cbv) (by rw[Wx,<- hl];exact h3) (by cbv) (by rw[hk];exact#[_,I',q])
theorem sx(lo hi:Option Int)(n:Nat):(sliceBounds lo hi none n).1=((HT.b8 n 0 lo:Nat):Int)/\(sliceBounds lo hi none n).2.1=((HT.b8 n n hi:Nat):Int)/\(sliceBounds lo hi none n).2.2=1:=by
 show#[?_,?_,U]
 .cases lo with
  | none=>simp[sliceBounds,HT.b8]
  | some i =>
   simp only[sliceBounds,HT.b8,Option.getD_none,show (1:Int) > 0 by decide,if_true];by_cases h:i < 0
   .simp only[h,if_true]<;>cbv
   .simp only[h,if_false]<;>cbv
 .cases hi with
  | none=>simp[sliceBounds,HT.b8]
  | some i =>
   simp only[sliceBounds,HT.b8,Option.getD_none,show (1:Int) > 0 by decide,if_true];by_cases h:i < 0
   .simp only[h,if_true]<;>cbv
   .simp only[h,if_false]<;>cbv
theorem qb(its:!AT)(lo hi:Option Int):slicePick its.toArray lo hi none=((its.drop (HT.b8 its.length 0 lo)).take (HT.b8 its.length its.length hi - HT.b8 its.length 0 lo)).toArray:=by
 let(h1,h2,h3):=sx lo hi its.toArray.size;unfold slicePick;rw[h1,h2,h3];simp only[sliceRange_one,pick_run,List.size_toArray]<;>rfl
def LM(K:Frag):V->Option Int->Option Int->Hp->VK->Prop:=λx lo hi H Q=>∃ a xs,x=.ref a/\d8 K H a xs/\∀ p,H p=none->Q (.ref p) (upd H p (.lst (o5 xs lo hi)))
theorem xq:OL X (LM X.K):=by
 intro TW s σ H x v vl vu lo hi sl Q I rx hs pl pu h;let(a,xs,rfl,hx,q):=h;cases rx;let(its,r,ht,hz):=I.list hx;have hlen:=r.length;show#["list",_,slot_list_getitem.lookup,ht.isList.typeIs,?_];show wpAny_getItem_list_slice ht.isList hs pl pu .none (by simp) ?_ (by rw[List.size_toArray]<;>cbv);rw[qb,<- hlen];show#[.ref ↑s,_,I.laid (t':=s.toks) (o:=.lst (o5 xs lo hi)) (λb ob q=>V9 _ q) (We _) ?_,U,q _ (I.bx.fresh (We _))];exact#[Ws (mS xs lo hi) hz,_,0,(r.drop (HT.b8 xs.length 0 lo)).take (HT.b8 xs.length xs.length hi - HT.b8 xs.length 0 lo),Wl _ U]
def jK:V->Bool
 | .bT=>true
 | .bl _=>true
 | .int _=>true
 | .str _=>true
 | _=>false
def EE:V->V->Bool
 | .bT,.bT=>true
 | .bl a,.bl b=>a == b
 | .bl a,.int b=>(if a then 1 else 0) == b
 | .int a,.bl b=>a == (if b then 1 else 0)
 | .int a,.int b=>a == b
 | .str a,.str b=>a == b
 | _,_=>false
theorem Ib{A:Fr}{s:Da}{y x:V}{u v:AT}(ry:RelV y u)(rx:RelV x v)(fy:jK y=true)(fx:jK x=true):SeqAt.EqAt A s u v (EE y x):=by
 cases y with
 | bT =>
  cases ry;cases x with
  | bT=>cases rx;exact SeqAt.EqAt.same _
  | bl b=>cases rx;exact SeqAt.EqAt.none_bool b
  | int b=>let(t,rfl):=rx;exact SeqAt.EqAt.none_int b t
  | str b=>let(t,rfl):=rx;exact SeqAt.EqAt.none_str b t
  | _=>exact absurd (show false=true from fx) Wm
 | bl a =>
  cases ry;cases x with
  | bT=>cases rx;exact SeqAt.EqAt.bool_none a
  | bl b=>cases rx;exact SeqAt.EqAt.bool_bool a b
  | int b=>let(t,rfl):=rx;exact SeqAt.EqAt.bool_int a b t
  | str b=>let(t,rfl):=rx;exact SeqAt.EqAt.bool_str a b t
  | _=>exact absurd (show false=true from fx) Wm
 | int a =>
  let(t',rfl):=ry;cases x with
  | bT=>cases rx;exact SeqAt.EqAt.int_none a t'
  | bl b=>cases rx;exact SeqAt.EqAt.int_bool a t' b
  | int b=>let(t,rfl):=rx;exact SeqAt.EqAt.int_int a t' b t
  | str b=>let(t,rfl):=rx;exact SeqAt.EqAt.int_str a t' b t
  | _=>exact absurd (show false=true from fx) Wm
 | str a =>
  let(t',rfl):=ry;cases x with
  | bT=>cases rx;exact SeqAt.EqAt.str_none a t'
  | bl b=>cases rx;exact SeqAt.EqAt.str_bool a t' b
  | int b=>let(t,rfl):=rx;exact SeqAt.EqAt.str_int a t' b t
  | str b=>let(t,rfl):=rx;exact SeqAt.EqAt.str_str a t' b t
  | _=>exact absurd (show false=true from fx) Wm
 | _=>exact absurd (show false=true from fy) Wm
def wN(x:V)(u:AT):Bool:=match u with
 | .none=>EE .bT x
 | .bool b=>EE (.bl b) x
 | .int i _=>EE (.int i) x
 | .str z _=>EE (.str z) x
 | _=>false
theorem BN{x y:V}{u:AT}(r:RelV y u)(f:jK y=true):wN x u=EE y x:=by
 cases y with
 | bT=>cases r;rfl
 | bl b=>cases r;rfl
 | int i=>let(t,rfl):=r;rfl
 | str z=>let(t,rfl):=r;rfl
 | _=>exact absurd (show false=true from f) Wm
theorem kQ{x:V}:∀ {xs:!V} {us:!AT},Vals xs us->xs.all jK=true->us.any (wN x)=xs.any λy=>EE y x
 | _,_,.nil,_=>rfl
 | y::xs,u::us,.cons r t,f=>by
  rw[List.all_cons,WU] at f;rw[Xv,Xv,BN r f.1,kQ t f.2]
theorem jc{A:Fr}{s:Da}{x:V}{v:AT}(rx:RelV x v)(fx:jK x=true):∀ {xs:!V} {us:!AT},Vals xs us->xs.all jK=true->∀ u∈us,SeqAt.EqAt A s u v (wN x u)
 | _,_,.nil,_=>λu hu=>by cases hu
 | y::xs,u::us,.cons r t,f=>λu' hu=>by
  rw[List.all_cons,WU] at f;rcases Wu.mp hu with rfl | hu
  .rw[BN r f.1];exact Ib r rx f.1 fx
  .exact jc rx fx t f.2 u' hu
def v3(x:V)(xs:!V):Bool:=xs.any λy=>EE y x
def Le(K:Frag)(neg:Bool):R2:=λx y H Q=>∃ p xs,y=.ref p/\(d8 K H p xs\/jx K H p xs)/\jK x=true/\xs.all jK=true/\Q (.bl (if neg then (not (v3 x xs)) else v3 x xs)) H
theorem lM:jC X (KM .In) (Le X.K false):=by
 intro TW s σ H x y v u Q I rx ry h;let(p,xs,rfl,hq,fx,fs,q):=h;cases ry;rcases hq with hq | hq
 .let(its,r,pl,hz):=I.list hq;show SeqAt.in_listAt (wN x) pl.isList (λw hw=>jc rx fx r fs w (by simpa using hw)) #[.bl _,H,I,U,?_];rw[show its.toArray.any (wN x)=its.any (wN x) by simp,kQ r fs];exact q
 .let(its,r,pl,hz):=I.tuple hq;show SeqAt.in_tupleAt (wN x) pl (λw hw=>jc rx fx r fs w (by simpa using hw)) #[.bl _,H,I,U,?_];rw[show its.toArray.any (wN x)=its.any (wN x) by simp,kQ r fs];exact q
theorem kB:jC X (KM .NotIn) (Le X.K true):=by
 intro TW s σ H x y v u Q I rx ry h;let(p,xs,rfl,hq,fx,fs,q):=h;cases ry;rcases hq with hq | hq
 .let(its,r,pl,hz):=I.list hq;show SeqAt.notIn_listAt (wN x) pl.isList (λw hw=>jc rx fx r fs w (by simpa using hw)) #[.bl _,H,I,U,?_];rw[show its.toArray.any (wN x)=its.any (wN x) by simp,kQ r fs];exact q
 .let(its,r,pl,hz):=I.tuple hq;show SeqAt.notIn_tupleAt (wN x) pl (λw hw=>jc rx fx r fs w (by simpa using hw)) #[.bl _,H,I,U,?_];rw[show its.toArray.any (wN x)=its.any (wN x) by simp,kQ r fs];exact q
theorem ia:fo X (.builtin "len") (λxs H Q=>∃ p ys,xs=[.ref p]/\(d8 X.K H p ys\/jx X.K H p ys)/\Q (.int ys.length) H):=by
 intro TW s σ H xs us Q I r h;let(p,ys,rfl,hq,q):=h;let(u,rfl,rx):=vals1 r;cases rx;have hn:=jX;rcases hq with hq | hq
 .let(its,r',pl,hz):=I.list hq;have hlen:=r'.length;exact Calls.call_len_list pl.isList (by simp only[List.size_toArray]<;>cbv) #[.int ys.length,H,I.tok _,#[s.toks+1,by rw[List.size_toArray,hlen]],q]
 .let(its,r',pl,hz):=I.tuple hq;have hlen:=r'.length;exact len_tuple pl (by simp only[List.size_toArray]<;>cbv) #[.int ys.length,H,I.tok _,#[s.toks+1,by rw[List.size_toArray,hlen]],q]
theorem sv:fo X (.builtin "len") (λxs H Q=>∃ z,xs=[.str z]/\z.length<=FB/\Q (.int z.length) H):=by
 intro TW s σ H xs us Q I r h;let(z,rfl,hz,q):=h;let(u,rfl,t,rfl):=vals1 r;have hn:=jX;exact len_str (by cbv) #[.int z.length,H,I.tok _,#[_,U],q]
theorem fD:fo X (.type "list") (λxs H Q=>∃ p ys,xs=[.ref p]/\(d8 X.K H p ys\/jx X.K H p ys)/\∀ l,H l=none->Q (.ref l) (upd H l (.lst ys))):=by
 intro TW s σ H xs us Q I r h;let(p,ys,rfl,hq,q):=h;let(u,rfl,rx):=vals1 r;cases rx;have fin:∀ (its:!AT),Vals ys its->ys.length<=FB->∀ (h':EQ) (c':Nat),(∀ b o',s.heap.get? b=some o'->h'.get? b=some o') ->
   h'.get? ↑s=some { cls:=.type "list",dict:=none,data:=.seq its.toArray c',slots:=#v[] }->EP X TW σ Q (.ref ↑s) { s with heap:=h' }:=λits r' hz h' c' kp e =>
  #[.ref ↑s,_,I.laid (t':=s.toks) kp (We _) (show b6 X.prog X.w _ h' _ (.lst ys) from #[hz,its,c',r',e]),U,q _ (I.bx.fresh (We _))]
 rcases hq with hq | hq
 .let(its,r',pl,hz):=I.list hq;have hlen:=r'.length;let(o,ho,hc,n,hd):=pl.isList;exact call_list_seq p (.inl U) ho hc hd (λh' c' kp e=>fin its r' hz h' c' kp e) (by simp only[List.size_toArray]<;>cbv)
 .let(its,r',pl,hz):=I.tuple hq;have hlen:=r'.length;let(o,ho,hc,n,hd):=pl;exact call_list_seq p (.inr U) ho hc hd (λh' c' kp e=>fin its r' hz h' c' kp e) (by simp only[List.size_toArray]<;>cbv)
theorem qa:fo X (.type "tuple") (λxs H Q=>∃ p ys,xs=[.ref p]/\((d8 X.K H p ys/\∀ l,H l=none->Q (.ref l) (upd H l (.tup ys)))\/(jx X.K H p ys/\Q (.ref p) H))):=by
 intro TW s σ H xs us Q I r h;let(p,ys,rfl,h):=h;let(u,rfl,rx):=vals1 r;cases rx;rcases h with ⟨hq,q⟩ | ⟨hq,q⟩
 .let(its,r',pl,hz):=I.list hq;have hlen:=r'.length;show call_tuple_list pl.isList (λh' kp=>?_) (by simp only[List.size_toArray]<;>cbv);have I1:Inv X TW σ H { s with heap:=h' }:=I.kept (t':=s.toks) kp;have I2:Inv X TW σ (upd H h'.objs.size (.tup ys)) { s with heap:=h'.push { cls:=.type "tuple",data:=.seq its.toArray } } :=
   I1.laid (t':=s.toks) (λb o e=>V9 _ e) (We _) (show b6 X.prog X.w _ _ _ (.tup ys) from #[hz,its,r',iQ.new _ _])
  exact#[.ref h'.objs.size,_,I2,U,q _ (I1.bx.fresh (We _))]
 .let(its,r',pl,hz):=I.tuple hq;exact call_tuple_same pl #[.ref p,H,I,U,q]
def Sf(K:Frag)(T:String)(x:V)(H:Hp):Prop:=match x with
 | .str _=>T="str"
 | .int _=>T="int"
 | .ref p=>(T="list"/\∃ xs,d8 K H p xs)\/(T="tuple"/\∃ o,K.lookup p=some o/\o.cls=.type "tuple"/\o.dict=none) \/
   (T="dict"/\((∃ kvs,H p=some (.dK kvs))\/∃ kvs,H p=some (.dT kvs)))\/(T="set"/\∃ S n,H p=some (.set S n))
 | _=>False
theorem Cy{TW:X8}{σ:St}{H:Hp}{s:Da}{T:String}{x:V}{v:AT}(I:Inv X TW σ H s)(r:RelV x v)(ty:Sf X.K T x H) :
  s.TypeIs v T/\∀ a,v=.ref a->∃ ob,s.heap.get? a=some ob/\ob.dict=none:=by
 cases x with
 | str z =>
  let(t,rfl):=r;cases (show T="str" from ty);exact#[typeIs_str s z t,λ_ e=>nomatch e]
 | int i =>
  let(t,rfl):=r;cases (show T="int" from ty);exact#[typeIs_int s i t,λ_ e=>nomatch e]
 | ref p =>
  cases r;rcases ty with ⟨rfl,xs,hq⟩ | ⟨rfl,o,hk,hc,hd⟩ | ⟨rfl,hk⟩ | ⟨rfl,S,n,hk⟩
  .let(its,_,pl,_):=I.list hq;show#[pl.isList.typeIs,λa e=>?_];cases e;let(o,n,e,c,hd,_):=pl;exact#[o,e,hd]
  .refine#[#[o,I.vC p o hk,hc],λa e=>?_];cases e;exact#[o,I.vC _ o hk,hd]
  .have z:∃ o,s.heap.get? p=some o/\o.ExactDict:=by
    rcases hk with ⟨kvs,hk⟩ | ⟨kvs,hk⟩
    .let(_,_,_,_,o,_,_,e,ex,_):=I.bx p _ hk;exact#[o,e,ex]
    .let(_,_,_,_,o,_,_,e,ex,_):=I.bx p _ hk;exact#[o,e,ex]
   let(o,e,ex):=z;show#[#[o,e,ex.1],λa e2=>?_];cases e2;exact#[o,e,ex.2.1]
  .let(o,_,_,_,e,ex,_):=I.bx p _ hk;show#[#[o,e,ex.1],λa e2=>?_];cases e2;exact#[o,e,ex.2.1]
 | _=>exact False.elim ty
def NL(K:Frag)(T:String)(r:V->!V->Hp->VK->Prop)(to:TE):TE:=λσ H Q=>to σ H λx H1=>Sf K T x H1/\r x [] H1 Q
def U4(K:Frag)(T:String)(r:V->!V->Hp->VK->Prop)(to:TE)(t:TA):TE:=λσ H Q=>to σ H λx H1=>Sf K T x H1/\t σ H1 λxs H2=>r x xs H2 Q
variable{o e:Cl}{es:!Cl}{to:TE}{t:TA}{name:Str}{apos cX:Pos}{T id:String}{r:V->!V->Hp->VK->Prop}
theorem BA(pa:PlainAttrs T)(slot:Slot T name id)(yK:typeOf (.builtin id)=pure (.type "method_descriptor"))(hm:Pr X id r)(ho:PE X o to)(gL:(attributeBase o name X.env (eval o X.env)=eval o X.env)⁻¹)(g6:((apos.endLine == cX.line)=true)⁻¹):PE X (.Call (.Attribute o name apos) [] [] cX) (NL X.K T r to):=by
 intro TW s σ H Q I h;show wpAny_Call_method0_late gL g6 (b3 (ho TW s σ H _ I h) λv s1 z2q=>?_);let(x,H1,I1,r1,ty,q1):=z2q;let(h1,h2):=Cy I1 r1 ty;exact#[T,id,pa,slot,yK,h1,h2,Calls.callWith_builtin U (PySem.evalArgs_none (hm TW s1 σ H1 x [] v [] Q I1 r1 .nil q1))]
theorem Ck(pa:PlainAttrs T)(slot:Slot T name id)(yK:typeOf (.builtin id)=pure (.type "method_descriptor"))(hm:Pr X id r)(ho:PE X o to)(ha:PA X (e::es) t)(gL:(attributeBase o name X.env (eval o X.env)=eval o X.env)⁻¹)(r8:(((IR cX (GT (e::es) X.env)).all (λx=>(not x.1))&&(P3 cX (Re [] X.env)).all (λx=>x.1.isSome)
   && decide ((e::es).length+([]:!Rs).length+(if ([]:!Rs).isEmpty then 0 else 1) < 30))=true)⁻¹)(g6:((apos.endLine == cX.line)=true)⁻¹)(hs:(Ya X.env e es)⁻¹)(ip:((IR cX (GT es X.env)).any (·.1)=false)⁻¹) :
  PE X (.Call (.Attribute o name apos) (e::es) [] cX) (U4 X.K T r to t):=by
 intro TW s σ H Q I h;show wpAny_Call_method_late gL r8 g6 U (b3 (ho TW s σ H _ I h) λv s1 z3q=>?_);let(x,H1,I1,r1,ty,q1):=z3q;let(h1,h2):=Cy I1 r1 ty;show#[T,id,pa,slot,yK,h1,h2,?_];have hA:=ha cX TW s1 σ H1 _ I1 q1;rw[hs] at hA ⊢;show Calls.callWith_builtin (by change (false||(IR cX (GT es X.env)).any (·.1))=false;rw[ip]<;>rfl) (Calls.evalArgs_plain ?_);exact b3 hA λus s2 #[vs,H2,I2,r2,q2]=>hm TW s2 σ H2 x vs v us Q I2 r1 r2 q2
end
def Qy(X:Cx)(id:String)(r:V->!V->Hp->VK->Prop):Prop :=
 ∀ (TW:X8) (s:Da) (σ:St) (H:Hp) (x:V) (xs:!V) (v:AT) (us:!AT) (Q:VK),Inv X TW σ H s->RelV x v->Vals xs us->r x xs H Q ->
  Db (model X.prog X.w) X.A (call (.builtin id) (v::us)) (EP X TW σ Q) X.xe s
theorem Vals.one{x:V}{us:!AT}(h:Vals [x] us):∃ u,us=[u]/\RelV x u:=by
 cases h with
 | cons r t=>cases t with
  | nil=>exact#[_,U,r]
theorem Vals.two{x y:V}{us:!AT}(h:Vals [x,y] us):∃ u v,us=[u,v]/\RelV x u/\RelV y v:=by
 cases h with
 | cons r t=>cases t with
  | cons q t=>cases t with
   | nil=>exact#[_,_,U,r,q]
theorem Vals.zero:∀ {us:!AT},Vals [] us->us=[]
 | _,.nil=>rfl
theorem Vals.dropLast{xs:!V}{us:!AT}(h:Vals xs us):Vals xs.dropLast us.dropLast:=by
 induction h with
 | nil=>exact .nil
 | cons r t ih =>
  cases t with
  | nil=>exact .nil
  | cons q t'=>exact .cons r ih
theorem Vals.eraseIdx:∀ {xs:!V} {us:!AT} (i:Nat),Vals xs us->Vals (xs.eraseIdx i) (us.eraseIdx i)
 | _,_,_,.nil=>.nil
 | _,_,0,.cons _ t=>t
 | _,_,i+1,.cons r t=>.cons r (Vals.eraseIdx i t)
theorem Vals.reverse{xs:!V}{us:!AT}(h:Vals xs us):Vals xs.reverse us.reverse:=by
 induction h with
 | nil=>exact .nil
 | cons r t ih=>rw[Xz,Xz];exact Vals.append ih (.cons r .nil)
theorem wj{α:Type}(l:!α):l.eraseIdx (l.length - 1)=l.dropLast:=by
 induction l with
 | nil=>rfl
 | cons a r ih =>
  cases r with
  | nil=>rfl
  | cons b r =>
   have e:(a::b::r).length - 1=((b::r).length - 1)+1:=by
    have h1:(a::b::r).length=r.length+2:=rfl;have h2:(b::r).length=r.length+1:=rfl;cbv
   rw[e,List.eraseIdx_cons_succ,ih]
   all_goals rfl
theorem qA{α:Type}:∀ (l:!α) (i:Nat),(l.eraseIdx i).length<=l.length
 | [],_=>We _
 | _::_,0=>XZ _
 | _::r,i+1=>Nat.succ_le_succ (qA r i)
section
variable{X:Cx}{TW:X8}{σ:St}{H:Hp}{s:Da}{l b:AC}{xs ys zs:!V}
theorem Inv.DQ{its its':!AT}{n:Nat}{f:Array AT->Array AT}{t':Nat}(I:Inv X TW σ H s)(hH:H l=some (.lst xs))(e:s.heap.get? l=some { cls:=.type "list",data:=.seq its.toArray n })(hf:f its.toArray=its'.toArray)(hv:Vals ys its')(hz:ys.length<=FB) :
  Inv X TW σ (upd H l (.lst ys)) { s with heap:=s.heap.update l (Obj.mapSeq f),toks:=t' }:=by
 have q:=PySem.IsL.update e f;rw[hf] at q;show I.write (x:=l) (e:=l) (by rw[hH];exact trivial) (.inl U) (λb' u hb hu=>(W0 s.heap (Obj.mapSeq f) (Ne.symm hb)).trans hu) #[_,q] ?_;exact#[hz,its',_,hv,q]
theorem Inv.MO{its:!AT}{t':Nat}(I:Inv X TW σ H s)(hv:Vals ys its)(hz:ys.length<=FB) :
  Inv X TW σ (upd H ↑s (.lst ys)) { s with heap:=s.heap.push { cls:=.type "list",data:=.seq its.toArray },toks:=t' } :=
 I.laid (λ_ _ q=>V9 _ q) (We _) #[hz,its,0,hv,Wl _ U]
theorem Inv.fresh(I:Inv X TW σ H s):H ↑s=none:=I.bx.fresh (We _)
theorem Inv.wF(I:Inv X TW σ H s)(hH:H l=some (.lst xs)):xs.length<=FB/\∃ (its:!AT) (n:Nat),Vals xs its/\xs.length=its.length/\s.heap.get? l=some { cls:=.type "list",data:=.seq its.toArray n }:=by
 let(z,its,n,r,e):=I.bx l _ hH;exact#[z,its,n,r,r.length,e]
theorem BD{n:Nat}(h:n<=FB):Fk.List.listTooLong n=false:=by
 unfold Fk.List.listTooLong;exact decide_eq_false (by cbv)
end
section
variable{X:Cx}
def xD:V->!V->Hp->VK->Prop:=λx vs H Q=>∃ l xs y,x=.ref l/\vs=[y]/\H l=some (.lst xs)/\xs.length < FB/\Q .bT (upd H l (.lst (xs++[y])))
theorem l5:Qy X "list.append" xD:=by
 intro TW s σ H x vs v us Q I rx rv h;let(l,xs,y,rfl,rfl,hH,hz,q):=h;cases rx;let(u,rfl,ru):=rv.one;let(z,its,n,r,hl,e):=I.wF hH;show call_meets F.slot_list_append #[_,e,U] F.entry_list_append (F.args_list_append_2 _ _) (PySem.list_append l its.toArray n u (by rw[Wx];cbv)) #[e,?_];show#[.bT,_,I.DQ (its':=its++[u]) hH e (by simp) (r.append (.cons ru .nil)) ?_,U,q];rw[Wa,List.length_singleton];cbv
def xH:V->!V->Hp->VK->Prop:=λx vs H Q=>∃ l b xs zs,x=.ref l/\vs=[.ref b]/\H l=some (.lst xs)/\H b=some (.lst zs)/\xs.length+zs.length<=FB/\Q .bT (upd H l (.lst (xs++zs)))
theorem l9:Qy X "list.extend" xH:=by
 intro TW s σ H x vs v us Q I rx rv h;let(l,b,xs,zs,rfl,rfl,hH,hB,hz,q):=h;cases rx;let(u,rfl,ru):=rv.one;cases ru;let(z,its,n,r,hl,e):=I.wF hH;let(z2,er,n2,r2,Ex,e2):=I.wF hB;have hsz:its.toArray.size+er.toArray.size<=FB:=by rw[Wx,Wx];cbv
 have hlong:¬ ((not its.toArray.isEmpty)&&Fk.List.listTooLong (its.toArray.size+er.toArray.size))=true:=by
  rw[BD hsz,Bool.and_false];exact Wm
 show call_meets F.slot_list_extend #[_,e,U] F.entry_list_extend (F.args_list_extend_2 _ _)
  (AutoSeq1.list_extend_list_list_0 l its.toArray n b er.toArray n2 hlong (by rw[Wx];cbv) (by cbv)) #[e,e2,?_]
 show#[.bT,_,I.DQ (its':=its++er) hH e (by simp) (r.append r2) ?_,U,q];rw[Wa];cbv
def IJ:V->!V->Hp->VK->Prop:=λx vs H Q=>∃ l xs y,x=.ref l/\vs=[]/\H l=some (.lst xs)/\xs[xs.length - 1]?=some y/\Q y (upd H l (.lst xs.dropLast))
theorem vX:Qy X "list.pop" IJ:=by
 intro TW s σ H x vs v us Q I rx rv h;let(l,xs,y,rfl,rfl,hH,hy,q):=h;cases rx;have hus:=rv.zero;subst hus;let(z,its,n,r,hl,e):=I.wF hH;let(u,hu,ru):=r.get hy;have hy':its.toArray[its.toArray.size - 1]?=some u:=by
  change its.toArray[its.length - 1]?=some u;rw[<- XA,<- hl];exact hu
 show call_meets F.slot_list_pop #[_,e,U] F.entry_list_pop (F.args_list_pop_1 _) (MeetsSeq.list_pop_last l its.toArray n u hy' (by rw[Wx];cbv)) #[e,?_];show#[y,_,I.DQ (its':=its.dropLast) hH e ?_ r.dropLast ?_,ru,q]
 .show its.toArray.eraseIdxIfInBounds (its.toArray.size - 1)=its.dropLast.toArray;rw[Wx,List.eraseIdxIfInBounds_toArray,wj]
 .rw[List.length_dropLast];cbv
def z7:V->!V->Hp->VK->Prop:=λx vs H Q=>∃ l xs i k y,x=.ref l/\vs=[.int i]/\H l=some (.lst xs)/\-(2 ^ 63)<=i/\i < 2 ^ 63/\seqIndex? i xs.length=some k/\xs[k]?=some y/\Q y (upd H l (.lst (xs.eraseIdx k)))
theorem nW:Qy X "list.pop" z7:=by
 intro TW s σ H x vs v us Q I rx rv h;let(l,xs,i,k,y,rfl,rfl,hH,h1,h2,hk,hy,q):=h;cases rx;let(u,rfl,ru):=rv.one;let(t,rfl):=ru;let(z,its,n,r,hl,e):=I.wF hH;let(w,hw,rw'):=r.get hy;show call_meets F.slot_list_pop #[_,e,U] F.entry_list_pop (F.args_list_pop_2 _ _)
  (MeetsSeq.list_pop_at l its.toArray n i t k w (fitsIndex_both h1 h2) (by rw[Wx,<- hl];exact hk) (by rw[<- XA];exact hw) (by rw[Wx];cbv)) #[e,?_]
 show#[y,_,I.DQ (its':=its.eraseIdx k) hH e ?_ (r.eraseIdx k) ?_,rw',q]
 .show its.toArray.eraseIdxIfInBounds k=(its.eraseIdx k).toArray;rw[List.eraseIdxIfInBounds_toArray]
 .have:=qA xs k;cbv
def Nb:R2:=λx y H Q=>∃ l b xs zs,x=.ref l/\y=.ref b/\H l=some (.lst xs)/\H b=some (.lst zs)/\xs.length+zs.length<=FB/\∀ p,H p=none->Q (.ref p) (upd H p (.lst (xs++zs)))
theorem d3:jC X (SC .Add) Nb:=by
 intro TW s σ H x y v u Q I rx ry h;let(l,b,xs,zs,rfl,rfl,hH,hB,hz,q):=h;cases rx;cases ry;let(z,its,n,r,hl,e):=I.wF hH;let(z2,er,n2,r2,Ex,e2):=I.wF hB;show PySem.P.add_list e e2 ?_ (by rw[Wx,Wx];cbv);have ea:its.toArray++er.toArray=(its++er).toArray:=by simp
 rw[ea];exact#[.ref _,_,I.MO (t':=s.toks) (r.append r2) (by rw[Wa];cbv),U,q _ I.fresh]
end
section
variable{prog:GE}{w:Fa}{A:Fr}{E:X7}{s:Da}
end
section
variable{X:Cx}
end
section
variable{κ:Type}[DecidableEq κ]
def gb(kvs:!(κ×V))(k:κ):Option V:=(kvs.find? λkv=>decide (kv.1=k)).map (·.2)
def putK(kvs:!(κ×V))(k:κ)(v:V):!(κ×V) :=
 if (kvs.any λkv=>decide (kv.1=k))=true then kvs.map (λkv=>if kv.1=k then (kv.1,v) else kv) else kvs++[(k,v)]
theorem o9{k:κ}:gb ([]:!(κ×V)) k=none:=rfl
theorem fQ{p:κ×V}{r:!(κ×V)}{k:κ}(e:p.1=k):gb (p::r) k=some p.2:=by simp[gb,List.find?_cons,e]
theorem dQ{p:κ×V}{r:!(κ×V)}{k:κ}(e:¬ p.1=k):gb (p::r) k=gb r k:=by simp[gb,List.find?_cons,e]
theorem k8(k:κ):∀ kvs:!(κ×V),(kvs.any λkv=>decide (kv.1=k))=(gb kvs k).isSome
 | []=>rfl
 | p::r=>by
  rw[Xv];by_cases e:p.1=k
  .simp only[fQ e,decide_eq_true e,Bool.true_or,Option.isSome_some]
  .rw[dQ e,decide_eq_false e,Bool.false_or];exact k8 k r
theorem ee(kvs:!(κ×V))(k:κ)(v:V):(putK kvs k v).length<=kvs.length+1:=by
 unfold putK;split
 .rw[V8];cbv
 .rw[Wa,Wi,List.length_nil];cbv
theorem kC{kvs:!(κ×V)}{k:κ}(v:V)(h:gb kvs k=none):putK kvs k v=kvs++[(k,v)]:=by
 unfold putK;rw[k8,h];exact if_neg ()
theorem jG.gX{o:Option V}{u:Option AT}(r:jG o u):o.isSome=u.isSome:=by
 cases o with
 | none=>cases u with
  | none=>rfl
  | some _=>exact (show False from r).elim
 | some _=>cases u with
  | none=>exact (show False from r).elim
  | some _=>rfl
theorem KV.val{kvs:!(κ×V)}{vs:!(κ×AT)}(r:KV kvs vs)(k:κ):jG (gb kvs k) (valueAt vs k):=by
 unfold KV at r
 induction r with
 | nil=>exact True.intro
 | @cons p q ps qs h t ih =>
  let(h1,h2):=h;by_cases e:p.1=k
  .have e':q.1=k:=h1.symm.trans e;have b:valueAt (q::qs) k=some q.2:=by simp[valueAt,List.find?_cons,e']
   rw[fQ e,b];exact h2
  .have e':¬ q.1=k:=λz=>e (h1.trans z);have b:valueAt (q::qs) k=valueAt qs k:=by simp[valueAt,List.find?_cons,e']
   rw[dQ e,b];exact ih
theorem KV.any{kvs:!(κ×V)}{vs:!(κ×AT)}(r:KV kvs vs)(k:κ):(kvs.any λkv=>decide (kv.1=k))=vs.any λkv=>decide (kv.1=k):=by
 unfold KV at r
 induction r with
 | nil=>rfl
 | cons h t ih=>rw[Xv,Xv,ih,h.1]
theorem KV.Iw{kvs:!(κ×V)}{vs:!(κ×AT)}(r:KV kvs vs)(k:κ){y:V}{u:AT}(ry:RelV y u) :
  KV (kvs.map λkv=>if kv.1=k then (kv.1,y) else kv) (vs.map λkv=>if kv.1=k then (kv.1,u) else kv):=by
 unfold KV at r ⊢
 induction r with
 | nil=>exact .nil
 | @cons p q ps qs h t ih =>
  rw[Wj,Wj];show .cons ?_ ih;let(h1,h2):=h;by_cases e:p.1=k
  .rw[if_pos e,if_pos (h1.symm.trans e)];exact#[h1,ry]
  .rw[if_neg e,if_neg (λz=>e (h1.trans z))];exact#[h1,h2]
theorem KV.put{kvs:!(κ×V)}{vs:!(κ×AT)}(r:KV kvs vs)(k:κ){y:V}{u:AT}(ry:RelV y u):KV (putK kvs k y) (stored vs k u):=by
 unfold putK stored;rw[r.any k];by_cases e:(vs.any λkv=>decide (kv.1=k))=true
 .rw[if_pos e,if_pos e];exact r.Iw k ry
 .rw[if_neg e,if_neg e];exact Paired.snoc r #[U,ry]
theorem KV.length{kvs:!(κ×V)}{vs:!(κ×AT)}(r:KV kvs vs):kvs.length=vs.length:=Paired.length r
end
theorem pO{P:GE}{w:Fa}{k:Key}{u:AT}(r:RelV (kV k) u):(cC P w).is k u=true:=by
 cases k with
 | inl i=>let(t,e):=(show ∃ t,u=AT.int i t from r);subst e;exact uL P w i t
 | inr x=>let(t,e):=(show ∃ t,u=AT.str x t from r);subst e;exact vh P w x t
theorem qt{P:GE}{w:Fa}:∀ {ks:!Key} {us:!AT},Vals (ks.map kV) us->ItemsAre (cC P w) ks us
 | [],_,r=>by rw[WR] at r;cases r;exact .nil
 | k::ks,_,r=>by
  rw[Wj] at r;cases r with
  | cons h t=>exact .cons (pO h) (qt t)
abbrev KT(H:Hp):!(!Key×V)->!(!Key×AC×AT)->Prop:=Paired λp q=>p.1=q.1/\H q.2.1=some (.tup (p.1.map kV))/\RelV p.2 q.2.2
theorem KT.val{H:Hp}{kvs:!(!Key×V)}{xs:!(!Key×AC×AT)}(r:KT H kvs xs)(k:!Key):jG (gb kvs k) ((atKey xs k).map (·.2)):=by
 induction r with
 | nil=>exact True.intro
 | @cons p q ps qs h t ih =>
  let(h1,_,h2):=h;by_cases e:p.1=k
  .have e':q.1=k:=h1.symm.trans e;have b:atKey (q::qs) k=some q.2:=by simp[atKey,List.find?_cons,e']
   rw[fQ e,b];exact h2
  .have e':¬ q.1=k:=λz=>e (h1.trans z);have b:atKey (q::qs) k=atKey qs k:=by simp[atKey,List.find?_cons,e']
   rw[dQ e,b];exact ih
theorem KT.Iw{H:Hp}{kvs:!(!Key×V)}{xs:!(!Key×AC×AT)}(r:KT H kvs xs)(k:!Key){y:V}{u:AT}(ry:RelV y u) :
  KT H (kvs.map λkv=>if kv.1=k then (kv.1,y) else kv) (xs.map (putAt k u)):=by
 induction r with
 | nil=>exact .nil
 | @cons p q ps qs h t ih =>
  rw[Wj,Wj];show .cons ?_ ih;let(h1,h2,h3):=h;unfold putAt;by_cases e:p.1=k
  .rw[if_pos e,if_pos (h1.symm.trans e)];exact#[h1,h2,ry]
  .rw[if_neg e,if_neg (λz=>e (h1.trans z))];exact#[h1,h2,h3]
theorem KT.put{H:Hp}{kvs:!(!Key×V)}{xs:!(!Key×AC×AT)}(r:KT H kvs xs)(k:!Key){b:AC}{y:V}{u:AT}(hb:H b=some (.tup (k.map kV)))(ry:RelV y u) :
  KT H (putK kvs k y) (storedH xs k b u):=by
 have e:(kvs.any λkv=>decide (kv.1=k))=(atKey xs k).isSome:=by
  rw[k8,(r.val k).gX,Option.isSome_map]
 unfold putK storedH;rw[e];by_cases q:(atKey xs k).isSome=true
 .rw[if_pos q,if_pos q];exact r.Iw k ry
 .rw[if_neg q,if_neg q];exact Paired.snoc r #[U,hb,ry]
theorem KT.keeps{H H':Hp}{kvs:!(!Key×V)}{xs:!(!Key×AC×AT)}(r:KT H kvs xs)(ht:∀ b ys,H b=some (.tup ys)->H' b=some (.tup ys)):KT H' kvs xs :=
 Paired.uQ r λ_ _ z=>#[z.1,ht _ _ z.2.1,z.2.2]
section
variable{P:GE}{w:Fa}{H:Hp}{h:EQ}{a:AC}
theorem FO{u:HO}(ok:ko P w H h)(e:Rd H a u):b6 P w H h a u:=e.ok ok
theorem vA{kvs:!(Key×V)}(ok:ko P w H h)(e:Rd H a (.dK kvs)):kvs.length<=FB/\(a == Ps)=false/\∃ vs,KV kvs vs/\h.DictOf (cC P w) a vs :=
 show b6 P w H h a (.dK kvs) from FO ok e
theorem xT{kvs:!(Key×V)}(ok:ko P w H h)(e:H a=some (.dK kvs)):kvs.length<=FB/\(a == Ps)=false/\∃ vs,KV kvs vs/\h.DictOf (cC P w) a vs:=vA ok (.inl e)
theorem pV{ks:!Key}(ok:ko P w H h)(e:H a=some (.tup (ks.map kV))):(tupleKind (cC P w)).is h ks a:=by
 let(_,its,r,o,h1,h2,n,h3):=(show b6 P w H h a (.tup (ks.map kV)) from ok a _ e);exact#[o,its.toArray,n,h1,h2,h3.1,by simpa using qt r]
theorem vq{kvs:!(!Key×V)}(ok:ko P w H h)(e:Rd H a (.dT kvs)):kvs.length<=FB/\(a == Ps)=false /\
  ∃ xs,KT H kvs xs/\h.DictOfH (tupleKind (cC P w)) a xs:=by
 let(z,y,xs,r,o,es,ep,h1,h2,h3,h4,h5):=(show b6 P w H h a (.dT kvs) from FO ok e);show#[z,y,xs,r,o,es,ep,h1,h2,h3,h4,λx hx=>?_,h5];have all:∀ {l:!(!Key×V)} {m:!(!Key×AC×AT)},KT H l m->∀ x∈m,(tupleKind (cC P w)).is h x.1 x.2.1:=by
  intro l m q
  induction q with
  | nil=>intro x hx;exact nomatch hx
  | @cons p q ps qs hq t ih =>
   intro x hx;rcases Wu.mp hx with e | hx
   .subst e;exact pV ok (by rw[<- hq.1];exact hq.2.1)
   .exact ih x hx
 exact all r x hx
theorem QD{kvs:!(!Key×V)}(ok:ko P w H h)(e:H a=some (.dT kvs)):kvs.length<=FB/\(a == Ps)=false /\
  ∃ xs,KT H kvs xs/\h.DictOfH (tupleKind (cC P w)) a xs:=vq ok (.inl e)
end
def gR(H:Hp)(a:AC)(y:V)(r:Option V):Prop :=
 (∃ kvs k,Rd H a (.dK kvs)/\y=kV k/\r=gb kvs k)\/∃ kvs k b,Rd H a (.dT kvs)/\y=.ref b/\H b=some (.tup (k.map kV))/\r=gb kvs k
def lV(H:Hp)(a:AC)(y v:V)(H':Hp):Prop :=
 (∃ kvs k,H a=some (.dK kvs)/\y=kV k/\kvs.length < FB/\H'=upd H a (.dK (putK kvs k v))) \/
 ∃ kvs k b,H a=some (.dT kvs)/\y=.ref b/\H b=some (.tup (k.map kV))/\kvs.length < FB/\H'=upd H a (.dT (putK kvs k v))
theorem gR.k{H:Hp}{a:AC}{kvs:!(Key×V)}{k:Key}(e:H a=some (.dK kvs)):gR H a (kV k) (gb kvs k):=.inl #[kvs,k,.inl e,U,U]
theorem gR.t{H:Hp}{a b:AC}{kvs:!(!Key×V)}{k:!Key}(e:H a=some (.dT kvs))(eb:H b=some (.tup (k.map kV))):gR H a (.ref b) (gb kvs k):=.inr #[kvs,k,b,.inl e,U,eb,U]
theorem lV.k{H:Hp}{a:AC}{kvs:!(Key×V)}{k:Key}{v:V}(e:H a=some (.dK kvs))(hl:kvs.length < FB):lV H a (kV k) v (upd H a (.dK (putK kvs k v))):=.inl #[kvs,k,e,U,hl,U]
theorem lV.t{H:Hp}{a b:AC}{kvs:!(!Key×V)}{k:!Key}{v:V}(e:H a=some (.dT kvs))(eb:H b=some (.tup (k.map kV)))(hl:kvs.length < FB) :
  lV H a (.ref b) v (upd H a (.dT (putK kvs k v))):=.inr #[kvs,k,b,e,U,eb,hl,U]
section
variable{X:Cx}{TW:X8}{σ:St}{H:Hp}{s:Da}{a:AC}{y v:V}{u r:AT}{o:Option V}{A:Fr}{E:X7}
theorem Inv.big(I:Inv X TW σ H s):Ps < ↑s:=by
 have h:GM < ↑s:=(I.mod.glob.keeps I.bk).lt;exact Nat.lt_trans () h
theorem zA{Q:X7}(hu:A.units+1 < cLine)(I:Inv X TW σ H s)(g:gR H a y (some v))(ry:RelV y u)(h:∀ w' s',Inv X TW σ H s'->RelV v w'->Q w' s') :
  Db (model X.prog X.w) A (getItem (.ref a) u) Q E s:=by
 rcases g with ⟨kvs,k,e,ey,l⟩ | ⟨kvs,k,b,e,ey,eb,l⟩
 .subst ey;let(z,hd,vs,rel,dd):=vA I.bx e;let(w',hw,rw'):=jG.some_of (v:=v) (o:=valueAt vs k) (by rw[l];exact rel.val k);exact wpAny_getItem_of (pO ry) dd.mapOf hw (h w' _ (I.tok _) rw')
 .subst ey;cases (show u=AT.ref b from ry);let(z,hd,xs,rel,dd):=vq I.bx e;let(w',hw,rw'):=jG.some_of (v:=v) (o:=(atKey xs k).map (·.2)) (by rw[l];exact rel.val k);let(p,hp,hp2):=WN.mp hw;show wpAny_getItem_heap (tupleKind_room_in1 hu) (pV I.bx eb) dd hp ?_;rw[hp2];exact h w' _ (I.tok _) rw'
theorem SY{Q:X7}(hu:A.units+1 < cLine)(I:Inv X TW σ H s)(g:gR H a y o)(ry:RelV y u)(h:∀ s',Inv X TW σ H s'->Q (.bool o.isSome) s') :
  Db (model X.prog X.w) A (KM .In u (.ref a)) Q E s:=by
 rcases g with ⟨kvs,k,e,ey,l⟩ | ⟨kvs,k,b,e,ey,eb,l⟩
 .subst ey;let(z,hd,vs,rel,dd):=vA I.bx e;show wpAny_in_of (pO ry) hd dd.mapOf ?_;rw[<- (rel.val k).gX,<- l];exact h _ (I.tok _)
 .subst ey;cases (show u=AT.ref b from ry);let(z,hd,xs,rel,dd):=vq I.bx e;show wpAny_in_heap (tupleKind_room_in1 hu) (pV I.bx eb) hd dd ?_;have q:=(rel.val k).gX;rw[Option.isSome_map] at q;rw[<- q,<- l];exact h _ (I.tok _)
theorem EN{Q:X7}(hu:A.units+1 < cLine)(I:Inv X TW σ H s)(g:gR H a y o)(ry:RelV y u)(h:∀ s',Inv X TW σ H s'->Q (.bool (not o.isSome)) s') :
  Db (model X.prog X.w) A (KM .NotIn u (.ref a)) Q E s:=by
 rcases g with ⟨kvs,k,e,ey,l⟩ | ⟨kvs,k,b,e,ey,eb,l⟩
 .subst ey;let(z,hd,vs,rel,dd):=vA I.bx e;show wpAny_notIn_of (pO ry) hd dd.mapOf ?_;rw[<- (rel.val k).gX,<- l];exact h _ (I.tok _)
 .subst ey;cases (show u=AT.ref b from ry);let(z,hd,xs,rel,dd):=vq I.bx e;show wpAny_notIn_heap (tupleKind_room_in1 hu) (pV I.bx eb) hd dd ?_;have q:=(rel.val k).gX;rw[Option.isSome_map] at q;rw[<- q,<- l];exact h _ (I.tok _)
theorem nO{h':EQ}{t':Nat}{ob:HO}(I:Inv X TW σ H s)(mu:OI (H a))(hs:EQ.SameBut a s.heap h')(he:∃ q,h'.get? a=some q)(new:b6 X.prog X.w (upd H a ob) h' a ob) :
  Inv X TW σ (upd H a ob) { s with heap:=h',toks:=t' } :=
 I.write (x:=a) (e:=a) mu (.inl U) (λb q hb z=>(hs.2 b hb).trans z) he new
theorem rT{P:GE}{w:Fa}{H':Hp}{h':EQ}{kvs:!(Key×V)}{vs:!(Key×AT)}(z:kvs.length<=FB)(hd:(a == Ps)=false)(rel:KV kvs vs)(dd:h'.DictOf (cC P w) a vs) :
  b6 P w H' h' a (.dK kvs):=#[z,hd,vs,rel,dd]
theorem zo{H':Hp}{Q:Unit->Da->Prop}(hu:A.units+1 < cLine)(I:Inv X TW σ H s)(g:lV H a y v H')(ry:RelV y u)(rv:RelV v r)(h:∀ s',Inv X TW σ H' s'->Q Unit.unit s') :
  Db (model X.prog X.w) A (setItem (.ref a) u r) Q E s:=by
 rcases g with ⟨kvs,k,e,ey,l,eH⟩ | ⟨kvs,k,b,e,ey,eb,l,eH⟩
 .subst ey eH;let(z,hd,vs,rel,dd):=xT I.bx e;have hz:vs.length<=FB:=by rw[<- rel.length];exact z
  have hl:(putK kvs k v).length<=FB:=by have:=ee kvs k v;cbv
  show wpAny_setItem_pairs (hsz:=hz) (pO ry) dd λh' dd' hs=>h _ ?_;have he:∃ q,h'.get? a=some q:=let #[q,_,_,hq,_]:=dd';#[q,hq];exact nO I (by rw[e];exact True.intro) hs he (rT hl hd (rel.put k rv) dd')
 .subst ey eH;cases (show u=AT.ref b from ry);let(z,hd,xs,rel,dd):=QD I.bx e;have hz:xs.length<=FB:=by rw[<- Paired.length rel];exact z
  have hl:(putK kvs k v).length<=FB:=by have:=ee kvs k v;cbv
  show wpAny_setItem_heap (hsz:=hz) (tupleKind_room_in1 hu) (pV I.bx eb) dd λh' dd' hs=>h _ ?_;let(q,es,ep,hq,h2,h3,h4,_,h5):=dd';show nO I (by rw[e];exact True.intro) hs #[q,hq] #[hl,hd,_,(rel.put k eb rv).keeps λc ys ec=>?_,q,es,ep,hq,h2,h3,h4,h5];rw[aw (Gv ec e (λz=>nomatch z))];exact ec
end
section
variable{X:Cx}{TW:X8}{σ:St}{H:Hp}{s:Da}{a:AC}{kvs:!(Key×V)}{k:Key}{u:AT}{A:Fr}{E:X7}
end
def QG(i:Cl):Prop:=∀ ov iv,subscripted i false ov iv=operate [ov,iv] (getItem ov iv)
theorem EG{prog:GE}{w:Fa}{A:Fr}{E:X7}{s:Da}{env:Env}{value slice:Cl}{pos:Pos}{T id:String}{Q:X7}(hl:typeLookup (.type T) "__getitem__"=pure (some (.builtin id)))(hs:QG slice)(h:Db (model prog w) A (eval value env) (λo s₁=>Db (model prog w) A (eval slice env) (λi s₂=>s₂.TypeIs o T/\Db (model prog w) A (getItem o i) Q E s₂) E s₁) E s) :
  Db (model prog w) A (eval (.Subscript value slice pos) env) Q E s:=by
 show Subscript_ (Os h (λo s₁ h₁=>Os h₁ (λi s₂ h₂=>?_) λ_ _ x=>x) λ_ _ x=>x);let(hT,h₂):=h₂;unfold subscriptTail;show Ch ?_;rw[getitemInPython_of_ne hT.not_modules];show Ch (wpAny_specialOf hT hl ?_);have fin:Db (model prog w) A (subscripted slice false o i) (λr s₃=>Db (model prog w) A (letTemporaryGo value o r >>= λ_=>pure r) Q E s₃) E s₂:=by
  rw[hs o i];exact wpAny_operating (Os h₂ (λr s₃ h₃=>Ch (wpAny_letTemporaryGo (FS h₃))) λ_ _ x=>x)
 first
  | exact FS (Ch fin)
  | exact Ch (FS (Ch fin))
  | exact Ch fin
theorem um{X:Cx}{TW:X8}{σ:St}{H:Hp}{s:Da}{a:AC}{y:V}{o:Option V}(I:Inv X TW σ H s)(g:gR H a y o):s.TypeIs (.ref a) "dict":=by
 rcases g with ⟨kvs,k,e,_,_⟩ | ⟨kvs,k,b,e,_,_,_⟩
 .let(_,_,vs,_,dd):=vA I.bx e;exact dd.typeIs
 .let(_,_,xs,_,dd):=vq I.bx e;exact dd.typeIs
def kJ(td ty:TE):TE:=λσ H Q=>td σ H λx H1=>ty σ H1 λy H2=>∃ a v,x=.ref a/\gR H2 a y (some v)/\Q v H2
def Ke(ty td:TE):TE:=λσ H Q=>ty σ H λy H1=>td σ H1 λx H2=>∃ a o,x=.ref a/\gR H2 a y o/\Q (.bl o.isSome) H2
def tR(ty td:TE):TE:=λσ H Q=>ty σ H λy H1=>td σ H1 λx H2=>∃ a o,x=.ref a/\gR H2 a y o/\Q (.bl (not o.isSome)) H2
def qQ(td ty tv:TE):TS:=λD σ H=>tv σ H λv H1=>td σ H1 λx H2=>ty σ H2 λy H3=>∃ a H4,x=.ref a/\lV H3 a y v H4/\D.nx σ H4
section
variable{X:Cx}{o i e value:Cl}{pos pos' ma:Pos}{td ty tv:TE}
theorem a9(hu:X.A.units+1 < cLine)(ho:PE X o td)(hi:PE X i ty)(hs:QG i):PE X (.Subscript o i pos) (kJ td ty):=by
 intro TW s σ H Q I h;show EG PySem.F.slot_dict_getitem.lookup hs (b3 (ho TW s σ H _ I h) λu s1 zz=>el2 zz λx H1 I1 rx q1=>b3 (hi TW s1 σ H1 _ I1 q1) λiv s2 z4q=>?_);let(y,H2,I2,ry,a,v,ex,g,q2):=z4q;subst ex;obtain rfl:u=AT.ref a:=rx;exact#[um I2 g,zA hu I2 g ry λw' s3 I3 rw'=>#[v,H2,I3,rw',q2]]
theorem sO(hu:X.A.units+1 < cLine)(hi:PE X i ty)(ho:PE X o td):PC X .In i o (Ke ty td):=by
 intro TW s σ H Q I h;show b3 (hi TW s σ H _ I h) λiv s1 zz=>el2 zz λy H1 I1 ry q1=>b3 (ho TW s1 σ H1 _ I1 q1) λu s2 z5q=>?_;let(x,H2,I2,rx,a,ov,ex,g,q2):=z5q;subst ex;obtain rfl:u=AT.ref a:=rx;exact SY hu I2 g ry λs3 I3=>#[.bl ov.isSome,H2,I3,U,q2]
theorem rB(hu:X.A.units+1 < cLine)(hi:PE X i ty)(ho:PE X o td):PC X .NotIn i o (tR ty td):=by
 intro TW s σ H Q I h;show b3 (hi TW s σ H _ I h) λiv s1 zz=>el2 zz λy H1 I1 ry q1=>b3 (ho TW s1 σ H1 _ I1 q1) λu s2 #[x,H2,I2,rx,a,ov,ex,g,q2]=>?_;subst ex;obtain rfl:u=AT.ref a:=rx;exact EN hu I2 g ry λs3 I3=>#[.bl (not ov.isSome),H2,I3,U,q2]
theorem c7(hu:X.A.units+1 < cLine)(ho:PE X o td)(hi:PE X i ty)(hv:PE X value tv)(hs:swapsWith value (some (.Subscript o i pos')) pos.line X.env=pure false) :
  PS X (.Assign [.Subscript o i pos'] value pos) (qQ td ty tv):=by
 intro TW s σ H D I h;show wpAny_Assign_Subscript (b3 (hv TW s σ H _ I h) λr s1 zz=>el2 zz λv H1 I1 rv q1=>b3 (ho TW s1 σ H1 _ I1 q1) λu s2 zz=>el2 zz λx H2 I2 rx q2=>b3 (hi TW s2 σ H2 _ I2 q2) λiv s3 #[y,H3,I3,ry,a,H4,ex,g,q3]=>?_) hs;subst ex;obtain rfl:u=AT.ref a:=rx;exact zo hu I3 g ry rv λs4 I4=>#[σ,H4,I4,q3]
end
theorem kI{P:GE}{w:Fa}{H:Hp}(h:EQ)(hb:Ps < h.objs.size):b6 P w H (h.push { cls:=.type "dict",data:=.dict #v[] }) h.objs.size (.dK []) :=
 #[WH _,beq_eq_false_iff_ne.mpr (Ne.symm (Ww hb)),[],.nil,EQ.DictOf.new h]
theorem Cn{P:GE}{w:Fa}{H:Hp}(h:EQ)(hb:Ps < h.objs.size):b6 P w H (h.push { cls:=.type "dict",data:=.dict #v[] }) h.objs.size (.dT []) :=
 #[WH _,beq_eq_false_iff_ne.mpr (Ne.symm (Ww hb)),[],.nil,_,#v[],0,Wl _ U,#[U,U,U],U,U,XU]
def HM:TE:=λ_ H Q=>∀ p,H p=none->Q (.ref p) (upd H p (.dK []))
def Ig:TE:=λ_ H Q=>∀ p,H p=none->Q (.ref p) (upd H p (.dT []))
section
variable{X:Cx}{pos:Pos}
theorem B7:PE X (.Dict [] [] pos) HM:=λTW s σ H Q I h =>
 wpAny_Dict_empty #[.ref ↑s,_,I.laid (a:=↑s) (o:=.dK []) (t':=s.toks) (λ_ _ q=>V9 _ q) (We _) (kI s.heap I.big),U,h _ (I.bx.fresh (We _))]
theorem CQ:PE X (.Dict [] [] pos) Ig:=λTW s σ H Q I h =>
 wpAny_Dict_empty #[.ref ↑s,_,I.laid (a:=↑s) (o:=.dT []) (t':=s.toks) (λ_ _ q=>V9 _ q) (We _) (Cn s.heap I.big),U,h _ (I.bx.fresh (We _))]
end
def oG:!(TE×TE)->St->Hp->(!(V×V)->Hp->Prop)->Prop
 | [],_,H,Q=>Q [] H
 | (tk,tv)::r,σ,H,Q=>tk σ H λx H1=>tv σ H1 λy H2=>oG r σ H2 λps H3=>Q ((x,y)::ps) H3
abbrev VV:!(V×V)->!(AT×AT)->Prop:=Paired λp q=>RelV p.1 q.1/\RelV p.2 q.2
def N6(X:Cx)(pos:Pos)(keys:!(Option Cl))(values:!Cl)(Fs:!(TE×TE)):Prop :=
 ∀ (TW:X8) (s:Da) (σ:St) (H:Hp) (Q:!(V×V)->Hp->Prop),Inv X TW σ H s->oG Fs σ H Q ->
  Db (model X.prog X.w) X.A (evalPairs (pairTrees keys values X.env pos)) (λvs s'=>∃ ps H',Inv X TW σ H' s'/\VV ps vs/\Q ps H') X.xe s
theorem xF{X:Cx}{pos:Pos}:N6 X pos [] [] []:=λTW s σ H Q I h=>pairTrees_nil_walk #[[],H,I,.nil,h]
theorem lj{X:Cx}{pos:Pos}{k v:Cl}{ks:!(Option Cl)}{vs:!Cl}{tk tv:TE}{Fs:!(TE×TE)}(hk:PE X k tk)(hv:PE X v tv)(hr:N6 X pos ks vs Fs) :
  N6 X pos (some k::ks) (v::vs) ((tk,tv)::Fs):=λTW s σ H Q I h =>
 pairTrees_cons_walk (b3 (hk TW s σ H _ I h) λu s1 zz=>el2 zz λx H1 I1 rx q1=>b3 (hv TW s1 σ H1 _ I1 q1) λw2 s2 zz=>el2 zz λy H2 I2 ry q2 =>
  b3 (hr TW s2 σ H2 _ I2 q2) λws s3 zz=>el2 zz λps H3 I3 rel q3=>#[(x,y)::ps,H3,I3,.cons #[rx,ry] rel,q3])
def gy(kvs more:!(Key×V)):!(Key×V):=more.foldl (λacc kv=>putK acc kv.1 kv.2) kvs
theorem KV.merge:∀ {more:!(Key×V)} {rs:!(Key×AT)} {kvs:!(Key×V)} {vs:!(Key×AT)},KV more rs->KV kvs vs->KV (gy kvs more) (merged vs rs):=by
 intro more rs kvs vs r;unfold KV at r
 induction r generalizing kvs vs with
 | nil=>intro q;exact q
 | @cons p q ps qs h t ih =>
  intro r0;have e:KV (putK kvs p.1 p.2) (stored vs q.1 q.2):=by
   have:=r0.put p.1 h.2;rw[<- h.1];exact this
  exact ih e
theorem jJ:∀ (more kvs:!(Key×V)),(gy kvs more).length<=kvs.length+more.length
 | [],kvs=>by change kvs.length<=kvs.length+0;cbv
 | p::r,kvs=>by
  have h1:=jJ r (putK kvs p.1 p.2);have h2:=ee kvs p.1 p.2;change (gy (putK kvs p.1 p.2) r).length<=_;rw[Wi];cbv
theorem nX{P:GE}{w:Fa}:∀ {kvs:!(Key×V)} {ws:!(AT×AT)},VV (kvs.map λkv=>(kV kv.1,kv.2)) ws->∃ rs,Carries (cC P w) ws rs/\KV kvs rs
 | [],_,r=>by rw[WR] at r;cases r;exact#[[],True.intro,.nil]
 | p::kvs,_,r=>by
  rw[Wj] at r;cases r with
  | @cons a b as bs h t =>
   let(rs,c,q):=nX (P:=P) (w:=w) t;let(b1,b2):=b;exact#[(p.1,b2)::rs,#[pO h.1,U,c],.cons #[U,h.2] q]
def Gx(Fs:!(TE×TE)):TE:=λσ H Q=>∀ p,H p=none->oG Fs σ (upd H p (.dK [])) λps H2=>H2 p=some (.dK [])/\∃ kvs:!(Key×V),ps=kvs.map (λkv=>(kV kv.1,kv.2))/\kvs.length<=15/\Q (.ref p) (upd H2 p (.dK (gy [] kvs)))
theorem xp{X:Cx}{pos:Pos}{keys:!(Option Cl)}{values:!Cl}{Fs:!(TE×TE)}(h:N6 X pos keys values Fs)(Bf:keys.all (·.isSome)=true)(hl:keys.length=values.length)(h0:keys≠[])(K5:keys.length<=15):PE X (.Dict keys values pos) (Gx Fs):=by
 intro TW s σ H Q I q;have hn:=I.bx.fresh (We ↑s);have I1:=I.laid (a:=↑s) (o:=.dK []) (h':=s.heap.push { cls:=.type "dict",data:=.dict #v[] }) (t':=s.toks) (λ_ _ q=>V9 _ q) (We _) (kI s.heap I.big);show wpAny_Dict_walk (knd:=cC X.prog X.w) Bf hl h0 K5 (b3 (h TW _ σ _ _ I1 (q _ hn)) λws s2 z6q=>?_);let(ps,H2,I2,rel,e,kvs,ep,lk,q2):=z6q;subst ep;let(rs,c,rk):=nX (P:=X.prog) (w:=X.w) rel;let(z,hd,vs0,r0,dd):=xT I2.bx e;cases r0;show#[rs,c,dd,λh' dd' hs=>#[.ref ↑s,_,?_,U,q2]];have hz:(gy [] kvs).length<=FB:=by
  have h1:=jJ kvs [];rw[List.length_nil] at h1;rw[sizeLine_eq];cbv
 have he:∃ q,h'.get? ↑s=some q:=let #[q,_,_,hq,_]:=dd';#[q,hq];exact nO I2 (by rw[e];exact True.intro) hs he (rT hz hd (rk.merge .nil) dd')
section
variable{X:Cx}{TW:X8}{σ:St}{H:Hp}{s:Da}{a:AC}{y d:V}{u r:AT}{o:Option V}{A:Fr}{E:X7}
end
section
variable{X:Cx}{o e f:Cl}{apos cX:Pos}{td ty tx:TE}
end
section
variable{X:Cx}{TW:X8}{σ:St}{H:Hp}{s:Da}{a:AC}{kvs:!(Key×V)}{A:Fr}{E:X7}
end
section
variable{X:Cx}{TW:X8}{σ:St}{H:Hp}{s:Da}{a:AC}{y:V}{u:AT}{A:Fr}{E:X7}
end
end L2
namespace UT
open PySem PySem.W PySem.Calls PyProof.Rows
theorem m8{P:TD}{h:EQ}:∀ (ns:!Int) (vs:!AT),WellAll P h vs (ns.map WData.int)->IntsAre vs ns:=by
 intro ns
 induction ns with
 | nil =>
  intro vs w;rw[WR] at w;cases w;exact .nil
 | cons n ns ih =>
  intro vs w;rw[Wj] at w;cases w with
  | cons a b =>
   cases a;exact .cons _ _ (ih _ b)
theorem zl{l:OpenLaw}{n:Nat}(hn:l.most=some n){P:TD}{h:EQ}{args:!WData}{vals:!AT}(yE:l.row.toRowW.claim.pre args=true)(p7:WellAll P h vals args) :
  ∃ a vs ns,vals=[AT.ref a]/\args=[WData.list (ns.map WData.int)]/\h.get? a=some { cls:=.type "list",data:=.seq vs.toArray }/\IntsAre vs ns/\ns.length<=n:=by
 have hsh:WShape.hasAll [] args [.list .int]=true:=(pre_splitW yE).1;have hc:l.pre.holds [] { args:=args }=true:=(pre_splitW yE).2;let(d,r,rfl,h1,h2):=hasAllW_cons hsh;obtain rfl:=hasAllW_nil h2;let(xs,rfl,h3):=hasW_list h1;let(ns,rfl):=items_int h3;have hlen:ns.length<=n:=by
  unfold OpenLaw.pre at hc;have h4:(WTm.not (.lt (.lit (.int (n:Int))) (.len (.arg 0)))).holds [] { args:=[.list (ns.map .int)] }=true:=by
   have h4:=(holds_andW hc).1;rw[hn] at h4;exact h4
  have h5:=condW_of h4 (w_not (w_lt w_lit (w_len_list (w_arg U))));rw[V8] at h5;show Nat.le_of_not_lt λq=>?_;have q':(n:Int) < ((ns.length:Nat):Int):=by cbv
  first
   | (rw[decide_eq_true q'] at h5;exact absurd h5 ())
   | (simp at h5;cbv)
 cases p7 with
 | cons w1 w2 =>
  cases w2;cases w1 with
  | list ho Bf=>exact#[_,_,ns,U,U,ho,m8 ns _ Bf,hlen]
theorem zp(l:OpenLaw)(args:!WData):l.row.toRowW.claim.post args (.bool true) args=true :=
 postW_of (r:=l.row.toRowW) (X:=(true == true))
  (show WShape.has [] (.bool true) .bool=true by first | rfl | decide | simp[WShape.has,WShape.arms,WShape.armsAll])
  (show (WTm.eq .res (.lit (.bool true))).value [] { args:=args,res:=some (.bool true),after:=args }=some (.bool (true == true)) from w_eq_bool (w_res U) w_lit) U
theorem ux{l:OpenLaw}{n:Nat}{q:GE}{loose:!Str}{XP:(Str->Option AT)->EQ->Prop}{YP:Fa->EQ->Prop}{d:DefRec}(hn:l.most=some n)(Mv:d.params.defaults=[])(call:∀ (w:Fa) (s₀ s₁:Da) (mg mb:Str->Option AT) (fa:AC) (o:Obj) (pm cd doc:AT) (a:AC) (vs:!AT) (ns:!Int),
   Ground q loose [] XP w s₀ mg mb s₁.heap->YP w s₁.heap ->
   s₁.heap.get? fa=some o->o.data=.func (docDef d.name d.params d.body d.scope pm cd doc)->s₁.heap.CodeRec cd d.name->mg d.name=some (.ref fa) ->
   s₁.heap.get? a=some { cls:=.type "list",data:=.seq vs.toArray }->IntsAre vs ns->ns.length<=n->s₁.gens=#v[] ->
   codeAny (model l.prog w) callerA (.call (.ref fa) #[[.ref a],[]]) (λr s'=>r=.ok (.ret (.bool true))/\OldK s₁.heap s'.heap/\s'.os=s₁.os/\AllBare s'.gens) s₁) :
  WalkO q loose XP YP l.row.toRowW d [] (λf vs=>PySem.call f vs):=by
 intro w s₀ s₁ mg mb G Y fa o pm cd doc dV kV ho hd sW hD hmg hg args vals as yE hlay hrd p7 hlo;obtain rfl:dV=.none:=Dflts.none hD Mv;obtain rfl:kV=.none:=Dflts.noKw hD;let(a,vs,ns,rfl,rfl,hobj,hints,hlen):=zl hn yE p7;show enter_call (codeAny_mono (call w s₀ s₁ mg mb fa o pm cd doc a vs ns G Y ho (fd_plain hd) sW hmg hobj hints hlen hg) λr s' hq=>?_);let(rfl,h2,h3,h4):=hq;exact#[.inl #[.bool true,.bool true,[],U,λ_=>rfl,.bool true,zp l _,λ_=>#[List.Pairwise.nil,λ_ hm=>(nomatch hm)]],h2,h3,h4]
section
variable{prog:GE}{w:Fa}{A:Fr}{E:X7}{s:Da}{K:Frag}
end
end UT
namespace L2
open PySem PySem.Spec PyProof.Rows
theorem qH:∀ {vs:!AT} {ns:!Int},IntsAre vs ns->Vals (ns.map V.int) vs
 | _,_,.nil=>.nil
 | _,_,.cons n t h=>.cons #[t,U] (qH h)
def IT(H:Hp):Prop:=∀ b,H b=none\/∃ o xs,H b=some (.iJ o (.lst xs))
theorem Ae{P:GE}{w:Fa}{K:Frag}{mg mb:Str->Option AT}{CX:wU}{k:Nat}{fa a:AC}{fd:Go}{x:Str}{sp:Sp}{s₁:Da}{vs:!AT}{ns:!Int}(KX:K.In s₁.heap)(oh:s₁.heap.Ns GM mg)(hb:s₁.heap.Ns builtinsNs mb)(VL:∀ x:Str,x≠"__name__"->mb x=bootBuiltins x)(Sn:s₁.heap.NoLimit)(hg:s₁.gens=#v[])(ha:s₁.heap.get? a=some { cls:=.type "list",data:=.seq vs.toArray })(hi:IntsAre vs ns)(hl:ns.length<=FB)(hr:bO k callerA)(F:∀ base:EQ,K.In base->base.Ns GM mg->bP P w K mg base CX k fa fd [x] sp)(QQ:∀ (s:Da) (u:AT),BindsTo s fd #[[u],[]] [(x,u)])(Gz:∀ H:Hp,IT H->d8 K H a (ns.map V.int)->sp [.ref a] H (λv _=>v=.bl true) λ_ _ _=>False)(RU:∀ H e s',CX [] H s₁ (λ_ _ _=>False) e s'->False) :
  codeAny (model P w) callerA (.call (.ref fa) #[[.ref a],[]]) (λr s'=>r=.ok (.ret (.bool true))/\OldK s₁.heap s'.heap/\s'.os=s₁.os/\AllBare s'.gens) s₁:=by
 have rv:=qH hi;have lenV:=hi.length
 -- from an abstract heap in which nothing but the script may be tracked
 have core:∀ H:Hp,IT H->d8 K H a (ns.map V.int)->ko P w H s₁.heap->(∀ b,H b≠none->b=a)->(H a≠none->K.lookup a=none) ->
   codeAny (model P w) callerA (.call (.ref fa) #[[.ref a],[]]) (λr s'=>r=.ok (.ret (.bool true))/\OldK s₁.heap s'.heap/\s'.os=s₁.os/\AllBare s'.gens) s₁:=by
  intro H hO hS bx hA hK;have base_of:∀ {b:AC} {o:Obj},s₁.heap.get? b=some o->H b=none->(sj s₁.heap H).get? b=some o:=λe n=>CY e n;have noA:∀ {b:AC} {o:Obj} {es:Array SZ} {ep:Nat},s₁.heap.get? b=some o->o.data=.dict es ep->H b=none:=λ{b o es ep} e d=>by
   cases q:H b with
   | none=>rfl
   | some u =>
    have e':b=a:=hA b (by rw[q];simp);subst e';rw[ha] at e;cases e;have d':Data.seq vs.toArray _=Data.dict es ep:=d;cases d'
  have nsK:∀ {b:AC} {m:Str->Option AT},s₁.heap.Ns b m->(sj s₁.heap H).Ns b m:=λ{b m} #[o,es,ep,e,d,r]=>#[o,es,ep,base_of e (noA e d),d,r];have hKb:K.In (sj s₁.heap H):=λb o e=>base_of (KX b o e) (by
   cases q:H b with
   | none=>rfl
   | some u =>
    have e':b=a:=hA b (by rw[q];simp);subst e';rw[hK (by rw[q];simp)] at e;cases e)
  have hM:Mod K mg (sj s₁.heap H):=#[hKb,nsK oh,#[mb,nsK hb,VL],let #[mc,h1,h2]:=Sn;#[mc,nsK h1,h2]];have e0:w9 P w K mg (sj s₁.heap H) callerA [] s₁ H:=#[U,hM,λb o e=>Em e,Nat.le_of_eq (yV _ _),trivial,λb hb=>absurd (show b∈([]:!AC) from hb) (by simp),bx,.of_eq hg];show codeAny_mono ((F _ hKb (nsK oh)).run callerA [] s₁ H #[[.ref a],[]] [.ref a] [.ref a] _ _ hr e0 (QQ s₁ (.ref a)) (.cons U .nil) (Gz H hO hS)) λr s' h=>?_;cases r with
  | error e=>exact (RU H e s' h).elim
  | ok fl =>
   cases fl with
   | next=>exact False.elim h
   | brk=>exact False.elim h
   | cont=>exact False.elim h
   | ret u =>
    let(v,H',os,bare,un,hok',r',q):=h;have q':v=.bl true:=q;subst q';obtain rfl:u=AT.bool true:=r';show#[U,OldK.of_keep λb o e=>?_,os,bare];cases q:H b with
    | none=>exact un.keep b o e q (by intro z;exact absurd (show b∈([]:!AC) from z) (by simp)) (by simp)
    | some u =>
     rcases hO b with z | ⟨ob,xs,z⟩
     .rw[q] at z;cases z
     .have z2:=un.tD b ob _ z;let(e1,_):=bx b _ z;let(e2,_):=hok' b _ z2;rw[e] at e1;cases e1;exact e2
 cases hk:K.lookup a with
 | some o =>
  -- the script is one of the module's own objects
  have e:=KX a o hk;rw[ha] at e;cases e;show core (λ_=>none) (λ_=>.inl U) (.inr #[_,vs.toArray,_,hk,U,U,U,by rw[List.size_toArray,lenV];exact hl,by simpa using rv]) (λb u z=>by have z':(none:Option HO)=some u:=z;cases z') (λb z=>absurd U z) λz=>absurd U z
 | none =>
  show core (λb=>if b=a then some (.iJ { cls:=.type "list",data:=.seq vs.toArray } (.lst (ns.map V.int))) else none) (λb=>?_) (.inl (.inr #[{ cls:=.type "list",data:=.seq vs.toArray },if_pos U])) (λb u z=>?_) (λb z=>?_) λ_=>hk
  .by_cases hb:b=a
   .exact .inr #[_,_,if_pos hb]
   .exact .inl (if_neg hb)
  .by_cases hb:b=a
   .have z':=(if_pos hb).symm.trans z;cases z';subst hb;exact#[ha,by rw[V8];exact hl,vs,_,rv,ha]
   .have z':=(if_neg hb).symm.trans z;cases z'
  .by_cases hb:b=a
   .exact hb
   .exact absurd (if_neg hb) z
theorem ER{l:PySem.W.OpenLaw}{n k:Nat}{q:GE}{loose:!Str}{XP:(Str->Option AT)->EQ->Prop}{YP:Fa->EQ->Prop}{d:DefRec}{K:TD->Frag}{CX:Fa->wU}{sp:Fa->Sp}{x:Str}(hn:l.most=some n)(Gh:n<=FB)(Mv:d.params.defaults=[])(hr:bO k callerA)(hY:∀ (w:Fa) (h:EQ),YP w h->(K w.params).In h)(F:∀ (w:Fa) (mg:Str->Option AT) (fa:AC) (h:EQ),(K w.params).In h->h.Ns GM mg->mg d.name=some (.ref fa) ->
   ∃ fd:Go,(∀ (s:Da) (u:AT),BindsTo s fd #[[u],[]] [(x,u)]) /\
    ∀ base:EQ,(K w.params).In base->base.Ns GM mg->bP l.prog w (K w.params) mg base (CX w) k fa fd [x] (sp w))(Gz:∀ (w:Fa) (H:Hp) (a:AC) (ns:!Int),ns.length<=n->IT H->d8 (K w.params) H a (ns.map V.int)->sp w [.ref a] H (λv _=>v=.bl true) λ_ _ _=>False)(RU:∀ (w:Fa) (H:Hp) (s:Da) (e:AT) (s':Da),CX w [] H s (λ_ _ _=>False) e s'->False) :
  PySem.W.WalkO q loose XP YP l.row.toRowW d [] (λf vs=>PySem.call f vs):=by
 show UT.ux hn Mv λw s₀ s₁ mg mb fa o pm cd doc a vs ns G Y ho hd sW hmg hobj hints hlen hg=>?_;have KX:=hY w _ Y;let(fd,hb,hF):=F w mg fa _ KX G.T.g hmg;exact Ae KX G.T.g G.T.b G.T.builtins G.T.nolimit hg hobj hints (Ws hlen Gh) hr hF hb (λH hO hS=>Gz w H a ns hlen hO hS) λH e s'=>RU w H s₁ e s'
def inClass(s:Ev)(j:Nat):Ev:=match s with
 | .ClassDef _ _ _ body _ _ _ _ _ _ _=>body.getD j (.Pass #[0,0,0,0])
 | _=>.Pass #[0,0,0,0]
def bR(s:Ev):Arguments:=match s with
 | .FunctionDef _ a _ _ _ _ _ _ _ _=>a
 | _=>{ posonlyargs:=[],args:=[],vararg:=none,kwonlyargs:=[],kw_defaults:=[],kwarg:=none,defaults:=[] }
def aL(s:Ev):!Ev:=match s with
 | .FunctionDef _ _ b _ _ _ _ _ _ _=>b
 | _=>[]
def ai(s:Ev):Scope:=match s with
 | .FunctionDef _ _ _ _ _ _ sc _ _ _=>sc
 | _=>{ kind:=.function,names:=[],isGenerator:=false,isCoroutine:=false }
abbrev aR:wU:=λ_ _ _ _ _ _=>False
abbrev E0:XK:=λ_ _ _=>False
theorem hV{X:Cx}:Passes aR X E0:=λ_ _ _ _ _ _ _ h=>h.elim
structure tL(K:Frag)(x qual:Str)(st:Ev)(f:AC)(fd:Go):Prop where
 ex:∃ (oc:AT) (od:Option AC) (kV doc pm:AT) (an:Option AC) (bh ct:AT) (Dn:Array (Option AT)),
  fd=fnOf x qual (bR st) (aL st) (ai st) .none kV doc pm an bh ct/\K.lookup f=some #[oc,od,.func fd,Dn]/\codeIn K bh qual=true
 kp:keepIn K (.ref f)=true
section
variable{P:GE}{w:Fa}{K:Frag}{mg:Str->Option AT}{base:EQ}
theorem tL.ok{x qual:Str}{st:Ev}{f:AC}{fd:Go}{N ps:!Str}{k:Nat}{sp:Sp}(F:tL K x qual st f fd)(S:av N ps (ai st))(len:∀ vs H Q E,sp vs H Q E->vs.length=ps.length)(CT:∀ (bh:AT) (A:Fr) (outer:!Env) (s:Da) (H:Hp) (vs:!V) (Q:VK) (E:XK),bO k (A.deeper (envOfC qual (ai st) ↑s f bh))->sp vs H Q E ->
   ∃ t,nK (iT aR P w K mg base N qual (ai st) f bh A outer s H E).wD (aL st) t/\t { nx:=λ_ H'=>Q .bT H',rt:=Q } (start N vs) H):bP P w K mg base aR (k+1) f fd ps sp:=by
 let(oc,od,kV,doc,pm,an,bh,ct,Dn,rfl,lk,sW):=F.ex;show MD lk sW S len λA outer s H vs Q E hr Gz=>?_;let(t,h,q):=CT bh A outer s H vs Q E hr Gz;exact#[t,h.wD,q]
theorem tL.binds{x qual:Str}{st:Ev}{f:AC}{fd:Go}{ps:!Str}(F:tL K x qual st f fd)(h:∀ (kV doc pm:AT) (an:Option AC) (bh ct:AT) (us:!AT),us.length=ps.length->bindArgs (fnOf x qual (bR st) (aL st) (ai st) .none kV doc pm an bh ct) #[us,[]]=pure (ps.zip us)):Binds K fd ps []:=by
 let(oc,od,kV,doc,pm,an,bh,ct,Dn,rfl,lk,sW):=F.ex;exact .all (h kV doc pm an bh ct)
theorem eC{x qual:Str}{st:Ev}{f:AC}{oc:AT}{od an:Option AC}{Dn:Array (Option AT)}{kV doc pm bh ct:AT}(l:K.lookup f=some #[oc,od,.func (fnOf x qual (bR st) (aL st) (ai st) .none kV doc pm an bh ct),Dn])(c:codeIn K bh qual=true)(k:keepIn K (.ref f)=true):tL K x qual st f (fnOf x qual (bR st) (aL st) (ai st) .none kV doc pm an bh ct):=#[#[oc,od,kV,doc,pm,an,bh,ct,Dn,U,l,c],k]
end
theorem aQ{A:Fr}{k:Nat}(hr:bO k A):A.units+1 < cLine:=Nat.lt_of_le_of_lt (Nat.add_le_add_left (by decide:1<=64) _) hr.units
section
variable{X:Cx}
theorem pv(i:Nat){x:Str}{pos:Pos}(hN:(X.N[i]?=some x)⁻¹)(hv:Lh X.env.scope x:=by first | exact Or.inl U | exact Or.inr (Or.inl U) | exact Or.inr (Or.inr U))(hd: ~~~(Yc x))(sW: ~~~((x == ("__classdict__":Str))=false)):PE X (.Name x pos) (bN i):=w8 hN hv hd sW
end
theorem sP{A B:Prop}(h:B):if false=true then A else B:=by
 rw[if_neg Wm];exact h
theorem oC{A B:Prop}(h:A):if true=true then A else B:=by
 rw[if_pos U];exact h
theorem Ii{c A B:Prop}[Decidable c](h1:c->A)(h2:¬ c->B):if c then A else B:=by
 by_cases h:c
 .rw[if_pos h];exact h1 h
 .rw[if_neg h];exact h2 h
def fw(H H':Hp):Prop:=∀ b o,H b=some o->H' b=some o
theorem fw.trans{H H1 H2:Hp}(a:fw H H1)(b:fw H1 H2):fw H H2:=λc o h=>b c o (a c o h)
theorem fw.free{H H':Hp}(e:fw H H'){l:AC}(h:H' l=Option.none):H l=Option.none:=by
 cases q:H l with
 | none=>rfl
 | some o =>
  rw[e l o q] at h;cases h
theorem fw.seq{K:Frag}{H H':Hp}{a:AC}{xs:!V}(e:fw H H')(h:d8 K H a xs):d8 K H' a xs:=by
 rcases h with (h | ⟨o,h⟩) | h
 .exact .inl (.inl (e _ _ h))
 .exact .inl (.inr #[o,e _ _ h])
 .exact .inr h
section
variable{X:Cx}
end
section
variable{κ:Type}[DecidableEq κ]
theorem DV{kvs:!(κ×V)}{k:κ}{v:V}(h:gb kvs k=some v):k∈kvs.map (·.1):=by
 have q:(kvs.any λkv=>decide (kv.1=k))=true:=by
  rw[k8,h]
  all_goals rfl
 let(p,hp,e):=XE.mp q;exact Wk.mpr #[p,hp,of_decide_eq_true e]
end
def gc(env:Env):!(Str×IN)->!(Str×AC)->!(Str×AC)
 | [],acc=>acc
 | (n,k)::r,acc=>if k == .free then gc env r ((n,(env.cells.lookup n).getD 0)::acc) else gc env r acc
def lE(env:Env)(x:Str×IN)(cs:!(Str×AC)):Sem (ForInStep (!(Str×AC))) :=
 if x.2 == .free then do
  let a <- cellOf env x.1
  pure (ForInStep.yield ((x.1,a)::cs))
 else pure (ForInStep.yield cs)
theorem mj{env:Env}:∀ (l:!(Str×IN)) (acc:!(Str×AC)),(∀ x∈l,x.2=.free->(env.cells.lookup x.1).isSome=true) ->
  (forIn l acc (lE env):Sem (!(Str×AC)))=pure (gc env l acc)
 | [],acc,_=>rfl
 | (n,k)::r,acc,h=>by
  have ih:=λacc'=>mj (env:=env) r acc' λx hx=>h x (Wd _ hx);rw[List.forIn_cons];by_cases hk:k=.free
  .subst hk;let(c,hc):=Xg.mp (h (n,.free) Wg U);have e:cellOf env n=pure c:=by
    unfold cellOf;rw[hc]
   have e2:lE env (n,IN.free) acc=pure (ForInStep.yield ((n,c)::acc)):=by
    change (if (IN.free == IN.free)=true then (cellOf env n >>= λa=>pure (ForInStep.yield ((n,a)::acc))) else pure (ForInStep.yield acc))=_;rw[if_pos (),e]
    rfl
   have e3:gc env ((n,IN.free)::r) acc=gc env r ((n,c)::acc):=by
    change (if (IN.free == IN.free)=true then gc env r ((n,(env.cells.lookup n).getD 0)::acc) else gc env r acc)=_;rw[if_pos (),hc]
    rfl
   rw[e2,e3,<- ih]
   rfl
  .have hb:(k == IN.free)=false:=by simpa using hk
   have e2:lE env (n,k) acc=pure (ForInStep.yield acc):=by
    change (if (k == IN.free)=true then (cellOf env n >>= λa=>pure (ForInStep.yield ((n,a)::acc))) else pure (ForInStep.yield acc))=_;rw[if_neg (by simp[hb])]
   have e3:gc env ((n,k)::r) acc=gc env r acc:=by
    change (if (k == IN.free)=true then gc env r ((n,(env.cells.lookup n).getD 0)::acc) else gc env r acc)=_;rw[if_neg (by simp[hb])]
   rw[e2,e3,<- ih]
   rfl
theorem jO{scope:Scope}{env:Env}(h:∀ x∈scope.names,x.2=.free->(env.cells.lookup x.1).isSome=true):closureFor scope env=pure (gc env scope.names []):=by
 rw[<- mj scope.names [] h];unfold closureFor;have:(λ(x:Str×IN) (r:!(Str×AC))=>lE env x r)=lE env:=rfl
 first
  | (simp only[lE];rfl)
  | (show (forIn scope.names [] _ >>= λr=>pure r)=_;rw[bind_pure];rfl)
  | rfl
theorem iL{env:Env}{x:Str}{c:AC}:∀ {l:!(Str×IN)} {acc:!(Str×AC)},(∀ y∈l,y.2=.free->(env.cells.lookup y.1).isSome=true) ->
  (gc env l acc).lookup x=some c->env.cells.lookup x=some c\/acc.lookup x=some c
 | [],acc,_,h=>.inr h
 | (n,k)::r,acc,hl,h=>by
  have hl':=λy hy=>hl y (Wd _ hy);unfold gc at h;by_cases hk:k=.free
  .subst hk;rw[if_pos ()] at h;let(d,hd):=Xg.mp (hl (n,.free) Wg U);rw[hd] at h;rcases iL hl' h with q | q
   .exact .inl q
   .rw[Xn] at q;cases e:x == n with
    | true =>
     rw[e] at q;have e':x=n:=eq_of_beq e;subst e';left;rw[hd];exact q
    | false =>
     rw[e] at q;exact .inr q
  .rw[if_neg (by simpa using hk)] at h;exact iL hl' h
theorem nY{env:Env}{x:Str}:∀ {l:!(Str×IN)} {acc:!(Str×AC)},(acc.lookup x).isSome=true->((gc env l acc).lookup x).isSome=true
 | [],acc,h=>h
 | (n,k)::r,acc,h=>by
  unfold gc;split
  .refine nY ?_;rw[Xn];cases e:x == n with
   | true=>rfl
   | false=>exact h
  .exact nY h
theorem oj{env:Env}{x:Str}:∀ {l:!(Str×IN)} {acc:!(Str×AC)},(x,IN.free)∈l->((gc env l acc).lookup x).isSome=true
 | (n,k)::r,acc,h=>by
  unfold gc;rcases Wu.mp h with e | h'
  .cases e;rw[if_pos ()];exact nY (by rw[Xn,beq_self_eq_true];rfl)
  .split<;>exact oj h'
def Sj(env:Env)(x:Str×IN):Str×IN:=if (x.2 == IN.free&&env.scope.kind == .function&&env.kindOf x.1 == some .cell)=true then (x.1,IN.cell) else (x.1,x.2)
theorem oa{env:Env}{x:Str}{k:IN}:∀ {names:!(Str×IN)},(names.map (Sj env)).lookup x=some k->names.lookup x=some k\/(names.lookup x=some .free/\k=.cell)
 | [],h=>by simp at h
 | (n,k0)::r,h=>by
  have ih:=@oa env x k r;rw[Wj] at h;by_cases hc:(k0 == IN.free&&env.scope.kind == .function&&env.kindOf n == some .cell)=true
  .have e:Sj env (n,k0)=(n,IN.cell):=if_pos hc;rw[e,Xn] at h;rw[Xn];cases e:x == n with
   | true =>
    rw[e] at h;have hk:k0=.free:=by
     rw[WU,WU] at hc;exact eq_of_beq hc.1.1
    subst hk;right;exact#[U,(WC h).symm]
   | false =>
    rw[e] at h;exact ih h
  .have e:Sj env (n,k0)=(n,k0):=if_neg hc;rw[e,Xn] at h;rw[Xn];cases e:x == n with
   | true =>
    rw[e] at h;exact .inl h
   | false =>
    rw[e] at h;exact ih h
theorem fY{env:Env}{x:Str}{scope:Scope}{k:IN}(h:(relabel scope env).names.lookup x=some k) :
  scope.names.lookup x=some k\/(scope.names.lookup x=some .free/\k=.cell):=oa (env:=env) h
section
variable{prog:GE}{w:Fa}{A:Fr}{R:Result->Da->Prop}{s:Da}
theorem tX{elt target iter:Cl}{ifs:!Cl}{scope:Scope}{pos:Pos}{it acc:AT}{env:Env}(I:Nat->Da->Prop)(turn:∀ n s,I n s->Db (model prog w) A (pyNext it) (λr s₁=>match r with
   | none=>R (.ok .next) s₁
   | some v=>Db (model prog w) A (letOwnedTupleGo target it v) (λ_ s₁'=>Db (model prog w) A (assign target env v) (λ_ s₂ =>
     Db (model prog w) A (forIn ifs true λc r=>if r=true then do let ok <- isTrue c env (eval c env);pure (ForInStep.yield ok) else pure (ForInStep.yield r)) (λok s₃ =>
      if ok=true then Db (model prog w) A (eval elt env) (λx s₄ =>
       Db (model prog w) A (call (.builtin "list.append") [acc,x]) (λ_ s₅=>∃ m,m < n/\I m s₅) (notedBy (model prog w) A env λe s'=>R (.error e) s') s₄) (notedBy (model prog w) A env λe s'=>R (.error e) s') s₃
      else ∃ m,m < n/\I m s₃) (notedBy (model prog w) A env λe s'=>R (.error e) s') s₂) (notedBy (model prog w) A env λe s'=>R (.error e) s') s₁') (notedBy (model prog w) A env λe s'=>R (.error e) s') s₁)
   (notedBy (model prog w) A env λe s'=>R (.error e) s') s)(n:Nat)(h:I n s) :
  codeAny (model prog w) A (.compLoop (.ListComp elt [#[target,iter,ifs,0]] scope pos) 0 it acc env) R s:=by
 show codeAny_loop U I (λn s hI=>?_) n h;change Db _ A ((compTurn (.ListComp elt [#[target,iter,ifs,0]] scope pos) 0 it acc env).onRaise (λx=>do noteFrame x env;theTreesLotGoes x)) _ _ s;show wpAny_noted ?_;rw[compTurn_list];show Ch (wpAny_standAt (Ch (Os (turn n s hI) (λr s₁ h₁=>?_) λ_ _ h'=>h')));cases r with
 | none=>exact FS h₁
 | some v =>
  show Ch (Os h₁ (λ_ s₁' h₁'=>?_) λ_ _ h'=>h');show Ch (Os h₁' (λ_ s₂ h₂=>Ch (Os h₂ (λok s₃ h₃=>?_) λ_ _ h'=>h')) λ_ _ h'=>h');cases ok with
  | false=>exact FS #[U,h₃]
  | true =>
   exact Ch (Ch (Os h₃ (λx s₄ h₄=>Ch (Os h₄ (λ_ s₅ h₅=>FS (FS #[U,h₅])) λ_ _ h'=>h')) λ_ _ h'=>h'))
end
def lift(nt:Nat)(us:!Nat)(σ:St):St:=List.replicate nt none++us.map λj=>(σ[j]?).join
def vt(ts:!Str)(us:!Nat)(N:!Str):!Str:=ts++us.map λj=>N.getD j ""
def Cx.comp(X:Cx)(ts:!Str)(us:!Nat)(scope:Scope)(C:AC)(s:Da)(H:Hp)(fp:!AC):Cx :=
 { X with N:=vt ts us X.N,s₀:=s,H₀:=H,env:=compEnvC scope (gc X.env scope.names []) C X.env,outer:=X.stack,ex:=fp,fn:=λ_=>false,pn:=[],xe:=λ_ _=>False }
def K6(X:Cx)(ifs:!Cl)(t:TT):Prop :=
 ∀ (TW:X8) (s:Da) (σ:St) (H:Hp) (Q:Bool->Hp->Prop),Inv X TW σ H s->t σ H Q ->
  Db (model X.prog X.w) X.A (forIn ifs true λc r=>if r=true then do let ok <- isTrue c X.env (eval c X.env);pure (ForInStep.yield ok) else pure (ForInStep.yield r)) (TP X TW σ Q) X.xe s
def FP:TT:=λ_ H Q=>Q true H
theorem ye{X:Cx}:K6 X [] FP:=λ_ _ _ H _ I h=>wpAny_tests_nil #[H,I,h]
theorem xS{X:Cx}{c:Cl}{t:TT}(hc:PT X c t):K6 X [c] t:=λTW s σ H Q I h=>wpAny_tests_one (hc TW s σ H Q I h)
structure bD(X:Cx)(ts:!Str)(us:!Nat)(scope:Scope):Prop where
 kind:scope.kind=.function
 JQ:(scope.names.all λx=>x.2 != .cell)=true
 loc:(scope.names.all λx=>x.2 != .local||scope.names.lookup x.1 == some .local)=true
 free:(scope.names.all λx=>x.2 != .free||(X.env.cells.lookup x.1).isSome)=true
 Q5:(ts.all λx=>scope.names.lookup x == some .local)=true
 Vq:(us.all λj=>match X.N[j]? with | some x=>scope.names.lookup x == some .free&&(X.env.kindOf x == some .cell||X.env.kindOf x == some .free) | none=>false)=true
section
variable{X:Cx}{ts:!Str}{us:!Nat}{scope:Scope}
theorem bD.nc(S:bD X ts us scope):∀ x∈scope.names,x.2≠.cell:=λx hx e=>by
 have q:=Xo.mp S.JQ x hx;rw[e] at q;exact absurd q ()
theorem bD.lc(S:bD X ts us scope):∀ x∈scope.names,x.2=.local->scope.names.lookup x.1=some .local:=λx hx e=>by
 have q:=Xo.mp S.loc x hx;rw[e] at q;have q':(scope.names.lookup x.1 == some .local)=true:=by simpa using q
 exact eq_of_beq q'
theorem bD.fr(S:bD X ts us scope):∀ x∈scope.names,x.2=.free->(X.env.cells.lookup x.1).isSome=true:=λx hx e=>by
 have q:=Xo.mp S.free x hx;rw[e] at q;simpa using q
theorem bD.LA(S:bD X ts us scope){j:Nat}(hj:j∈us):∃ x,X.N[j]?=some x/\scope.names.lookup x=some .free/\(X.env.kindOf x=some .cell\/X.env.kindOf x=some .free):=by
 have q:=Xo.mp S.Vq j hj;cases e:X.N[j]? with
 | none=>rw[e] at q;exact absurd (show false=true from q) Wm
 | some x =>
  rw[e] at q;have q:(scope.names.lookup x == some .free&&(X.env.kindOf x == some .cell||X.env.kindOf x == some .free))=true:=q;rw[WU,Bool.or_eq_true] at q;exact#[x,U,eq_of_beq q.1,q.2.imp eq_of_beq eq_of_beq]
theorem Cq{TW:X8}{σ:St}{H:Hp}{s:Da}{fp:!AC}{h₁:EQ}{t:Nat}{m:Str->Option AT}(S:bD X ts us scope)(I:Inv X TW σ H s)(hf:∀ b∈fp,fb X TW H b)(Dv:∀ b∈fp,b < ↑s)(oh:h₁.Ns ↑s m)(keep:∀ b o,s.heap.get? b=some o->h₁.get? b=some o) :
  Inv (X.comp ts us scope ↑s s H fp) [] (lift ts.length us σ) H { s with heap:=h₁,toks:=t }:=by
 have cl:∀ x c,(gc X.env scope.names []).lookup x=some c->X.env.cells.lookup x=some c:=λx c e=>by
  rcases iL S.fr e with q | q
  .exact q
  .simp at q
 have kd:∀ x,((relabel scope X.env).names.lookup x=some .cell\/(relabel scope X.env).names.lookup x=some .free)->scope.names.lookup x=some .free:=λx hx=>by
  rcases hx with hx | hx
  .rcases fY hx with q | q
   .exact absurd U (S.nc _ (W2 q))
   .exact q.1
  .rcases fY hx with q | q
   .exact q
   .cases q.2
 have ok:(X.comp ts us scope ↑s s H fp).Ok:=by
  show#[I.ok.mod,S.kind,I.ok.glob,I.ok.blt,We _,λx y c e1 e2=>I.ok.inj x y c (cl x c e1) (cl y c e2),λx hx=>?_,λx c e=>?_,I.ok.hd,I.ok.frames,.inl U,λb hb=>?_,I.bs,Ws I.ok.EM I.sz,λb o e hb=>?_,λb hb SN=>?_,I.stack,I.xX]
  .have q:=kd x hx;exact Xg.mp (oj (W2 q))
  .cases (show (false:Bool)=true from e)
  .let(f0,f1,f2,f3,f4,f5):=hf b hb;exact#[Ww (Dv b hb),λx c e=>f4 x c (cl x c e)]
  .let(f0,f1,f2,f3,f4,f5):=hf b hb;rcases f3 with z | z
   .exact I.ok.Al b o e z
   .exact absurd (Wz (Wh e) (Ws I.ok.EM z)) (W6 _)
  .let(f0,f1,f2,f3,f4,f5):=hf b hb;rcases Wu.mp (I.vI b SN) with z | z
   .exact f1 z
   .exact f2 z
 show#[ok,U,I.bare,Un.kept keep,#[m,oh,λi x v h1 h2 h3=>?_],λx c e=>?_,I.bx.fresh (Nat.le_refl _),λx c e=>I.ja x c (cl x c e),λp hp=>absurd (show p∈([]:X8) from hp) (by simp),I.bx.kept keep,?_]
 .have h1:(vt ts us X.N)[i]?=some x:=h1;have h2:(lift ts.length us σ)[i]?=some (some v):=h2;by_cases hi:i < ts.length
  .unfold lift at h2;rw[List.getElem?_append_left (by simpa using hi),List.getElem?_replicate] at h2;split at h2<;>cases h2
  .have Ca:ts.length<=i:=Nat.le_of_not_lt hi;unfold lift at h2;unfold vt at h1;rw[List.getElem?_append_right (by simpa using Ca),List.length_replicate,List.getElem?_map] at h2;rw[Xa Ca,WL] at h1;cases ej:us[i - ts.length]? with
   | none=>rw[ej] at h1;cases h1
   | some j =>
    rw[ej] at h1 h2;let(y,hy,hyf,hyk):=S.LA (WJ ej);have e1:X.N.getD j ""=x:=WC h1;have e2:X.N.getD j ""=y:=by rw[List.getD_eq_getElem?_getD,hy];rfl
    have exy:y=x:=e2.symm.trans e1;subst exy;have e3:(σ[j]?).join=some v:=WC h2;have e4:σ[j]?=some (some v):=by
     cases q:σ[j]? with
     | none=>rw[q] at e3;cases e3
     | some z =>
      rw[q] at e3;have:z=some v:=e3;rw[this]
    let(m0,hn0,hl0):=I.loc;have hvis:Lh X.env.scope y:=.inr hyk;let(u,r,l):=hl0 j y v hy e4 hvis;show#[u,r,?_];rcases l with ⟨k1,_⟩ | ⟨k1,c,hc,hcell⟩
    .rcases hyk with z | z
     .rw[k1] at z;cases z
     .rw[k1] at z;cases z
    .refine .inr #[?_,c,?_,?_]
     .have h3:(relabel scope X.env).names.lookup y=some .local\/(relabel scope X.env).names.lookup y=some .cell\/(relabel scope X.env).names.lookup y=some .free:=h3;rcases h3 with z | z
      .rcases fY z with q | q
       .rw[hyf] at q;cases q
       .cases q.2
      .exact z
     .let(c',hc'):=Xg.mp (oj (env:=X.env) (acc:=[]) (W2 hyf));have q:=cl y c' hc';rw[hc] at q;cases q;exact hc'
     .let(o,ho,hd):=hcell;exact#[o,keep c o ho,hd]
 .let(v,o,ho,hd):=I.cell x c (cl x c e);exact#[v,o,keep c o ho,hd]
 .show (lift ts.length us σ).length=(vt ts us X.N).length;unfold lift vt;rw[Wa,Wa,List.length_replicate,V8,V8]
def AM(σ σ':St):Prop:=∀ (i:Nat) (v:V),σ[i]?=some (some v)->σ'[i]?=some (some v)
theorem Ba{nt i:Nat}{us:!Nat}{σ:St}{x:Option V}(hi:i < nt):AM (lift nt us σ) ((lift nt us σ).set i x):=λj v e=>by
 by_cases hj:j=i
 .subst hj;unfold lift at e;rw[List.getElem?_append_left (by simpa using hi),List.getElem?_replicate] at e;split at e<;>cases e
 .rw[Wt (Ne.symm hj)];exact e
def v9(nt:Nat)(us:!Nat)(σ:St)(g:TG)(ti:TT)(te:TE)(J:It)(H1:Hp)(Q:VK):Prop :=
 ∀ D,H1 D=none->∃ W:Nat->Nat->!V->Hp->Prop,(∃ m,W 0 m [] (upd H1 D (.lst [])))/\∀ i m ys H2,W i m ys H2->H2 D=some (.lst ys) /\
  ((J.stop i H2/\Q (.ref D) H2)\/(J.go i H2/\ys.length < FB/\∀ x H3,J.Pq i H2 x H3->g x (lift nt us σ) H3 λσ4 H4=>AM (lift nt us σ) σ4/\ti σ4 H4 λb H5 =>
    if b=true then te σ4 H5 λy H6=>H6 D=some (.lst ys)/\∃ m',m' < m/\W (i+1) m' (ys++[y]) (upd H6 D (.lst (ys++[y]))) else ∃ m',m' < m/\W (i+1) m' ys H5))
def uF(nt:Nat)(us:!Nat)(wi:TI)(g:TG)(ti:TT)(te:TE):TE:=λσ H Q=>wi σ H λJ H1=>v9 nt us σ g ti te J H1 Q
theorem pj{tg elt iter:Cl}{ifs:!Cl}{pos:Pos}{g:TG}{ti:TT}{te:TE}{TW:X8}{σ:St}{H:Hp}{s:Da}{it:AC}{fp:!AC}{tn:Nat->EQ->Prop}{J:It}{Q:VK}{E:X7}{RR:AT->AC->Result->Da->Prop}(S:bD X ts us scope)(hc:X.calm=true)(I:Inv X TW σ H s)(T:Turn X.prog X.w X.K tg J fp it tn)(st:tn 0 s.heap)(hf:∀ b∈fp,fb X TW H b)(hg:∀ C s H fp,PG (X.comp ts us scope C s H fp) tg g)(AR:∀ C s H fp,K6 (X.comp ts us scope C s H fp) ifs ti)(he:∀ C s H fp,PE (X.comp ts us scope C s H fp) elt te)(q:v9 ts.length us σ g ti te J H Q)(VP:∀ D C s' H',Inv X TW σ H' s'->(∃ m,s'.heap.Ns C m)->fb X TW H' C->Q (.ref D) H'->RR (.ref D) C (.ok .next) s') :
  Db (model X.prog X.w) X.A (newList []) (λacc s₃=>Db (model X.prog X.w) X.A (newFunctionEnv scope X.env.globals (gc X.env scope.names []) [] X.env.qual none .none (some X.env)) (λcenv s₄ =>
   codeAny (model X.prog X.w) X.A (.compStart (.ListComp elt [#[tg,iter,ifs,0]] scope pos) 0 (.ref it) acc { cenv with scope:=relabel scope X.env }) (RR acc cenv.locals) s₄) E s₃) E s:=by
 show ST (wpAny_newFunctionEnv S.nc (by intro y hy;simp at hy) (λh₁ hns₁ hsb₁=>?_) S.kind);dsimp only at hns₁ hsb₁ ⊢;have I3:Inv X TW σ (upd H ↑s (.lst [])) { s with heap:=s.heap.push { cls:=.type "list",data:=.seq ([]:!AT).toArray } }:=I.MO (its:=[]) (ys:=[]) (t':=s.toks) .nil (WH _);have Dv:∀ b∈fp,b < ↑s:=λb hb=>by
  let(o,e,_):=T.obj 0 _ st b hb;exact Wh e
 have hf3:∀ b∈fp,fb X TW (upd H ↑s (.lst [])) b:=λb hb=>by
  let(f0,fr):=hf b hb;exact#[by rw[aw (Ww (Dv b hb))];exact f0,fr]
 generalize hs3:({ s with heap:=s.heap.push { cls:=.type "list",data:=.seq ([]:!AT).toArray } }:Da)=s3 at I3;have hs3h:s3.heap=s.heap.push { cls:=.type "list",data:=.seq ([]:!AT).toArray }:=by rw[<- hs3]
 have keep:∀ b o,s3.heap.get? b=some o->h₁.get? b=some o:=λb o e=>by
  rw[hs3h] at e;exact hsb₁.extBut b o (Ww (Wh e)) (V9 _ e)
 have keep0:∀ b o,s.heap.get? b=some o->h₁.get? b=some o:=λb o e=>keep b o (by rw[hs3h];exact V9 _ e);let(W,(m0,w0),turn):=q ↑s (I.bx.fresh (We _));have hC:(s.heap.push { cls:=.type "list",data:=.seq ([]:!AT).toArray }).objs.size=↑s3:=by rw[hs3h]
 have hfl3:∀ b∈fp,b < ↑s3:=λb hb=>by
  rw[hs3h,WS];exact Nat.lt_succ_of_lt (Dv b hb)
 have hns3:h₁.Ns ↑s3 (λx=>([]:!(Str×AT)).reverse.lookup x):=by rw[<- hC];exact hns₁
 have I4:∀ t,Inv (X.comp ts us scope ↑s3 s3 (upd H ↑s (.lst [])) fp) [] (lift ts.length us σ) (upd H ↑s (.lst [])) { s3 with heap:=h₁,toks:=t }:=λt=>Cq S I3 hf3 hfl3 hns3 keep;have K9:tn 0 h₁:=T.keep 0 _ _ st λb _ o e=>keep0 b o e;have loop:∀ s₄:Da,(∃ t,s₄={ s3 with heap:=h₁,toks:=t }) ->
   codeAny (model X.prog X.w) X.A (.compLoop (.ListComp elt [#[tg,iter,ifs,0]] scope pos) 0 (.ref it) (.ref ↑s) (compEnvC scope (gc X.env scope.names []) ↑s3 X.env)) (RR (.ref ↑s) ↑s3) s₄:=by
  rintro s₄ ⟨t4,rfl⟩;have stat:∀ {H':Hp},(∀ b∈fp,H' b=none)->∀ b∈fp,fb (X.comp ts us scope ↑s3 s3 (upd H ↑s (.lst [])) fp) [] H' b:=λ{H'} hn b hb=>by
   have ok:=(I4 0).ok;exact#[hn b hb,(ok.QV b hb).1,ok.A8 b hb,.inl hb,(ok.QV b hb).2,λp hp=>absurd (show p∈([]:X8) from hp) (by simp)]
  show tX (λn s'=>∃ i ys H',Inv (X.comp ts us scope ↑s3 s3 (upd H ↑s (.lst [])) fp) [] (lift ts.length us σ) H' s'/\tn i s'.heap/\(∀ b∈fp,H' b=none)/\W i n ys H') ?_ m0
   #[0,[],_,I4 t4,K9,λb hb=>(hf3 b hb).1,w0]
  rintro n s5 ⟨i,ys,H5,I5,st5,fr5,w5⟩;let(hD,hturn):=turn i n ys H5 w5;rcases hturn with ⟨stop,qn⟩ | ⟨go,hlen,step⟩
  .refine b3 (T.done (X.comp ts us scope ↑s3 s3 (upd H ↑s (.lst [])) fp) U U U hc i [] s5 (lift ts.length us σ) H5 _ I5 (stat fr5) st5 stop) λr s6 z9q=>?_;let(hr,I6):=z9q;subst hr;have I7:Inv X TW σ H5 s6:=I3.MS (ch:=fp) I6.os I6.base I6.bx I6.bare λb hb=>by
    let(f0,f1,f2,f3,f4,f5):=hf3 b hb;exact#[f3,f1,f4,f5]
   let(m6,hn6,_):=I6.loc;exact VP _ _ s6 H5 I7 #[m6,hn6] (I3.pQ (We _) I6.free) qn
  .refine b3 (T.item (X.comp ts us scope ↑s3 s3 (upd H ↑s (.lst [])) fp) U U U hc i [] s5 (lift ts.length us σ) H5 _ I5 (stat fr5) st5 go) λr s6 z0q=>?_;let(u,hr,h6):=z0q;subst hr;show b3 h6 λ_ s7 z1q=>?_;let(x,H7,I7,r7,y7,st7,fr7):=z1q;have I7':=I7.pinned (stat fr7) (T.obj _ _ st7);show Os (hg _ _ _ _ _ s7 (lift ts.length us σ) H7 x u _ I7' r7 (step x H7 y7)) (λ_ s8 #[σ8,H8,I8,kp8,q8]=>?_) λ_ _ z=>False.elim z;show Os (AR _ _ _ _ _ s8 σ8 H8 _ I8 q8) (λb s9 #[H9,I9,q9]=>?_) λ_ _ z=>False.elim z;have fin:∀ {s':Da} {H':Hp} {TJ:!V},Inv (X.comp ts us scope ↑s3 s3 (upd H ↑s (.lst [])) fp) ([]++nV fp s7.heap) σ8 H' s'->(∃ m',m' < n/\W (i+1) m' TJ H') ->
     ∃ m,m < n/\∃ i ys H',Inv (X.comp ts us scope ↑s3 s3 (upd H ↑s (.lst [])) fp) [] (lift ts.length us σ) H' s'/\tn i s'.heap/\(∀ b∈fp,H' b=none)/\W i m ys H':=λ{s' H' TJ} J' z2q=>by
    let(m',hm,w'):=z2q;show#[m',hm,i+1,TJ,H',J'.la.weak ?_ kp8,T.keep _ _ _ st7 λb hb o e=>(J'.pin (b,o) (WD _ (WD _ (iD hb e)))).1,λb hb=>?_,w']
    .rw[J'.len,I7.len]
    .let(o,e,d):=T.obj _ _ st7 b hb;exact (J'.pin (b,o) (WD _ (WD _ (iD hb e)))).2.1
   cases b with
   | false =>
    rw[if_neg Wm] at q9 ⊢;exact fin I9 q9
   | true =>
    rw[if_pos U] at q9 ⊢;show Os (he _ _ _ _ _ s9 σ8 H9 _ I9 q9) (λyv s10 #[y,H10,I10,r10,hD10,q10]=>?_) λ_ _ z=>False.elim z;show Os (l5 (X:=X.comp ts us scope ↑s3 s3 (upd H ↑s (.lst [])) fp) _ s10 σ8 H10 (.ref ↑s) [y] (.ref ↑s) [yv] (λ_ H'=>∃ m',m' < n/\W (i+1) m' (ys++[y]) H') I10 U (.cons r10 .nil) #[_,ys,y,U,U,hD10,hlen,q10]) (λ_ s11 #[_,H11,I11,_,q11]=>?_) λ_ _ z=>False.elim z;exact fin I11 q11
 have e4:({ s with heap:=h₁,toks:=s.toks+([]:!(Str×AT)).length }:Da)={ s3 with heap:=h₁,toks:=s.toks+([]:!(Str×AT)).length }:=by rw[<- hs3]
 first
  | (rw[e4,hC];exact codeAny_compStart_list (loop _ #[_,rfl]) (T.self _ 0 _ _ _ K9 (loop _ #[_,rfl])))
  | (have L4:=codeAny_compStart_list (elt:=elt) (target:=tg) (iter:=iter) (ifs:=ifs) (rest:=[]) (scope:=scope) (pos:=pos) (loop _ #[s.toks+([]:!(Str×AT)).length,U]) (T.self _ 0 _ _ _ K9 (loop _ #[s.toks+([]:!(Str×AT)).length,U]))
     subst hs3;exact L4)
theorem yu{tg elt iter:Cl}{ifs:!Cl}{pos:Pos}{wi:TI}{g:TG}{ti:TT}{te:TE}(S:bD X ts us scope)(hc:X.calm=true)(hi:PI X tg iter wi)(hg:∀ C s H fp,PG (X.comp ts us scope C s H fp) tg g)(AR:∀ C s H fp,K6 (X.comp ts us scope C s H fp) ifs ti)(he:∀ C s H fp,PE (X.comp ts us scope C s H fp) elt te)(hs:Ye iter X.env:=by intro _;rfl):PE X (.ListComp elt [#[tg,iter,ifs,0]] scope pos) (uF ts.length us wi g ti te):=by
 intro TW s σ H Q I h;rw[eval_ListComp];show wpAny_comprehension_free (use:=none) U hs (jO S.fr) S.kind S.lc (b3 (hi TW s σ H _ I h) λv s1 h1=>b3 h1 λQS s2 h2=>?_);let(it,fp,tn,J,H2,e,I2,T,FZ,f2,q):=h2;subst e;show pj (RR:=λacc C=>compPost (model X.prog X.w) X.A X.xe none (EP X TW σ Q) acc C) S hc I2 T FZ f2 hg AR he q ?_;intro D C s' H' I' hn F q';let(m,hn):=hn;let(f0,f1,f2,f3,f4,f5):=F;show#[m,hn,λh' sb=>?_];have I8:Inv X TW σ H' { s' with heap:=h' }:=I'.turned (t':=s'.toks) (λb o hb e=>(sb.2 b hb).trans e) f0 f1 f3 f4 f5;exact#[.ref D,H',I8,U,q']
theorem xo{i:Nat}{x:Str}{tg elt iter:Cl}{ifs:!Cl}{pos px BG:Pos}{wi:TI}{g:TG}{ti:TT}{te:TE}(hN:X.N.Nodup)(Ca:X.N[i]?=some x)(hx:X.env.scope.names.lookup x=some .local)(S:bD X ts us scope)(hc:X.calm=true)(hi:PI X tg iter wi)(hg:∀ C s H fp,PG (X.comp ts us scope C s H fp) tg g)(AR:∀ C s H fp,K6 (X.comp ts us scope C s H fp) ifs ti)(he:∀ C s H fp,PE (X.comp ts us scope C s H fp) elt te)(Lr:(swapsWith (.ListComp elt [#[tg,iter,ifs,0]] scope pos) (some (.Name x px)) BG.line X.env=pure true)⁻¹)(hs:Ye iter X.env:=by intro _;rfl):PS X (.Assign [.Name x px] (.ListComp elt [#[tg,iter,ifs,0]] scope pos) BG) (jE (uF ts.length us wi g ti te) (ef i)):=by
 intro TW s σ H D I h;rw[exec_Assign_Name_used _ _ _ _ Lr];show Ch (wpAny_standAt (Ch ?_));change Db _ _ (do let _ <- comprehension (.ListComp elt [#[tg,iter,ifs,0]] scope pos) scope X.env _ (newList []) false (eval iter X.env) (some (assign (.Name x px) X.env))) _ _ s;show Ch (Os (wpAny_comprehension_free (use:=some (assign (.Name x px) X.env)) (Q:=λ_ s'=>SP X TW D .next s') U hs (jO S.fr) S.kind S.lc
  (b3 (hi TW s σ H _ I h) λv s1 h1=>b3 h1 λQS s2 h2=>?_)) (λ_ s' hq=>FS (FS hq)) λ_ _ e=>e)
 let(it,fp,tn,J,H2,e,I2,T,FZ,f2,q):=h2;subst e;show pj (RR:=λacc C=>compPost (model X.prog X.w) X.A X.xe (some (assign (.Name x px) X.env)) (λ_ s'=>SP X TW D .next s') acc C) S hc I2 T FZ f2 hg AR he q ?_;intro L C s' H' I' hn F q';let(m,hn):=hn;let(f0,f1,f2,f3,f4,f5):=F;change Db _ _ (assign (.Name x px) X.env (.ref L)) _ _ s';show wpAny_assign_Name (rj I' hN Ca (.inl hx) (v:=.ref L) U (λFy I'' hsb=>?_) (.inr hx));let(a,sb,ha):=hsb;have vD:C≠a:=by
  rcases ha with z | z
  .rw[z];exact f1
  .exact λw=>f4 x a z w.symm
 show#[m,hn.sameBut sb vD,λh' sb'=>?_];have I8:Inv X TW (σ.set i (some (.ref L))) H' { Fy with heap:=h' }:=I''.turned (t':=Fy.toks) (λb o hb e=>(sb'.2 b hb).trans e) f0 f1 f3 f4 f5;exact#[_,H',I8,q']
end
end L2
namespace PySem
open Sem (wp)
namespace F
theorem yG:typeLookup (.type "list_reverseiterator") "__len__"=pure none:=by rw[typeLookup_type,builtinLookup_eq_fast];kernel_rfl
theorem C6:typeLookup (.type "list_reverseiterator") "__length_hint__"=pure (some (.builtin "list_reverseiterator.__length_hint__")):=by rw[typeLookup_type,builtinLookup_eq_fast];kernel_rfl
end F
section
variable{prog:GE}{w:Fa}{A:Fr}{E:X7}{s:Da}
theorem rW{R:Result->Da->Prop}{I:AC}{fp wr:!AC}{n:Nat}{P:Nat->AT->Prop}{St:Nat->EQ->Prop}(W:Walks prog w A.in1 I fp wr n P St)(hT:∀ i h,St i h->∃ o,h.get? I=some o/\o.cls=.type "list_reverseiterator")(S:AC)(res:AT)(c₀:Nat)(gn:St 0 s.heap)(UN:S∉fp)(hI:I∈fp)(hS:s.heap.get? S=some { cls:=.type "list",data:=.seq #v[] c₀ })(hR:∀ h' tk acc' c',(∀ b o,b≠S->b∉wr->s.heap.get? b=some o->h'.get? b=some o)->h'.get? S=some { cls:=.type "list",dict:=none,data:=.seq acc' c',slots:=#v[] } ->
   ItemsOf P acc' n->R (.ok (.ret res)) { s with heap:=h',toks:=tk })(hn:n<=FB) :
  Db (model prog w) A.in1 (Fk.List.listExtendWith (.ref S) (.ref I) res)
   (λfin s'=>match fin with | .done f=>R (.ok f) s' | .again c'=>c'.quiet=true/\codeAny (model prog w) A c' R s') (λe s'=>R (.error e) s') s:=by
 have hSI:S≠I:=λe=>UN (e▸hI);have hTs:s.TypeIs (.ref I) "list_reverseiterator":=hT 0 _ gn;unfold Fk.List.listExtendWith;show Ch (wpAny_typeOf hTs ?_);have h1:Fk.List.listSameRef (.ref S) (.ref I)=false:=by simp[Fk.List.listSameRef,hSI]
 have h2:(AT.type "list_reverseiterator" == AT.type "list")=false:=by decide
 have h3:(AT.type "list_reverseiterator" == AT.type "tuple")=false:=by decide
 simp only[h1,h2,h3,Bool.or_false,Bool.false_eq_true,if_false];show Ch (W.self 0 _ _ _ gn ?_);show Ch (NE ?_);unfold Fk.List.listLengthHint;show Ch (wpAny_specialOf hTs F.yG ?_);change Db _ A.in1 (specialOf (AT.ref I) (Str.ofString "__length_hint__") >>= _) _ _ _;show Ch (wpAny_specialOf hTs F.C6 ?_);generalize hid:("list_reverseiterator.__length_hint__":String)=id0
 wp_delta
 rw[show splitId id0=some ("list_reverseiterator","__length_hint__") from by subst hid;decide+kernel];subst hid;show Ch (wpAny_isInstance (b:=true) hTs (by rw[isSubtype_type];kernel_rfl) ?_);show FS ?_;rw[if_neg ()];show FS #[plainId_quiet F.plain_extend_loop _,codeAny_extend_loopS W.toS hn _ UN _ n 0 _ _ _ U (WH _) gn hS (ItemsOf.nil P) λs' acc' c' hm hS' hacc=>?_];rw[Moved.eq_with hm];show hR s'.heap s'.toks acc' c' (λb ob hb hw e=>hm.heap b ob (λhmem=>?_) e) hS' hacc;rcases Wu.mp hmem with e' | hmem
 .exact hb e'
 .exact hw hmem
theorem nk{Q:X7}(hh:A.handled=none){I l:AC}{items:Array AT}(vD:l≠I)(hit:s.heap.IsRevIter I l ((items.size:Int) - 1))(hl:s.heap.IsList l items)(hQ:∀ h' tk acc' c',(∀ b o,b≠I->s.heap.get? b=some o->h'.get? b=some o)->h'.get? ↑s=some { cls:=.type "list",dict:=none,data:=.seq acc' c',slots:=#v[] } ->
   ItemsOf (λi v=>items[items.size - 1 - i]?=some v) acc' items.size->Q (.ref ↑s) { s with heap:=h',toks:=tk })(hn:items.size<=FB) :
  Db (model prog w) A (call (.type "list") [.ref I]) Q E s:=by
 have hIlt:I < ↑s:=by let(o,e,_):=hit;exact Wh e
 have hllt:l < ↑s:=by let(o,e,_):=hl;exact Wh e
 show callType_codes (Q₁:=λobj s₁=>obj=.ref ↑s/\s₁={ s with heap:=s.heap.push { cls:=.type "list",data:=.seq #v[] } }) F.called_list (F.typeCall_list_1 _) F.entry_list_init
  (code_list_new _ #[U,U]) λobj s₁ h₁=>?_
 let(rfl,rfl):=h₁;have hS:(s.heap.push { cls:=.type "list",data:=.seq #v[] }).get? ↑s=some { cls:=.type "list",data:=.seq #v[] }:=Wl _ U;show#[#[_,hS,U],F.args_list_init_2 _ _,?_];change Db _ _ (do let old <- Fk.List.listItems (.ref ↑s);Fk.List.listUpdate (.ref ↑s) (λ_=>#v[]);letGo old.toList.reverse;Fk.List.listExtendWith (.ref ↑s) (.ref I) .none) _ _ _;show Ch ?_;unfold Fk.List.listItems;show Ch (PP hS U (FS ?_));change Db _ _ (updateSeq ↑s (λ_=>#v[]) >>= λ_=>letGo (#v[]:Array AT).toList.reverse >>= λ_=>Fk.List.listExtendWith (.ref ↑s) (.ref I) .none) _ _ _;show Ch (wpAny_updateSeq hS U ?_);have hS₂:=WX (Obj.mapSeq (λ_=>(#v[]:Array AT))) hS U;have oth:∀ b o,b≠↑s->s.heap.get? b=some o->((s.heap.push { cls:=.type "list",data:=.seq #v[] }).update ↑s (Obj.mapSeq (λ_=>(#v[]:Array AT)))).get? b=some o :=
  λb o hb e=>(W0 _ _ (Ne.symm hb)).trans (V9 _ e)
 show Ch (wpAny_letGo ?_);have W:=Walks.listRev (prog:=prog) (w:=w) (A:=A.in1.in1) hh I l vD items;show rW (A:=A.in1) W (λi h st=>let #[o,e,c,_]:=st.2.1;#[o,e,c]) ↑s .none _ ?_ ?_ (by simp) hS₂ (λh' tk acc' c' kp e hacc=>?_) hn
 .refine#[WH _,?_,?_]
  .have e0:(items.size:Int) - 1 - ((0:Nat):Int)=(items.size:Int) - 1:=by cbv
   rw[e0];exact hit.at λo e=>oth I o (Ww hIlt) e
  .exact hl.at λo e=>oth l o (Ww hllt) e
 .intro hm;rcases Wu.mp hm with e | hm
  .exact absurd e (Xq hIlt)
  .exact absurd (Wn.mp hm) (Xq hllt)
 .exact#[U,hQ h' tk acc' c' (λb o hb eb=>kp b o (Nat.ne_of_lt (EQ.lt_size eb)) (by simpa using hb) (oth b o (Nat.ne_of_lt (EQ.lt_size eb)) eb)) e hacc]
end
end PySem
namespace L2
open PySem PySem.Spec PyProof.Rows
section
variable{X:Cx}{tg:Cl}
end
section
variable{X:Cx}
def uC(K:Frag)(te:TE):TE:=λσ H Q=>te σ H λx H1=>∃ a xs,x=.ref a/\d8 K H1 a xs/\∀ l,H1 l=none->Q (.ref l) (upd H1 l (.lst xs.reverse))
theorem zy{items acc:Array AT}(h:ItemsOf (λi v=>items[items.size - 1 - i]?=some v) acc items.size):acc.toList=items.toList.reverse:=by
 let(h1,h2):=h;apply List.ext_getElem?;intro i;by_cases hi:i < items.size
 .have Ca:i < acc.size:=by cbv
  have e:acc[i]?=some acc[i]:=by simp[Ca]
  have:=h2 i _ e;rw[List.getElem?_reverse (by simpa using hi)];rw[XA,e,Array.length_toList,XA];rw[<- this]
 .rw[List.getElem?_eq_none (by simpa using (by cbv:acc.size<=i)),List.getElem?_eq_none (by simpa using (by cbv:items.size<=i))]
theorem wk{e:Cl}{te:TE}{p p2 pos j4:Pos}(hc:X.calm=true)(MP:Gl X "list")(pY:X.mg "list"=none)(Vg:Gl X "reversed")(VX:X.mg "reversed"=none)(he:PE X e te)(hs:(GT [.Call (.Name "reversed" p2) [e] [] j4] X.env=[(false,eval (.Call (.Name "reversed" p2) [e] [] j4) X.env)])⁻¹)(oX:(GT [e] X.env=[(false,eval e X.env)])⁻¹) :
  PE X (.Call (.Name "list" p) [.Call (.Name "reversed" p2) [e] [] j4] [] pos) (uC X.K te):=by
 intro TW s σ H Q I h;show wpAny_Call_Name_kw (ib I MP pY PyProof.Rows.boot_list ?_ () ());show PyProof.Rows.callWith_type1 ?_ hs U;rw[hs];change Db _ _ (spliced ((false,eval (.Call (.Name "reversed" p2) [e] [] j4) X.env)::IR pos [])) _ _ s;show Calls.spliced_cons ?_;show wpAny_Call_Name_kw (ib I Vg VX PyProof.Rows.boot_reversed ?_ () ());show PyProof.Rows.callWith_type1 ?_ oX U;rw[oX];change Db _ _ (spliced ((false,eval e X.env)::IR j4 [])) _ _ s;show Calls.spliced_cons (b3 (he TW s σ H _ I h) λu s1 z3q=>?_);let(x,H1,I1,r1,a,xs,ex,hq,q):=z3q;subst ex;cases r1;show Calls.spliced_nil ?_;let(its,rv,pl,hz):=I1.list hq;have hp:a < ↑s1:=by let(o,_,e,_):=pl;exact Wh e
 have hlen:=rv.length;show call_reversed_list pl.isList ?_;show Calls.spliced_nil ?_;have I2:Inv X TW σ H1 { s1 with heap:=s1.heap.push (revObj a ((its.toArray.size:Int) - 1)) }:=I1.kept (t':=s1.toks) λb o e=>V9 _ e;show nk (I.ok.hd hc) (items:=its.toArray) (Ww hp) #[_,Wl _ U,U,U] (pl.isList.push _) (λh' tk acc' c' kp e hacc=>?_) (by rw[Wx];cbv);have e2:=zy hacc;have F:fb X TW H1 ↑s1:=I1.pQ (We _) (I1.bx.fresh (We _));let(f0,f1,f2,f3,f4,f5):=F;have hk:∀ b o,s1.heap.get? b=some o->h'.get? b=some o:=λb o eb=>kp b o (Ww (Wh eb)) (V9 _ eb);show#[.ref _,_,I1.laid (t':=tk) (h':=h') (o:=.lst xs.reverse) hk (by rw[WS];exact XZ _) ?_,U,q _ (I1.bx.fresh (by rw[WS];exact XZ _))];show#[by rw[List.length_reverse];exact hz,acc'.toList,c',?_,by simpa using e];rw[e2];simpa using rv.reverse
theorem vZ{ys:!Str}:∀ {us:!AT},Vals (ys.map V.str) us->StrsAre us ys:=by
 induction ys with
 | nil=>intro us r;rw[WR] at r;cases r;exact .nil
 | cons n ns ih =>
  intro us r;rw[Wj] at r;cases r with
  | cons r1 r2 =>
   let(t,e):=r1;subst e;exact .cons n t (ih r2)
def rJoin(K:Frag):V->!V->Hp->VK->Prop:=λx vs H Q=>∃ (z:Str) (p:AC) (zs:!Str),x=.str z/\vs=[.ref p]/\d8 K H p (zs.map V.str)/\(zs.map (·.length)).sum+zs.length * z.length<=16777216/\Q (.str (Txt.join z zs)) H
theorem DB:Qy X "str.join" (rJoin X.K):=by
 intro TW s σ H x vs v us Q I rx rv h;let(z,p,zs,rfl,rfl,hq,hz,q):=h;let(t,rfl):=rx;let(u,rfl,ru):=rv.one;cases ru;let(its,r,pl,_):=I.list hq;exact PyProof.Rows.join_list pl.isList (by simpa using vZ r) hz λt' k=>#[.str _,H,I.tok k,#[t',U],q]
def SF:V->Option Int->Option Int->Hp->VK->Prop:=λx lo hi H Q=>∃ z,x=.str z/\z.length<=FB/\Q (.str (Txt.slice z lo hi)) H
theorem IH:OL X SF:=by
 intro TW s σ H x v vl vu lo hi sl Q I rx hs pl pu h;let(z,rfl,hz,q):=h;let(t,rfl):=rx;show#["str",_,F.slot_str_getitem.lookup,typeIs_str _ _ _,?_];have fin:∀ t' k,EP X TW σ Q (.str (Txt.slice z lo hi) t') { s with toks:=k }:=λt' k=>#[.str _,H,I.tok k,#[t',U],q];cases pl with
 | none =>
  cases pu with
  | none=>exact wpAny_getItem_str_slice (l:=none) (u:=none) (st:=none) hs U (post_val_or_str #[Ws (Txt.slice_le z _ _) hz,fin])
  | int j uj=>exact wpAny_getItem_str_slice (l:=none) (u:=some (j,uj)) (st:=none) hs U (post_val_or_str #[Ws (Txt.slice_le z _ _) hz,fin])
 | int i ui =>
  cases pu with
  | none=>exact wpAny_getItem_str_slice (l:=some (i,ui)) (u:=none) (st:=none) hs U (post_val_or_str #[Ws (Txt.slice_le z _ _) hz,fin])
  | int j uj=>exact wpAny_getItem_str_slice (l:=some (i,ui)) (u:=some (j,uj)) (st:=none) hs U (post_val_or_str #[Ws (Txt.slice_le z _ _) hz,fin])
theorem nP:jC X (SC .Mult) (λx y H Q=>∃ z n,x=.str z/\y=.int n/\MulOk z n/\Q (.str (Txt.mul z n)) H):=by
 intro TW s σ H x y v u Q I rx ry h;let(z,n,rfl,rfl,ok,q):=h;let(t,rfl):=rx;let(t',rfl):=ry;exact SB.mul ok λt' k=>#[.str _,H,I.tok k,#[t',U],q]
def HZ(K:Frag)(te:TE):TE:=λσ H Q=>te σ H λx H1=>∃ a xs,x=.ref a/\d8 K H1 a xs/\∀ l,H1 l=none->Q (.ref l) (upd H1 l (.lst xs.reverse))
theorem Ab{e st:Cl}{te:TE}{p2 pos:Pos}(he:PE X e te)(gn:PE X st (tC (.int (-1)))):PE X (.Subscript e (.Slice none none (some st) p2) pos) (HZ X.K te):=by
 intro TW s σ H Q I h;show Subscript_ (b3 (he TW s σ H _ I h) λv s1 #[x,H1,I1,r1,a,xs,ex,hq,q]=>?_);subst ex;cases r1;show wpAny_Slice ?_;rw[evalPart_none];show FS ?_;show FS ?_;rw[evalPart_some];show b3 (gn TW s1 σ H1 (λx H'=>x=.int (-1)/\H'=H1) I1 #[U,U]) λu s2 #[x,H2,I2,r2,ex,eH]=>?_;subst ex eH;let(t,rfl):=r2;let(its,r,ht,hz):=I2.list hq;have hlen:=r.length;have I3:Inv X TW σ H2 { s2 with heap:=s2.heap.push { cls:=.type "slice",data:=.fields #v[.none,.none,.int (-1) t] } }:=I2.kept (t':=s2.toks) λb ob q=>V9 _ q;change Db (model X.prog X.w) X.A (subscriptTail e (.Slice none none (some st) p2) (.ref a) (.ref ↑s2)) (EP X TW σ Q) X.xe { s2 with heap:=s2.heap.push { cls:=.type "slice",data:=.fields #v[.none,.none,.int (-1) t] } };show tail_any (ops:=[.ref a,.ref ↑s2]) (ht.isList.push _).typeIs slot_list_getitem.lookup ?_ (by with_unfolding_all rfl);show wpAny_getItem_list_slice (ht.isList.push _) (EQ.IsSliceOf.new ..) .none .none (.int (-1) t) () ?_ (by rw[Wx];cbv);rw[PySem.W.krv_pick];show#[.ref _,_,I3.laid (t':=s2.toks) (o:=.lst xs.reverse) (λb ob q=>V9 _ q) (We _) ?_,U,q _ (I3.bx.fresh (We _))];exact#[by rw[List.length_reverse];exact hz,_,0,by simpa using r.reverse,EQ.get?_push_size _ U]
end
theorem Rr{H:Hp}{a:AC}{o u:HO}:upd (upd H a o) a u=upd H a u:=lg
theorem jM{K:Frag}{nt:Nat}{us:!Nat}{σ:St}{ti:TT}{te:TE}{a:AC}{xs:!V}{H1:Hp}{Q:VK}(p:V->Bool)(f:V->V)(hx:d8 K H1 a xs)(hz:xs.length<=FB)(Q7:0 < nt)(hp:∀ x∈xs,∀ (H:Hp) (k:Bool->Hp->Prop),k (p x) H->ti ((lift nt us σ).set 0 (some x)) H k)(he:∀ x∈xs,p x=true->∀ (H:Hp) (k:VK),k (f x) H->te ((lift nt us σ).set 0 (some x)) H k)(hQ:∀ D,H1 D=none->Q (.ref D) (upd H1 D (.lst ((xs.filter p).map f)))):v9 nt us σ (ef 0) ti te (JC K a) H1 Q:=by
 intro D hD;have hS:∀ ys,d8 K (upd H1 D (.lst ys)) a xs:=λys=>fw.seq (λb o e=>by rw[aw (aE e hD)];exact e) hx;show#[λi m ys H2=>i<=xs.length/\m=xs.length - i/\ys=((xs.take i).filter p).map f/\H2=upd H1 D (.lst ys),#[xs.length,Nat.zero_le _,by simp,by simp,U],?_];rintro i m ys H2 ⟨hi,rfl,rfl,rfl⟩;show#[aA,?_];by_cases gE:i < xs.length
 .refine .inr #[#[xs,xs[i],hS _,by simp[gE]],?_,?_]
  .rw[V8];have h1:=WY p (xs.take i);rw[Xl] at h1;cbv
  .rintro x H3 ⟨rfl,hy⟩;have hc':xs[i]?=some x:=hy xs (hS _);have hm:=WJ hc';show#[Ba Q7,hp x hm _ _ ?_];cases e:p x with
   | true =>
    rw[if_pos U];show he x hm e _ _ #[aA,xs.length - (i+1),by cbv,gE,U,?_,Rr];rw[List.take_add_one,hc',List.filter_append,Wc];simp[e]
   | false =>
    rw[if_neg Wm];show#[xs.length - (i+1),by cbv,gE,U,?_,U];rw[List.take_add_one,hc',List.filter_append,Wc];simp[e]
 .have e:i=xs.length:=by cbv
  subst e;show .inl #[#[xs,hS _,We _],?_];have:=hQ D hD;rw[List.take_of_length_le (We _)];exact this
theorem fw.upd{H:Hp}{a:AC}{o:HO}(h:H a=none):fw H (upd H a o):=λb u e=>by rw[aw (aE e h)];exact e
theorem fw.NQ{H H':Hp}{a:AC}{o:HO}(s:fw H H')(h:H a=none):fw H (L2.upd H' a o):=λb u e=>by rw[aw (aE e h)];exact s b u e
section
variable{X:Cx}
theorem tQ{j p pos}:PE X (.UnaryOp .USub (.Constant (.int 1) j p) pos) (tC (.int (-1))):=λTW s σ H Q I h=>Ng Kn bQ TW s σ H Q I #[1,U,h]
def xY:!Cl->!Str
 | []=>[]
 | .Constant (.str x) _ _::r=>x::xY r
 | _=>[]
def tY:!Cl->Bool
 | []=>true
 | .Constant (.str _) _ _::r=>tY r
 | _=>false
def Qa(zs:!Str):TA:=λ_ H Q=>Q (zs.map V.str) H
theorem xt:∀ {es:!Cl},tY es=true->PA X es (Qa (xY es))
 | [],h=>l8
 | e::r,h=>by
  cases e with
  | Constant c j pos =>
   cases c with
   | str x=>exact fC dJ (xt (es:=r) h)
   | _=>cases h
  | _=>cases h
def As:Ev->!Cl
 | .Assign _ (.List es _) _=>es
 | .Assign _ (.BinOp _ _ (.List es _) _) _=>es
 | _=>[]
def rep1:Ev->!Cl->Ev
 | .Assign t (.List _ p) q,es=>.Assign t (.List es p) q
 | .Assign t (.BinOp a o (.List _ p) r) q,es=>.Assign t (.BinOp a o (.List es p) r) q
 | s,_=>s
def yF:Ev:=.Pass #[0,0,0,0]
def MW(b:!Ev)(i:Nat)(es:!Cl):!Ev:=b.set i (rep1 (b.getD i yF) es)
end
end L2
namespace PySem
open Sem (wp)
section
variable{prog:GE}{w:Fa}{A:Fr}{E:X7}{h:EQ}{g:Array GenState}{d:Drawn}{t:Nat}{os:OsState}
variable{nm q:Str}{C N:AC}{bs bm V3:!AT}{Vo:Bool}{sn:!Str}{sub:!AT}{ab:Bool}{col:Option Bool}{dd:Option AC}{k0 k1 k2 k3 k5:Option AT}{B Bn newId V6 TX V7:String}{V5:!AT}
end
section
variable{M:Model}{A:Fr}{E:X7}{s:Da}
end
end PySem
namespace L2
open PySem PySem.Spec PyProof.Rows
section
variable{P:GE}{w:Fa}{H:Hp}{h:EQ}{ea C d:AC}{dd:Option AC}{fr:Bool}{fs:!(Str×V)}
end
section
variable{X:Cx}{TW:X8}{σ:St}{H:Hp}{s:Da}{C f:AC}{k:Nat}{fd:Go}{ps:!Str}{sp:Sp}{x:Str}{p pos:Pos}{e:Cl}{es:!Cl}{t:TA}
end
section
variable{X:Cx}{TW:X8}{σ:St}{H:Hp}{s:Da}{ea C d:AC}{dd:Option AC}{fr:Bool}{fs:!(Str×V)}{f:Str}{v:V}{A:Fr}{E:X7}
end
section
variable{K:Frag}
end
section
variable{X:Cx}{TW:X8}{σ:St}{H:Hp}{s:Da}{ea C d:AC}{dd:Option AC}{fr:Bool}{fs:!(Str×V)}{f:Str}{v:V}{A:Fr}{E:X7}
end
section
variable{X:Cx}{TW:X8}{σ:St}{H:Hp}{s:Da}{ea C T:AC}{dd:Option AC}{fr:Bool}{A:Fr}{E:X7}{h':EQ}
end
section
variable{X:Cx}{TW:X8}{σ:St}{H:Hp}{s s':Da}{ea C T:AC}{dd:Option AC}{E:XK}{e:AT}
end
section
variable{P:GE}{w:Fa}{K:Frag}{mg:Str->Option AT}{base:EQ}{N:!Str}{qual:Str}{scope:Scope}{f:AC}{cd:AT}{A:Fr}{outer:!Env}{s:Da}{H:Hp}{E E':XK}
end
section
variable{X:Cx}{TW:X8}{σ:St}{H:Hp}{s:Da}{ea C:AC}{dd:Option AC}{fr:Bool}
end
section
variable{X:Cx}{TW:X8}{σ:St}{H:Hp}{s:Da}{ev:AT}
end
section
variable{P:GE}{w:Fa}{K:Frag}{mg:Str->Option AT}{base:EQ}
end
section
variable{X:Cx}
def Gm(i j:Int):Prop:=0 < j/\j < 9223372036854775808
theorem c8:jC X (SC .FloorDiv) (rI Gm λi j=>.int (i / j)):=QW λi j _ _ _ _ _ hc q=>by
 have h1:(0:Int) < j:=hc.1;have h2:j < 9223372036854775808:=hc.2;show floordiv_int (by cbv) (by rw[Int.fdiv_eq_ediv_of_nonneg i (by cbv)];exact q) (.inl (PyProof.noPylong_of_log2 ?_));have h3:j.natAbs < 2 ^ 63:=by
  have:(2:Nat) ^ 63=9223372036854775808:=by decide
  cbv
 have h4:j.natAbs.log2 < 63:=(Nat.log2_lt (by cbv)).mpr h3;cbv
end
end L2
namespace cR
open PySem L2
abbrev kS:Key:=Sum.inr "seed"
abbrev kN:Key:=Sum.inr "number"
abbrev kL:Key:=Sum.inr "left"
theorem sn:¬ kS=kN:=by decide+kernel
theorem sl:¬ kS=kL:=by decide+kernel
theorem nl:¬ kN=kL:=by decide+kernel
def cO(a b:Int)(l:AC):!(Key×V):=[(kS,.int a),(kN,.int b),(kL,.ref l)]
theorem Ah(a b:Int)(l:AC):gb (cO a b l) (kS)=some (.int a):=fQ U
theorem vU(a b:Int)(l:AC):gb (cO a b l) (kN)=some (.int b):=by
 unfold cO;rw[dQ sn];exact fQ U
theorem Br(a b:Int)(l:AC):gb (cO a b l) (kL)=some (.ref l):=by
 unfold cO;rw[dQ sl,dQ nl];exact fQ U
theorem Cs(a b c:Int)(l:AC):putK (cO a b l) (kS) (.int c)=cO c b l:=by
 unfold cO putK;simp only[List.any_cons,List.any_nil,List.map_cons,List.map_nil,decide_true,Bool.true_or,if_true,if_neg (Ne.symm sn),if_neg (Ne.symm sl)]
theorem wM(a b c:Int)(l:AC):putK (cO a b l) (kN) (.int c)=cO a c l:=by
 unfold cO putK;simp only[List.any_cons,List.any_nil,List.map_cons,List.map_nil,decide_true,Bool.true_or,Bool.or_true,if_true,if_neg sn,if_neg (Ne.symm nl)]
theorem G3(a b:Int)(l:AC):gy [] (cO a b l)=cO a b l:=by
 have e1:putK [] kS (V.int a)=[(kS,V.int a)]:=kC _ o9;have e2:putK [(kS,V.int a)] kN (V.int b)=[(kS,V.int a),(kN,V.int b)]:=kC _ (by rw[dQ sn];exact o9);have e3:putK [(kS,V.int a),(kN,V.int b)] kL (V.ref l)=[(kS,V.int a),(kN,V.int b),(kL,V.ref l)]:=kC _ (by rw[dQ sl,dQ nl];exact o9);unfold gy cO;simp only[List.foldl_cons,List.foldl_nil];rw[e1,e2,e3]
section
variable{H:Hp}{d l:AC}{a b:Int}
theorem o3(h:H d=some (.dK (cO a b l))):gR H d (.str "seed") (some (.int a)):=by
 have q:=gR.k (k:=kS) h;rw[Ah] at q;exact q
theorem pL(h:H d=some (.dK (cO a b l))):gR H d (.str "number") (some (.int b)):=by
 have q:=gR.k (k:=kN) h;rw[vU] at q;exact q
theorem u9(h:H d=some (.dK (cO a b l))):gR H d (.str "left") (some (.ref l)):=by
 have q:=gR.k (k:=kL) h;rw[Br] at q;exact q
theorem yD{c:Int}(h:H d=some (.dK (cO a b l))):lV H d (.str "seed") (.int c) (upd H d (.dK (cO c b l))):=by
 have q:=lV.k (k:=kS) (v:=.int c) h (by change 3 < FB;decide);rw[Cs] at q;exact q
theorem mU{c:Int}(h:H d=some (.dK (cO a b l))):lV H d (.str "number") (.int c) (upd H d (.dK (cO a c l))):=by
 have q:=lV.k (k:=kN) (v:=.int c) h (by change 3 < FB;decide);rw[wM] at q;exact q
end
structure At(H:Hp)(d l:AC):Prop where
 ex:∃ (a b:Int) (ns:!Int),H d=some (.dK (cO a b l))/\H l=some (.lst (ns.map V.int))/\0<=a/\a < 2147483647/\0<=b/\∀ n∈ns,0<=n
def Lg(d l:AC)(H H':Hp):Prop:=∀ c o,H c=some o->c≠d->c≠l->H' c=some o
theorem Lg.refl(d l:AC)(H:Hp):Lg d l H H:=λ_ _ h _ _=>h
theorem At.ne{H:Hp}{d l:AC}(h:At H d l):d≠l:=by
 let(a,b,ns,h1,h2,r):=h.ex;exact Gv h1 h2 (by intro z;cases z)
def wH:Sp:=λvs H Q _=>∃ (d l:AC) (m:Int),vs=[.ref d,.int m]/\At H d l/\0 < m/\m < 9223372036854775808/\∀ (r:Int) (H':Hp),0<=r->r < m->At H' d l->Lg d l H H'->Q (.int r) H'
def xk(K:Frag):Sp:=λvs H Q _=>∃ (a:AC) (ns:!Int) (base:Int),vs=[.ref a,.int base]/\d8 K H a (ns.map V.int)/\ns.length<=63/\0<=base/\base < 1000000/\∀ (d l:AC) (H':Hp),H d=none->H l=none->At H' d l->fw H H'->Q (.ref d) H'
section
variable{P:GE}{w:Fa}{K:Frag}{mg:Str->Option AT}{base:EQ}
abbrev nD:!Str:=["_law_deal_here","_law_many","_law_number","_law_one","_law_other"]
def uW:TS :=
 oi (jE (kJ (bN 0) (tC (.str "number"))) (ef 2))
  (oi (OX (qz (iW (ua λi j=>.bl (decide (j < i))) (bN 2) (tC (.int 0))))
    (oi (qQ (bN 0) (tC (.str "number")) (iW (rI Gm λi j=>.int (i / j)) (bN 2) (bN 1))) (DR (iW (rI (λ_ j=>0 < j) λi j=>.int (i % j)) (bN 2) (bN 1)))) FD)
  (oi (jE (iW (rI (λ_ j=>0 < j) λi j=>.int (i % j)) (iW (ua λi j=>.int (i+j)) (iW (rI tW λi j=>.int (i * j)) (kJ (bN 0) (tC (.str "seed"))) (tC (.int 48271))) (tC (.int 7919))) (tC (.int 2147483647))) (ef 3))
  (oi (qQ (bN 0) (tC (.str "seed")) (iW (rI (λ_ j=>0 < j) λi j=>.int (i % j)) (iW (ua λi j=>.int (i+j)) (iW (rI tW λi j=>.int (i * j)) (bN 3) (tC (.int 40692))) (tC (.int 104729))) (tC (.int 2147483399))))
  (oi (jE (iW (rI (λ_ j=>0 < j) λi j=>.int (i % j)) (iW (rI tW λi j=>.int (i * j)) (kJ (bN 0) (tC (.str "seed"))) (kJ (bN 0) (tC (.str "seed")))) (tC (.int 2147483563))) (ef 4))
  (DR (iW (rI (λ_ j=>0 < j) λi j=>.int (i % j)) (iW (ua λi j=>.int (i+j)) (iW (rI tW λi j=>.int (i * j)) (iW (rI (λ_ j=>0 < j) λi j=>.int (i % j)) (iW (rI tW λi j=>.int (i * j)) (bN 3) (bN 3)) (tC (.int 2147483629))) (tC (.int 2147483563))) (bN 4)) (bN 1)))))))
def Nd(K:Frag):TS :=
 oi (Cb (Nj (qz (iW TM (kJ (bN 0) (tC (.str "number"))) (tC (.int 0)))) (qz (iW (ua λi j=>.bl (decide (j < i))) (Hb (λxs H Q=>∃ p ys,xs=[.ref p]/\(d8 K H p ys\/jx K H p ys)/\Q (.int ys.length) H) (vB (kJ (bN 0) (tC (.str "left"))) De)) (tC (.int 0)))))
  (qQ (bN 0) (tC (.str "number")) (NL K "list" IJ (kJ (bN 0) (tC (.str "left")))))) uW
theorem En{st:Ev}{f:AC}{fd:Go}(F:tL K "_law_draw" "_law_draw" st f fd)(sc:av nD ["_law_deal_here","_law_many"] (ai st))(hb:∀ (bh:AT) (A:Fr) (outer:!Env) (s:Da) (H:Hp) (E:XK),(A.deeper (PyProof.Rows.envOfC "_law_draw" (ai st) ↑s f bh)).units+1 < cLine ->
   nK (iT aR P w K mg base nD "_law_draw" (ai st) f bh A outer s H E).wD (aL st) (Nd K)) :
  bP P w K mg base aR 1 f fd ["_law_deal_here","_law_many"] wH:=by
 show F.ok sc (λvs H Q E h=>?_) (λbh A outer s H vs Q E hr h=>?_)
 .let(d,l,m,rfl,_):=h
  rfl
 .let(d,l,m,rfl,D,hm,hm2,k):=h;show#[_,hb _ _ _ _ _ _ (aQ hr),?_];let(a0,b0,ns0,hd0,hl0,ha0,ha0',hb0,hns0):=D.ex;have ndl:d≠l:=D.ne
  -- while
  show#[λμ σ H1=>∃ (b:Int) (ns:!Int),σ=[some (.ref d),some (.int m),none,none,none]/\H1 d=some (.dK (cO a0 b l))/\H1 l=some (.lst (ns.map V.int))/\0<=b/\(∀ n∈ns,0<=n)/\Lg d l H H1/\μ=ns.length,
   #[ns0.length,b0,ns0,U,hd0,hl0,hb0,hns0,Lg.refl _ _ _,U],?_]
  rintro μ σ H1 ⟨b,ns,rfl,hd,hl,hb,oh,bt,rfl⟩
  -- behind the loop
  have rest:uW
    { nx:=λ_ H'=>Q .bT H',rt:=Q } [some (.ref d),some (.int m),none,none,none] H1:=by
   show#[_,U,d,_,U,pL hd,?_];show#[_,U,_,_,U,U,_,U,Ii (λhpos=>?_) (λhpos=>?_)]
   .have hpos:0 < b:=of_decide_eq_true hpos;show#[_,U,_,U,_,_,U,U,#[hm,hm2],_,U,d,_,U,mU hd,?_];show#[_,U,_,U,_,_,U,U,hm,?_];show k (b % m) _ (Xt _ (by cbv)) (Xr _ hm) #[a0,b / m,ns,aA,by rw[aw (Ne.symm ndl)];exact hl,ha0,ha0',X5 hb (by cbv),oh] λc o e h1 h2=>?_;rw[aw h1];exact bt c o e h1 h2
   .refine#[_,U,d,_,U,o3 hd,_,_,U,U,.inr #[by decide,by decide],_,_,U,U,_,_,U,U,(by change (0:Int) < 2147483647;decide),?_];have h1:0<=(a0 * 48271+7919) % 2147483647:=Xt _ ();have h2:(a0 * 48271+7919) % 2147483647 < 2147483647:=Xr _ ();show#[_,U,_,_,U,U,.inr #[by decide,by decide],_,_,U,U,_,_,U,U,(by change (0:Int) < 2147483399;decide),_,U,d,_,U,yD hd,?_];have h3:0<=((a0 * 48271+7919) % 2147483647 * 40692+104729) % 2147483399:=Xt _ ();have h4:((a0 * 48271+7919) % 2147483647 * 40692+104729) % 2147483399 < 2147483399:=Xr _ ();show#[_,U,d,_,U,o3 aA,_,U,d,_,U,o3 aA,_,_,U,U,.inl #[by cbv,by cbv],_,_,U,U,(by change (0:Int) < 2147483563;decide),?_];show#[_,U,_,U,_,_,U,U,.inl #[by cbv,by cbv],_,_,U,U,(by change (0:Int) < 2147483629;decide),_,_,U,U,.inr #[by decide,by decide],_,U,_,_,U,U,_,U,_,_,U,U,hm,?_];show k _ _ (Xt _ (by cbv)) (Xr _ hm) #[_,b,ns,aA,by rw[aw (Ne.symm ndl)];exact hl,h3,by cbv,hb,oh] λc o e h1 h2=>?_;rw[aw h1];exact bt c o e h1 h2
  show#[_,U,d,_,U,pL hd,U,_,U,?_];show Ii (λh0=>?_) (λh0=>?_)
  .refine#[_,U,d,_,U,u9 hd,l,_,U,.inl (d8.of hl),_,_,U,U,_,U,?_];show Ii (λh1=>?_) (λh1=>?_)
   .have h1:(0:Int) < ((ns.map V.int).length:Int):=of_decide_eq_true h1;rw[V8] at h1;obtain⟨init,x,rfl⟩:∃ init x,ns=init++[x]:=by
     rcases List.eq_nil_or_concat ns with e | ⟨i,x,e⟩
     .subst e;simp at h1
     .exact#[i,x,by simpa using e]
    show#[λσ' H'=>∃ (b:Int) (ns:!Int),σ'=[some (.ref d),some (.int m),none,none,none]/\H' d=some (.dK (cO a0 b l))/\H' l=some (.lst (ns.map V.int))/\0<=b/\(∀ n∈ns,0<=n)/\Lg d l H H'/\ns.length < (init++[x]).length,?_,?_]
    .rintro σ' H' ⟨b',ns',e1,e2,e3,e4,e5,e6,e7⟩;exact#[ns'.length,e7,b',ns',e1,e2,e3,e4,e5,e6,U]
    .refine#[_,U,d,_,U,u9 hd,.inl #[U,_,d8.of hl],l,_,.int x,U,U,hl,by simp,?_];have hd':(upd H1 l (.lst ((init++[x]).map V.int).dropLast)) d=some (.dK (cO a0 b l)):=by rw[aw ndl];exact hd
     show#[_,U,d,_,U,mU hd',?_];show#[x,init,U,aA,?_,oh x (by simp),λn hn=>oh n (by simp[hn]),λc o e h1 h2=>?_,by simp]
     .rw[aw (Ne.symm ndl),aA,Wc,Wj,WR,List.dropLast_concat]
     .rw[aw h1,aw h2];exact bt c o e h1 h2
   .exact rest
  .exact rest
abbrev nL:!Str:=["_law_script","_law_base","_law_some","_law_number","_law_one"]
def Sq:!V->Hp->VK->Prop:=λxs H Q=>∃ i j,xs=[.int i,.int j]/\Q (.int (if j > i then j else i)) H
def MX(K:Frag):TS :=
 oi (jE (uF 1 [] (xy K (UX (LM K) (bN 0) (Ai (bN 1)) (Ai (tC (.int 63))))) (ef 0) FP (Hb Sq (vB (bN 0) (vB (iW (ua λi j=>.int (i - j)) (tC (.int 0)) (bN 0)) De)))) (ef 2))
 (oi (jE (iW (ua λi j=>.int (i+j)) (tC (.int 7919)) (bN 1)) (ef 3))
 (oi (NI (xy K (bN 2)) (ef 4) (jE (iW (rI (λ_ j=>0 < j) λi j=>.int (i % j)) (iW (ua λi j=>.int (i+j)) (iW (rI tW λi j=>.int (i * j)) (bN 3) (tC (.int 48271))) (iW (rI (λ_ j=>0 < j) λi j=>.int (i % j)) (bN 4) (tC (.int 2147483629)))) (tC (.int 2147483647))) (ef 3)))
 (DR (Gx [(tC (.str "seed"),bN 3),(tC (.str "number"),tC (.int 0)),(tC (.str "left"),uC K (uF 1 [] (xy K (bN 2)) (ef 0) (qz (iW (ua λi j=>.bl (decide (j<=i))) (bN 0) (iW (rI Ly λi j=>.int (i ^ j.toNat)) (tC (.int 10)) (tC (.int 18))))) (bN 0)))]))))
theorem ES(ns:!Int)(lo hi:Option Int):∃ ms:!Int,o5 (ns.map V.int) lo hi=ms.map V.int/\ms.length<=ns.length:=by
 show#[(ns.drop (HT.b8 ns.length 0 lo)).take (HT.b8 ns.length ns.length hi - HT.b8 ns.length 0 lo),?_,?_]
 .unfold o5;rw[V8,<- List.map_drop,<- List.map_take]
 .rw[Xl,Xm];cbv
def ny(i:Int):Int:=if 0 - i > i then 0 - i else i
theorem Fw(i:Int):0<=ny i:=by
 unfold ny;split<;>cbv
def FC:V->V
 | .int i=>.int (ny i)
 | v=>v
def Hw:V->Bool
 | .int i=>decide ((10:Int) ^ (18:Int).toNat<=i)
 | _=>false
theorem Fl{st:Ev}{f:AC}{fd:Go}(F:tL K "_law_deal" "_law_deal" st f fd)(sc:av nL ["_law_script","_law_base"] (ai st))(hb:∀ (bh:AT) (A:Fr) (outer:!Env) (s:Da) (H:Hp) (E:XK),nK (iT aR P w K mg base nL "_law_deal" (ai st) f bh A outer s H E).wD (aL st) (MX K)) :
  bP P w K mg base aR 1 f fd ["_law_script","_law_base"] (xk K):=by
 show F.ok sc (λvs H Q E h=>?_) (λbh A outer s H vs Q E hr h=>?_)
 .let(a,ns,bs,rfl,_):=h
  rfl
 .let(a,ns,bs,rfl,hS,hn,hb0,hb1,k):=h;show#[_,hb _ _ _ _ _ _,?_];let(ms,ems,hms):=ES ns (some bs) (some 63);show#[_,U,_,U,_,U,_,U,a,_,U,hS,λp hp=>#[p,U,#[_,d8.of aA],?_]];rw[ems];show jM (xs:=ms.map V.int) (λ_=>true) FC (d8.of aA) (by rw[V8];exact Ws (Ws hms hn) ()) () (λx hx H1 k1 q=>q) (λx hx _ H1 k1 q=>?_) (λD hD=>?_)
  .let(i,_,rfl):=Wk.mp hx;exact#[_,U,_,U,_,_,U,U,_,_,U,q]
  .have hD0:H D=none:=(fw.upd hp).free hD;have e1:((ms.map V.int).filter λ_=>true).map FC=(ms.map ny).map V.int:=by
    rw[List.filter_eq_self.mpr (by simp),List.map_map,List.map_map]
    rfl
   rw[e1];have s1:fw H (upd (upd H p (.lst (ms.map V.int))) D (.lst ((ms.map ny).map V.int))):=(fw.upd hp).trans (fw.upd hD);generalize hH2:upd (upd H p (.lst (ms.map V.int))) D (.lst ((ms.map ny).map V.int))=H2 at s1;have hD2:H2 D=some (.lst ((ms.map ny).map V.int)):=by rw[<- hH2];exact aA
   -- number=7919+base
   show#[_,U,_,_,U,U,?_]
   -- for
   show#[_,U,D,U,#[_,d8.of hD2],zJ (K:=K) (a:=D) (xs:=(ms.map ny).map V.int) (λi σ H3=>∃ (n:Int) (v:Option V),σ=[some (.ref a),some (.int bs),some (.ref D),some (.int n),v]/\0<=n/\n < 2147483647/\H3=H2)
    #[7919+bs,none,U,by cbv,by cbv,U] (λi σ H3 _ #[_,_,_,_,_,e]=>by rw[e];exact d8.of hD2) ?_ ?_]
   .rintro i y σ H3 hi ⟨n,v,rfl,h0,h1,rfl⟩;let(j,_,rfl):=Wk.mp (WJ hi);show#[_,U,_,_,U,U,.inr #[by decide,by decide],_,U,_,_,U,U,(by change (0:Int) < 2147483629;decide),_,_,U,U,_,_,U,U,(by change (0:Int) < 2147483647;decide),?_];exact#[_,_,U,Xt _ (),Xr _ (),U]
   .rintro σ H3 ⟨n,v,rfl,h0,h1,rfl⟩
    -- the dict
    intro d hd;have hd0:H d=none:=s1.free hd;have hDd:(upd H3 d (.dK [])) D=some (.lst ((ms.map ny).map V.int)):=by rw[aw (aE hD2 hd)];exact hD2
    show#[_,U,_,U,D,U,#[_,d8.of hDd],?_];show jM (xs:=(ms.map ny).map V.int) Hw id (d8.of hDd) (by rw[V8,V8];exact Ws (Ws hms hn) ()) () (λx hx H1 k1 q=>?_) (λx hx _ H1 k1 q=>#[_,U,q]) (λD2 hD2'=>?_)
    .let(i,_,rfl):=Wk.mp hx;exact#[_,U,_,_,U,U,#[by decide,by decide,by decide],_,_,U,U,_,U,q]
    .refine#[D2,_,U,d8.of aA,λl hl=>?_];have ndD2:d≠D2:=aE aA hD2';have ndl:d≠l:=aE (H:=upd (upd H3 d (.dK [])) D2 _) (by rw[aw ndD2];exact aA) hl;show#[by rw[aw ndl,aw ndD2];exact aA,cO n 0 l,U,(by change 3<=15;decide),?_];rw[G3];have hD20:H D2=none:=(s1.trans (fw.upd hd)).free hD2';have hl0:H l=none:=((s1.trans (fw.upd hd)).trans (fw.upd hD2')).free hl;have e3:∃ ks:!Int,((((ms.map ny).map V.int).filter Hw).map id).reverse=ks.map V.int/\∀ n∈ks,0<=n:=by
      show#[((ms.map ny).filter λi=>Hw (.int i)).reverse,?_,?_]
      .rw[List.map_id,List.filter_map,List.map_reverse]
       rfl
      .intro n hn';let(i,_,rfl):=Wk.mp (W9.mp (List.mem_reverse.mp hn')).1;exact Fw i
     let(ks,e3,ur):=e3;rw[e3];show k d l _ hd0 hl0 #[n,0,ks,aA,by rw[aw (Ne.symm ndl)];exact aA,h0,h1,Int.le_refl _,ur] ?_;exact (((s1.trans (fw.upd hd)).trans (fw.upd hD2')).NQ hl0).NQ hd0
end
theorem jf(c:Nat):(#[#v[c]]:Str).length=1:=rfl
theorem cB(x y:Str):(x++y).length=x.length+y.length:=by
 first
  | exact Str.length_append x y
  | (show (x.cps++y.cps).size=x.cps.size+y.cps.size;exact Array.size_append)
theorem join_ones:∀ (cs:!Nat),(Txt.join ("":Str) (cs.map λc=>(#[#v[c]]:Str))).length<=cs.length
 | []=>We _
 | [c]=>We _
 | c::d::r=>by
  have ih:=join_ones (d::r);have e:(Txt.join ("":Str) ((c::d::r).map λc=>(#[#v[c]]:Str)))=(#[#v[c]]:Str)++("":Str)++Txt.join ("":Str) ((d::r).map λc=>(#[#v[c]]:Str)):=by
   unfold Txt.join;rw[Xs,Xs]
   rfl
  rw[e,cB,cB];have:("":Str).length=0:=rfl;rw[jf];change _<=(d::r).length+1;cbv
theorem uY:∀ (cs:!Nat),((cs.map λc=>(#[#v[c]]:Str)).map (·.length)).sum=cs.length
 | []=>rfl
 | c::r=>by
  rw[Wj,Wj,List.sum_cons,uY r,Wi];have:(#[#v[c]]:Str).length=1:=rfl;cbv
abbrev OC:Str:="abcdefghijklmnopqrstuvwxyz"
def near:!Str:=["lets","asks","maker","tabs","too","news","zeros","casey","madex","defa","num","askedx"]
end cR
namespace DL
open PySem PySem.Spec L2
open PyProof.Rows hiding St
theorem cV{α β γ δ:Type}{P Q R:α->β->γ->δ->Prop}{C:Prop}(h:∃ a b c d,P a b c d/\Q a b c d/\R a b c d)(k:∀ a b c d,P a b c d->Q a b c d->R a b c d->C):C:=by
 let(a,b,c,d,h1,h2,h3):=h;exact k a b c d h1 h2 h3
set_option genInjectivity true in inductive D where
 | bT | bl (b:Bool) | int (i:Int) | str (x:Str) | bG (a:AC) | ty (n:String)
 | tup (ds:!D) | lst (ds:!D) | iI (ks:!Key) (vs:!D) | nz (ks:!(!Key)) (vs:!D)
 | Hg (ks:!(!Key)) (vs:!D)
 | ob (C:AC) (ks:!Str) (vs:!D)
def Iv(o:Obj)(ts:!AC):Prop:=o.ExactDict/\∃ es ep,o.data=.dict es ep/\es.toList.map (·.key)=ts.map AT.ref
def TupAt(_K:Frag)(H:Hp)(M:AC->Prop)(a:AC)(xs:!V):Prop:=M a/\H a=some (.tup xs)
theorem TupAt.sq{K:Frag}{H:Hp}{M:AC->Prop}{a:AC}{xs:!V}(h:TupAt K H M a xs):jx K H a xs:=.of h.2
section
variable(K:Frag)(H:Hp)(M:AC->Prop)
mutual
noncomputable def Rep:D->V->Prop
 | .bT,v=>v=.bT
 | .bl b,v=>v=.bl b
 | .int i,v=>v=.int i
 | .str x,v=>v=.str x
 | .bG a,v=>v=.ref a
 | .ty n,v=>v=.ty n
 | .tup ds,v=>∃ a xs,v=.ref a/\TupAt K H M a xs/\az ds xs
 | .lst ds,v=>∃ a xs,v=.ref a/\(M a/\H a=some (.lst xs))/\az ds xs
 | .iI ks vs,v=>∃ (a:AC) (kvs:!(Key×V)),v=.ref a/\(M a/\H a=some (.dK kvs))/\kvs.map (·.1)=ks/\az vs (kvs.map (·.2))
 | .nz ks vs,v=>∃ (a:AC) (kvs:!(!Key×V)),v=.ref a/\(M a/\H a=some (.dT kvs))/\kvs.map (·.1)=ks/\az vs (kvs.map (·.2))
 | .Hg ks vs,v=>∃ (a:AC) (o:Obj) (kvs:!(!Key×V)) (ts:!AC),v=.ref a/\(M a/\H a=some (.iJ o (.dT kvs)))/\Iv o ts/\Paired (λk t=>M t/\H t=some (.tup (k.map kV))) ks ts/\kvs.map (·.1)=ks/\az vs (kvs.map (·.2))
 | .ob C ks vs,v=>∃ (a dx:AC) (kvs:!(Str×V)),v=.ref a/\(M a/\H a=some (.ins C dx kvs))/\kvs.map (·.1)=ks/\az vs (kvs.map (·.2))
noncomputable def az:!D->!V->Prop
 | [],xs=>xs=[]
 | d::ds,xs=>∃ x r,xs=x::r/\Rep d x/\az ds r
end
def cx:D->HO->Prop
 | .lst ds,.lst xs=>az K H M ds xs
 | .iI ks vs,.dK kvs=>kvs.map (·.1)=ks/\az K H M vs (kvs.map (·.2))
 | .nz ks vs,.dT kvs=>kvs.map (·.1)=ks/\az K H M vs (kvs.map (·.2))
 | .ob C ks vs,.ins C' _ kvs=>C'=C/\kvs.map (·.1)=ks/\az K H M vs (kvs.map (·.2))
 | _,_=>False
end
section
variable{K:Frag}{H H':Hp}{M M':AC->Prop}
theorem TupAt.mono(hM:∀ b,M b->M' b)(hH:∀ b o,M b->H b=some o->H' b=some o){a:AC}{xs:!V}(h:TupAt K H M a xs):TupAt K H' M' a xs:=#[hM a h.1,hH a _ h.1 h.2]
mutual
theorem Rep.mono(hM:∀ b,M b->M' b)(hH:∀ b o,M b->H b=some o->H' b=some o):∀ (d:D) (v:V),Rep K H M d v->Rep K H' M' d v
 | .bT,v,h=>h
 | .bl b,v,h=>h
 | .int i,v,h=>h
 | .str x,v,h=>h
 | .bG a,v,h=>h
 | .ty n,v,h=>h
 | .tup ds,v,h=>by
  let(a,xs,e,t,r):=h;exact#[a,xs,e,t.mono hM hH,az.mono hM hH ds xs r]
 | .lst ds,v,h=>by
  let(a,xs,e,(m,t),r):=h;exact#[a,xs,e,#[hM a m,hH a _ m t],az.mono hM hH ds xs r]
 | .iI ks vs,v,h=>by
  let(a,xs,e,(m,t),k,r):=h;exact#[a,xs,e,#[hM a m,hH a _ m t],k,az.mono hM hH vs _ r]
 | .nz ks vs,v,h=>by
  let(a,xs,e,(m,t),k,r):=h;exact#[a,xs,e,#[hM a m,hH a _ m t],k,az.mono hM hH vs _ r]
 | .Hg ks vs,v,h=>by
  let(a,o,xs,ts,e,(m,t),q,p,k,r):=h;exact#[a,o,xs,ts,e,#[hM a m,hH a _ m t],q,L2.Paired.uQ p λk t z=>#[hM t z.1,hH t _ z.1 z.2],k,az.mono hM hH vs _ r]
 | .ob C ks vs,v,h=>by
  let(a,dx,xs,e,(m,t),k,r):=h;exact#[a,dx,xs,e,#[hM a m,hH a _ m t],k,az.mono hM hH vs _ r]
theorem az.mono(hM:∀ b,M b->M' b)(hH:∀ b o,M b->H b=some o->H' b=some o):∀ (ds:!D) (vs:!V),az K H M ds vs->az K H' M' ds vs
 | [],vs,h=>h
 | d::ds,vs,h=>by
  let(x,r,e,h1,h2):=h;exact#[x,r,e,Rep.mono hM hH d x h1,az.mono hM hH ds r h2]
end
theorem cx.mono(hM:∀ b,M b->M' b)(hH:∀ b o,M b->H b=some o->H' b=some o){d:D}{o:HO}(h:cx K H M d o):cx K H' M' d o:=by
 unfold cx at h ⊢;split at h
 .exact az.mono hM hH _ _ h
 .exact#[h.1,az.mono hM hH _ _ h.2]
 .exact#[h.1,az.mono hM hH _ _ h.2]
 .exact#[h.1,h.2.1,az.mono hM hH _ _ h.2.2]
 .exact h.elim
theorem az.length:∀ {ds:!D} {vs:!V},az K H M ds vs->vs.length=ds.length
 | [],vs,h=>by
  have h:vs=[]:=h;rw[h];rfl
 | d::ds,vs,h=>by
  let(x,r,e,h1,h2):=h;rw[e,Wi,Wi,az.length h2]
theorem az.get:∀ {ds:!D} {vs:!V} {i:Nat} {d:D},az K H M ds vs->ds[i]?=some d->∃ v,vs[i]?=some v/\Rep K H M d v
 | [],vs,i,d,h,e=>by simp at e
 | c::ds,vs,0,d,h,e=>by
  let(x,r,rfl,h1,h2):=h;simp at e;subst e;exact#[x,U,h1]
 | c::ds,vs,i+1,d,h,e=>by
  let(x,r,rfl,h1,h2):=h;let(v,h3,h4):=az.get (i:=i) (d:=d) h2 (by simpa using e);exact#[v,by simpa using h3,h4]
theorem az.append:∀ {ds es:!D} {vs ws:!V},az K H M ds vs->az K H M es ws->az K H M (ds++es) (vs++ws)
 | [],es,vs,ws,h,h'=>by
  have h:vs=[]:=h;rw[h];exact h'
 | d::ds,es,vs,ws,h,h'=>by
  let(x,r,rfl,h1,h2):=h;exact#[x,r++ws,U,h1,az.append h2 h']
theorem az.take:∀ {ds:!D} {vs:!V} (n:Nat),az K H M ds vs->az K H M (ds.take n) (vs.take n)
 | [],vs,n,h=>by
  have h:vs=[]:=h;rw[h];simp[az]
 | d::ds,vs,0,h=>by simp[az]
 | d::ds,vs,n+1,h=>by
  let(x,r,rfl,h1,h2):=h;exact#[x,r.take n,U,h1,az.take n h2]
theorem az.drop:∀ {ds:!D} {vs:!V} (n:Nat),az K H M ds vs->az K H M (ds.drop n) (vs.drop n)
 | [],vs,n,h=>by
  have h:vs=[]:=h;rw[h];simp[az]
 | d::ds,vs,0,h=>h
 | d::ds,vs,n+1,h=>by
  let(x,r,rfl,h1,h2):=h;exact az.drop n h2
theorem az.one{d:D}{v:V}(h:Rep K H M d v):az K H M [d] [v]:=#[v,[],U,h,U]
theorem az.reverse:∀ {ds:!D} {vs:!V},az K H M ds vs->az K H M ds.reverse vs.reverse
 | [],vs,h=>by
  have h:vs=[]:=h;rw[h]
  rfl
 | d::ds,vs,h=>by
  let(x,r,rfl,h1,h2):=h;rw[Xz,Xz];exact az.append (az.reverse h2) (az.one h1)
theorem az.set{d:D}{v:V}(r:Rep K H M d v):∀ {ds:!D} {vs:!V} (i:Nat),az K H M ds vs->az K H M (ds.set i d) (vs.set i v)
 | [],vs,i,h=>by
  have h:vs=[]:=h;rw[h]
  rfl
 | c::ds,vs,0,h=>by
  let(x,r',rfl,h1,h2):=h;exact#[v,r',U,r,h2]
 | c::ds,vs,i+1,h=>by
  let(x,r',rfl,h1,h2):=h;exact#[x,r'.set i v,U,h1,az.set r i h2]
theorem az.eraseIdx:∀ {ds:!D} {vs:!V} (i:Nat),az K H M ds vs->az K H M (ds.eraseIdx i) (vs.eraseIdx i)
 | [],vs,i,h=>by
  have h:vs=[]:=h;rw[h]
  rfl
 | c::ds,vs,0,h=>by
  let(x,r',rfl,h1,h2):=h;exact h2
 | c::ds,vs,i+1,h=>by
  let(x,r',rfl,h1,h2):=h;exact#[x,r'.eraseIdx i,U,h1,az.eraseIdx i h2]
end
structure yq where
 own:AC->Prop
 inv:Hp->Prop
 loc:∀ H H',inv H->(∀ b o,(own b\/∃ φ,o=HO.ext φ)->H b=some o->H' b=some o)->inv H'
 KL:∀ H b,inv H->own b->∃ o,H b=some o
 nt:∀ H b xs,inv H->own b->H b≠some (.tup xs)
 nh:!AC:=[]
def yq.no:yq:=#[λ_=>False,λ_=>True,λ_ _ _ _=>trivial,λ_ _ _ h=>h.elim,λ_ _ _ _ h=>h.elim,[]]
def Nu(H:Hp)(b:AC):Prop:=H b=none\/∃ xs,H b=some (.tup xs)
def bg(d l:AC):yq where
 own:=λb=>b=d\/b=l
 inv:=λH=>cR.At H d l
 loc:=λH H' h k=>by
  let(a,b,ns,h1,h2,r):=h.ex;exact#[a,b,ns,k _ _ (.inl (.inl U)) h1,k _ _ (.inl (.inr U)) h2,r]
 KL:=λH b h e=>by
  let(a,_,ns,h1,h2,r):=h.ex;rcases e with rfl | rfl
  .exact#[_,h1]
  .exact#[_,h2]
 nt:=λH b xs h e=>by
  let(a,_,ns,h1,h2,r):=h.ex;rcases e with rfl | rfl
  .rw[h1];intro z;cases z
  .rw[h2];intro z;cases z
structure Ent where
 g:yq
 M0:AC->Prop
 H0:Hp
structure Base(c:Ent)(M:AC->Prop)(H:Hp):Prop where
 nE:c.g.inv H
 fr:∀ b o,c.H0 b=some o->¬ c.g.own b->H b=some o
 md:∀ b,M b->∃ o,H b=some o
 mo:∀ b,M b->¬ c.g.own b
 m0:∀ b,c.M0 b->M b
 mn:∀ b,M b->c.M0 b\/Nu c.H0 b
set_option genInjectivity true in inductive Sl where
 | no | dat (d:D) | own (k:Nat)
structure DS where
 sl:!Sl
 os:!(Option D)
def dF(s:DS)(as:!AC)(b:AC):Prop:=∃ (k:Nat) (d:D),s.os[k]?=some (some d)/\as[k]?=some b
structure aD(K:Frag)(c:Ent)(M:AC->Prop)(s:DS)(as:!AC)(σ:St)(H:Hp):Prop where
 base:Base c M H
 len:s.sl.length=σ.length
 ek:as.length=s.os.length
 dat:∀ (i:Nat) (d:D),s.sl[i]?=some (.dat d)->∃ v,σ[i]?=some (some v)/\Rep K H M d v
 own:∀ (i k:Nat),s.sl[i]?=some (.own k)->∃ a,as[k]?=some a/\σ[i]?=some (some (.ref a))
 obj:∀ (k:Nat) (d:D) (a:AC),s.os[k]?=some (some d)->as[k]?=some a->(∃ o,H a=some o/\cx K H M d o)/\¬ M a/\¬ c.g.own a/\c.H0 a=none
 inj:∀ (k l:Nat) (d e:D) (a:AC),s.os[k]?=some (some d)->s.os[l]?=some (some e)->as[k]?=some a->as[l]?=some a->k=l
 lt:∀ (k:Nat) (a:AC),c.g.nh[k]?=some a->as[k]?=some a
structure Ext(c:Ent)(as:!AC)(M:AC->Prop)(s:DS)(H:Hp)(M':AC->Prop)(s':DS)(H':Hp):Prop where
 sub:∀ b,M b->M' b
 new:∀ b,M' b->M b\/Nu H b\/dF s as b
 keep:∀ b o,H b=some o->¬ c.g.own b->¬ dF s as b->H' b=some o
 iz:∀ b,dF s' as b->dF s as b
section
variable{K:Frag}{c:Ent}{M M' M1 M2:AC->Prop}{s s' s1 s2:DS}{as:!AC}{σ:St}{H H' H1 H2:Hp}{a p:AC}{o:HO}{d:D}{v:V}
theorem aD.nM(L:aD K c M s as σ H)(h:dF s as a):¬ M a/\¬ c.g.own a/\c.H0 a=none/\∃ o,H a=some o:=by
 let(k,d,h1,h2):=h;let((o,q,_),q1,q2,q3):=L.obj k d a h1 h2;exact#[q1,q2,q3,o,q]
theorem Base.oQ(B:Base c M H)(h:H a=none):c.H0 a=none:=by
 cases e:c.H0 a with
 | none=>rfl
 | some o =>
  exfalso;by_cases q:c.g.own a
  .let(o',h'):=c.g.KL H a B.nE q;rw[h] at h';cases h'
  .have:=B.fr a o e q;rw[h] at this;cases this
theorem Ext.zY(E:Ext c as M s H M' s' H')(L:aD K c M s as σ H):∀ b o,M b->H b=some o->H' b=some o:=λb o m h =>
 E.keep b o h (L.base.mo b m) λq=>(L.nM q).1 m
theorem Ext.rep(E:Ext c as M s H M' s' H')(L:aD K c M s as σ H)(r:Rep K H M d v):Rep K H' M' d v:=Rep.mono E.sub (E.zY L) d v r
theorem Ext.u3(E:Ext c as M s H M' s' H')(L:aD K c M s as σ H){ds:!D}{vs:!V}(r:az K H M ds vs):az K H' M' ds vs:=az.mono E.sub (E.zY L) ds vs r
theorem Ext.refl:Ext c as M s H M s H:=#[λ_ h=>h,λ_ h=>.inl h,λ_ _ h _ _=>h,λ_ h=>h]
theorem Ext.trans(E1:Ext c as M s H M1 s1 H1)(B1:Base c M1 H1)(E2:Ext c as M1 s1 H1 M2 s2 H2):Ext c as M s H M2 s2 H2 where
 sub:=λb h=>E2.sub b (E1.sub b h)
 new:=λb h=>by
  rcases E2.new b h with h | h | h
  .exact E1.new b h
  .cases q:H b with
   | none=>exact .inr (.inl (.inl q))
   | some o =>
    by_cases g:c.g.own b
    .rcases h with h | ⟨xs,h⟩
     .let(o',h'):=c.g.KL H1 b B1.nE g;rw[h] at h';cases h'
     .exact absurd h (c.g.nt H1 b xs B1.nE g)
    .by_cases w:dF s as b
     .exact .inr (.inr w)
     .have:=E1.keep b o q g w;rcases h with h | ⟨xs,h⟩
      .rw[h] at this;cases this
      .rw[h] at this;cases this;exact .inr (.inl (.inr #[xs,q]))
  .exact .inr (.inr (E1.iz b h))
 keep:=λb o h g w=>E2.keep b o (E1.keep b o h g w) g λq=>w (E1.iz b q)
 iz:=λb h=>E1.iz b (E2.iz b h)
theorem aD.laid(L:aD K c M s as σ H)(hp:H p=none):aD K c M s as σ (upd H p o):=by
 have kp:∀ b u,H b=some u->upd H p o b=some u:=λb u e=>by rw[aw (aE e hp)];exact e
 show#[#[c.g.loc H _ L.base.nE λb u _ e=>kp b u e,λb u e g=>kp b u (L.base.fr b u e g),λb m=>?_,L.base.mo,L.base.m0,L.base.mn],L.len,L.ek,λi d e=>?_,L.own,λk d a e1 e2=>?_,L.inj,L.lt]
 .let(u,e):=L.base.md b m;exact#[u,kp b u e]
 .let(v,h1,h2):=L.dat i d e;exact#[v,h1,Rep.mono (λ_ h=>h) (λb u _ e=>kp b u e) d v h2]
 .let((u,q,r),q1):=L.obj k d a e1 e2;exact#[#[u,kp _ _ q,cx.mono (λ_ h=>h) (λb u _ e=>kp b u e) r],q1]
theorem Ext.laid(hp:H p=none):Ext c as M s H M s (upd H p o):=#[λ_ h=>h,λ_ h=>.inl h,λb u e _ _=>by rw[aw (aE e hp)];exact e,λ_ h=>h]
theorem aD.HX(L:aD K c M s as σ H)(ha:H a=some o)(g:¬ c.g.own a)(w:¬ dF s as a)(h0:Nu c.H0 a):aD K c (λb=>M b\/b=a) s as σ H:=by
 have mk:∀ b u,M b->H b=some u->H b=some u:=λ_ _ _ e=>e;show#[#[L.base.nE,L.base.fr,λb m=>?_,λb m=>?_,λb m=>.inl (L.base.m0 b m),λb m=>?_],L.len,L.ek,λi d e=>?_,L.own,λk d b e1 e2=>?_,L.inj,L.lt]
 .rcases m with m | rfl
  .exact L.base.md b m
  .exact#[o,ha]
 .rcases m with m | rfl
  .exact L.base.mo b m
  .exact g
 .rcases m with m | rfl
  .exact L.base.mn b m
  .exact .inr h0
 .let(v,h1,h2):=L.dat i d e;exact#[v,h1,Rep.mono (λ_ h=>.inl h) mk d v h2]
 .let((u,q,r),q1,q2):=L.obj k d b e1 e2;show#[#[u,q,cx.mono (λ_ h=>.inl h) mk r],λm=>?_,q2];rcases m with m | rfl
  .exact q1 m
  .exact w #[k,d,e1,e2]
theorem aD.grown(L:aD K c M s as σ H)(ha:H a=some o)(g:¬ c.g.own a)(w:¬ dF s as a)(h0:c.H0 a=none):aD K c (λb=>M b\/b=a) s as σ H:=L.HX ha g w (.inl h0)
theorem cx.BS{xs:!V}(h:cx K H M d (.tup xs)):False:=by cases d<;>exact h
theorem cx.next{φ:EQ->Prop}(h:cx K H M d (.ext φ)):False:=by cases d<;>exact h
theorem aD.fresh(L:aD K c M s as σ H)(hp:H p=none):aD K c (λb=>M b\/b=p) s as σ (upd H p o):=by
 show (L.laid (o:=o) hp).grown aA (λg=>?_) (λw=>?_) (L.base.oQ hp)
 .let(u,e):=c.g.KL H p L.base.nE g;rw[hp] at e;cases e
 .let(_,_,_,u,e):=L.nM w;rw[hp] at e;cases e
theorem Ext.fresh(hp:H p=none):Ext c as M s H (λb=>M b\/b=p) s (upd H p o):=#[λ_ h=>.inl h,λb h=>by
 rcases h with h | rfl
 .exact .inl h
 .exact .inr (.inl (.inl hp)),λb u e _ _=>by rw[aw (aE e hp)];exact e,λ_ h=>h]
theorem o6(hp:H p=none)(r:Rep K H M d v):Rep K (upd H p o) (λb=>M b\/b=p) d v:=Rep.mono (λ_ h=>.inl h) (λb u _ e=>by rw[aw (aE e hp)];exact e) d v r
theorem kZ(hp:H p=none){ds:!D}{vs:!V}(r:az K H M ds vs):az K (upd H p o) (λb=>M b\/b=p) ds vs:=az.mono (λ_ h=>.inl h) (λb u _ e=>by rw[aw (aE e hp)];exact e) ds vs r
theorem fM(hp:H p=none){ds:!D}{vs:!V}(r:az K H M ds vs):az K (upd H p o) M ds vs:=az.mono (λ_ h=>h) (λb u _ e=>by rw[aw (aE e hp)];exact e) ds vs r
theorem cx.rep(h:cx K H M d o)(ha:H a=some o)(m:M a):Rep K H M d (.ref a):=by
 unfold cx at h;split at h
 .exact#[a,_,U,#[m,ha],h]
 .exact#[a,_,U,#[m,ha],h.1,h.2]
 .exact#[a,_,U,#[m,ha],h.1,h.2]
 .exact#[a,_,_,U,#[m,h.1▸ha],h.2]
 .exact h.elim
end
abbrev aV:=DS->(D->DS->Prop)->Prop
abbrev lD:=DS->(Bool->DS->Prop)->Prop
abbrev eJ:=DS->(!D->DS->Prop)->Prop
structure jN where
 nx:DS->Prop
 rt:D->Prop
 rf:D->Prop:=λ_=>False
 bk:DS->Prop:=λ_=>False
 ct:DS->Prop:=λ_=>False
 rs:D->DS->Prop:=λ_ _=>False
abbrev jg:=jN->DS->Prop
section
variable(K:Frag)(c:Ent)
def tE(t:aV):TE:=λσ H Q=>∃ M s as R,aD K c M s as σ H/\t s R/\∀ d s',R d s'->∀ M' H' v,aD K c M' s' as σ H'->Ext c as M s H M' s' H'->Rep K H' M' d v->Q v H'
def tN(t:aV):TE:=λσ H Q=>∃ M s as R,aD K c M s as σ H/\t s R/\∀ d s',R d s'->∀ M' H' a o,aD K c M' s' as σ H'->Ext c as M s H M' s' H'->H' a=some o->cx K H' M' d o->¬ M' a->¬ c.g.own a->¬ dF s' as a->c.H0 a=none->(H a=none\/dF s as a)->Q (.ref a) H'
def tT(t:lD):TT:=λσ H Q=>∃ M s as R,aD K c M s as σ H/\t s R/\∀ b s',R b s'->∀ M' H',aD K c M' s' as σ H'->Ext c as M s H M' s' H'->Q b H'
def tA(n:Nat)(t:eJ):TA:=λσ H Q=>∃ M s as R,aD K c M s as σ H/\t s R/\∀ ds s',R ds s'->∀ M' H' vs,aD K c M' s' as σ H'->Ext c as M s H M' s' H'->az K H' M' ds vs->ds.length=n->Q vs H'
def ei(M:AC->Prop)(H:Hp)(M':AC->Prop)(H':Hp):Prop:=∀ b,M b->M' b/\∀ o,H b=some o->H' b=some o
structure pN(M:AC->Prop)(H:Hp)(R:jN)(E:Ends):Prop where
 nx:∀ s as M' σ H',R.nx s->aD K c M' s as σ H'->ei M H M' H'->E.nx σ H'
 bk:∀ s as M' σ H',R.bk s->aD K c M' s as σ H'->ei M H M' H'->E.bk σ H'
 ct:∀ s as M' σ H',R.ct s->aD K c M' s as σ H'->ei M H M' H'->E.ct σ H'
 rt:∀ d M' H' v,R.rt d->Base c M' H'->Rep K H' M' d v->E.rt v H'
 rf:∀ d M' H' a o,R.rf d->Base c M' H'->H' a=some o->cx K H' M' d o->¬ M' a->¬ c.g.own a->c.H0 a=none->E.rt (.ref a) H'
 rs:∀ d s as M' σ H' v,R.rs d s->aD K c M' s as σ H'->Rep K H' M' d v->E.rt v H'
def tS(t:jg):TS:=λE σ H=>∃ M s as R,aD K c M s as σ H/\t R s/\pN K c M H R E
end
structure DE(X:Cx)(c:Ent)(e:Cl)(t:aV):Prop where
 pe:PE X e (tE X.K c t)
structure DN(X:Cx)(c:Ent)(e:Cl)(t:aV):Prop where
 pe:PE X e (tN X.K c t)
structure DT(X:Cx)(c:Ent)(e:Cl)(t:lD):Prop where
 pt:PT X e (tT X.K c t)
structure DW(X:Cx)(c:Ent)(e:Cl)(t:lD):Prop where
 pw:PW X e (tT X.K c t)
structure DA(X:Cx)(c:Ent)(es:!Cl)(t:eJ):Prop where
 pa:PA X es (tA X.K c es.length t)
structure p6(X:Cx)(c:Ent)(st:Ev)(t:jg):Prop where
 ps:PS X st (tS X.K c t)
structure qg(X:Cx)(c:Ent)(st:!Ev)(t:jg):Prop where
 ps:nK X st (tS X.K c t)
section
variable{X:Cx}
theorem _root_.L2.PE.imp{e:Cl}{t t':TE}(h:PE X e t)(w:∀ σ H Q,t' σ H Q->t σ H Q):PE X e t':=λTW s σ H Q I q=>h TW s σ H Q I (w σ H Q q)
theorem _root_.L2.PT.imp{e:Cl}{t t':TT}(h:PT X e t)(w:∀ σ H Q,t' σ H Q->t σ H Q):PT X e t':=λTW s σ H Q I q=>h TW s σ H Q I (w σ H Q q)
theorem _root_.L2.PW.imp{e:Cl}{t t':TT}(h:PW X e t)(w:∀ σ H Q,t' σ H Q->t σ H Q):PW X e t':=λwh TW s σ H Q I q=>h wh TW s σ H Q I (w σ H Q q)
theorem _root_.L2.PA.imp{es:!Cl}{t t':TA}(h:PA X es t)(w:∀ σ H Q,t' σ H Q->t σ H Q):PA X es t':=λpos TW s σ H Q I q=>h pos TW s σ H Q I (w σ H Q q)
theorem _root_.L2.PS.imp{st:Ev}{t t':TS}(h:PS X st t)(w:∀ E σ H,t' E σ H->t E σ H):PS X st t':=λTW s σ H E I q=>h TW s σ H E I (w E σ H q)
theorem _root_.L2.nK.imp{st:!Ev}{t t':TS}(h:nK X st t)(w:∀ E σ H,t' E σ H->t E σ H):nK X st t':=λTW s σ H E I q=>h TW s σ H E I (w E σ H q)
end
section
variable{X:Cx}{c:Ent}{a b e:Cl}{es:!Cl}{ta tb te:aV}{t:eJ}{pos:Pos}
theorem Ext.plus{as:!AC}{M M':AC->Prop}{s s':DS}{H H':Hp}{a:AC}(E:Ext c as M s H M' s' H')(n:H a=none\/dF s as a):Ext c as M s H (λb=>M' b\/b=a) s' H' :=
 #[λb h=>.inl (E.sub b h),λb h=>by
  rcases h with h | rfl
  .exact E.new b h
  .exact .inr (n.imp .inl id),E.keep,E.iz]
theorem DN.de(h:DN X c e te):DE X c e te:=#[h.pe.imp λσ H Q zz=>cV zz λM s as R L q k =>
 #[M,s,as,R,L,q,λd s' r M' H' a o L' E ha ro nm ng nw h0 hn =>
  k d s' r _ H' (.ref a) (L'.grown ha ng nw h0) (E.plus hn) ((ro.mono (λ_ h=>.inl h) λ_ _ _ e=>e).rep ha (.inr U))]]
def K2(i:Nat):aV:=λs Q=>∃ d,s.sl[i]?=some (.dat d)/\Q d s
theorem dv{i:Nat}(h:PE X e (bN i)):DE X c e (K2 i):=#[h.imp λσ H Q z6q=>by
 let(M,s,as,R,L,(d,e,q),k):=z6q;let(v,h1,h2):=L.dat i d e;exact#[v,h1,k d s q M H v L .refl h2]]
def K1(d:D):aV:=λs Q=>Q d s
def RT:D->V->Prop
 | .bT,v=>v=.bT
 | .bl b,v=>v=.bl b
 | .int i,v=>v=.int i
 | .str x,v=>v=.str x
 | .bG a,v=>v=.ref a
 | .ty n,v=>v=.ty n
 | _,_=>False
theorem RT.rep{d:D}{v:V}{K:Frag}{H:Hp}{M:AC->Prop}(h:RT d v):Rep K H M d v:=by
 cases d<;>first | exact h | exact h.elim
theorem dc{d:D}{v:V}(h:PE X e (tC v))(r:RT d v):DE X c e (K1 d):=#[h.imp λσ H Q zz=>cV zz λM s as R L q k=>k d s q M H v L .refl r.rep]
theorem aj{i j}:DE X c (.Constant (.int i) j pos) (K1 (.int i)):=dc bQ U
theorem jY{i j}:DE X c (.Constant (.bool i) j pos) (K1 (.bl i)):=dc Oy U
theorem uI{j}:DE X c (.Constant .none j pos) (K1 .bT):=dc KC U
theorem ay{i j}:DE X c (.Constant (.str i) j pos) (K1 (.str i)):=dc dJ U
def xB:eJ:=λs Q=>Q [] s
def sY(ta:aV)(tr:eJ):eJ:=λs Q=>ta s λd s1=>tr s1 λds s2=>Q (d::ds) s2
theorem af:DA X c [] xB:=#[l8.imp λσ H Q zz=>cV zz λM s as R L q k=>k [] s q M H [] L .refl U U]
theorem ae(ha:DE X c e te)(hr:DA X c es t)(hs:(Ya X.env e es)⁻¹):DA X c (e::es) (sY te t) :=
 #[(fC ha.pe hr.pa hs).imp λσ H Q zz=>cV zz λM s as R L q k =>
   #[M,s,as,_,L,q,λd s1 q1 M1 H1 x L1 E1 r1=>#[M1,s1,as,_,L1,q1,λds s2 q2 M2 H2 xs Lb E2 r2 hl =>
    k _ s2 q2 M2 H2 _ Lb (E1.trans L1.base E2) #[x,xs,U,E2.rep L1 r1,r2] (by rw[Wi,Wi,hl])]]]
def MT(t:eJ):aV:=λs Q=>t s λds s1=>Q (.tup ds) s1
def NY(t:eJ):aV:=λs Q=>t s λds s1=>Q (.lst ds) s1
theorem U1{n:Nat}(h:(n<=1000:Bool)=true):n<=FB:=Ws (of_decide_eq_true h) ()
theorem aH{x1}(h:DA X c es t)(hn:((es.length<=1000:Bool)=true)⁻¹):DE X c (.Tuple es x1 pos) (MT t):=#[(IL h.pa).imp λσ H Q zz=>cV zz λM s as R L q k =>
 #[M,s,as,_,L,q,λds s1 q1 M1 H1 xs L1 E1 r1 hl=>#[by rw[r1.length,hl];exact U1 hn,λp hp =>
  k _ s1 q1 _ _ _ (L1.fresh hp) (E1.trans L1.base (Ext.fresh hp)) #[p,xs,U,#[.inr U,aA],kZ hp r1]]]]
theorem notM{K:Frag}{M:AC->Prop}{s:DS}{as:!AC}{σ:St}{H:Hp}{p:AC}(L:aD K c M s as σ H)(hp:H p=none):¬ M p/\¬ c.g.own p/\¬ dF s as p/\c.H0 p=none:=by
 show#[λm=>?_,λg=>?_,λw=>?_,L.base.oQ hp]
 .let(u,e):=L.base.md p m;rw[hp] at e;cases e
 .let(u,e):=c.g.KL H p L.base.nE g;rw[hp] at e;cases e
 .let(_,_,_,u,e):=L.nM w;rw[hp] at e;cases e
theorem ij{K:Frag}{as:!AC}{M M1:AC->Prop}{s s1:DS}{σ:St}{H H1:Hp}{p:AC}{o:HO}{Q:VK}{d:D}(L:aD K c M s as σ H)(L1:aD K c M1 s1 as σ H1)(E1:Ext c as M s H M1 s1 H1)(hp:H1 p=none)(r:cx K H1 M1 d o)(k:∀ M' H' a o,aD K c M' s1 as σ H'->Ext c as M s H M' s1 H'->H' a=some o->cx K H' M' d o->¬ M' a->¬ c.g.own a->¬ dF s1 as a->c.H0 a=none->(H a=none\/dF s as a)->Q (.ref a) H'):Q (.ref p) (upd H1 p o):=by
 let(n1,n2,n3,n4):=notM L1 hp;show k M1 (upd H1 p o) p o (L1.laid hp) (E1.trans L1.base (Ext.laid hp)) aA (r.mono (λ_ h=>h) λb u _ e=>by rw[aw (aE e hp)];exact e) n1 n2 n3 n4 ?_;cases q:H p with
 | none=>exact .inl U
 | some u =>
  by_cases w:dF s as p
  .exact .inr w
  .have:=E1.keep p u q n2 w;rw[hp] at this;cases this
theorem aP(h:DA X c es t)(hn:((es.length<=1000:Bool)=true)⁻¹):DN X c (.List es pos) (NY t):=#[(IF h.pa).imp λσ H Q zz=>cV zz λM s as R L q k =>
 #[M,s,as,_,L,q,λds s1 q1 M1 H1 xs L1 E1 r1 hl=>#[by rw[r1.length,hl];exact U1 hn,λp hp =>
  ij L L1 E1 hp (d:=.lst ds) r1 (k _ s1 q1)]]]
def Vm(C:D->(D->Prop)->Prop)(ta:aV):aV:=λs Q=>ta s λa s1=>C a λd=>Q d s1
def BZ(C:D->D->(D->Prop)->Prop)(ta tb:aV):aV:=λs Q=>ta s λa s1=>tb s1 λb s2=>C a b λd=>Q d s2
def qX(X:Cx)(c:Ent)(r:R2)(C:D->D->(D->Prop)->Prop):Prop:=∀ (M:AC->Prop) (s:DS) (as:!AC) (σ:St) (H:Hp) (x y:V) (dx dy:D) (k:D->Prop) (Q:VK),aD X.K c M s as σ H->Rep X.K H M dx x->Rep X.K H M dy y->C dx dy k ->
 (∀ d,k d->∀ M' H' v,aD X.K c M' s as σ H'->Ext c as M s H M' s H'->Rep X.K H' M' d v->Q v H')->r x y H Q
def JU(X:Cx)(c:Ent)(r:R2)(C:D->D->(D->Prop)->Prop):Prop:=∀ (M:AC->Prop) (s:DS) (as:!AC) (σ:St) (H:Hp) (x y:V) (dx dy:D) (k:D->Prop) (Q:VK),aD X.K c M s as σ H->Rep X.K H M dx x->Rep X.K H M dy y->C dx dy k ->
 (∀ d,k d->∀ p o,H p=none->cx X.K H M d o->Q (.ref p) (upd H p o))->r x y H Q
theorem Ef{r:R2}{C:D->D->(D->Prop)->Prop}(k:qX X c r C){σ:St}{H:Hp}{Q:VK}:tE X.K c (BZ C ta tb) σ H Q->iW r (tE X.K c ta) (tE X.K c tb) σ H Q:=λzz=>cV zz λM s as R L q kk =>
 #[M,s,as,_,L,q,λda s1 q1 M1 H1 x L1 E1 r1=>#[M1,s1,as,_,L1,q1,λdb s2 q2 M2 H2 y Lb E2 r2 =>
  k M2 s2 as σ H2 x y da db (λd=>R d s2) Q Lb (E2.rep L1 r1) r2 q2 λd rd M' H' v L' E' rv=>kk d s2 rd M' H' v L' ((E1.trans L1.base E2).trans Lb.base E') rv]]
theorem Tf{r:R2}{C:D->D->(D->Prop)->Prop}(k:JU X c r C){σ:St}{H:Hp}{Q:VK}:tN X.K c (BZ C ta tb) σ H Q->iW r (tE X.K c ta) (tE X.K c tb) σ H Q:=λzz=>cV zz λM s as R L q kk =>
 #[M,s,as,_,L,q,λda s1 q1 M1 H1 x L1 E1 r1=>#[M1,s1,as,_,L1,q1,λdb s2 q2 M2 H2 y Lb E2 r2 =>
  k M2 s2 as σ H2 x y da db (λd=>R d s2) Q Lb (E2.rep L1 r1) r2 q2 λd rd p o hp ro=>ij L Lb (E1.trans L1.base E2) hp ro (kk d s2 rd)]]
theorem cM{op:Operator}{r:R2}{C:D->D->(D->Prop)->Prop}(ho:jC X (SC op) r)(k:qX X c r C)(ha:DE X c a ta)(hb:DE X c b tb):DE X c (.BinOp a op b pos) (BZ C ta tb):=#[(c5 ho ha.pe hb.pe).imp λ_ _ _=>Ef k]
theorem f7{op:Operator}{r:R2}{C:D->D->(D->Prop)->Prop}(ho:jC X (SC op) r)(k:JU X c r C)(ha:DE X c a ta)(hb:DE X c b tb):DN X c (.BinOp a op b pos) (BZ C ta tb):=#[(c5 ho ha.pe hb.pe).imp λ_ _ _=>Tf k]
theorem kK{op:CmpOp}{r:R2}{C:D->D->(D->Prop)->Prop}(ho:jC X (KM op) r)(k:qX X c r C)(ha:DE X c a ta)(hb:DE X c b tb)(hm:behindInMarks op b=false):DE X c (.Compare a [op] [b] pos) (BZ C ta tb):=#[(Es ho ha.pe hb.pe hm).imp λ_ _ _=>Ef k]
theorem CP{r:R2}{C:D->D->(D->Prop)->Prop}(ho:K4 X r)(k:qX X c r C)(ha:DE X c a ta)(hb:DE X c b tb)(hs:kO b):DE X c (.Subscript a b pos) (BZ C ta tb):=#[(B9 ho ha.pe hb.pe hs).imp λ_ _ _=>Ef k]
def Di(t:aV):lD:=λs Q=>t s λd s1=>∃ k,d=.bl k/\Q k s1
theorem fu{t:aV}{t':TE}(h:∀ {σ H Q},tE X.K c t σ H Q->t' σ H Q){σ:St}{H:Hp}{Q:Bool->Hp->Prop}:tT X.K c (Di t) σ H Q->qz t' σ H Q:=λzz=>cV zz λM s as R L q kk =>
 h #[M,s,as,_,L,q,λd s1 z3r M' H' v L' E' rv=>by
  let(k,e,r):=z3r;subst e;exact#[k,rv,kk k s1 r M' H' L' E']]
theorem aJ{op:CmpOp}{r:R2}{C:D->D->(D->Prop)->Prop}(ho:jC X (KM op) r)(k:qX X c r C)(ha:DE X c a ta)(hb:DE X c b tb)(hm:behindInMarks op b=false):DT X c (.Compare a [op] [b] pos) (Di (BZ C ta tb)) :=
 #[(hW ho ha.pe hb.pe hm).imp λ_ _ _=>fu (Ef k)]
theorem j2(h:DE X c e te)(he:∀ whole,isTrue e X.env whole=(do let v <- whole;standAt e.pos;holding [v] (truthy v)):=by intro _;rfl):DT X c e (Di te):=#[(HK h.pe he).imp λ_ _ _=>fu λq=>q]
def NG(t:lD):lD:=λs Q=>t s λb s1=>Q (not b) s1
theorem sJ{t:lD}(h:DT X c e t):DT X c (.UnaryOp .Not e pos) (NG t):=#[(Kh h.pt).imp λσ H Q zz=>cV zz λM s as R L q k=>#[M,s,as,_,L,q,λb s1 r M' H' L' E'=>k _ s1 r M' H' L' E']]
def NT(t u:lD):lD:=λs Q=>t s λb s1=>if b=true then u s1 Q else Q false s1
def torD(t u:lD):lD:=λs Q=>t s λb s1=>if b=true then Q true s1 else u s1 Q
theorem DW.dt{t:lD}(h:DW X c e t):DT X c e t:=#[h.pw.pt]
section
variable{tA tB:lD}{rest:!Cl}
theorem iu(h:DT X c a tA):DW X c (.BoolOp .And [a] pos) tA:=#[pw_and1 h.pt]
theorem Cp(h:DT X c a tA):DW X c (.BoolOp .Or [a] pos) tA:=#[pw_or1 h.pt]
theorem jZ(ha:DT X c a tA)(hb:DW X c (.BoolOp .And (b::rest) pos) tB):DW X c (.BoolOp .And (a::b::rest) pos) (NT tA tB):=#[(pw_and ha.pt hb.pw).imp λσ H Q zz=>cV zz λM s as R L q k =>
 #[M,s,as,_,L,q,λx s1 r M1 H1 L1 E1=>by
  cases x with
  | true=>exact oC #[M1,s1,as,_,L1,(by simpa using r),λy s2 r2 M2 H2 Lb E2=>k y s2 r2 M2 H2 Lb (E1.trans L1.base E2)]
  | false=>exact sP (k false s1 (by simpa using r) M1 H1 L1 E1)]]
theorem Bv(ha:DT X c a tA)(hb:DW X c (.BoolOp .Or (b::rest) pos) tB):DW X c (.BoolOp .Or (a::b::rest) pos) (torD tA tB):=#[(pw_or ha.pt hb.pw).imp λσ H Q zz=>cV zz λM s as R L q k =>
 #[M,s,as,_,L,q,λx s1 r M1 H1 L1 E1=>by
  cases x with
  | true=>exact oC (k true s1 (by simpa using r) M1 H1 L1 E1)
  | false=>exact sP #[M1,s1,as,_,L1,(by simpa using r),λy s2 r2 M2 H2 Lb E2=>k y s2 r2 M2 H2 Lb (E1.trans L1.base E2)]]]
def MG(ta tb:aV):aV:=λs Q=>ta s λx s1=>∃ k,x=.bl k/\if k=true then tb s1 Q else Q (.bl false) s1
theorem Gn{op}(h:DE X c a ta):DE X c (.BoolOp op [a] pos) ta:=#[IZ h.pe]
theorem CW(ha:DE X c a ta)(hb:DE X c (.BoolOp .And (b::rest) pos) tb):DE X c (.BoolOp .And (a::b::rest) pos) (MG ta tb):=#[(Hx ha.pe hb.pe).imp λσ H Q zz=>cV zz λM s as R L q k =>
 #[M,s,as,_,L,q,λx s1 z4r M1 H1 v L1 E1 rv=>by
  let(b,e,r):=z4r;subst e;show#[b,rv,?_];cases b with
  | true=>exact oC #[M1,s1,as,_,L1,(by simpa using r),λy s2 r2 M2 H2 w Lb E2 rw=>k y s2 r2 M2 H2 w Lb (E1.trans L1.base E2) rw]
  | false=>exact sP (k (.bl false) s1 (by simpa using r) M1 H1 _ L1 E1 U)]]
def SJ(t:lD)(ta tb:aV):aV:=λs Q=>t s λk s1=>if k=true then ta s1 Q else tb s1 Q
theorem Er{e:Cl}(hc:DT X c e tA)(ha:DE X c a ta)(hb:DE X c b tb):DE X c (.IfExp e a b pos) (SJ tA ta tb):=#[(AH hc.pt ha.pe hb.pe).imp λσ H Q zz=>cV zz λM s as R L q k =>
 #[M,s,as,_,L,q,λx s1 r M1 H1 L1 E1=>by
  cases x with
  | true=>exact oC #[M1,s1,as,_,L1,(by simpa using r),λy s2 r2 M2 H2 w Lb E2 rw=>k y s2 r2 M2 H2 w Lb (E1.trans L1.base E2) rw]
  | false=>exact sP #[M1,s1,as,_,L1,(by simpa using r),λy s2 r2 M2 H2 w Lb E2 rw=>k y s2 r2 M2 H2 w Lb (E1.trans L1.base E2) rw]]]
end
end
section
variable{K:Frag}{c:Ent}{M M' M1:AC->Prop}{s s' s1:DS}{as:!AC}{σ:St}{H H' H1:Hp}{a p:AC}{o:HO}{d:D}{v:V}
theorem ei.refl:ei M H M H:=λb m=>#[m,λ_ e=>e]
theorem ei.trans{M2:AC->Prop}{H2:Hp}(g1:ei M H M1 H1)(g2:ei M1 H1 M2 H2):ei M H M2 H2:=λb m=>#[(g2 b (g1 b m).1).1,λo e=>(g2 b (g1 b m).1).2 o ((g1 b m).2 o e)]
theorem Ext.grow(E:Ext c as M s H M' s' H')(L:aD K c M s as σ H):ei M H M' H':=λb m=>#[E.sub b m,λo e=>E.zY L b o m e]
theorem ei.u3(G:ei M H M' H'){ds:!D}{vs:!V}(r:az K H M ds vs):az K H' M' ds vs:=az.mono (λb m=>(G b m).1) (λb o m e=>(G b m).2 o e) ds vs r
theorem pN.grow{R:jN}{E:Ends}(k:pN K c M H R E)(G:ei M H M1 H1):pN K c M1 H1 R E :=
 #[λs as M' σ H' r L g=>k.nx s as M' σ H' r L (G.trans g),λs as M' σ H' r L g=>k.bk s as M' σ H' r L (G.trans g),λs as M' σ H' r L g=>k.ct s as M' σ H' r L (G.trans g),k.rt,k.rf,k.rs]
def DS.set(s:DS)(i:Nat)(x:Sl):DS:=#[s.sl.set i x,s.os]
def DS.put(s:DS)(k:Nat)(d:D):DS:=#[s.sl,s.os.set k (some d)]
theorem cD{α:Type}{l:!α}{i j:Nat}{x y:α}(h:(l.set i x)[j]?=some y):(i=j/\j < l.length/\y=x)\/(i≠j/\l[j]?=some y):=by
 by_cases e:i=j
 .subst e;by_cases hl:i < l.length
  .rw[WK hl] at h;exact .inl #[U,hl,(WC h).symm]
  .rw[XB (by rw[W4];cbv)] at h;cases h
 .rw[Wt e] at h;exact .inr #[e,h]
theorem aD.II(L:aD K c M s as σ H)(i:Nat)(r:Rep K H M d v):aD K c M (s.set i (.dat d)) as (σ.set i (some v)) H where
 base:=L.base
 len:=by change (s.sl.set i _).length=_;rw[W4,W4];exact L.len
 ek:=L.ek
 dat:=λj e h=>by
  rcases cD h with ⟨rfl,hl,q⟩ | ⟨ne,q⟩
  .cases q;exact#[v,WK (by rw[<- L.len];exact hl),r]
  .let(w,h1,h2):=L.dat j e q;exact#[w,by rw[Wt ne];exact h1,h2]
 own:=λj k h=>by
  rcases cD h with ⟨rfl,hl,q⟩ | ⟨ne,q⟩
  .cases q
  .let(w,h1,h2):=L.own j k q;exact#[w,h1,by rw[Wt ne];exact h2]
 obj:=L.obj
 inj:=L.inj
 lt:=L.lt
def noRef(k:Nat):Nat->!Sl->Bool
 | _,[]=>true
 | 0,_::r=>noRef k (r.length+1) r
 | i+1,.own j::r=>(j != k)&&noRef k i r
 | i+1,_::r=>noRef k i r
theorem lU{k:Nat}:∀ {l:!Sl} {i j:Nat},l.length<=i->noRef k i l=true->l[j]?≠some (.own k)
 | [],i,j,hl,h,e=>by simp at e
 | x::r,0,j,hl,h,e=>by simp at hl
 | x::r,i+1,0,hl,h,e=>by
  simp at e;subst e;simp[noRef] at h
 | x::r,i+1,j+1,hl,h,e=>by
  show lU (l:=r) (i:=i) (j:=j) (by simpa using hl) ?_ (by simpa using e);cases x with
  | own q=>simp[noRef] at h;exact h.2
  | no=>exact h
  | dat q=>exact h
theorem uf{k:Nat}:∀ {l:!Sl} {i j:Nat},noRef k i l=true->i≠j->l[j]?≠some (.own k)
 | [],i,j,h,ne,e=>by simp at e
 | x::r,0,0,h,ne,e=>ne U
 | x::r,0,j+1,h,ne,e=>by
  have e':r[j]?=some (.own k):=by simpa using e
  exact lU (l:=r) (i:=r.length+1) (by cbv) h e'
 | x::r,i+1,0,h,ne,e=>by
  simp at e;subst e;simp[noRef] at h
 | x::r,i+1,j+1,h,ne,e=>by
  show uf (l:=r) (i:=i) (j:=j) ?_ (by cbv) (by simpa using e);cases x with
  | own q=>simp[noRef] at h;exact h.2
  | no=>exact h
  | dat q=>exact h
theorem aD.Td(L:aD K c M s as σ H)(i k:Nat)(hk:k < s.os.length)(nr:noRef k i s.sl=true)(ha:H a=some o)(r:cx K H M d o)(nm:¬ M a)(ng:¬ c.g.own a)(nw:¬ dF s as a)(h0:c.H0 a=none)(gE:c.g.nh.length<=k) :
  aD K c M #[s.sl.set i (.own k),s.os.set k (some d)] (as.set k a) (σ.set i (some (.ref a))) H where
 base:=L.base
 len:=by change (s.sl.set i _).length=_;rw[W4,W4];exact L.len
 ek:=by change (as.set k a).length=(s.os.set k _).length;rw[W4,W4];exact L.ek
 dat:=λj e h=>by
  rcases cD h with ⟨rfl,hl,q⟩ | ⟨ne,q⟩
  .cases q
  .let(w,h1,h2):=L.dat j e q;exact#[w,by rw[Wt ne];exact h1,h2]
 own:=λj l h=>by
  rcases cD h with ⟨rfl,hl,q⟩ | ⟨ne,q⟩
  .cases q;exact#[a,WK (by rw[L.ek];exact hk),WK (by rw[<- L.len];exact hl)]
  .let(w,h1,h2):=L.own j l q;show#[w,?_,by rw[Wt ne];exact h2];have:k≠l:=λz=>by
    subst z;exact uf nr ne q
   rw[Wt this];exact h1
 obj:=λl e b h1 h2=>by
  rcases cD h1 with ⟨rfl,hl,q⟩ | ⟨ne,q⟩
  .cases q;rw[WK (by rw[L.ek];exact hl)] at h2;cases h2;exact#[#[o,ha,r],nm,ng,h0]
  .rw[Wt ne] at h2;exact L.obj l e b q h2
 inj:=λl m e f b h1 h2 g1 g2=>by
  rcases cD h1 with ⟨rfl,hl,q⟩ | ⟨ne,q⟩
  .rcases cD h2 with ⟨rfl,hl',q'⟩ | ⟨ne',q'⟩
   .rfl
   .rw[WK (by rw[L.ek];exact hl)] at g1;cases g1;rw[Wt ne'] at g2;exact absurd #[m,f,q',g2] nw
  .rcases cD h2 with ⟨rfl,hl',q'⟩ | ⟨ne',q'⟩
   .rw[WK (by rw[L.ek];exact hl')] at g2;cases g2;rw[Wt ne] at g1;exact absurd #[l,e,q,g1] nw
   .rw[Wt ne] at g1;rw[Wt ne'] at g2;exact L.inj l m e f b q q' g1 g2
 lt:=λl b h=>by
  have h1:=L.lt l b h;have hl:l < c.g.nh.length:=(Wb.mp h).1;rw[Wt (by cbv)];exact h1
theorem aD.kx{d0:D}{k:Nat}(L:aD K c M s as σ H)(hk:s.os[k]?=some (some d0))(ha:as[k]?=some a)(r:cx K H M d o):aD K c M (s.put k d) as σ (upd H a o):=by
 let((o0,q0,r0),nm,ng,h0):=L.obj k d0 a hk ha;have kp:∀ b u,b≠a->H b=some u->upd H a o b=some u:=λb u ne e=>by rw[aw ne];exact e
 have km:∀ b u,M b->H b=some u->upd H a o b=some u:=λb u m e=>kp b u (λz=>nm (z▸m)) e;show#[#[c.g.loc H _ L.base.nE λb u g e=>kp b u (λz=>g.elim (λg=>ng (z▸g)) λ#[φ,f]=>by subst f;rw[z,q0] at e;cases e;exact r0.next) e,λb u e g=>?_,λb m=>?_,L.base.mo,L.base.m0,L.base.mn],L.len,?_,λi e h=>?_,L.own,λl e b h1 h2=>?_,λl m e f b h1 h2 g1 g2=>?_,L.lt]
 .exact kp b u (λz=>by rw[z,h0] at e;cases e) (L.base.fr b u e g)
 .let(u,e):=L.base.md b m;exact#[u,km b u m e]
 .show as.length=(s.os.set k _).length;rw[W4];exact L.ek
 .let(w,h1,h2):=L.dat i e h;exact#[w,h1,Rep.mono (λ_ m=>m) km e w h2]
 .rcases cD h1 with ⟨rfl,hl,q⟩ | ⟨ne,q⟩
  .cases q;rw[ha] at h2;cases h2;exact#[#[o,aA,r.mono (λ_ m=>m) km],nm,ng,h0]
  .let((u,q1,q2),q3):=L.obj l e b q h2;show#[#[u,kp b u (λz=>?_) q1,q2.mono (λ_ m=>m) km],q3];subst z;exact ne (L.inj k l d0 e b hk q ha h2)
 .have back:∀ {l:Nat} {e:D},(s.put k d).os[l]?=some (some e)->∃ e',s.os[l]?=some (some e'):=λ{l e} h=>by
   rcases cD h with ⟨rfl,hl,q⟩ | ⟨ne,q⟩
   .exact#[d0,hk]
   .exact#[e,q]
  let(e',q1):=back h1;let(f',q2):=back h2;exact L.inj l m e' f' b q1 q2 g1 g2
theorem Ext.kx{d0:D}{k:Nat}(hk:s.os[k]?=some (some d0))(ha:as[k]?=some a):Ext c as M s H M (s.put k d) (upd H a o) where
 sub:=λ_ m=>m
 new:=λ_ m=>.inl m
 keep:=λb u e g w=>by
  have ne:b≠a:=λz=>by
   subst z;exact w #[k,d0,hk,ha]
  rw[aw ne];exact e
 iz:=λb z5r=>by
  let(l,e,h1,h2):=z5r;rcases cD h1 with ⟨rfl,hl,q⟩ | ⟨ne,q⟩
  .exact#[k,d0,hk,h2]
  .exact#[l,e,q,h2]
theorem aD.slot{i k:Nat}{d0:D}(L:aD K c M s as σ H)(hi:s.sl[i]?=some (.own k))(hk:s.os[k]?=some (some d0)):∃ a o,as[k]?=some a/\σ[i]?=some (some (.ref a))/\H a=some o/\cx K H M d0 o:=by
 let(a,h1,h2):=L.own i k hi;let((o,q1,q2),_):=L.obj k d0 a hk h1;exact#[a,o,h1,h2,q1,q2]
end
section
variable{X:Cx}{c:Ent}{a b e:Cl}{es:!Cl}{ta tb te:aV}{st:Ev}{qW:!Ev}{t u:jg}{pos:Pos}
def HH:jg:=λR s=>R.nx s
def Qw(t u:jg):jg:=λR s=>t { R with nx:=u R } s
theorem aK:qg X c [] HH:=#[t9.imp λE σ H zz=>cV zz λM s as R L q k=>k.nx s as M σ H q L .refl]
theorem ag(h1:p6 X c st t)(h2:qg X c qW u):qg X c (st::qW) (Qw t u):=#[(b4 h1.ps h2.ps).imp λE σ H zz=>cV zz λM s as R L q k =>
 #[M,s,as,{ R with nx:=u R },L,q,#[λs' as' M' σ' H' r L' G=>#[M',s',as',R,L',r,k.grow G],k.bk,k.ct,k.rt,k.rf,k.rs]]]
theorem au(h1:p6 X c st t):qg X c [st] t:=#[jk h1.ps]
theorem aN:qg X c qW (λ_ _=>False):=#[yM.imp λE σ H zz=>cV zz λM s as R L q k=>q.elim]
def Ak(te:aV):jg:=λR s=>te s λ_ s1=>R.nx s1
theorem aU(he:DE X c e te)(hs:(swapsWith e none pos.line X.env=pure false)⁻¹):p6 X c (.Expr e pos) (Ak te):=#[(Dx he.pe hs).imp λE σ H zz=>cV zz λM s as R L q k =>
 #[M,s,as,_,L,q,λd s1 r M' H' v L' E' rv=>k.nx s1 as M' σ H' r L' (E'.grow L)]]
def FK(te:aV):jg:=λR s=>te s λd _=>R.rt d
theorem bM(he:DE X c e te):p6 X c (.Return (some e) pos) (FK te):=#[(me he.pe).imp λE σ H zz=>cV zz λM s as R L q k =>
 #[M,s,as,_,L,q,λd s1 r M' H' v L' E' rv=>k.rt d M' H' v r L'.base rv]]
def Hf(i:Nat):jg:=λR s=>∃ k d,s.sl[i]?=some (.own k)/\s.os[k]?=some (some d)/\R.rf d
theorem BM{i:Nat}(he:PE X e (bN i)):p6 X c (.Return (some e) pos) (Hf i):=#[(me he).imp λE σ H z3q=>by
 let(M,s,as,R,L,(k,d,h1,h2,q),kk):=z3q;let(a,g1,g2):=L.own i k h1;let((o,q1,q2),nm,ng,h0):=L.obj k d a h2 g1;exact#[_,g2,kk.rf d M H a o q L.base q1 q2 nm ng h0]]
def Tj(tc:lD)(t u:jg):jg:=λR s=>tc s λb s1=>if b=true then t R s1 else u R s1
theorem bH{x:Cl}{l r:!Ev}{tc:lD}(hc:DT X c x tc)(ha:qg X c l t)(hb:qg X c r u):p6 X c (.If x l r pos) (Tj tc t u):=#[(FR hc.pt ha.ps hb.ps).imp λE σ H zz=>cV zz λM s as R L q k =>
 #[M,s,as,_,L,q,λb s1 r M' H' L' E'=>by
  cases b with
  | true=>exact oC #[M',s1,as,R,L',by simpa using r,k.grow (E'.grow L)]
  | false=>exact sP #[M',s1,as,R,L',by simpa using r,k.grow (E'.grow L)]]]
def AZ(i:Nat)(te:aV):jg:=λR s=>te s λd s1=>R.nx (s1.set i (.dat d))
theorem JJ{i:Nat}{Vb:TE}(h:∀ {σ H Q},tE X.K c te σ H Q->Vb σ H Q){E:Ends}{σ:St}{H:Hp}:tS X.K c (AZ i te) E σ H->jE Vb (ef i) E σ H:=λzz=>cV zz λM s as R L q k =>
 h #[M,s,as,_,L,q,λd s1 r M' H' v L' E' rv=>k.nx _ as M' _ H' r (L'.II i rv) (E'.grow L)]
theorem mH{i:Nat}(h:PS X st (jE (tE X.K c te) (ef i))):p6 X c st (AZ i te):=#[h.imp λE σ H=>JJ λq=>q]
def ltB{α:Type}:Nat->!α->Bool
 | 0,[]=>false
 | _+1,[]=>false
 | 0,_::_=>true
 | k+1,_::r=>ltB k r
theorem CA{α:Type}:∀ {k:Nat} {l:!α},ltB k l=true->k < l.length
 | 0,[],h=>by cases h
 | _+1,[],h=>by cases h
 | 0,_::_,_=>by simp
 | k+1,_::r,h=>by
  have:=CA (k:=k) (l:=r) h;simp;cbv
def AF(i k:Nat)(te:aV):jg:=λR s=>te s λd s1=>(ltB k s1.os=true/\noRef k i s1.sl=true)/\R.nx #[s1.sl.set i (.own k),s1.os.set k (some d)]
theorem IY{i k:Nat}(h:PS X st (jE (tN X.K c te) (ef i)))(gE:c.g.nh.length<=k:=by first | exact WH _ | exact We _ | exact Nat.succ_le_succ (WH _)):p6 X c st (AF i k te):=#[h.imp λE σ H zz=>cV zz λM s as R L q kk =>
 #[M,s,as,_,L,q,λd s1 #[#[hk,nr],r] M' H' a o L' E' ha ro nm ng nw h0 hn=>kk.nx _ _ M' _ H' r (L'.Td i k (CA hk) nr ha ro nm ng nw h0 gE) (E'.grow L)]]
abbrev pZ:=D->DS->(DS->Prop)->Prop
abbrev wR:=!D->DS->(DS->Prop)->Prop
def tG(K:Frag)(c:Ent)(n:Nat)(g:pZ):TG:=λv σ H Q=>∃ M s as d R,aD K c M s as σ H/\Rep K H M d v/\g d s R/\∀ s',R s'->∀ σ',aD K c M s' as σ' H->(∀ i,n<=i->σ'[i]?=σ[i]?)->s'.os=s.os->Q σ' H
def VM(K:Frag)(c:Ent)(n:Nat)(g:wR):Fo:=λvs σ H Q=>∃ M s as ds R,aD K c M s as σ H/\az K H M ds vs/\g ds s R/\∀ s',R s'->∀ σ',aD K c M s' as σ' H->(∀ i,n<=i->σ'[i]?=σ[i]?)->s'.os=s.os->Q σ' H
structure DG(X:Cx)(c:Ent)(n:Nat)(tg:Cl)(g:pZ):Prop where
 pg:PG X tg (tG X.K c n g)
structure Q6(X:Cx)(c:Ent)(n:Nat)(ts:!Cl)(g:wR):Prop where
 pg:GP X ts (VM X.K c n g)
theorem _root_.L2.PG.imp{tg:Cl}{t t':TG}(h:PG X tg t)(w:∀ v σ H Q,t' v σ H Q->t v σ H Q):PG X tg t':=λTW s σ H v u Q I r q=>h TW s σ H v u Q I r (w v σ H Q q)
theorem _root_.L2.GP.imp{tg:!Cl}{t t':Fo}(h:GP X tg t)(w:∀ v σ H Q,t' v σ H Q->t v σ H Q):GP X tg t':=λTW s σ H v u Q I r q=>h TW s σ H v u Q I r (w v σ H Q q)
section
variable{n:Nat}{tg:Cl}{FJ:!Cl}{g:pZ}{gs:wR}
def r9(i:Nat):pZ:=λd s Q=>Q (s.set i (.dat d))
theorem kc{i:Nat}(h:PG X tg (ef i))(hi:i < n):DG X c n tg (r9 i):=#[h.imp λv σ H Q z4q=>by let(M,s,as,d,R,L,r,q,k):=z4q;exact k _ q _ (L.II i r) (λj hj=>Wt (by cbv)) U]
def L8:wR:=λds s Q=>ds=[]/\Q s
def JH(g:pZ)(gs:wR):wR:=λds s Q=>∃ d r,ds=d::r/\g d s λs1=>gs r s1 Q
theorem ba:Q6 X c n [] L8:=#[Ek.imp λv σ H Q z5q=>by
 let(M,s,as,ds,R,L,r,(e,q),k):=z5q;subst e;exact#[r,k s q σ L (λ_ _=>rfl) U]]
theorem aq(h1:DG X c n tg g)(h2:Q6 X c n FJ gs)(hs:((assignEach (tg::FJ) X.env).map (·.2)=assign tg X.env::(assignEach FJ X.env).map (·.2))⁻¹):Q6 X c n (tg::FJ) (JH g gs) :=
 #[(CS h1.pg h2.pg hs).imp λv σ H Q z6q=>by
   let(M,s,as,ds,R,L,r,(d,dr,e,q),k):=z6q;subst e;let(x,xr,rfl,r1,r2):=r;exact#[x,xr,U,M,s,as,d,_,L,r1,q,λs1 q1 σ1 L1 e1 o1=>#[M,s1,as,dr,R,L1,r2,q1,λs2 q2 σ2 Lb e2 o2=>k s2 q2 σ2 Lb (λi hi=>(e2 i hi).trans (e1 i hi)) (o2.trans o1)]]]
def QR(m:Nat)(gs:wR):pZ:=λd s Q=>∃ ds,d=.tup ds/\ds.length=m/\gs ds s Q
theorem bb{k m:Nat}(hc:X.calm=true)(h:Q6 X c n FJ gs)(hn:((assignEach FJ X.env).length=m)⁻¹)(gn:((assignEach FJ X.env).findIdx? (·.1)=none)⁻¹):DG X c n (.Tuple FJ k pos) (QR m gs) :=
 #[(HW hc h.pg hn gn).imp λv σ H Q z7q=>by
   let(M,s,as,d,R,L,r,(ds,e,hl,q),kk):=z7q;subst e;let(a,xs,rfl,t,r):=r;exact#[a,xs,U,t.sq,r.length.trans hl,M,s,as,ds,R,L,r,q,kk]]
def PJ(te:aV)(g:pZ):jg:=λR s=>te s λd s1=>g d s1 R.nx
theorem fS(he:DE X c e te)(hg:DG X c n tg g)(hs:(swapsWithSole [tg] e pos.line X.env=pure false)⁻¹)(hw:(swappedStores [tg] e X.env=pure none)⁻¹)(h1:((assignEach [tg] X.env).map (·.2)=[assign tg X.env])⁻¹):p6 X c (.Assign [tg] e pos) (PJ te g):=#[(Ap he.pe hg.pg hs hw h1).imp λE σ H zz=>cV zz λM s as R L q k =>
 #[M,s,as,_,L,q,λd s1 r M' H' v L' E' rv=>#[M',s1,as,d,_,L',rv,r,λs2 q2 σ2 Lb _ _=>k.nx s2 as M' σ2 H' q2 Lb (E'.grow L)]]]
end
def VW(K:Frag)(M:AC->Prop)(H:Hp)(d:D)(x:V)(H':Hp):Prop :=
 (H'=H/\Rep K H M d x)\/∃ p o,H p=none/\H'=upd H p o/\Rep K H' (λb=>M b\/b=p) d x
def LY(K:Frag)(M:AC->Prop)(H:Hp)(ds:!D)(J:It):Prop:=∀ M1 H1,ei M H M1 H1 ->
 (∀ i,ds.length<=i->J.stop i H1)/\∀ i d,ds[i]?=some d->J.go i H1/\∀ x H2,J.Pq i H1 x H2->VW K M1 H1 d x H2
def tI(K:Frag)(c:Ent)(t:eJ):TI:=λσ H R=>∃ M s as R0,aD K c M s as σ H/\t s R0/\∀ ds s',R0 ds s'->∀ M' H' J,aD K c M' s' as σ H'->Ext c as M s H M' s' H'->LY K M' H' ds J->ds.length<=FB->R J H'
structure DI(X:Cx)(c:Ent)(tg iter:Cl)(t:eJ):Prop where
 pi:PI X tg iter (tI X.K c t)
def lT(g:pZ)(tb:jg)(R:jN):!D->DS->Prop
 | [],s=>R.nx s
 | x::xs,s=>g x s λs1=>tb { R with nx:=λs'=>lT g tb R xs s',ct:=λs'=>lT g tb R xs s',bk:=R.nx } s1
def F0(ti:eJ)(g:pZ)(tb:jg):jg:=λR s=>ti s λxs s1=>lT g tb R xs s1
theorem drop_cons{α:Type}{l:!α}{i:Nat}{x:α}(h:l[i]?=some x):l.drop i=x::l.drop (i+1):=by
 let(hl,e):=Wb.mp h;rw[WW hl,e]
theorem MN{n:Nat}{tg iter:Cl}{body:!Ev}{ti:eJ}{g:pZ}{tb:jg}(hp:PassesOwn (model X.prog X.w) X.A X.env X.xe)(hc:X.calm=true)(hi:DI X c tg iter ti)(hg:DG X c n tg g)(hb:qg X c body tb)(hs:Ye iter X.env:=by intro _;rfl):p6 X c (.For tg iter body [] pos) (F0 ti g tb):=#[(B5 hp hc hi.pi hg.pg hb.ps hs).imp λE σ H zz=>cV zz λM s as R L q k=>by
 show#[M,s,as,_,L,q,λxs s1 q1 M1 H1 J L1 E1 io hlen=>?_];show#[λi m σ' H'=>i<=xs.length/\m=xs.length - i/\∃ M' s' as',aD X.K c M' s' as' σ' H'/\ei M1 H1 M' H'/\lT g tb R (xs.drop i) s',#[_,WH _,U,M1,s1,as,L1,.refl,q1],?_];rintro i m σ' H' ⟨hi,rfl,M',s',as',L',G',q'⟩;let(h1,h2):=io M' H' G';by_cases gE:i < xs.length
 .refine .inr ?_;have hx:xs[i]?=some xs[i]:=Wq gE;let(hgo,hy):=h2 i _ hx;rw[drop_cons hx] at q';have next:∀ s2 as2 M2 σ2 H2,lT g tb R (xs.drop (i+1)) s2->aD X.K c M2 s2 as2 σ2 H2->ei M1 H1 M2 H2->∃ m',m' < xs.length - i/\(i+1<=xs.length/\m'=xs.length - (i+1)/\∃ M' s' as',aD X.K c M' s' as' σ2 H2/\ei M1 H1 M' H2/\lT g tb R (xs.drop (i+1)) s') :=
   λs2 as2 M2 σ2 H2 f L2 G2=>#[xs.length - (i+1),by cbv,gE,U,M2,s2,as2,L2,G2,f]
  show#[hgo,λσ2 H2=>∃ s2 as2 M2,lT g tb R (xs.drop (i+1)) s2/\aD X.K c M2 s2 as2 σ2 H2/\ei M1 H1 M2 H2,λσ2 H2 z8q=>by let(s2,as2,M2,f,L2,G2):=z8q;exact next s2 as2 M2 σ2 H2 f L2 G2,λx H2 y=>?_];have go:∀ M2,aD X.K c M2 s' as' σ' H2->Rep X.K H2 M2 xs[i] x->ei M1 H1 M2 H2->ei M H M2 H2->tG X.K c n g x σ' H2 λσ2 H2=>tS X.K c tb { nx:=λσ2 H2=>∃ s2 as2 M2,lT g tb R (xs.drop (i+1)) s2/\aD X.K c M2 s2 as2 σ2 H2/\ei M1 H1 M2 H2,rt:=E.rt,bk:=E.nx,ct:=λσ2 H2=>∃ s2 as2 M2,lT g tb R (xs.drop (i+1)) s2/\aD X.K c M2 s2 as2 σ2 H2/\ei M1 H1 M2 H2 } σ2 H2:=λM2 L2 r2 G2 G0 =>
   #[M2,s',as',_,_,L2,r2,q',λs3 q3 σ3 L3 _ _=>#[M2,s3,as',_,L3,q3,#[λs4 as4 M4 σ4 H4 f L4 G4=>#[s4,as4,M4,f,L4,G2.trans G4],λs4 as4 M4 σ4 H4 f L4 G4=>k.nx s4 as4 M4 σ4 H4 f L4 (G0.trans G4),λs4 as4 M4 σ4 H4 f L4 G4=>#[s4,as4,M4,f,L4,G2.trans G4],k.rt,k.rf,k.rs]]]
  rcases hy x H2 y with ⟨rfl,r⟩ | ⟨p,o,hp,rfl,r⟩
  .exact go M' L' r G' ((E1.grow L).trans G')
  .have G2:ei M' H' (λb=>M' b\/b=p) (upd H' p o):=λb mb=>#[.inl mb,λu e=>by rw[aw (aE e hp)];exact e];exact go _ (L'.fresh hp) r (G'.trans G2) (((E1.grow L).trans G').trans G2)
 .have e:i=xs.length:=by cbv
  subst e;rw[List.drop_length] at q';exact .inl #[h1 _ (We _),k.nx s' as' M' σ' H' q' L' ((E1.grow L).trans G')]]
def E4(tc:lD)(tb:jg):jg:=λR s=>∃ W:Nat->DS->Prop,(∃ m,W m s)/\∀ m s,W m s->tc s λb s1=>if b=true then tb { R with nx:=λs'=>∃ m',m' < m/\W m' s',ct:=λs'=>∃ m',m' < m/\W m' s',bk:=R.nx } s1 else R.nx s1
theorem Ed{x:Cl}{body:!Ev}{tc:lD}{tb:jg}(hp:PassesOwn (model X.prog X.w) X.A X.env X.xe)(hc:DT X c x tc)(hb:qg X c body tb):p6 X c (.While x body [] pos) (E4 tc tb):=#[(vv hp hc.pt hb.ps).imp λE σ H z9q=>by
 let(M,s,as,R,L,(W,(m0,w0),turn),k):=z9q;show#[λm σ' H'=>∃ M' s' as',aD X.K c M' s' as' σ' H'/\ei M H M' H'/\W m s',#[m0,M,s,as,L,.refl,w0],?_];rintro m σ' H' ⟨M',s',as',L',G',w'⟩;show#[M',s',as',_,L',turn m s' w',λb s1 q1 M1 H1 L1 E1=>?_];cases b with
 | true =>
  show oC #[λσ2 H2=>∃ s2 as2 M2,(∃ m',m' < m/\W m' s2)/\aD X.K c M2 s2 as2 σ2 H2/\ei M H M2 H2,λσ2 H2 z0q=>by let(s2,as2,M2,(m',hm,w2),L2,G2):=z0q;exact#[m',hm,M2,s2,as2,L2,G2,w2],?_];have G1:=G'.trans (E1.grow L');exact#[M1,s1,as',{ R with nx:=λs'=>∃ m',m' < m/\W m' s',ct:=λs'=>∃ m',m' < m/\W m' s',bk:=R.nx },L1,by simpa using q1,#[λs4 as4 M4 σ4 H4 f L4 G4=>#[s4,as4,M4,f,L4,G1.trans G4],λs4 as4 M4 σ4 H4 f L4 G4=>k.nx s4 as4 M4 σ4 H4 f L4 (G1.trans G4),λs4 as4 M4 σ4 H4 f L4 G4=>#[s4,as4,M4,f,L4,G1.trans G4],k.rt,k.rf,k.rs]]
 | false=>exact sP (k.nx s1 as' M1 σ' H1 (by simpa using q1) L1 (G'.trans (E1.grow L')))]
end
abbrev X9:=!D->(D->Prop)->Prop
def cQ(K:Frag)(g:yq)(t:X9):Sp:=λvs H Q _=>∃ M ds R,Base #[g,M,H] M H/\az K H M ds vs/\t ds R/\∀ d,R d->∀ M' H' v,Base #[g,M,H] M' H'->Rep K H' M' d v->Q v H'
def zG(K:Frag)(g:yq)(t:X9):Sp:=λvs H Q _=>∃ M ds R,Base #[g,M,H] M H/\az K H M ds vs/\t ds R/\∀ d,R d->∀ M' H' a o,Base #[g,M,H] M' H'->H' a=some o->cx K H' M' d o->¬ M' a->¬ g.own a->H a=none->Q (.ref a) H'
section
variable{K:Frag}{c:Ent}{M M' M1:AC->Prop}{s s' s1:DS}{as:!AC}{σ:St}{H H' H1:Hp}
theorem Base.here(B:Base c M H):Base #[c.g,M,H] M H:=#[B.nE,λ_ _ e _=>e,B.md,B.mo,λ_ m=>m,λ_ m=>.inl m]
theorem Base.mD(B:Base c M H):Base #[.no,M,H] M H:=#[trivial,λ_ _ e _=>e,B.md,λ_ _ h=>h,λ_ m=>m,λ_ m=>.inl m]
theorem Base.sE(B:Base c M H)(B':Base #[.no,M,H] M' H'):Base #[c.g,M,H] M' H' where
 nE:=c.g.loc H H' B.nE λb o _ e=>B'.fr b o e λz=>z
 fr:=λb o e _=>B'.fr b o e λz=>z
 md:=B'.md
 mo:=λb m g=>by
  rcases B'.mn b m with m | n | ⟨xs,n⟩
  .exact B.mo b m g
  .let(o,e):=c.g.KL H b B.nE g;have n:H b=none:=n;rw[n] at e;cases e
  .exact c.g.nt H b xs B.nE g n
 m0:=B'.m0
 mn:=B'.mn
theorem aD.after(L:aD K c M s as σ H)(B:Base #[c.g,M,H] M' H'):aD K c M' s as σ H' where
 base:=#[B.nE,λb o e g=>B.fr b o (L.base.fr b o e g) g,B.md,B.mo,λb m=>B.m0 b (L.base.m0 b m),λb m=>by
  rcases B.mn b m with m | n | ⟨xs,n⟩
  .exact L.base.mn b m
  .exact .inr (.inl (L.base.oQ n))
  .have n:H b=some (.tup xs):=n;show .inr ?_;cases e:c.H0 b with
   | none=>exact .inl e
   | some o =>
    have:=L.base.fr b o e λg=>c.g.nt H b xs L.base.nE g n;rw[n] at this;cases this;exact .inr #[xs,e]]
 len:=L.len
 ek:=L.ek
 dat:=λi d e=>by
  let(v,h1,h2):=L.dat i d e;exact#[v,h1,Rep.mono B.m0 (λb o m e=>B.fr b o e (L.base.mo b m)) d v h2]
 own:=L.own
 obj:=λk d a h1 h2=>by
  let((o,q1,q2),nm,ng,h0):=L.obj k d a h1 h2;show#[#[o,B.fr a o q1 ng,q2.mono B.m0 λb o m e=>B.fr b o e (L.base.mo b m)],λm=>?_,ng,h0];rcases B.mn a m with m | n | ⟨xs,n⟩
  .exact nm m
  .have n:H a=none:=n;rw[n] at q1;cases q1
  .have n:H a=some (.tup xs):=n;rw[n] at q1;cases q1;exact q2.BS
 inj:=L.inj
 lt:=L.lt
theorem Ext.after(B:Base #[c.g,M,H] M' H'):Ext c as M s H M' s H':=#[B.m0,λb m=>by
 rcases B.mn b m with m | n
 .exact .inl m
 .exact .inr (.inl n),λb o e g _=>B.fr b o e g,λ_ h=>h]
end
section
variable{X:Cx}{c:Ent}{k:Nat}{f:AC}{fd:Go}{ps:!Str}{t:X9}{x:Str}{p pos:Pos}{e:Cl}{es:!Cl}{ta:eJ}
def iq(t:X9)(ta:eJ):aV:=λs Q=>ta s λds s1=>t ds λd=>Q d s1
theorem y0{σ:St}{H:Hp}{Q:VK}{n:Nat}{E:XK}:tE X.K c (iq t ta) σ H Q->yx (cQ X.K c.g t) [] E (tA X.K c n ta) σ H Q:=λzz=>cV zz λM s as R L q kk =>
 #[M,s,as,_,L,q,λds s1 q1 M1 H1 vs L1 E1 r1 hl=>#[M1,ds,_,L1.base.here,by rw[Wf];exact r1,q1,λd rd M' H' v B rv=>kk d s1 rd M' H' v (L1.after B) (E1.trans L1.base (Ext.after B)) rv]]
theorem Fd{σ:St}{H:Hp}{Q:VK}{n:Nat}{E:XK}:tE X.K c (iq t ta) σ H Q->yx (cQ X.K .no t) [] E (tA X.K c n ta) σ H Q:=λzz=>cV zz λM s as R L q kk =>
 #[M,s,as,_,L,q,λds s1 q1 M1 H1 vs L1 E1 r1 hl=>#[M1,ds,_,L1.base.mD,by rw[Wf];exact r1,q1,λd rd M' H' v B rv=>kk d s1 rd M' H' v (L1.after (L1.base.sE B)) (E1.trans L1.base (Ext.after (L1.base.sE B))) rv]]
theorem BB{K:Frag}{as:!AC}{M M1 M':AC->Prop}{s s1:DS}{σ:St}{H H1 H':Hp}{a:AC}(L:aD K c M s as σ H)(L1:aD K c M1 s1 as σ H1)(E1:Ext c as M s H M1 s1 H1)(B:Base #[c.g,M1,H1] M' H')(ng:¬ c.g.own a)(hn:H1 a=none) :
  ¬ dF s1 as a/\c.H0 a=none/\(H a=none\/dF s as a):=by
 show#[λw=>?_,L1.base.oQ hn,?_]
 .let(_,_,_,u,e):=L1.nM w;rw[hn] at e;cases e
 .cases q:H a with
  | none=>exact .inl U
  | some u =>
   by_cases w:dF s as a
   .exact .inr w
   .have:=E1.keep a u q ng w;rw[hn] at this;cases this
theorem Ax{σ:St}{H:Hp}{Q:VK}{n:Nat}{E:XK}:tN X.K c (iq t ta) σ H Q->yx (zG X.K .no t) [] E (tA X.K c n ta) σ H Q:=λzz=>cV zz λM s as R L q kk =>
 #[M,s,as,_,L,q,λds s1 q1 M1 H1 vs L1 E1 r1 hl=>#[M1,ds,_,L1.base.mD,by rw[Wf];exact r1,q1,λd rd M' H' a o B ha ro nm ng hn=>by
  have ng':¬ c.g.own a:=λg=>by
   let(u,e):=c.g.KL H1 a L1.base.nE g;rw[hn] at e;cases e
  let(z1,z2,z3):=BB L L1 E1 (L1.base.sE B) ng' hn;exact kk d s1 rd M' H' a o (L1.after (L1.base.sE B)) (E1.trans L1.base (Ext.after (L1.base.sE B))) ha ro nm ng' z1 z2 z3]]
section
variable(hr:bO k X.A)(hg:Gl X x)(hm:X.mg x=some (.ref f))(hk:keepIn X.K (.ref f)=true)(hb:Binds X.K fd ps [])(ha:DA X c (e::es) ta)
include hr hg hm hk hb ha
theorem Jc(F:bP X.prog X.w X.K X.mg X.base aR k f fd ps (cQ X.K c.g t))(ig: ~~~(Yc x))(he:(Ya X.env e es)⁻¹)(fq:(Yb X.env pos es)⁻¹) :
  DE X c (.Call (.Name x p) (e::es) [] pos) (iq t ta):=#[(jw F hr hg hm hk hb .nil (E:=E0) hV ha.pa ig he fq).imp λ_ _ _=>y0]
theorem Ej(F:bP X.prog X.w X.K X.mg X.base aR k f fd ps (cQ X.K .no t))(ig: ~~~(Yc x))(he:(Ya X.env e es)⁻¹)(fq:(Yb X.env pos es)⁻¹) :
  DE X c (.Call (.Name x p) (e::es) [] pos) (iq t ta):=#[(jw F hr hg hm hk hb .nil (E:=E0) hV ha.pa ig he fq).imp λ_ _ _=>Fd]
theorem Fx(F:bP X.prog X.w X.K X.mg X.base aR k f fd ps (zG X.K .no t))(ig: ~~~(Yc x))(he:(Ya X.env e es)⁻¹)(fq:(Yb X.env pos es)⁻¹) :
  DN X c (.Call (.Name x p) (e::es) [] pos) (iq t ta):=#[(jw F hr hg hm hk hb .nil (E:=E0) hV ha.pa ig he fq).imp λ_ _ _=>Ax]
end
end
def dX(n nos:Nat)(ds:!D):DS:=#[ds.map .dat++List.replicate (n - ds.length) .no,List.replicate nos none]
theorem jU{K:Frag}{g:yq}{M:AC->Prop}{H:Hp}{N:!Str}{nos:Nat}{ds:!D}{vs:!V}(B:Base #[g,M,H] M H)(r:az K H M ds vs)(hg:g.nh=[]):aD K #[g,M,H] M (dX N.length nos ds) (List.replicate nos 0) (L2.start N vs) H where
 base:=B
 len:=by
  have:=r.length;change (ds.map Sl.dat++List.replicate (N.length - ds.length) Sl.no).length=(vs.map some++List.replicate (N.length - vs.length) none).length;simp[this]
 ek:=by simp[dX]
 dat:=λi d h=>by
  have hl:=r.length;by_cases hi:i < ds.length
  .have h':(ds.map Sl.dat)[i]?=some (.dat d):=by
    rw[dX,List.getElem?_append_left (by simpa using hi)] at h;exact h
   rw[WL] at h';let(e,h1,h2):=WN.mp h';cases h2;let(v,q1,q2):=r.get h1;show#[v,?_,q2];rw[L2.start,List.getElem?_append_left (by simp;cbv),List.getElem?_map,q1]
   rfl
  .rw[dX,List.getElem?_append_right (by simpa using hi)] at h;have:=Wb.mp h;let(_,e):=this;simp at e
 own:=λi k h=>by
  by_cases hi:i < ds.length
  .rw[dX,List.getElem?_append_left (by simpa using hi),List.getElem?_map] at h;let(e,h1,h2):=WN.mp h;cases h2
  .rw[dX,List.getElem?_append_right (by simpa using hi)] at h;let(_,e):=Wb.mp h;simp at e
 obj:=λk d a h=>by
  let(_,e):=Wb.mp h;simp[dX] at e
 inj:=λk l d e a h=>by
  let(_,e):=Wb.mp h;simp[dX] at e
 lt:=λk a h=>by
  have h:g.nh[k]?=some a:=h;rw[hg] at h;cases h
section
variable{P:GE}{w:Fa}{K:Frag}{mg:Str->Option AT}{base:EQ}
theorem Ol{x qual:Str}{st:Ev}{f:AC}{fd:Go}{N ps:!Str}{k nos:Nat}{g:yq}{t:X9}(F:tL K x qual st f fd)(S:av N ps (ai st))(len:∀ ds R,t ds R->ds.length=ps.length)(hb:∀ (bh:AT) (A:Fr) (outer:!Env) (s:Da) (H:Hp) (E:XK) (M:AC->Prop),bO k (A.deeper (envOfC qual (ai st) ↑s f bh)) ->
   ∃ tb,qg (iT aR P w K mg base N qual (ai st) f bh A outer s H E).wD #[g,M,H] (aL st) tb/\∀ ds R,t ds R->tb { nx:=λ_=>R .bT,rt:=R } (dX N.length nos ds))(hg:(g.nh=[])⁻¹):bP P w K mg base aR (k+1) f fd ps (cQ K g t):=by
 show F.ok S (λvs H Q E h=>?_) λbh A outer s H vs Q E hr h=>?_
 .let(M,ds,R,B,r,q,_):=h;rw[r.length];exact len ds R q
 .let(M,ds,R,B,r,q,kk):=h;let(tb,h1,h2):=hb bh A outer s H E M hr;exact#[_,h1.ps,M,_,_,_,jU B r hg,h2 ds R q,#[λs as M' σ H' r L _=>kk .bT r M' H' .bT L.base U,λ_ _ _ _ _ z=>z.elim,λ_ _ _ _ _ z=>z.elim,λd M' H' v r B' rv=>kk d r M' H' v B' rv,λ_ _ _ _ _ z=>z.elim,λ_ _ _ _ _ _ _ z=>z.elim]]
theorem VB{x qual:Str}{st:Ev}{f:AC}{fd:Go}{N ps:!Str}{k nos:Nat}{g:yq}{t:X9}(F:tL K x qual st f fd)(S:av N ps (ai st))(len:∀ ds R,t ds R->ds.length=ps.length)(hb:∀ (bh:AT) (A:Fr) (outer:!Env) (s:Da) (H:Hp) (E:XK) (M:AC->Prop),bO k (A.deeper (envOfC qual (ai st) ↑s f bh)) ->
   ∃ tb,qg (iT aR P w K mg base N qual (ai st) f bh A outer s H E).wD #[g,M,H] (aL st) tb/\∀ ds R,t ds R->tb { nx:=λ_=>False,rt:=λ_=>False,rf:=R } (dX N.length nos ds))(hg:(g.nh=[])⁻¹):bP P w K mg base aR (k+1) f fd ps (zG K g t):=by
 show F.ok S (λvs H Q E h=>?_) λbh A outer s H vs Q E hr h=>?_
 .let(M,ds,R,B,r,q,_):=h;rw[r.length];exact len ds R q
 .let(M,ds,R,B,r,q,kk):=h;let(tb,h1,h2):=hb bh A outer s H E M hr;exact#[_,h1.ps,M,_,_,_,jU B r hg,h2 ds R q,#[λ_ _ _ _ _ z=>z.elim,λ_ _ _ _ _ z=>z.elim,λ_ _ _ _ _ z=>z.elim,λ_ _ _ _ z=>z.elim,λd M' H' a o r B' ha ro nm ng h0=>kk d r M' H' a o B' ha ro nm ng h0,λ_ _ _ _ _ _ _ z=>z.elim]]
end
section
variable{K:Frag}{c:Ent}{M M' M1 M3 M6:AC->Prop}{s s' s1 s6:DS}{as:!AC}{σ σ4:St}{H H' H1 H3 H6:Hp}{a p q:AC}{o:HO}{d:D}{v:V}
def iF(nt:Nat)(us:!Nat)(s:DS):DS:=#[List.replicate nt .no++us.map λj=>s.sl.getD j .no,s.os]
theorem qZ{nt:Nat}{us:!Nat}{i:Nat}{x:Sl}(hx:x≠.no)(h:(iF nt us s).sl[i]?=some x):∃ j,us[i - nt]?=some j/\nt<=i/\s.sl[j]?=some x:=by
 by_cases hi:i < nt
 .rw[iF,List.getElem?_append_left (by simpa using hi)] at h;let(_,e):=Wb.mp h;simp at e;exact absurd e.symm hx
 .rw[iF,List.getElem?_append_right (by simpa using hi)] at h;simp only[List.length_replicate] at h;rw[WL] at h;let(j,h1,h2):=WN.mp h;show#[j,h1,by cbv,?_];rw[List.getD_eq_getElem?_getD] at h2;cases e:s.sl[j]? with
  | none=>rw[e] at h2;exact absurd h2.symm hx
  | some y=>rw[e] at h2;exact congrArg some h2
theorem va{nt:Nat}{us:!Nat}{i j:Nat}{v:V}(hj:us[i - nt]?=some j)(hi:nt<=i)(h:σ[j]?=some (some v)):(L2.lift nt us σ)[i]?=some (some v):=by
 rw[L2.lift,List.getElem?_append_right (by simpa using hi),List.length_replicate,List.getElem?_map,hj,Option.map_some,h]
 rfl
theorem aD.inner(L:aD K c M s as σ H)(nt:Nat)(us:!Nat):aD K c M (iF nt us s) as (L2.lift nt us σ) H where
 base:=L.base
 len:=by simp[iF,L2.lift]
 ek:=L.ek
 dat:=λi d h=>by
  let(j,h1,h2,h3):=qZ (by intro z;cases z) h;let(v,g1,g2):=L.dat j d h3;exact#[v,va h1 h2 g1,g2]
 own:=λi k h=>by
  let(j,h1,h2,h3):=qZ (by intro z;cases z) h;let(v,g1,g2):=L.own j k h3;exact#[v,g1,va h1 h2 g2]
 obj:=L.obj
 inj:=L.inj
 lt:=L.lt
theorem aD.outer(L:aD K c M s as σ H)(E:Ext c as M s1 H M6 s6 H6)(hs:s1.os=s.os)(L6:aD K c M6 s6 as σ4 H6):aD K c M6 #[s.sl,s6.os] as σ H6 where
 base:=L6.base
 len:=L.len
 ek:=L6.ek
 dat:=λi d h=>by
  let(v,g1,g2):=L.dat i d h;have E':Ext c as M s H M6 s6 H6:=#[E.sub,λb m=>by
   rcases E.new b m with h | h | ⟨k,e,h1,h2⟩
   .exact .inl h
   .exact .inr (.inl h)
   .exact .inr (.inr #[k,e,by rw[<- hs];exact h1,h2]),λb o e g w=>E.keep b o e g λ#[k,e,h1,h2]=>w #[k,e,by rw[<- hs];exact h1,h2],λb w=>by
   let(k,e,h1,h2):=E.iz b w;exact#[k,e,by rw[<- hs];exact h1,h2]]
  exact#[v,g1,E'.rep L g2]
 own:=L.own
 obj:=L6.obj
 inj:=L6.inj
 lt:=L6.lt
theorem Ext.os{s2 UK:DS}(E:Ext c as M s H M' s' H')(hs:s.os=s2.os)(Gk:s'.os=UK.os):Ext c as M s2 H M' UK H':=#[E.sub,λb m=>by
   rcases E.new b m with h | h | ⟨k,e,h1,h2⟩
   .exact .inl h
   .exact .inr (.inl h)
   .exact .inr (.inr #[k,e,by rw[<- hs];exact h1,h2]),λb o e g w=>E.keep b o e g λ#[k,e,h1,h2]=>w #[k,e,by rw[<- hs];exact h1,h2],λb z6r=>by
   let(k,e,h1,h2):=z6r;let(k,e,h1,h2):=E.iz b #[k,e,by rw[Gk];exact h1,h2];exact#[k,e,by rw[<- hs];exact h1,h2]]
theorem aD.wr{ys:!V}(L:aD K c M s as σ H)(hq:H q=some (.lst ys))(nm:¬ M q)(ng:¬ c.g.own q)(nw:¬ dF s as q)(h0:c.H0 q=none):aD K c M s as σ (upd H q o):=by
 have kp:∀ b u,b≠q->H b=some u->upd H q o b=some u:=λb u ne e=>by rw[aw ne];exact e
 have km:∀ b u,M b->H b=some u->upd H q o b=some u:=λb u m e=>kp b u (λz=>nm (z▸m)) e;show#[#[c.g.loc H _ L.base.nE λb u g e=>kp b u (λz=>g.elim (λg=>ng (z▸g)) λ#[φ,f]=>by subst f;rw[z,hq] at e;cases e) e,λb u e g=>kp b u (λz=>by rw[z,h0] at e;cases e) (L.base.fr b u e g),λb m=>?_,L.base.mo,L.base.m0,L.base.mn],L.len,L.ek,λi e h=>?_,L.own,λl e b h1 h2=>?_,L.inj,L.lt]
 .let(u,e):=L.base.md b m;exact#[u,km b u m e]
 .let(w,h1,h2):=L.dat i e h;exact#[w,h1,Rep.mono (λ_ m=>m) km e w h2]
 .let((u,q1,q2),q3):=L.obj l e b h1 h2;show#[#[u,kp b u (λz=>?_) q1,q2.mono (λ_ m=>m) km],q3];subst z;exact nw #[l,e,h1,h2]
theorem Ext.wr(hn:H q=none)(E:Ext c as M s H M' s' H'):Ext c as M s H M' s' (upd H' q o):=#[E.sub,E.new,λb u e g w=>by
 rw[aw (aE e hn)];exact E.keep b u e g w,E.iz]
theorem zK(L:aD K c M s as σ H)(E1:Ext c as M s H M1 s1 H1)(ng:¬ c.g.own a)(hn:H1 a=none):H a=none\/dF s as a:=by
 cases q:H a with
 | none=>exact .inl U
 | some u =>
  by_cases w:dF s as a
  .exact .inr w
  .have:=E1.keep a u q ng w;rw[hn] at this;cases this
end
def cA(nt:Nat)(us:!Nat)(g:pZ)(ti:lD)(te:aV):!D->!D->DS->(!D->DS->Prop)->Prop
 | [],acc,s,Q=>Q acc s
 | x::xs,acc,s,Q=>g x (iF nt us s) λs1=>ti s1 λb s2=>if b=true then te s2 λy s3=>cA nt us g ti te xs (acc++[y]) #[s.sl,s3.os] Q else cA nt us g ti te xs acc #[s.sl,s2.os] Q
def pf(nt:Nat)(us:!Nat)(tx:eJ)(g:pZ)(ti:lD)(te:aV):aV:=λs Q=>tx s λxs s1=>cA nt us g ti te xs [] s1 λys s2=>Q (.lst ys) s2
structure NF(X:Cx)(c:Ent)(ifs:!Cl)(t:lD):Prop where
 T1:K6 X ifs (tT X.K c t)
section
variable{X:Cx}{c:Ent}{e:Cl}{pos:Pos}
def dI:lD:=λs Q=>Q true s
theorem cF:NF X c [] dI:=#[λTW s σ H Q I z4q=>by let(M,s',as,R,L,q,k):=z4q;exact ye TW s σ H Q I (k true s' q M H L .refl)]
theorem gB{t:lD}(h:DT X c e t):NF X c [e] t:=#[xS h.pt]
end
section
variable{X:Cx}{c:Ent}{ts:!Str}{us:!Nat}{scope:Scope}{tg elt iter:Cl}{ifs:!Cl}{pos:Pos}{tx:eJ}{g:pZ}{ti:lD}{te:aV}
theorem yz{σ:St}{H:Hp}{Q:VK}:tN X.K c (pf ts.length us tx g ti te) σ H Q->uF ts.length us (tI X.K c tx) (tG X.K c ts.length g) (tT X.K c ti) (tE X.K c te) σ H Q:=λzz=>cV zz λM s as R L q k=>by
 show#[M,s,as,_,L,q,λxs s1 q1 M1 H1 J L1 E1 io hlen=>?_];intro A hA;let(n1,n2,n3,n4):=notM L1 hA;show#[λi m ys H2=>i<=xs.length/\m=xs.length - i/\ys.length<=i/\∃ M' s' zs,aD X.K c M' s' as σ H2/\Ext c as M1 s1 H1 M' s' H2/\H2 A=some (.lst ys)/\az X.K H2 M' zs ys/\¬ M' A/\cA ts.length us g ti te (xs.drop i) zs s' λys s2=>R (.lst ys) s2,
  #[_,WH _,U,We _,M1,s1,[],L1.laid hA,Ext.laid hA,aA,U,n1,q1],?_]
 rintro i m ys H2 ⟨hi,rfl,hy,M',s',zs,L',E',hD,rz,nm,q'⟩;have nw:∀ {Fy:DS},(∀ b,dF Fy as b->dF s' as b)->¬ dF Fy as A:=λh w=>n3 (E'.iz A (h A w));show#[hD,?_];have G':ei M1 H1 M' H2:=E'.grow L1;let(h1,h2):=io M' H2 G';by_cases gE:i < xs.length
 .refine .inr ?_;have hx:xs[i]?=some xs[i]:=Wq gE;let(hgo,hyl):=h2 i _ hx;rw[drop_cons hx] at q';show#[hgo,by cbv,λx H3 y=>?_];have go:∀ M3,aD X.K c M3 s' as σ H3->Rep X.K H3 M3 xs[i] x->Ext c as M' s' H2 M3 s' H3->H3 A=some (.lst ys)->¬ M3 A->tG X.K c ts.length g x (L2.lift ts.length us σ) H3 λσ4 H4=>AM (L2.lift ts.length us σ) σ4/\tT X.K c ti σ4 H4 λb H5 =>
    if b=true then tE X.K c te σ4 H5 λy H6=>H6 A=some (.lst ys)/\∃ m',m' < xs.length - i/\(i+1<=xs.length/\m'=xs.length - (i+1)/\(ys++[y]).length<=i+1/\∃ M' s' zs,aD X.K c M' s' as σ (upd H6 A (.lst (ys++[y])))/\Ext c as M1 s1 H1 M' s' (upd H6 A (.lst (ys++[y])))/\upd H6 A (.lst (ys++[y])) A=some (.lst (ys++[y]))/\az X.K (upd H6 A (.lst (ys++[y]))) M' zs (ys++[y])/\¬ M' A/\cA ts.length us g ti te (xs.drop (i+1)) zs s' λys s2=>R (.lst ys) s2)
    else ∃ m',m' < xs.length - i/\(i+1<=xs.length/\m'=xs.length - (i+1)/\ys.length<=i+1/\∃ M' s' zs,aD X.K c M' s' as σ H5/\Ext c as M1 s1 H1 M' s' H5/\H5 A=some (.lst ys)/\az X.K H5 M' zs ys/\¬ M' A/\cA ts.length us g ti te (xs.drop (i+1)) zs s' λys s2=>R (.lst ys) s2):=by
   intro M3 L3 r3 E3 hD3 nm3;show#[M3,_,as,_,_,L3.inner ts.length us,r3,q',λs4 q4 σ4 L4 e4 o4=>#[λj v hj=>?_,M3,s4,as,_,L4,q4,λb s5 r5 M5 H5 L5 E5=>?_]]
   .by_cases hjn:j < ts.length
    .rw[L2.lift,List.getElem?_append_left (by simpa using hjn)] at hj;let(_,e):=Wb.mp hj;simp at e
    .rw[e4 j (by cbv)];exact hj
   .have E5':Ext c as M3 s' H3 M5 #[s'.sl,s5.os] H5:=E5.os o4 U;have L5':aD X.K c M5 #[s'.sl,s5.os] as σ H5:=L3.outer E5 o4 L5;have F5:Ext c as M' s' H2 M5 #[s'.sl,s5.os] H5:=E3.trans L3.base E5';have hD5:H5 A=some (.lst ys):=E5'.keep A _ hD3 n2 (nw λ_ h=>h);have nm5:¬ M5 A:=λm=>by
     rcases E5'.new A m with m | (m | ⟨_,m⟩) | m
     .exact nm3 m
     .rw[hD3] at m;cases m
     .rw[hD3] at m;cases m
     .exact nw (λ_ h=>h) m
    cases b with
    | false =>
     rw[if_neg Wm] at r5;show sP ?_;exact#[xs.length - (i+1),by cbv,gE,U,by cbv,M5,_,zs,L5',E'.trans L'.base F5,hD5,F5.u3 L' rz,nm5,r5]
    | true =>
     rw[if_pos U] at r5;show oC ?_;show#[M5,s5,as,_,L5,r5,λy s6 r6 M6 H6 v L6 E6 rv=>?_];have E6':Ext c as M5 #[s'.sl,s5.os] H5 M6 #[s'.sl,s6.os] H6:=E6.os U U;have L6':aD X.K c M6 #[s'.sl,s6.os] as σ H6:=L5'.outer E6 U L6;have F6:Ext c as M' s' H2 M6 #[s'.sl,s6.os] H6:=F5.trans L5'.base E6';have hD6:H6 A=some (.lst ys):=E6'.keep A _ hD5 n2 (nw F5.iz);have nm6:¬ M6 A:=λm=>by
      rcases E6'.new A m with m | (m | ⟨_,m⟩) | m
      .exact nm5 m
      .rw[hD5] at m;cases m
      .rw[hD5] at m;cases m
      .exact nw F5.iz m
     have kM:∀ b u,M6 b->H6 b=some u->upd H6 A (.lst (ys++[v])) b=some u:=λb u mb e=>by
      have ne:b≠A:=λz=>by
       subst z;exact nm6 mb
      rw[aw ne];exact e
     show#[hD6,xs.length - (i+1),by cbv,gE,U,by simp;cbv,M6,_,zs++[y],L6'.wr hD6 nm6 n2 (nw F6.iz) n4,(E'.trans L'.base F6).wr hA,aA,?_,nm6,r6];exact az.mono (λ_ h=>h) kM _ _ ((F6.u3 L' rz).append (az.one rv))
  rcases hyl x H3 y with ⟨rfl,r⟩ | ⟨p,o,hp,rfl,r⟩
  .exact go M' L' r .refl hD nm
  .have hpA:A≠p:=aE hD hp;exact go _ (L'.fresh hp) r (Ext.fresh hp) (by rw[aw hpA];exact hD) λm=>by
    rcases m with m | m
    .exact nm m
    .exact hpA m
 .have e:i=xs.length:=by cbv
  subst e;rw[List.drop_length] at q';show .inl #[h1 _ (We _),k _ s' q' M' H2 A _ L' (E1.trans L1.base E') hD rz nm n2 (nw λ_ h=>h) n4 (zK L E1 n2 hA)]
theorem KQ(S:bD X ts us scope)(hc:X.calm=true)(hi:DI X c tg iter tx)(hg:∀ C s H fp,DG (X.comp ts us scope C s H fp) c ts.length tg g)(AR:∀ C s H fp,NF (X.comp ts us scope C s H fp) c ifs ti)(he:∀ C s H fp,DE (X.comp ts us scope C s H fp) c elt te)(hs:Ye iter X.env:=by intro _;rfl):DN X c (.ListComp elt [#[tg,iter,ifs,0]] scope pos) (pf ts.length us tx g ti te) :=
 #[(yu S hc hi.pi (λC s H fp=>(hg C s H fp).pg) (λC s H fp=>(AR C s H fp).T1) (λC s H fp=>(he C s H fp).pe) hs).imp λ_ _ _=>yz]
theorem lX{i:Nat}{x:Str}{px BG:Pos}(hN:X.N.Nodup)(Ca:X.N[i]?=some x)(hx:X.env.scope.names.lookup x=some .local)(S:bD X ts us scope)(hc:X.calm=true)(hi:DI X c tg iter tx)(hg:∀ C s H fp,DG (X.comp ts us scope C s H fp) c ts.length tg g)(AR:∀ C s H fp,NF (X.comp ts us scope C s H fp) c ifs ti)(he:∀ C s H fp,DE (X.comp ts us scope C s H fp) c elt te)(Lr:(swapsWith (.ListComp elt [#[tg,iter,ifs,0]] scope pos) (some (.Name x px)) BG.line X.env=pure true)⁻¹)(hs:Ye iter X.env:=by intro _;rfl):PS X (.Assign [.Name x px] (.ListComp elt [#[tg,iter,ifs,0]] scope pos) BG) (jE (tN X.K c (pf ts.length us tx g ti te)) (ef i)) :=
 (xo hN Ca hx S hc hi.pi (λC s H fp=>(hg C s H fp).pg) (λC s H fp=>(AR C s H fp).T1) (λC s H fp=>(he C s H fp).pe) Lr hs).imp λE σ H q=>yz q
theorem rm{i:Nat}{st:Ev}{te:aV}(h:PS X st (jE (tN X.K c te) (ef i))):PS X st (jE (tE X.K c te) (ef i)):=h.imp λE σ H zz=>cV zz λM s as R L q k =>
 #[M,s,as,R,L,q,λd s' r M' H' a o L' E ha ro nm ng nw h0 hn =>
  k d s' r _ H' (.ref a) (L'.grown ha ng nw h0) (E.plus hn) ((ro.mono (λ_ h=>.inl h) λ_ _ _ e=>e).rep ha (.inr U))]
end
end DL
namespace HT
open PySem PyProof.Rows
variable{prog:GE}{w:Fa}{A:Fr}{E:X7}{s:Da}
theorem jD{t sl:AC}{items:Array AT}{vl vu:AT}{lo hi:Option Int}{Q:X7}(ht:IsTup s.heap t items)(hs:s.heap.IsSliceOf sl vl vu .none)(pl:IsPart vl lo)(pu:IsPart vu hi)(hw:b8 items.size 0 lo=0/\b8 items.size items.size hi=items.size)(h:Q (.ref t) s):Db (model prog w) A (getItem (.ref t) (.ref sl)) Q E s:=by
 let(os,uc,hcs,hds):=id hs;have hTs:s.TypeIs (.ref sl) "slice":=#[os,uc,hcs];unfold getItem
 try with_reducible show NE ?_
 first | show Ch (FS ?_) | skip
 show Ch (wpAny_sequenceKey ht.typeIs () ?_);show Ch (wpAny_callSpecial?_slot (name:=Str.ofString "__getitem__") ht.typeIs PyProof.Rows.slot_tuple_getitem
  (SL PyProof.Rows.slot_tuple_getitem ht.typeIs entry_tuple_getitem ?_ (args_tuple_getitem _ _)))
 change Db _ _ (Fk.Tuple.tupleItemsOf (.ref t) >>= _) _ _ s;show Ch (tupleItemsOf_ ht ?_);show Ch (wpAny_typeOf hTs ?_);rw[if_pos ()];show Ch (gT hs pl pu ?_);have hno:(((b8 items.size 0 lo:Nat):Int) == 0&&(1:Int) == 1&&(b8 items.size items.size hi - b8 items.size 0 lo) == items.size)=true:=by
  rw[hw.1,hw.2];simp
 change Db _ _ (if (((b8 items.size 0 lo:Nat):Int) == 0&&(1:Int) == 1&&(b8 items.size items.size hi - b8 items.size 0 lo) == items.size)=true then _ else _) _ _ s;rw[if_pos hno];show Ch (m:=Fk.Tuple.tupleIsExact (.ref t)) (Ch (wpAny_typeOf ht.typeIs (FS ?_)));rw[if_pos ()];exact Ch (wpAny_rule (FS #[_,U,FS h]))
end HT
namespace L2
open PySem PySem.Spec PyProof.Rows
section
variable{X:Cx}
def MB(K:Frag):V->Option Int->Option Int->Hp->VK->Prop:=λx lo hi H Q=>∃ a xs,x=.ref a/\jx K H a xs /\
 ((HT.b8 xs.length 0 lo=0/\HT.b8 xs.length xs.length hi=xs.length)->Q (.ref a) H)/\(¬ (HT.b8 xs.length 0 lo=0/\HT.b8 xs.length xs.length hi=xs.length)->∀ p,H p=none->Q (.ref p) (upd H p (.tup (o5 xs lo hi))))
theorem EB:OL X (MB X.K):=by
 intro TW s σ H x v vl vu lo hi sl Q I rx hs pl pu h;let(a,xs,rfl,hx,q1,q2):=h;by_cases hw:HT.b8 xs.length 0 lo=0/\HT.b8 xs.length xs.length hi=xs.length
 .cases rx;let(its,r,ht,hz):=I.tuple hx;have hlen:its.toArray.size=xs.length:=by rw[Wx];exact r.length.symm
  exact#["tuple",_,PyProof.Rows.slot_tuple_getitem.lookup,ht.typeIs,HT.jD ht hs pl pu (by rw[hlen];exact hw) #[.ref a,H,I,U,q1 hw]]
 .exact Ja TW s σ H _ v vl vu lo hi sl Q I rx hs pl pu #[a,xs,U,hx,hw,q2 hw]
def SO(K:Frag)(tl:TE):TI:=λσ H R=>tl σ H λx H1=>∃ a,x=.ref a/\((∃ xs,d8 K H1 a xs/\(xs.length<=FB->R (JC K a) H1))\/∃ xs,jx K H1 a xs/\(xs.length<=FB->R (UI K a) H1))
theorem IG{tg l:Cl}{tl:TE}(hl:PE X l tl):PI X tg l (SO X.K tl):=by
 intro TW s σ H R I h;show b3 (hl TW s σ H _ I h) λv s1 zz=>el2 zz λx H1 I1 r1 q1=>?_;let(a,e,q1):=q1;subst e;cases r1;have fp:∀ b∈[↑s1],fb X TW H1 b:=λb hb=>by
  have e:b=↑s1:=by simpa using hb
  subst e;exact I1.pQ (We _) (I1.bx.fresh (We _))
 rcases q1 with ⟨xs,hq,q⟩ | ⟨xs,hq,q⟩
 .let(its,rv,p,hz):=I1.list hq;show wpAny_pyIter_list p.isList ?_;exact#[↑s1,[↑s1],_,_,H1,U,I1.kept (t':=s1.toks) λb o e=>V9 _ e,qo a _,#[_,Wl _ U,U,U],fp,q hz]
 .let(its,rv,p,hz):=I1.tuple hq;show wpAny_pyIter_tuple (show s1.heap.IsTuple a its.toArray from p) ?_;exact#[↑s1,[↑s1],_,_,H1,U,I1.kept (t':=s1.toks) λb o e=>V9 _ e,xb a _,#[_,Wl _ U,U,U],fp,q hz]
end
end L2
namespace DL
open PySem PySem.Spec L2
open PyProof.Rows hiding St
section
variable{X:Cx}{c:Ent}
def cI(P:Int->Int->Prop)(f:Int->Int->Int):D->D->(D->Prop)->Prop:=λa b k=>∃ i j,a=.int i/\b=.int j/\P i j/\k (.int (f i j))
def UB(f:Int->Int->Int):D->D->(D->Prop)->Prop:=λa b k=>∃ i j,a=.int i/\b=.int j/\k (.int (f i j))
def Vz(f:Int->Int->Bool):D->D->(D->Prop)->Prop:=λa b k=>∃ i j,a=.int i/\b=.int j/\k (.bl (f i j))
theorem yU{P:Int->Int->Prop}{f:Int->Int->Int}:qX X c (rI P λi j=>.int (f i j)) (cI P f):=λM s as σ H x y dx dy k Q L rx ry z7r kk=>by
 let(i,j,e1,e2,hp,hk):=z7r;subst e1;subst e2;exact#[i,j,rx,ry,hp,kk _ hk M H _ L .refl U]
theorem ik{f:Int->Int->Int}:qX X c (ua λi j=>.int (f i j)) (UB f):=λM s as σ H x y dx dy k Q L rx ry z8r kk=>by
 let(i,j,e1,e2,hk):=z8r;subst e1;subst e2;exact#[i,j,rx,ry,kk _ hk M H _ L .refl U]
theorem sA{f:Int->Int->Bool}:qX X c (ua λi j=>.bl (f i j)) (Vz f):=λM s as σ H x y dx dy k Q L rx ry z9r kk=>by
 let(i,j,e1,e2,hk):=z9r;subst e1;subst e2;exact#[i,j,rx,ry,kk _ hk M H _ L .refl U]
def fv:D->V
 | .bT=>.bT
 | .bl b=>.bl b
 | .int i=>.int i
 | .str x=>.str x
 | .ty n=>.ty n
 | .bG a=>.ref a
 | _=>.ref 0
def gJ:D->Bool
 | .bT=>true
 | .bl _=>true
 | .int _=>true
 | .str _=>true
 | _=>false
theorem Rep.flat{K:Frag}{H:Hp}{M:AC->Prop}{d:D}{v:V}(f:gJ d=true)(r:Rep K H M d v):v=fv d:=by
 cases d<;>first | exact r | (cases f)
theorem oH{d:D}(f:gJ d=true):jK (fv d)=true:=by
 cases d<;>first | rfl | (cases f)
theorem az.flat{K:Frag}{H:Hp}{M:AC->Prop}:∀ {ds:!D} {vs:!V},ds.all gJ=true->az K H M ds vs->vs=ds.map fv/\vs.all jK=true
 | [],vs,f,r=>by
  have r:vs=[]:=r;subst r;exact#[U,U]
 | d::ds,vs,f,r=>by
  let(x,xr,rfl,r1,r2):=r;rw[List.all_cons,WU] at f;let(h1,h2):=az.flat f.2 r2;have e:=r1.flat f.1;subst e;exact#[by rw[Wj,h1],by rw[List.all_cons,h2,oH f.1];rfl]
def VD:D->D->(D->Prop)->Prop:=λa b k=>(gJ a=true/\gJ b=true/\Dy (fv a) (fv b)=true)/\k (.bl (decide (fv a=fv b)))
def V1:D->D->(D->Prop)->Prop:=λa b k=>(gJ a=true/\gJ b=true/\Dy (fv a) (fv b)=true)/\k (.bl (not (decide (fv a=fv b))))
theorem eG:qX X c TM VD:=λM s as σ H x y dx dy k Q L rx ry z0r kk=>by
 let((f1,f2,hs),hk):=z0r;have e1:=rx.flat f1;have e2:=ry.flat f2;subst e1;subst e2;exact#[hs,kk _ hk M H _ L .refl U]
theorem vJ:qX X c Ue V1:=λM s as σ H x y dx dy k Q L rx ry z1r kk=>by
 let((f1,f2,hs),hk):=z1r;have e1:=rx.flat f1;have e2:=ry.flat f2;subst e1;subst e2;exact#[hs,kk _ hk M H _ L .refl U]
def VJ(neg:Bool):D->D->(D->Prop)->Prop:=λa b k=>∃ ds,(b=.lst ds\/b=.tup ds)/\(gJ a=true/\ds.all gJ=true)/\k (.bl (if neg then (not (v3 (fv a) (ds.map fv))) else v3 (fv a) (ds.map fv)))
theorem okIn{neg:Bool}:qX X c (Le X.K neg) (VJ neg):=λM s as σ H x y dx dy k Q L rx ry z2r kk=>by
 let(ds,hb,(f1,f2),hk):=z2r;have e1:=rx.flat f1;subst e1;have go:∀ {p xs},az X.K H M ds xs->(d8 X.K H p xs\/jx X.K H p xs)->Le X.K neg (fv dx) (.ref p) H Q:=λ{p xs} r h=>by
  let(e,f):=r.flat f2;show#[p,xs,U,h,oH f1,f,?_];rw[e];exact kk _ hk M H _ L .refl U
 rcases hb with rfl | rfl
 .let(p,xs,rfl,(m,h),r):=ry;exact go r (.inl (.of h))
 .let(p,xs,rfl,h,r):=ry;exact go r (.inr h.sq)
theorem az.at{K:Frag}{H:Hp}{M:AC->Prop}{ds:!D}{vs:!V}{i:Int}{d:D}(r:az K H M ds vs)(h:jF ds i=some d):∃ v,jF vs i=some v/\Rep K H M d v:=by
 unfold jF at h ⊢;rw[r.length];cases e:Ce ds.length i with
 | none=>rw[e] at h;cases h
 | some j =>
  rw[e] at h;exact r.get h
def LF:D->D->(D->Prop)->Prop:=λa b k=>∃ ds i d,a=.tup ds/\b=.int i/\jF ds i=some d/\k d
def Ip:D->D->(D->Prop)->Prop:=λa b k=>∃ ds i d,a=.lst ds/\b=.int i/\jF ds i=some d/\k d
def RN:D->D->(D->Prop)->Prop:=λa b k=>∃ z i ch,a=.str z/\b=.int i/\z.length<=FB/\jF z.cps.toList i=some ch/\k (.str #[#v[ch]])
theorem Mo:qX X c (Ph X.K) LF:=λM s as σ H x y dx dy k Q L rx ry z3r kk=>by
 let(ds,i,d,e1,e2,h,hk):=z3r;subst e1;subst e2;let(p,xs,rfl,t,r):=rx;let(v,h1,h2):=r.at h;exact#[p,xs,i,v,U,ry,t.sq,h1,kk _ hk M H _ L .refl h2]
theorem Mt:qX X c (Hs X.K) Ip:=λM s as σ H x y dx dy k Q L rx ry z4r kk=>by
 let(ds,i,d,e1,e2,h,hk):=z4r;subst e1;subst e2;let(p,xs,rfl,(m,t),r):=rx;let(v,h1,h2):=r.at h;exact#[p,xs,i,v,U,ry,.of t,h1,kk _ hk M H _ L .refl h2]
theorem z9:qX X c Qv RN:=λM s as σ H x y dx dy k Q L rx ry z5r kk=>by
 let(z,i,ch,e1,e2,hz,h,hk):=z5r;subst e1;subst e2;exact#[z,i,ch,rx,ry,hz,h,kk _ hk M H _ L .refl U]
def Su:D->D->(D->Prop)->Prop:=λa b k=>∃ xs ys,a=.lst xs/\b=.lst ys/\xs.length+ys.length<=FB/\k (.lst (xs++ys))
theorem dY:JU X c Nb Su:=λM s as σ H x y dx dy k Q L rx ry z6r kk=>by
 let(xs,ys,e1,e2,hl,hk):=z6r;subst e1;subst e2;let(p,vs,rfl,(m,t),r):=rx;let(p',vs',rfl,(m',t'),r'):=ry;exact#[p,p',vs,vs',U,U,t,t',by rw[r.length,r'.length];exact hl,λq hq=>kk _ hk q _ hq (r.append r')]
abbrev Fq:=DS->(Option Int->DS->Prop)->Prop
def tO(K:Frag)(c:Ent)(t:Fq):TO:=λσ H Q=>∃ M s as R,aD K c M s as σ H/\t s R/\∀ o s',R o s'->∀ M' H',aD K c M' s' as σ H'->Ext c as M s H M' s' H'->Q o H'
structure DO(X:Cx)(c:Ent)(e:Option Cl)(t:Fq):Prop where
 po:PO X e (tO X.K c t)
theorem _root_.L2.PO.imp{e:Option Cl}{t t':TO}(h:PO X e t)(w:∀ σ H Q,t' σ H Q->t σ H Q):PO X e t':=λTW s σ H Q I q=>h TW s σ H Q I (w σ H Q q)
def R7:Fq:=λs Q=>Q none s
def Kg(te:aV):Fq:=λs Q=>te s λd s1=>∃ i,d=.int i/\Q (some i) s1
theorem fj:DO X c none R7:=#[DX.imp λσ H Q zz=>cV zz λM s as R L q k=>k none s q M H L .refl]
theorem cH{e:Cl}{te:aV}(h:DE X c e te):DO X c (some e) (Kg te):=#[(tV h.pe).imp λσ H Q zz=>cV zz λM s as R L q k =>
 #[M,s,as,_,L,q,λd s1 z7r M' H' v L' E' rv=>by
  let(i,e,r):=z7r;subst e;exact#[i,rv,k (some i) s1 r M' H' L' E']]]
def cutD(xs:!D)(lo hi:Option Int):!D:=(xs.drop (HT.b8 xs.length 0 lo)).take (HT.b8 xs.length xs.length hi - HT.b8 xs.length 0 lo)
theorem az.cut{K:Frag}{H:Hp}{M:AC->Prop}{ds:!D}{vs:!V}(lo hi:Option Int)(r:az K H M ds vs):az K H M (cutD ds lo hi) (o5 vs lo hi):=by
 unfold cutD o5;rw[r.length];exact (r.drop _).take _
def NS(te:aV)(tl th:Fq)(k:!D->Option Int->Option Int->(D->Prop)->D->Prop):aV:=λs Q=>te s λa s1=>tl s1 λl s2=>th s2 λu s3=>∃ ds,k ds l u (λd=>Q d s3) a
def VE:!D->Option Int->Option Int->(D->Prop)->D->Prop:=λds l u Q a=>a=.lst ds/\Q (.lst (cutD ds l u))
def Vy:!D->Option Int->Option Int->(D->Prop)->D->Prop:=λds l u Q a=>a=.tup ds/\Q (.tup (cutD ds l u))
theorem dR{e:Cl}{lo hi:Option Cl}{te:aV}{tl th:Fq}{p2 pos:Pos}(he:DE X c e te)(hl:DO X c lo tl)(hu:DO X c hi th):DN X c (.Subscript e (.Slice lo hi none p2) pos) (NS te tl th VE):=#[(lr xq he.pe hl.po hu.po).imp λσ H Q zz=>cV zz λM s as R L q k =>
 #[M,s,as,_,L,q,λd s1 q1 M1 H1 v L1 E1 rv=>#[M1,s1,as,_,L1,q1,λl s2 q2 M2 H2 Lb E2=>#[M2,s2,as,_,Lb,q2,λu s3 q3 M3 H3 Lc E3=>by
  let(ds,e,q):=q3;subst e;have E13:=E2.trans Lb.base E3;let(p,xs,rfl,(m,t),r):=E13.rep L1 rv;exact#[p,xs,U,.of t,λb hb=>ij (d:=.lst _) L Lc (E1.trans L1.base E13) hb (r.cut l u) (k _ s3 q)]]]]]
theorem uP{e:Cl}{lo hi:Option Cl}{te:aV}{tl th:Fq}{p2 pos:Pos}(he:DE X c e te)(hl:DO X c lo tl)(hu:DO X c hi th):DE X c (.Subscript e (.Slice lo hi none p2) pos) (NS te tl th Vy):=#[(lr EB he.pe hl.po hu.po).imp λσ H Q zz=>cV zz λM s as R L q k =>
 #[M,s,as,_,L,q,λd s1 q1 M1 H1 v L1 E1 rv=>#[M1,s1,as,_,L1,q1,λl s2 q2 M2 H2 Lb E2=>#[M2,s2,as,_,Lb,q2,λu s3 q3 M3 H3 Lc E3=>by
  let(ds,e,q):=q3;subst e;have E13:=E2.trans Lb.base E3;have E0:=E1.trans L1.base E13;let(p,xs,rfl,t,r):=E13.rep L1 rv;show#[p,xs,U,t.sq,λhw=>?_,λhw b hb=>?_]
  .have e:cutD ds l u=ds:=by
    unfold cutD;rw[<- r.length,hw.1,hw.2,List.drop_zero,r.length,Nat.sub_zero,List.take_length]
   rw[e] at q;exact k _ s3 q M3 H3 _ Lc E0 #[p,xs,U,t,r]
  .exact k _ s3 q _ _ _ (Lc.fresh hb) (E0.trans Lc.base (Ext.fresh hb)) #[b,_,U,#[.inr U,aA],kZ hb (r.cut l u)]]]]]
def RW:D->(D->Prop)->Prop:=λa k=>∃ ds,a=.lst ds/\k (.lst ds.reverse)
theorem O7{e st:Cl}{te:aV}{p2 pos:Pos}(he:DE X c e te)(gn:PE X st (tC (.int (-1)))):DN X c (.Subscript e (.Slice none none (some st) p2) pos) (Vm RW te):=#[(Ab he.pe gn).imp λσ H Q zz=>cV zz λM s as R L q k =>
 #[M,s,as,_,L,q,λd s1 z8r M1 H1 v L1 E1 rv=>by
  let(ds,e,q1):=z8r;subst e;let(p,xs,rfl,(m,t),r):=rv;exact#[p,xs,U,.of t,λb hb=>ij (d:=.lst _) L L1 E1 hb r.reverse (k _ s1 q1)]]]
def kT(C:X9)(t:eJ):aV:=λs Q=>t s λds s1=>C ds λd=>Q d s1
def Dk(X:Cx)(c:Ent)(r:!V->Hp->VK->Prop)(C:X9):Prop:=∀ (M:AC->Prop) (s:DS) (as:!AC) (σ:St) (H:Hp) (xs:!V) (ds:!D) (k:D->Prop) (Q:VK),aD X.K c M s as σ H->az X.K H M ds xs->C ds k ->
 (∀ d,k d->∀ M' H' v,aD X.K c M' s as σ H'->Ext c as M s H M' s H'->Rep X.K H' M' d v->Q v H')->r xs H Q
def zq(X:Cx)(c:Ent)(r:!V->Hp->VK->Prop)(C:X9):Prop:=∀ (M:AC->Prop) (s:DS) (as:!AC) (σ:St) (H:Hp) (xs:!V) (ds:!D) (k:D->Prop) (Q:VK),aD X.K c M s as σ H->az X.K H M ds xs->C ds k ->
 (∀ d,k d->∀ p o,H p=none->cx X.K H M d o->Q (.ref p) (upd H p o))->r xs H Q
section
variable{x:Str}{p pos:Pos}{e:Cl}{es:!Cl}{t:eJ}{id T:String}{r:!V->Hp->VK->Prop}{C:X9}
theorem FX{n:Nat}(k:Dk X c r C){σ:St}{H:Hp}{Q:VK}:tE X.K c (kT C t) σ H Q->Hb r (tA X.K c n t) σ H Q:=λzz=>cV zz λM s as R L q kk =>
 #[M,s,as,_,L,q,λds s1 q1 M1 H1 vs L1 E1 r1 hl=>k M1 s1 as σ H1 vs ds (λd=>R d s1) Q L1 r1 q1 λd rd M' H' v L' E' rv=>kk d s1 rd M' H' v L' (E1.trans L1.base E') rv]
theorem IS{n:Nat}(k:zq X c r C){σ:St}{H:Hp}{Q:VK}:tN X.K c (kT C t) σ H Q->Hb r (tA X.K c n t) σ H Q:=λzz=>cV zz λM s as R L q kk =>
 #[M,s,as,_,L,q,λds s1 q1 M1 H1 vs L1 E1 r1 hl=>k M1 s1 as σ H1 vs ds (λd=>R d s1) Q L1 r1 q1 λd rd p o hp ro=>ij L L1 E1 hp ro (kk d s1 rd)]
theorem ju(hc:fo X (.builtin id) r)(k:Dk X c r C)(hg:Gl X x)(hm:X.mg x=none)(hv:bootBuiltins x=some (.builtin id))(ha:DA X c (e::es) t)(hn: ~~~(x≠"__name__"))(ig: ~~~(Yc x))(he:(Ya X.env e es)⁻¹)(fq:(Yb X.env pos es)⁻¹):DE X c (.Call (.Name x p) (e::es) [] pos) (kT C t):=#[(k7 hc hg hm hv ha.pa hn ig he fq).imp λ_ _ _=>FX k]
theorem iR(hc:fo X (.type T) r)(k:Dk X c r C)(hg:Gl X x)(hm:X.mg x=none)(hv:bootBuiltins x=some (.type T))(ha:DA X c (e::es) t)(hn: ~~~(x≠"__name__"))(ig: ~~~(Yc x))(he:(Ya X.env e es)⁻¹)(fq:(Yb X.env pos es)⁻¹):DE X c (.Call (.Name x p) (e::es) [] pos) (kT C t):=#[(qR hc hg hm hv ha.pa hn ig he fq).imp λ_ _ _=>FX k]
theorem dP(hc:fo X (.type T) r)(k:zq X c r C)(hg:Gl X x)(hm:X.mg x=none)(hv:bootBuiltins x=some (.type T))(ha:DA X c (e::es) t)(hn: ~~~(x≠"__name__"))(ig: ~~~(Yc x))(he:(Ya X.env e es)⁻¹)(fq:(Yb X.env pos es)⁻¹):DN X c (.Call (.Name x p) (e::es) [] pos) (kT C t):=#[(qR hc hg hm hv ha.pa hn ig he fq).imp λ_ _ _=>IS k]
end
theorem dO{K:Frag}{H:Hp}{M:AC->Prop}{d:D}{vs:!V}(r:az K H M [d] vs):∃ v,vs=[v]/\Rep K H M d v:=by
 let(x,xr,rfl,r1,r2):=r;have r2:xr=[]:=r2;subst r2;exact#[x,U,r1]
theorem vz{K:Frag}{H:Hp}{M:AC->Prop}{d e:D}{vs:!V}(r:az K H M [d,e] vs):∃ v w,vs=[v,w]/\Rep K H M d v/\Rep K H M e w:=by
 let(x,xr,rfl,r1,r2):=r;let(y,rfl,r3):=dO r2;exact#[x,y,U,r1,r3]
def Jj:X9:=λas k=>∃ ds,(as=[.lst ds]\/as=[.tup ds])/\k (.int ds.length)
theorem Qo:Dk X c (λxs H Q=>∃ p ys,xs=[.ref p]/\(d8 X.K H p ys\/jx X.K H p ys)/\Q (.int ys.length) H) Jj:=λM s as σ H xs ds k Q L r z9r kk=>by
 let(es,hb,hk):=z9r;rcases hb with rfl | rfl
 .let(v,rfl,p,ys,rfl,(m,h),r'):=dO r;show#[p,ys,U,.inl (.of h),?_];rw[r'.length];exact kk _ hk M H _ L .refl U
 .let(v,rfl,p,ys,rfl,h,r'):=dO r;show#[p,ys,U,.inr h.sq,?_];rw[r'.length];exact kk _ hk M H _ L .refl U
def Qs:X9:=λas k=>∃ z,as=[.str z]/\z.length<=FB/\k (.int z.length)
theorem GQ:Dk X c (λxs H Q=>∃ z,xs=[.str z]/\z.length<=FB/\Q (.int z.length) H) Qs:=λM s as σ H xs ds k Q L r z0r kk=>by
 let(z,e,hz,hk):=z0r;subst e;let(v,rfl,e):=dO r;have e:v=.str z:=e;subst e;exact#[z,U,hz,kk _ hk M H _ L .refl U]
def SK:X9:=λas k=>∃ i j,as=[.int i,.int j]/\k (.int (if j > i then j else i))
theorem Gj:Dk X c (λxs H Q=>∃ i j,xs=[.int i,.int j]/\Q (.int (if j > i then j else i)) H) SK:=λM s as σ H xs ds k Q L r z1r kk=>by
 let(i,j,e,hk):=z1r;subst e;let(v,w,rfl,e1,e2):=vz r;have e1:v=.int i:=e1;have e2:w=.int j:=e2;subst e1;subst e2;exact#[i,j,U,kk _ hk M H _ L .refl U]
def NM:X9:=λas k=>(∃ i,as=[.int i]/\k (.int i))\/∃ b,as=[.bl b]/\k (.int (if b then 1 else 0))
theorem rM:Dk X c (λxs H Q=>(∃ i,xs=[.int i]/\Q (.int i) H)\/∃ k,xs=[.bl k]/\Q (.int (if k then 1 else 0)) H) NM:=λM s as σ H xs ds k Q L r h kk=>by
 rcases h with ⟨i,rfl,hk⟩ | ⟨i,rfl,hk⟩
 .let(v,rfl,e1):=dO r;have e1:v=.int i:=e1;subst e1;exact .inl #[i,U,kk _ hk M H _ L .refl U]
 .let(v,rfl,e1):=dO r;have e1:v=.bl i:=e1;subst e1;exact .inr #[i,U,kk _ hk M H _ L .refl U]
def QM:X9:=λas k=>∃ ds,(as=[.lst ds]\/as=[.tup ds])/\k (.lst ds)
theorem kH:zq X c (λxs H Q=>∃ p ys,xs=[.ref p]/\(d8 X.K H p ys\/jx X.K H p ys)/\∀ l,H l=none->Q (.ref l) (upd H l (.lst ys))) QM:=λM s as σ H xs ds k Q L r z2r kk=>by
 let(es,hb,hk):=z2r;rcases hb with rfl | rfl
 .let(v,rfl,p,ys,rfl,(m,h),r'):=dO r;exact#[p,ys,U,.inl (.of h),λl hl=>kk _ hk l _ hl r']
 .let(v,rfl,p,ys,rfl,h,r'):=dO r;exact#[p,ys,U,.inr h.sq,λl hl=>kk _ hk l _ hl r']
def KO:X9:=λas k=>∃ ds,(as=[.lst ds]\/as=[.tup ds])/\k (.tup ds)
theorem Lz:Dk X c (λxs H Q=>∃ p ys,xs=[.ref p]/\((d8 X.K H p ys/\∀ l,H l=none->Q (.ref l) (upd H l (.tup ys)))\/(jx X.K H p ys/\Q (.ref p) H))) KO:=λM s as σ H xs ds k Q L r z3r kk=>by
 let(es,hb,hk):=z3r;rcases hb with rfl | rfl
 .let(v,rfl,p,ys,rfl,(m,h),r'):=dO r;exact#[p,ys,U,.inl #[.of h,λl hl=>kk _ hk _ _ _ (L.fresh hl) (Ext.fresh hl) #[l,ys,U,#[.inr U,aA],kZ hl r']]]
 .let(v,rfl,p,ys,rfl,h,r'):=dO r;exact#[p,ys,U,.inr #[h.sq,kk _ hk M H _ L .refl #[p,ys,U,h,r']]]
theorem yf{K:Frag}{H:Hp}{M:AC->Prop}:∀ {bs:!Bool} {vs:!V},az K H M (bs.map .bl) vs->vs=bs.map V.bl
 | [],vs,r=>r
 | b::bs,vs,r=>by
  let(x,xr,rfl,r1,r2):=r;have r1:x=.bl b:=r1;rw[r1,yf r2,Wj]
def LC(te:aV):eJ:=λs Q=>te s λd s1=>∃ ds,(d=.lst ds\/d=.tup ds)/\Q ds s1
theorem aW{tg e:Cl}{te:aV}(he:DE X c e te):DI X c tg e (LC te):=#[λTW s σ H R I zz=>cV zz λM s0 as R0 L q k=>IG he.pe TW s σ H R I
 #[M,s0,as,_,L,q,λd s1 z4r M1 H1 v L1 E1 rv=>by
  let(ds,hd,q1):=z4r;rcases hd with rfl | rfl
  .let(p,xs,rfl,(m,h),r):=rv;show#[p,U,.inl #[xs,.of h,λhl=>k ds s1 q1 M1 H1 _ L1 E1 (λM2 H2 G=>?_) (by rw[<- r.length];exact hl)]];have h2:H2 p=some (.lst xs):=(G p m).2 _ h;have r2:=G.u3 r;show#[λi hi=>#[xs,.of h2,by rw[r.length];exact hi],λi d hd=>?_];let(v,g1,g2):=r2.get hd;show#[#[xs,v,.of h2,g1],λx H3 #[e,hx]=>.inl #[e,?_]];have:=hx xs (.of h2);rw[g1] at this;cases this;exact g2
  .let(p,xs,rfl,h,r):=rv;show#[p,U,.inr #[xs,h.sq,λhl=>k ds s1 q1 M1 H1 _ L1 E1 (λM2 H2 G=>?_) (by rw[<- r.length];exact hl)]];have h2:jx X.K H2 p xs:=(h.mono (λb m=>(G b m).1) λb o m e=>(G b m).2 o e).sq;have r2:=G.u3 r;show#[λi hi=>#[xs,h2,by rw[r.length];exact hi],λi d hd=>?_];let(v,g1,g2):=r2.get hd;show#[#[xs,v,h2,g1],λx H3 #[e,hx]=>.inl #[e,?_]];have:=hx xs h2;rw[g1] at this;cases this;exact g2]]
def fk(lo:Int)(n:Nat):!D:=(List.range n).map λi=>.int (lo+(i:Nat))
def F3(t:eJ):eJ:=λs Q=>t s λds s1=>∃ j:Int,ds=[.int j]/\(-(2 ^ 62)<=j/\j<=16777216)/\Q (fk 0 j.toNat) s1
theorem BP{K:Frag}{M:AC->Prop}{H:Hp}{lo:Int}{n:Nat}:LY K M H (fk lo n) (QY lo n):=λM1 H1 G =>
 #[λi hi=>by
  change n<=i;simpa [fk] using hi,λi d hd=>by
  unfold fk at hd;rw[WL] at hd;let(j,h1,h2):=WN.mp hd;let(hl,e):=Wb.mp h1;simp at hl e;subst e;subst h2;exact#[hl,λx H2 #[e,hx]=>.inl #[e,hx]]]
section
variable{tg a b:Cl}{t:eJ}{p pos:Pos}
theorem eE(hg:Gl X "range")(hm:X.mg "range"=none)(ha:DA X c [a] t)(hs:(GT [a] X.env=[(false,eval a X.env)])⁻¹):DI X c tg (.Call (.Name "range" p) [a] [] pos) (F3 t):=#[λTW s σ H R I zz=>cV zz λM s0 as R0 L q k=>yO hg hm ha.pa hs TW s σ H R I
 #[M,s0,as,_,L,q,λds s1 z5r M1 H1 vs L1 E1 r _=>by
  let(j,e,(h1,h2),q1):=z5r;subst e;let(v,rfl,e):=dO r;have e:v=.int j:=e;subst e;exact#[j,U,h1,by cbv,k _ s1 q1 M1 H1 _ L1 E1 BP (by simp[fk,FB];cbv)]]]
end
end
section
variable{X:Cx}{c:Ent}
def RF:D->Bool
 | .lst _=>true
 | _=>false
def wK:D->Bool
 | .iI _ _=>true
 | .nz _ _=>true
 | _=>false
theorem vQ{K:Frag}{H:Hp}{M:AC->Prop}{d:D}{o:HO}(h:RF d=true)(r:cx K H M d o):∃ xs,o=.lst xs:=by
 cases d<;>first | (cases h;done) | (cases o<;>first | exact#[_,U] | exact r.elim)
def Sb(i:Nat)(C:D->!D->(D->D->Prop)->Prop)(ta:eJ):aV:=λs Q=>∃ k d0,s.sl[i]?=some (.own k)/\s.os[k]?=some (some d0)/\RF d0=true/\ta s λds s1=>∃ d1,s1.os[k]?=some (some d1)/\C d1 ds λdr d2=>Q dr (s1.put k d2)
def EO(X:Cx)(r:V->!V->Hp->VK->Prop)(C:D->!D->(D->D->Prop)->Prop):Prop:=∀ (M:AC->Prop) (H:Hp) (a:AC) (o:HO) (d1:D) (ds:!D) (vs:!V) (k:D->D->Prop) (Q:VK),H a=some o->cx X.K H M d1 o->az X.K H M ds vs->¬ M a->C d1 ds k ->
 (∀ dr d2,k dr d2->∀ o' v,cx X.K H M d2 o'->Rep X.K H M dr v->Q v (upd H a o'))->r (.ref a) vs H Q
theorem M7{i n:Nat}{r:V->!V->Hp->VK->Prop}{C:D->!D->(D->D->Prop)->Prop}{ta:eJ}(ok:EO X r C){σ:St}{H:Hp}{Q:VK}:tE X.K c (Sb i C ta) σ H Q->U4 X.K "list" r (bN i) (tA X.K c n ta) σ H Q:=λz9q=>by
 let(M,s,as,R,L,(k,d0,h1,h2,h3,q),kk):=z9q;let(a,o,g1,g2,g3,g4):=L.slot h1 h2;let(xs,rfl):=vQ h3 g4;show#[.ref a,g2,.inl #[U,xs,.of g3],M,s,as,_,L,q,λds s1 z0q M1 H1 vs L1 E1 r1 hl=>?_];let(d1,e1,q1):=z0q;let((o1,f1,f2),nm,ng,h0):=L1.obj k d1 a e1 g1;show ok M1 H1 a o1 d1 ds vs _ Q f1 f2 r1 nm q1 λdr d2 hk o' v ro rv=>?_;have E2:Ext c as M1 s1 H1 M1 (s1.put k d2) (upd H1 a o'):=Ext.kx e1 g1;exact kk dr _ hk M1 _ v (L1.kx e1 g1 ro) (E1.trans L1.base E2) (E2.rep L1 rv)
def FT:eJ:=λs Q=>Q [] s
section
variable{o e:Cl}{es:!Cl}{i:Nat}{t:eJ}{name:Str}{apos cX:Pos}{id:String}{r:V->!V->Hp->VK->Prop}{C:D->!D->(D->D->Prop)->Prop}
theorem yB(slot:Slot "list" name id)(yK:typeOf (.builtin id)=pure (.type "method_descriptor"))(hm:Pr X id r)(ok:EO X r C)(ho:PE X o (bN i))(ha:DA X c (e::es) t)(gL:(attributeBase o name X.env (eval o X.env)=eval o X.env)⁻¹)(r8:(((IR cX (GT (e::es) X.env)).all (λx=>(not x.1))&&(P3 cX (Re [] X.env)).all (λx=>x.1.isSome)
   && decide ((e::es).length+([]:!Rs).length+(if ([]:!Rs).isEmpty then 0 else 1) < 30))=true)⁻¹)(g6:((apos.endLine == cX.line)=true)⁻¹)(hs:(Ya X.env e es)⁻¹)(ip:((IR cX (GT es X.env)).any (·.1)=false)⁻¹) :
  DE X c (.Call (.Attribute o name apos) (e::es) [] cX) (Sb i C t):=#[(Ck Xx slot yK hm ho ha.pa gL r8 g6 hs ip).imp λ_ _ _=>M7 ok]
end
def Oh:D->!D->(D->D->Prop)->Prop:=λd ds k=>∃ xs x,d=.lst xs/\ds=[x]/\xs.length < FB/\k .bT (.lst (xs++[x]))
theorem GJ:EO X xD Oh:=λM H a o d ds vs k Q ha ro rv nm z6r kk=>by
 let(xs,x,e1,e2,hl,hk):=z6r;subst e1;subst e2;cases o with
 | lst ys =>
  have ro:az X.K H M xs ys:=ro;let(v,rfl,rx):=dO rv;exact#[a,ys,v,U,U,ha,by rw[ro.length];exact hl,kk _ _ hk _ _ (show cx X.K H M (.lst _) (.lst _) from ro.append (.one rx)) U]
 | _=>exact ro.elim
def SX:D->!D->(D->D->Prop)->Prop:=λd ds k=>∃ xs ys,d=.lst xs/\ds=[.lst ys]/\xs.length+ys.length<=FB/\k .bT (.lst (xs++ys))
theorem Cg:EO X xH SX:=λM H a o d ds vs k Q ha ro rv nm z7r kk=>by
 let(xs,ys,e1,e2,hl,hk):=z7r;subst e1;subst e2;cases o with
 | lst us =>
  have ro:az X.K H M xs us:=ro;let(v,rfl,b,zs,rfl,(m,hb),rz):=dO rv;exact#[a,b,us,zs,U,U,ha,hb,by rw[ro.length,rz.length];exact hl,kk _ _ hk _ _ (show cx X.K H M (.lst _) (.lst _) from ro.append rz) U]
 | _=>exact ro.elim
theorem az.snoc{K:Frag}{H:Hp}{M:AC->Prop}:∀ {ds:!D} {x:D} {vs:!V},az K H M (ds++[x]) vs->∃ us v,vs=us++[v]/\az K H M ds us/\Rep K H M x v
 | [],x,vs,r=>by
  let(v,rfl,h):=dO r;exact#[[],v,U,U,h]
 | d::ds,x,vs,r=>by
  let(y,yr,rfl,r1,r2):=r;let(us,v,rfl,h1,h2):=az.snoc (ds:=ds) r2;exact#[y::us,v,U,#[y,us,U,r1,h1],h2]
def TC:D->!D->(D->D->Prop)->Prop:=λd ds k=>∃ xs x,d=.lst (xs++[x])/\ds=[]/\k x (.lst xs)
theorem GH:EO X IJ TC:=λM H a o d ds vs k Q ha ro rv nm z8r kk=>by
 let(xs,x,e1,e2,hk):=z8r;subst e1;subst e2;cases o with
 | lst us =>
  let(ws,v,rfl,r1,r2):=az.snoc (show az X.K H M (xs++[x]) us from ro);have rv:vs=[]:=rv;subst rv;show#[a,ws++[v],v,U,U,ha,by simp,?_];rw[List.dropLast_concat];exact kk _ _ hk _ _ (show cx X.K H M (.lst _) (.lst _) from r1) r2
 | _=>exact ro.elim
def Kb:D->!D->(D->D->Prop)->Prop:=λd ds k=>∃ xs i j x,d=.lst xs/\ds=[.int i]/\(-(2 ^ 63)<=i/\i < 2 ^ 63)/\seqIndex? i xs.length=some j/\xs[j]?=some x/\k x (.lst (xs.eraseIdx j))
theorem tH:EO X z7 Kb:=λM H a o d ds vs k Q ha ro rv nm z2q kk=>by
 let(xs,i,j,x,e1,e2,(h1,h2),h3,h4,hk):=z2q;subst e1;subst e2;cases o with
 | lst us =>
  have ro:az X.K H M xs us:=ro;let(v,rfl,e):=dO rv;have e:v=.int i:=e;subst e;let(w,g1,g2):=ro.get h4;exact#[a,us,i,j,w,U,U,ha,h1,h2,by rw[ro.length];exact h3,g1,kk _ _ hk _ _ (show cx X.K H M (.lst _) (.lst _) from ro.eraseIdx j) g2]
 | _=>exact ro.elim
def Ji(i:Nat)(te ti:aV):jg:=λR s=>te s λd s1=>∃ k,s1.sl[i]?=some (.own k)/\ti s1 λdi s2=>∃ xs z j,s2.os[k]?=some (some (.lst xs))/\di=.int z/\Ce xs.length z=some j/\R.nx (s2.put k (.lst (xs.set j d)))
theorem E7{i:Nat}{st:Ev}{te ti:aV}(h:PS X st (jE (tE X.K c te) (Pl (bN i) (tE X.K c ti) F8))):p6 X c st (Ji i te ti):=#[h.imp λE σ H zz=>cV zz λM s as R L q kk =>
 #[M,s,as,_,L,q,λd s1 z3q M1 H1 v L1 E1 rv=>by
  let(k,h1,q1):=z3q;let(a,g1,g2):=L1.own i k h1;show#[.ref a,g2,M1,s1,as,_,L1,q1,λdi s2 z4q M2 H2 w Lb E2 rw=>?_];let(xs,z,j,h2,e,hj,q2):=z4q;subst e;let((o,f1,f2),nm,ng,h0):=Lb.obj k _ a h2 g1;cases o with
  | lst us =>
   have f2:az X.K H2 M2 xs us:=f2;have rw:w=.int z:=rw;subst rw;have rv2:=E2.rep L1 rv;have hG:ei M H M2 (upd H2 a (.lst (us.set j v))):=(E1.grow L).trans ((E2.grow L1).trans ((Ext.kx (c:=c) (M:=M2) (d:=.lst (xs.set j d)) h2 g1).grow Lb));exact#[a,us,z,j,U,U,f1,by rw[f2.length];exact hj,kk.nx _ as M2 σ _ q2 (Lb.kx h2 g1 (show cx X.K H2 M2 (.lst _) (.lst _) from f2.set rv2 j)) hG]
  | _=>exact f2.elim]]
theorem ud{α β:Type}{l:!α}{m:!β}(h:l.length=m.length):l.isEmpty=m.isEmpty:=by
 cases l<;>cases m<;>first | rfl | simp at h
def iJ(k:Nat)(d:D):Sl->Sl
 | .own j=>if j=k then .dat d else .own j
 | x=>x
def DS.freeze(s:DS)(k:Nat)(d:D):DS:=#[s.sl.map (iJ k d),s.os.set k none]
def NA(i:Nat):aV:=λs Q=>∃ k d,s.sl[i]?=some (.own k)/\s.os[k]?=some (some d)/\Q d (s.freeze k d)
theorem R9{i:Nat}{e:Cl}(h:PE X e (bN i)):DE X c e (NA i):=#[h.imp λσ H Q z6q=>by
 let(M,s,as,R,L,(k,d,h1,h2,q),kk):=z6q;let(a,o,g1,g2,g3,g4):=L.slot h1 h2;let(_,nm,ng,h0):=L.obj k d a h2 g1;show#[_,g2,?_];have mk:∀ b u,M b->H b=some u->H b=some u:=λ_ _ _ e=>e;have ra:Rep X.K H (λb=>M b\/b=a) d (.ref a):=(g4.mono (λ_ m=>.inl m) mk).rep g3 (.inr U);have uc:∀ {l:Nat} {e:D},(s.freeze k d).os[l]?=some (some e)->l≠k/\s.os[l]?=some (some e):=λ{l e} h=>by
  rcases cD h with ⟨rfl,hl,q⟩ | ⟨ne,q⟩
  .cases q
  .exact#[λz=>ne z.symm,q]
 show kk d _ q (λb=>M b\/b=a) H (.ref a) #[#[L.base.nE,L.base.fr,λb m=>?_,λb m=>?_,λb m=>.inl (L.base.m0 b m),λb m=>?_],?_,?_,λj e he=>?_,λj l hj=>?_,λl e b e1 e2=>?_,λl m e f b e1 e2 f1 f2=>?_,L.lt] #[λ_ m=>.inl m,λb m=>?_,λ_ _ e _ _=>e,λb z7q=>by let(l,e,e1,e2):=z7q;exact#[l,e,(uc e1).2,e2]] ra
 .rcases m with m | rfl
  .exact L.base.md b m
  .exact#[o,g3]
 .rcases m with m | rfl
  .exact L.base.mo b m
  .exact ng
 .rcases m with m | rfl
  .exact L.base.mn b m
  .exact .inr (.inl h0)
 .show (s.sl.map _).length=_;rw[V8];exact L.len
 .show as.length=(s.os.set k none).length;rw[W4];exact L.ek
 .have he:(s.sl.map (iJ k d))[j]?=some (.dat e):=he;rw[WL] at he;let(x,hx,hy):=WN.mp he;cases x with
  | no=>cases hy
  | dat y =>
   cases hy;let(v,w1,w2):=L.dat j e hx;exact#[v,w1,Rep.mono (λ_ m=>.inl m) mk e v w2]
  | own l =>
   replace hy:(if l=k then Sl.dat d else Sl.own l)=.dat e:=hy
   by_cases z:l=k
   .rw[if_pos z] at hy;cases hy;subst z;let(b,w1,w2):=L.own j l hx;rw[g1] at w1;cases w1;exact#[_,w2,ra]
   .rw[if_neg z] at hy;cases hy
 .have hj:(s.sl.map (iJ k d))[j]?=some (.own l):=hj;rw[WL] at hj;let(x,hx,hy):=WN.mp hj;cases x with
  | no=>cases hy
  | dat y=>cases hy
  | own l' =>
   replace hy:(if l'=k then Sl.dat d else Sl.own l')=.own l:=hy
   by_cases z:l'=k
   .rw[if_pos z] at hy;cases hy
   .rw[if_neg z] at hy;cases hy;exact L.own j l hx
 .let(ne,e1'):=uc e1;let((u,w1,w2),w3,w4):=L.obj l e b e1' e2;show#[#[u,w1,w2.mono (λ_ m=>.inl m) mk],λm=>?_,w4];rcases m with m | rfl
  .exact w3 m
  .exact ne (L.inj l k e d b e1' h2 e2 g1)
 .exact L.inj l m e f b (uc e1).2 (uc e2).2 f1 f2
 .rcases m with m | rfl
  .exact .inl m
  .exact .inr (.inr #[k,d,h2,g1])]
def QP(i:Nat):aV:=λs Q=>∃ k xs,s.sl[i]?=some (.own k)/\s.os[k]?=some (some (.lst xs))/\Q (.int xs.length) s
theorem JF{i:Nat}{e:Cl}(h:PE X e (Hb (λxs H Q=>∃ p ys,xs=[.ref p]/\(d8 X.K H p ys\/jx X.K H p ys)/\Q (.int ys.length) H) (vB (bN i) De))):DE X c e (QP i):=#[h.imp λσ H Q z8q=>by
 let(M,s,as,R,L,(k,xs,h1,h2,q),kk):=z8q;let(a,o,g1,g2,g3,g4):=L.slot h1 h2;cases o with
 | lst us =>
  have g4:az X.K H M xs us:=g4;show#[_,g2,a,us,U,.inl (.of g3),?_];rw[g4.length];exact kk _ s q M H _ L .refl U
 | _=>exact g4.elim]
def RA(i:Nat)(ti:aV):aV:=λs Q=>∃ k,s.sl[i]?=some (.own k)/\ti s λdi s1=>∃ xs z d,s1.os[k]?=some (some (.lst xs))/\di=.int z/\jF xs z=some d/\Q d s1
theorem LD{i:Nat}{e:Cl}{ti:aV}(h:PE X e (iW (Hs X.K) (bN i) (tE X.K c ti))):DE X c e (RA i ti):=#[h.imp λσ H Q z9q=>by
 let(M,s,as,R,L,(k,h1,q),kk):=z9q;let(a,g1,g2):=L.own i k h1;show#[_,g2,M,s,as,_,L,q,λdi s1 z0q M1 H1 v L1 E1 rv=>?_];let(xs,z,d,e1,e2,e3,q1):=z0q;subst e2;have rv:v=.int z:=rv;subst rv;let((o,f1,f2),nm,ng,h0):=L1.obj k _ a e1 g1;cases o with
 | lst us =>
  have f2:az X.K H1 M1 xs us:=f2;let(w,w1,w2):=f2.at e3;exact#[a,us,z,w,U,U,.of f1,w1,kk _ s1 q1 M1 H1 w L1 E1 w2]
 | _=>exact f2.elim]
def Bq:D->Option Key
 | .int i=>some (.inl i)
 | .str x=>some (.inr x)
 | _=>none
def rF:!D->Option (!Key)
 | []=>some []
 | d::r=>match Bq d,rF r with
  | some k,some ks=>some (k::ks)
  | _,_=>none
theorem nU{K:Frag}{H:Hp}{M:AC->Prop}{d:D}{k:Key}{v:V}(h:Bq d=some k)(r:Rep K H M d v):v=kV k:=by
 cases d<;>first | (cases h;exact r) | cases h
theorem lL{K:Frag}{H:Hp}{M:AC->Prop}:∀ {ds:!D} {ks:!Key} {vs:!V},rF ds=some ks->az K H M ds vs->vs=ks.map kV
 | [],ks,vs,h,r=>by
  cases h;exact r
 | d::ds,ks,vs,h,r=>by
  let(x,xr,rfl,r1,r2):=r;unfold rF at h;cases e1:Bq d with
  | none=>rw[e1] at h;cases h
  | some k =>
   cases e2:rF ds with
   | none=>rw[e1,e2] at h;cases h
   | some l =>
    rw[e1,e2] at h;cases h;rw[nU e1 r1,lL e2 r2,Wj]
section
variable{κ:Type}[DecidableEq κ]
def br:!κ->!D->κ->Option D
 | k::ks,d::ds,q=>if k=q then some d else br ks ds q
 | _,_,_=>none
def o7(ks:!κ)(q:κ):Bool:=ks.any λk=>decide (k=q)
def mW:!κ->!D->κ->D->!D
 | k::ks,d::ds,q,x=>(if k=q then x else d)::mW ks ds q x
 | _,_,_,_=>[]
def cY(ks:!κ)(q:κ):!κ:=if o7 ks q=true then ks else ks++[q]
def dh(ks:!κ)(vs:!D)(q:κ)(x:D):!D:=if o7 ks q=true then mW ks vs q x else vs++[x]
variable{K:Frag}{H:Hp}{M:AC->Prop}
theorem sH{q:κ}:∀ {kvs:!(κ×V)} {ks:!κ} {vs:!D},kvs.map (·.1)=ks->az K H M vs (kvs.map (·.2))->(gb kvs q=none/\br ks vs q=none)\/∃ v d,gb kvs q=some v/\br ks vs q=some d/\Rep K H M d v
 | [],ks,vs,h,r=>by
  subst h;exact .inl #[U,by cases vs<;>rfl]
 | p::kvs,ks,vs,h,r=>by
  subst h;cases vs with
  | nil=>exact absurd (show (p::kvs).map (·.2)=[] from r) (by simp)
  | cons d ds =>
   let(x,xr,e,r1,r2):=r;rw[Wj] at e;cases e;by_cases z:p.1=q
   .refine .inr #[p.2,d,fQ z,?_,r1];change (if p.1=q then some d else _)=_;rw[if_pos z]
   .rw[dQ z];have e2:br (((p::kvs).map (·.1))) (d::ds) q=br (kvs.map (·.1)) ds q:=by
     change (if p.1=q then some d else _)=_;rw[if_neg z]
    rw[e2];exact sH U r2
theorem has_any{q:κ}:∀ {kvs:!(κ×V)},(kvs.any λkv=>decide (kv.1=q))=o7 (kvs.map (·.1)) q
 | []=>rfl
 | p::kvs=>by
  unfold o7;rw[Xv,Wj,Xv,has_any (kvs:=kvs)]
  rfl
theorem zM{q:κ}{x:D}{y:V}(ry:Rep K H M x y){kvs:!(κ×V)}{vs:!D}(r:az K H M vs (kvs.map (·.2))):(putK kvs q y).map (·.1)=cY (kvs.map (·.1)) q/\az K H M (dh (kvs.map (·.1)) vs q x) ((putK kvs q y).map (·.2)):=by
 unfold putK cY dh;rw[has_any];by_cases h:o7 (kvs.map (·.1)) q=true
 .rw[if_pos h,if_pos h,if_pos h];clear h;show#[?_,?_]
  .rw[Wo];show XJ λp _=>?_;change (if p.1=q then (p.1,y) else p).1=p.1;split<;>rfl
  .induction kvs generalizing vs with
   | nil =>
    cases vs with
    | nil=>rfl
    | cons d ds =>
     let(_,_,e,_):=r;cases e
   | cons p kvs ih =>
    cases vs with
    | nil=>exact absurd (show (p::kvs).map (·.2)=[] from r) (by simp)
    | cons d ds =>
     let(v,vr,e,r1,r2):=r;rw[Wj] at e;cases e;show#[_,_,U,?_,ih r2];change Rep K H M (if p.1=q then x else d) (if p.1=q then (p.1,y) else p).2;by_cases z:p.1=q
     .rw[if_pos z,if_pos z];exact ry
     .rw[if_neg z,if_neg z];exact r1
 .rw[if_neg h,if_neg h,if_neg h];rw[Wc,Wc];exact#[U,r.append (.one ry)]
end
def sC(d dy:D)(k:Option D->Prop):Prop:=(∃ ks vs q,d=.iI ks vs/\Bq dy=some q/\k (br ks vs q))\/∃ ks vs ts q,d=.nz ks vs/\dy=.tup ts/\rF ts=some q/\k (br ks vs q)
def Je(d dy x:D)(k:D->Prop):Prop:=(∃ ks vs q,d=.iI ks vs/\Bq dy=some q/\ks.length < FB/\k (.iI (cY ks q) (dh ks vs q x)))\/∃ ks vs ts q,d=.nz ks vs/\dy=.tup ts/\rF ts=some q/\ks.length < FB/\k (.nz (cY ks q) (dh ks vs q x))
theorem jj{H:Hp}{M:AC->Prop}{d dy:D}{k:Option D->Prop}{a:AC}{o:HO}{y:V}(h:sC d dy k)(ha:H a=some o)(ro:cx X.K H M d o)(ry:Rep X.K H M dy y):∃ ov od,gR H a y ov/\k od/\((ov=none/\od=none)\/∃ v e,ov=some v/\od=some e/\Rep X.K H M e v):=by
 rcases h with ⟨ks,vs,q,rfl,hq,hk⟩ | ⟨ks,vs,ts,q,rfl,rfl,hq,hk⟩
 .cases o with
  | dK kvs =>
   let(e,r):=(show kvs.map (·.1)=ks/\az X.K H M vs (kvs.map (·.2)) from ro);have ey:=nU hq ry;subst ey;show#[_,_,gR.k ha,hk,?_];rcases sH (q:=q) e r with ⟨h1,h2⟩ | ⟨v,x,h1,h2,h3⟩
   .exact .inl #[h1,h2]
   .exact .inr #[v,x,h1,h2,h3]
  | _=>exact ro.elim
 .cases o with
  | dT kvs =>
   let(e,r):=(show kvs.map (·.1)=ks/\az X.K H M vs (kvs.map (·.2)) from ro);let(b,xs,rfl,(m,hb),rx):=ry;have ex:=lL hq rx;subst ex;show#[_,_,gR.t ha hb,hk,?_];rcases sH (q:=q) e r with ⟨h1,h2⟩ | ⟨v,x,h1,h2,h3⟩
   .exact .inl #[h1,h2]
   .exact .inr #[v,x,h1,h2,h3]
  | _=>exact ro.elim
theorem ya{H:Hp}{M:AC->Prop}{d dy x:D}{k:D->Prop}{a:AC}{o:HO}{y z:V}(h:Je d dy x k)(ha:H a=some o)(ro:cx X.K H M d o)(ry:Rep X.K H M dy y)(rz:Rep X.K H M x z):∃ d2 o2,lV H a y z (upd H a o2)/\k d2/\cx X.K H M d2 o2:=by
 rcases h with ⟨ks,vs,q,rfl,hq,hl,hk⟩ | ⟨ks,vs,ts,q,rfl,rfl,hq,hl,hk⟩
 .cases o with
  | dK kvs =>
   let(e,r):=(show kvs.map (·.1)=ks/\az X.K H M vs (kvs.map (·.2)) from ro);subst e;have ey:=nU hq ry;subst ey;exact#[_,_,lV.k ha (by simpa using hl),hk,(show cx X.K H M (.iI _ _) (.dK _) from zM rz r)]
  | _=>exact ro.elim
 .cases o with
  | dT kvs =>
   let(e,r):=(show kvs.map (·.1)=ks/\az X.K H M vs (kvs.map (·.2)) from ro);subst e;let(b,xs,rfl,(m,hb),rx):=ry;have ex:=lL hq rx;subst ex;exact#[_,_,lV.t ha hb (by simpa using hl),hk,(show cx X.K H M (.nz _ _) (.dT _) from zM rz r)]
  | _=>exact ro.elim
def Ia(i:Nat)(ty tv:aV):jg:=λR s=>tv s λd s1=>∃ k,s1.sl[i]?=some (.own k)/\ty s1 λdy s2=>∃ d1,s2.os[k]?=some (some d1)/\Je d1 dy d λd2=>R.nx (s2.put k d2)
theorem kF{i:Nat}{st:Ev}{ty tv:aV}(h:PS X st (qQ (bN i) (tE X.K c ty) (tE X.K c tv))):p6 X c st (Ia i ty tv):=#[h.imp λE σ H zz=>cV zz λM s as R L q kk =>
 #[M,s,as,_,L,q,λd s1 z9r M1 H1 v L1 E1 rv=>by
  let(k,h1,q1):=z9r;let(a,g1,g2):=L1.own i k h1;show#[.ref a,g2,M1,s1,as,_,L1,q1,λdy s2 #[d1,h2,q2] M2 H2 w Lb E2 rw=>?_];let((o,f1,f2),nm,ng,h0):=Lb.obj k _ a h2 g1;let(d2,o2,p1,p2,p3):=ya q2 f1 f2 rw (E2.rep L1 rv);exact#[a,_,U,p1,kk.nx _ as M2 σ _ p2 (Lb.kx h2 g1 p3) ((E1.grow L).trans ((E2.grow L1).trans ((Ext.kx (c:=c) (M:=M2) (d:=d2) h2 g1).grow Lb)))]]]
theorem Rep.dc{K:Frag}{H:Hp}{M:AC->Prop}{d:D}{v:V}(h:wK d=true)(r:Rep K H M d v):∃ a o,v=.ref a/\H a=some o/\cx K H M d o:=by
 cases d<;>first | (cases h;done) | (let(a,kvs,e,(m,ha),h1,h2):=r;exact#[a,_,e,ha,h1,h2])
def Gb(td ty:aV):aV:=λs Q=>td s λd s1=>ty s1 λdy s2=>wK d=true/\sC d dy λod=>∃ x,od=some x/\Q x s2
theorem d7{e:Cl}{td ty:aV}(h:PE X e (kJ (tE X.K c td) (tE X.K c ty))):DE X c e (Gb td ty):=#[h.imp λσ H Q zz=>cV zz λM s as R L q kk =>
 #[M,s,as,_,L,q,λd s1 q1 M1 H1 v L1 E1 rv=>#[M1,s1,as,_,L1,q1,λdy s2 z0r M2 H2 y Lb E2 ry=>by
  let(hd,q2):=z0r;let(a,o,rfl,f1,f2):=(E2.rep L1 rv).dc hd;let(ov,od,w1,(x,e2,w2),w3):=jj q2 f1 f2 ry;subst e2;rcases w3 with ⟨rfl,z⟩ | ⟨v,x,rfl,z,rx⟩
  .cases z
  .cases z;exact#[a,v,U,w1,kk _ s2 w2 M2 H2 v Lb (E1.trans L1.base E2) rx]]]]
def vi(neg:Bool)(ty td:aV):aV:=λs Q=>ty s λdy s1=>td s1 λd s2=>wK d=true/\sC d dy λod=>Q (.bl (if neg then (not od.isSome) else od.isSome)) s2
def Kc:aV:=λs Q=>Q (.iI [] []) s
def Il:aV:=λs Q=>Q (.nz [] []) s
theorem iE{pos:Pos}:DN X c (.Dict [] [] pos) Kc:=#[B7.imp λσ H Q zz=>cV zz λM s as R L q k=>λp hp=>ij (d:=.iI [] []) L L .refl hp (show cx X.K H M (.iI [] []) (.dK []) from #[U,U]) (k _ s q)]
theorem EU{pos:Pos}:DN X c (.Dict [] [] pos) Il:=#[CQ.imp λσ H Q zz=>cV zz λM s as R L q k=>λp hp=>ij (d:=.nz [] []) L L .refl hp (show cx X.K H M (.nz [] []) (.dT []) from #[U,U]) (k _ s q)]
end
end DL
namespace JN
open PySem Sem
open PySem.AutoSeq1 (wpAny_loadPart')
section
variable{prog:GE}{w:Fa}{A:Fr}{E:X7}{s:Da}
theorem kz{it t:AC}{i:Nat}{items:Array AT}{x:AT}{Q:X7}(hit:s.heap.IsTupleIter it t i)(ht:s.heap.IsTuple t items)(hx:items[i]?=some x)(hQ:∀ h',h'.IsTupleIter it t (i+1)->EQ.SameBut it s.heap h'->Q x { s with heap:=h' }) :
  Db (model prog w) A (Fk.SmallTypes.nextOf (.ref it)) Q E s:=by
 let(o,ho,hc,hd):=id hit;let(ol,hol,_,nl,hdl):=ht;unfold Fk.SmallTypes.nextOf;show Ch (wpAny_callSpecial?_slot (name:=Str.ofString "__next__") hit.typeIs F.slot_tuple_iterator_next
  (SL F.slot_tuple_iterator_next hit.typeIs F.entry_tuple_iterator_next ?_ (F.args_tuple_iterator_next_1 _)))
 change Db _ _ (field (.ref it) 0 >>= _) _ _ s;show Ch (KB ho hd (x:=.ref t) U ?_);change Db _ _ (if (AT.ref t == AT.none)=true then _ else _) _ _ s;rw[if_neg (show ¬ ((AT.ref t == AT.none)=true) from Wm)];change Db _ _ (field (.ref it) 1 >>= _) _ _ s;show Ch (KB ho hd (x:=.int i 0) U ?_);change Db _ _ (seqItems? (.ref t) >>= _) _ _ s;show Ch (PP hol hdl ?_);simp only[Int.toNat_natCast,hx];show Ch (wpAny_setField ho hd (by simp) (FS #[x,U,FS (hQ _ ?_ (EQ.SameBut.update ..))]));exact#[_,WX _ ho (Obj.isFreed_of_fields (Obj.data_mapFields hd _)),(Obj.cls_mapFields ..).trans hc,by
  rw[Obj.data_mapFields hd];simp[KF]]
theorem eP{it t:AC}{i:Nat}{items:Array AT}{Q:X7}(hh:A.handled=none)(hit:s.heap.IsTupleIter it t i)(ht:s.heap.IsTuple t items)(hx:items[i]?=none)(hE:∀ h' e,EQ.ExtBut it s.heap h'->(∃ o,h'.get? e=some o/\o.cls=.type "StopIteration")->E (.ref e) { s with heap:=h' }) :
  Db (model prog w) A (Fk.SmallTypes.nextOf (.ref it)) Q E s:=by
 let(o,ho,hc,hd):=id hit;let(ol,hol,_,nl,hdl):=ht;unfold Fk.SmallTypes.nextOf;show Ch (wpAny_callSpecial?_slot (name:=Str.ofString "__next__") hit.typeIs F.slot_tuple_iterator_next
  (SL F.slot_tuple_iterator_next hit.typeIs F.entry_tuple_iterator_next ?_ (F.args_tuple_iterator_next_1 _)))
 change Db _ _ (field (.ref it) 0 >>= _) _ _ s;show Ch (KB ho hd (x:=.ref t) U ?_);change Db _ _ (if (AT.ref t == AT.none)=true then _ else _) _ _ s;rw[if_neg (show ¬ ((AT.ref t == AT.none)=true) from Wm)];change Db _ _ (field (.ref it) 1 >>= _) _ _ s;show Ch (KB ho hd (x:=.int i 0) U ?_);change Db _ _ (seqItems? (.ref t) >>= _) _ _ s;show Ch (PP hol hdl ?_);simp only[Int.toNat_natCast,hx];show Ch (wpAny_rule (Ch (wpAny_setField ho hd (by simp) ?_)));change Db _ _ (newExc (.type "StopIteration") [] >>= _) _ _ _;show Ch ?_;simp only[newExc,newTuple];show Ch (ST ?_ (by size_fits));show Ch (m:=firstArgMember _ _) (wpAny_of_eq (a:=AT.none) (by first | rfl | (simp only[firstArgMember];rfl)) ?_);show ST ?_ (by size_fits);simp only[raiseNew];show Ch (wpAny_handled ?_)
 first | rw[show A.in1.handled=none from hh] | rw[hh]
 show Ch (FS (wpAny_throw ?_));exact hE _ _ (((EQ.SameBut.update ..).extBut.push _).push _) #[_,Wl _ U,U]
theorem Bz(hh:A.handled=none)(it l:AC)(vD:l≠it)(items:Array AT) :
  Draws prog w A it [it,l] items.size (λi v=>items[i]?=some v) (λi h=>h.IsTupleIter it l i/\h.IsTuple l items) where
 live:=λ_ _ st=>let #[o,ho,_]:=st.1;#[o,ho]
 frame:=λ_ _ _ st hk=>#[st.1.at λo e=>hk it (by simp) o e,let #[o,e,r]:=st.2;#[o,hk l (by simp) o e,r]]
 item:=λi s Q E hi st hQ=>by
  show kz st.1 st.2 (x:=items[i]) (by simp[hi]) λh' hit' Gk=>?_;exact hQ _ h' s.toks (by simp[hi]) #[hit',let #[o,e,r]:=st.2;#[o,Gk.extBut l o vD e,r]] Gk
 done:=λs Q E st hE=>eP hh st.1 st.2 (by simp) hE
end
end JN
namespace L2
open PySem PySem.Spec
open PyProof.Rows hiding St
def xJ(K:Frag)(tup:Bool)(H:Hp)(a:AC)(xs:!V):Prop:=if tup=true then jx K H a xs else d8 K H a xs
section
variable{P:GE}{w:Fa}{K:Frag}
theorem yh{X:Cx}{TW:X8}{σ:St}{H:Hp}{s:Da}{a:AC}{tup:Bool}{xs ys:!V}(I:Inv X TW σ H s)(h:xJ X.K tup H a xs)(h':xJ X.K tup H a ys):ys=xs:=by
 cases tup with
 | true=>exact I.lG (show jx X.K H a ys from h') h
 | false=>exact I.uo (show d8 X.K H a ys from h') h
theorem Inv.rP{X:Cx}{TW:X8}{σ:St}{H:Hp}{s:Da}{h':EQ}{t':Nat}{fp:!AC}{a:AC}{o:HO}(I:Inv X TW σ H s)(k:∀ b u,b∉fp->s.heap.get? b=some u->h'.get? b=some u)(hf:∀ b∈fp,fb X TW H b)(hp:↑s<=a)(new:b6 X.prog X.w (upd H a o) h' a o):Inv X TW σ (upd H a o) { s with heap:=h',toks:=t' }:=by
 have hn:H a=none:=I.bx.fresh hp;have nit:∀ b u,H b=some u->b∉fp:=λb u e z=>by rw[(hf b z).1] at e;cases e
 have up:∀ b u,H b=some u->upd H a o b=some u:=λb u e=>by rw[aw (aE e hn)];exact e
 show I.step (g':=s.gens) (d':=s.drawn) (ch:=fp) (λb hb=>?_) (λb ob _ _ hc e _=>k b ob hc e) (λb ob _ _ hc e _=>#[ob.slots,k b ob hc e]) (λb ob _ e n=>?_)
  (λb ob hc e=>#[ob,k b ob hc e]) (λb xs e=>up b _ e) (λb ob u e=>up b _ e) (λb ps e=>#[#v[],by rw[up b _ e];simp]) (λm hm=>?_) (λb u e=>?_) I.bare
 .let(f0,f1,f2,f3,f4,f5):=hf b hb;exact#[f3,f1,f4,f5]
 .rw[aw (Ww (Wz (Wh e) hp))];exact n
 .let(ob,es,ep,ho,r):=hm;exact#[ob,es,ep,k _ ob (λz=>(hf _ z).2.1 U) ho,r]
 .by_cases hb:b=a
  .subst hb;rw[aA] at e;cases e;exact new
  .rw[aw hb] at e;show (I.bx b u e).uR (λq v hq w=>k q v ?_ w) (λq w=>up q _ w) λq _ w=>up q _ w;rcases hq with z | z
   .rw[z];exact nit b u e
   .exact nit q _ z
theorem Inv.gq{X:Cx}{TW:X8}{σ:St}{H:Hp}{s:Da}{h':EQ}{t':Nat}{fp:!AC}(I:Inv X TW σ H s)(k:∀ b u,b∉fp->s.heap.get? b=some u->h'.get? b=some u)(hf:∀ b∈fp,fb X TW H b) :
  Inv X TW σ H { s with heap:=h',toks:=t' }:=by
 have nit:∀ b u,H b=some u->b∉fp:=λb u e z=>by rw[(hf b z).1] at e;cases e
 show I.step (g':=s.gens) (d':=s.drawn) (ch:=fp) (λb hb=>?_) (λb ob _ _ hc e _=>k b ob hc e) (λb ob _ _ hc e _=>#[ob.slots,k b ob hc e]) (λb ob _ e n=>n)
  (λb ob hc e=>#[ob,k b ob hc e]) (λb xs e=>e) (λb ob u e=>e) (λb ps e=>#[#v[],by rw[e];simp]) (λm hm=>?_) (λb u e=>?_) I.bare
 .let(f0,f1,f2,f3,f4,f5):=hf b hb;exact#[f3,f1,f4,f5]
 .let(ob,es,ep,ho,r):=hm;exact#[ob,es,ep,k _ ob (λz=>(hf _ z).2.1 U) ho,r]
 .refine (I.bx b u e).uR (λq v hq w=>k q v ?_ w) (λq w=>w) λq _ w=>w;rcases hq with z | z
  .rw[z];exact nit b u e
  .exact nit q _ z
def hX(tup:Bool)(h:EQ)(it a:AC)(i:Nat):Prop:=if tup=true then h.IsTupleIter it a i else h.IsListIter it a i
theorem hX.at{tup:Bool}{h h':EQ}{it a:AC}{i:Nat}(x:hX tup h it a i)(k:∀ o,h.get? it=some o->h'.get? it=some o):hX tup h' it a i:=by
 cases tup with
 | true=>exact EQ.IsTupleIter.at (show h.IsTupleIter it a i from x) k
 | false=>exact EQ.IsListIter.at (show h.IsListIter it a i from x) k
theorem hX.obj{tup:Bool}{h:EQ}{it a:AC}{i:Nat}(x:hX tup h it a i):∃ o,h.get? it=some o/\∀ v,o.data≠.cell v:=by
 cases tup with
 | true =>
  let(o,e,c,d):=(show h.IsTupleIter it a i from x);exact#[o,e,λv z=>by rw[d] at z;cases z]
 | false =>
  let(o,e,c,d):=(show h.IsListIter it a i from x);exact#[o,e,λv z=>by rw[d] at z;cases z]
section
variable{X:Cx}
end
end
end L2
namespace DL
open PySem PySem.Spec L2
open PyProof.Rows hiding St
section
variable{X:Cx}{c:Ent}
end
mutual
noncomputable def toP:D->Gc
 | .bT=>.none
 | .bl b=>.bool b
 | .int i=>.int i
 | .str x=>.str x
 | .tup ds=>.tuple (toPs ds)
 | .lst ds=>.list (toPs ds)
 | .bG _=>.none
 | .ty _=>.none
 | .iI _ _=>.none
 | .nz _ _=>.none
 | .Hg _ _=>.none
 | .ob _ _ _=>.none
noncomputable def toPs:!D->!Gc
 | []=>[]
 | d::ds=>toP d::toPs ds
end
mutual
noncomputable def ni:D->Bool
 | .bT=>true
 | .bl _=>true
 | .int _=>true
 | .str x=>Gc.strOk x
 | .tup ds=>tP ds
 | .lst ds=>tP ds
 | .bG _=>false
 | .ty _=>false
 | .iI _ _=>false
 | .nz _ _=>false
 | .Hg _ _=>false
 | .ob _ _ _=>false
noncomputable def tP:!D->Bool
 | []=>true
 | d::ds=>ni d&&tP ds
end
mutual
theorem pW:∀ d:D,ni d=true->(toP d).canLay0=true
 | .bT,_=>rfl
 | .bl _,_=>rfl
 | .int _,_=>rfl
 | .str x,h=>by
  change Gc.canLay0 (.str x)=true;simpa [Gc.canLay0,ni] using h
 | .tup ds,h=>by
  change Gc.canLay0 (.tuple (toPs ds))=true;simpa [Gc.canLay0] using t8 ds h
 | .lst ds,h=>by
  change Gc.canLay0 (.list (toPs ds))=true;simpa [Gc.canLay0] using t8 ds h
 | .bG _,h=>by cases h
 | .ty _,h=>by cases h
 | .iI _ _,h=>by cases h
 | .nz _ _,h=>by cases h
 | .Hg _ _,h=>by cases h
 | .ob _ _ _,h=>by cases h
theorem t8:∀ ds:!D,tP ds=true->Gc.canLayAll0 (toPs ds)=true
 | [],_=>rfl
 | d::ds,h=>by
  have h:(ni d&&tP ds)=true:=h;rw[WU] at h;change Gc.canLayAll0 (toP d::toPs ds)=true;simp[Gc.canLayAll0,pW d h.1,t8 ds h.2]
end
section
variable{X:Cx}{TW:X8}{σ:St}{H:Hp}{s:Da}{M:AC->Prop}
mutual
theorem i7(I:Inv X TW σ H s):∀ (d:D) (v:V) (u:AT),ni d=true->Rep X.K H M d v->RelV v u->∃ as,Reads s.heap u (toP d) as
 | .bT,v,u,_,r,q=>by
  have r:v=.bT:=r;subst r;cases (show u=AT.none from q);exact#[_,.none]
 | .bl b,v,u,_,r,q=>by
  have r:v=.bl b:=r;subst r;cases (show u=AT.bool b from q);exact#[_,.bool b]
 | .int i,v,u,_,r,q=>by
  have r:v=.int i:=r;subst r;let(t,rfl):=(show ∃ t,u=AT.int i t from q);exact#[_,.int i t]
 | .str x,v,u,_,r,q=>by
  have r:v=.str x:=r;subst r;let(t,rfl):=(show ∃ t,u=AT.str x t from q);exact#[_,.str x t]
 | .tup ds,v,u,h,r,q=>by
  let(a,xs,rfl,(m,ha),r):=r;cases (show u=AT.ref a from q);let(_,its,rv,o,e,hc,n,hd,_):=I.bx a _ ha;let(as,hr):=lY I ds xs its h r rv;exact#[_,.tuple e hc hd (by simpa using hr)]
 | .lst ds,v,u,h,r,q=>by
  let(a,xs,rfl,(m,ha),r):=r;cases (show u=AT.ref a from q);let(_,its,n,rv,e):=I.bx a _ ha;let(as,hr):=lY I ds xs its h r rv;exact#[_,.list e U U (by simpa using hr)]
 | .bG _,v,u,h,r,q=>by cases h
 | .ty _,v,u,h,r,q=>by cases h
 | .iI _ _,v,u,h,r,q=>by cases h
 | .nz _ _,v,u,h,r,q=>by cases h
 | .Hg _ _,v,u,h,r,q=>by cases h
 | .ob _ _ _,v,u,h,r,q=>by cases h
theorem lY(I:Inv X TW σ H s):∀ (ds:!D) (vs:!V) (us:!AT),tP ds=true->az X.K H M ds vs->Vals vs us->∃ as,ReadsAll s.heap us (toPs ds) as
 | [],vs,us,_,r,q=>by
  have r:vs=[]:=r;subst r;cases q;exact#[_,.nil]
 | d::ds,vs,us,h,r,q=>by
  have h:(ni d&&tP ds)=true:=h;rw[WU] at h;let(x,xr,rfl,r1,r2):=r;cases q with
  | cons q1 q2 =>
   let(as,h1):=i7 I d x _ h.1 r1 q1;let(bs,h2):=lY I ds xr _ h.2 r2 q2;exact#[_,.cons h1 h2]
end
end
def Ll(a b:D):Bool:=Gc.eqv (toP a) (toP b)
def zu(d:D):Nat:=(toP d).depth
section
variable{X:Cx}{c:Ent}
def AN(K:Frag)(neg:Bool):R2:=λx y H Q=>∃ M dx dy,Rep K H M dx x/\Rep K H M dy y/\ni dx=true/\ni dy=true/\(zu dx<=150\/zu dy<=150)/\Q (.bl (if neg then (not (Ll dx dy)) else Ll dx dy)) H
theorem qI{m n u:Nat}(h:m<=150\/n<=150)(hu:u+150 < cLine):u+min m n < cLine:=by
 have:min m n<=150:=by cbv
 cbv
theorem wb(hu:X.A.units+150 < cLine):jC X (KM .Eq) (AN X.K false):=by
 intro TW s σ H x y v u Q I rx ry h;let(M,dx,dy,r1,r2,o1,o2,hd,q):=h;let(as,h1):=i7 I dx x v o1 r1 rx;let(bs,h2):=i7 I dy y u o2 r2 ry;exact SeqAt.compareEq_reads h1 h2 (pW dx o1) (pW dy o2) (qI hd hu) #[.bl _,H,I,U,q]
theorem A9(hu:X.A.units+150 < cLine):jC X (KM .NotEq) (AN X.K true):=by
 intro TW s σ H x y v u Q I rx ry h;let(M,dx,dy,r1,r2,o1,o2,hd,q):=h;let(as,h1):=i7 I dx x v o1 r1 rx;let(bs,h2):=i7 I dy y u o2 r2 ry;exact SeqAt.compareNe_reads h1 h2 (pW dx o1) (pW dy o2) (qI hd hu) #[.bl _,H,I,U,q]
def TN(neg:Bool):D->D->(D->Prop)->Prop:=λa b k=>(ni a=true/\ni b=true/\(zu a<=150\/zu b<=150))/\k (.bl (if neg then (not (Ll a b)) else Ll a b))
theorem xE{neg:Bool}:qX X c (AN X.K neg) (TN neg):=λM s as σ H x y dx dy k Q L rx ry #[#[o1,o2,hd],hk] kk=>#[M,dx,dy,rx,ry,o1,o2,hd,kk _ hk M H _ L .refl U]
theorem pK(hc:X.calm=true):fo X (.builtin "any") (λxs H Q=>∃ (p:AC) (bs:!Bool),xs=[.ref p]/\d8 X.K H p (bs.map V.bl)/\Q (.bl (bs.any id)) H):=by
 intro TW s σ H xs us Q I r h;let(p,bs,rfl,hq,q):=h;let(u,rfl,rx):=vals1 r;cases rx;let(its,rv,pl,hz):=I.list hq;have hp:p < ↑s:=by let(o,_,e,_):=pl;exact Wh e
 have hlen:its.toArray.size=bs.length:=by rw[Wx,<- rv.length,V8]
 show call_any_walk (wpAny_pyIter_list pl.isList ?_);show#[↑s,_,_,_,_,_,λi=>bs.getD i false,U,Walks.list (A:=X.A.in1) (I.ok.hd hc) ↑s p (Ww hp) its.toArray,#[#[_,Wl _ U,U,U],pl.isList.push _],?_,?_]
 .intro i v s' Q' E' hv hq';have Ra:its[i]?=some v:=by simpa using hv
  have hi:i < bs.length:=by
   have:=(Wb.mp Ra).1;rw[Wx] at hlen;cbv
  let(u,hu,ru):=rv.get (i:=i) (x:=V.bl bs[i]) (by simp[hi]);rw[Ra] at hu;cases hu;cases (show v=AT.bool bs[i] from ru);have e:bs.getD i false=bs[i]:=by simp[List.getD_eq_getElem?_getD,hi]
  have hq'':Q' (bs.getD i false) s':=hq';rw[e] at hq'';exact wpAny_truthy_bool hq''
 .intro h' tk kp;have e:((List.range its.toArray.size).any λi=>bs.getD i false)=bs.any id:=by
   rw[hlen,XO,XE,XE];constructor
   .rintro⟨i,hi,hb⟩;have hi:i < bs.length:=Xp.mp hi;show#[bs[i],XF hi,?_];simpa [List.getD_eq_getElem?_getD,hi] using hb
   .rintro⟨b,hb,hi⟩;let(i,hl,e):=Xk hb;show#[i,Xp.mpr hl,?_];simpa [List.getD_eq_getElem?_getD,hl,e] using hi
  have I':Inv X TW σ H { s with heap:=h',toks:=tk }:=I.kept (t':=tk) λb o e=>kp b o (by simpa using Nat.ne_of_lt (EQ.lt_size e)) (EQ.get?_push_of_some _ e);show#[.bl (bs.any id),H,I',?_,q];change AT.bool _=AT.bool _;rw[e]
def RP:X9:=λas k=>∃ bs:!Bool,as=[.lst (bs.map .bl)]/\k (.bl (bs.any id))
theorem MC:Dk X c (λxs H Q=>∃ (p:AC) (bs:!Bool),xs=[.ref p]/\d8 X.K H p (bs.map V.bl)/\Q (.bl (bs.any id)) H) RP:=λM s as σ H xs ds k Q L r z1r kk=>by
 let(bs,e,hk):=z1r;subst e;let(v,rfl,p,ys,rfl,(m,h),r'):=dO r;rw[yf r'] at h;exact#[p,bs,U,.of h,kk _ hk M H _ L .refl U]
end
end DL
namespace JN
open PySem
section
variable{prog:GE}{w:Fa}{A:Fr}{E:X7}{s:Da}{T:String}{r d:AC}{n:Nat}{P:Nat->AT->Prop}{OK:EQ->Prop}
end
end JN
namespace L2
open PySem PySem.Spec
open PyProof.Rows hiding St
section
variable{X:Cx}
end
end L2
namespace DL
open PySem PySem.Spec L2
open PyProof.Rows hiding St
section
variable{X:Cx}{c:Ent}
end
end DL
namespace DL
open PySem PySem.Spec L2
set_option genSizeOf true in set_option genInjectivity true in inductive Fm where
 | nm (x:Str) | num (i:Int) | op (s:Str) | sU | lt (x:Str) | mk (c:Str) | ask (f:Str) | j9 (r:Str) (hs:!(Str×!Str)) | new (k:Str) (hs:!(Str×!Str))
set_option genSizeOf true in set_option genInjectivity true in inductive Tm where
 | node (f:Fm) (ks:!Tm)
def Tm.kids:Tm->!Tm
 | .node _ ks=>ks
def Fm.ar:Fm->Nat->Bool
 | .nm _,n=>n == 0
 | .num _,n=>n == 0
 | .op _,n=>n == 2
 | .sU,n=>n == 3
 | .lt _,n=>n == 2
 | .mk _,_=>true
 | .ask _,n=>1<=n
 | .j9 _ hs,n=>n == hs.length+1&&hs.all λh=>h.2.length<=8
 | .new _ hs,n=>n == hs.length&&hs.all λh=>h.2.length<=8
mutual
noncomputable def Tm.wf:Tm->Bool
 | .node f ks=>f.ar ks.length&&Mb ks
noncomputable def Mb:!Tm->Bool
 | []=>true
 | t::r=>t.wf&&Mb r
end
mutual
noncomputable def Tm.size:Tm->Nat
 | .node _ ks=>d9 ks+1
noncomputable def d9:!Tm->Nat
 | []=>0
 | t::r=>t.size+d9 r
end
mutual
noncomputable def Tm.dep:Tm->Nat
 | .node _ ks=>Bi ks+1
noncomputable def Bi:!Tm->Nat
 | []=>0
 | t::r=>max t.dep (Bi r)
end
def qN(ns:!Str):!D:=ns.map .str
def sR(h:Str×!Str)(k:D):D:=.tup [.str h.1,.tup (qN h.2),k]
def cN:!(Str×!Str)->!D->!D
 | h::hs,k::ks=>sR h k::cN hs ks
 | _,_=>[]
def VQ:Fm->!D->D
 | .nm x,_=>.tup [.str "name",.str x]
 | .num i,_=>.tup [.str "num",.int i]
 | .op s,ks=>.tup (.str "op"::.str s::ks)
 | .sU,ks=>.tup (.str "zero"::ks)
 | .lt x,ks=>.tup (.str "let"::.str x::ks)
 | .mk c,ks=>.tup [.str "make",.str c,.tup ks]
 | .ask f,ks=>.tup [.str "ask",ks.headD .bT,.str f,.tup ks.tail]
 | .j9 r hs,ks=>.tup [.str "case",ks.headD .bT,.str r,.tup (cN hs ks.tail)]
 | .new k hs,ks=>.tup [.str "new",.str k,.tup (cN hs ks)]
mutual
noncomputable def toD:Tm->D
 | .node f ks=>VQ f (toDs ks)
noncomputable def toDs:!Tm->!D
 | []=>[]
 | t::r=>toD t::toDs r
end
theorem toDs_map:∀ ks:!Tm,toDs ks=ks.map toD
 | []=>rfl
 | t::r=>by rw[toDs,toDs_map r,Wj]
theorem toDs_len(ks:!Tm):(toDs ks).length=ks.length:=by rw[toDs_map,V8]
theorem gA{b:Bool}{A B:Prop}(h:b=false)(q:B):if b=true then A else B:=by
 subst h;exact sP q
theorem p9{b:Bool}{A B:Prop}(h:b=true)(q:A):if b=true then A else B:=by
 subst h;exact oC q
theorem len0{α:Type}{l:!α}(h:l.length=0):l=[]:=Xj h
theorem Ew{α:Type}{l:!α}(h:1<=l.length):∃ a r,l=a::r:=by
 cases l with
 | nil=>simp at h
 | cons a r=>exact#[a,r,U]
theorem Ti{α:Type}{l:!α}(h:l.length=2):∃ a b,l=[a,b]:=by
 let(a,r,rfl):=Ew (l:=l) (by cbv);let(b,r',rfl):=Ew (l:=r) (by simp at h;cbv);have:r'=[]:=len0 (by simpa using h);subst this;exact#[a,b,U]
theorem aI:16000000<=FB:=by decide
theorem size_eq(t:Tm):t.size=d9 t.kids+1:=by
 cases t
 rfl
theorem size_pos(t:Tm):0 < t.size:=by rw[size_eq];cbv
theorem cj{α:Type}{x:α}{r:!α}:jF (x::r) 0=some x:=iC (j:=0) U
theorem bo{α:Type}{nt:Nat}{us:!Nat}{g:pZ}{te:aV}(h f:α->D){Q:!D->DS->Prop}{s:DS}:∀ (xs:!α) {acc:!D},(∀ x∈xs,∀ k:D->DS->Prop,(∀ s':DS,s'.os=s.os->k (f x) s')->g (h x) (iF nt us s) λs1=>te s1 k)->Q (acc++xs.map f) s->cA nt us g dI te (xs.map h) acc s Q
 | [],acc,_,q=>by
  rw[WR,Wf] at q;exact q
 | x::xs,acc,hx,q=>by
  change g (h x) (iF nt us s) λs1=>dI s1 λb s2=>if b=true then te s2 λy s3=>cA nt us g dI te (xs.map h) (acc++[y]) #[s.sl,s3.os] Q else cA nt us g dI te (xs.map h) acc #[s.sl,s2.os] Q;have:=hx x Wg (λy s3=>cA nt us g dI te (xs.map h) (acc++[y]) #[s.sl,s3.os] Q) λs' e=>by
   rw[e];show bo h f xs (λy hy=>hx y (Wd _ hy)) ?_;rw[WB];exact q
  simpa [dI] using this
theorem bF{α:Type}{nt:Nat}{us:!Nat}{g:pZ}{ti:lD}{te:aV}(h f:α->D)(p:α->Bool){Q:!D->DS->Prop}{s:DS}:∀ (xs:!α) {acc:!D},
  (∀ x∈xs,∀ k:D->DS->Prop,∀ N:DS->Prop,(p x=true->∀ s':DS,s'.os=s.os->k (f x) s')->(p x=false->∀ s':DS,s'.os=s.os->N s')->g (h x) (iF nt us s) λs1=>ti s1 λb s2=>if b=true then te s2 k else N s2)->Q (acc++(xs.filter p).map f) s->cA nt us g ti te (xs.map h) acc s Q
 | [],acc,_,q=>by
  rw[List.filter_nil,WR,Wf] at q;exact q
 | x::xs,acc,hx,q=>by
  show hx x Wg (λy s3=>cA nt us g ti te (xs.map h) (acc++[y]) #[s.sl,s3.os] Q) (λs2=>cA nt us g ti te (xs.map h) acc #[s.sl,s2.os] Q) (λhp s' e=>?_) λhp s' e=>?_
  .show cA nt us g ti te (xs.map h) (acc++[f x]) #[s.sl,s'.os] Q;rw[e];show bF h f p xs (λy hy=>hx y (Wd _ hy)) ?_;rw[List.filter_cons_of_pos hp] at q;rw[WB];exact q
  .show cA nt us g ti te (xs.map h) acc #[s.sl,s'.os] Q;rw[e];show bF h f p xs (λy hy=>hx y (Wd _ hy)) ?_;rw[List.filter_cons_of_neg (by rw[hp];exact Wm)] at q;exact q
end DL
namespace DL
open PySem PySem.Spec L2
open PyProof.Rows hiding St
section
variable{X:Cx}{c:Ent}
theorem uz{A:Fr}{k:Nat}(hr:bO k A):A.units+150 < cLine:=by have:=hr.un;cbv
def Ot:D->D->(D->Prop)->Prop:=λa b k=>∃ x y,a=.str x/\b=.str y/\(x.length+y.length<=FB)/\k (.str (x++y))
end
theorem nQ{P:GE}{w:Fa}{K:Frag}{mg:Str->Option AT}{base:EQ}{k:Nat}{f:AC}{fd:Go}{ps:!Str}{g:yq}:bP P w K mg base aR k f fd ps (cQ K g λ_ _=>False) :=
 #[λvs H Q E h=>by let(_,_,_,_,_,h,_):=h;exact h.elim,λA outer s H args us vs Q E hr he hb hv h=>by let(_,_,_,_,_,h,_):=h;exact h.elim]
def gK(d:AC):X9:=λds R=>∃ m:Int,ds=[.bG d,.int m]/\(0 < m/\m < 9223372036854775808)/\∀ r:Int,0<=r->r < m->R (.int r)
theorem Ec{P:GE}{w:Fa}{K:Frag}{mg:Str->Option AT}{base:EQ}{k:Nat}{f d l:AC}{fd:Go}{ps:!Str}(F:bP P w K mg base aR k f fd ps cR.wH):bP P w K mg base aR k f fd ps (cQ K (bg d l) (gK d)) :=
 F.imp λvs H Q E h=>by
  let(M,ds,R,B,r,(m,rfl,(h1,h2),k),kk):=h;let(v,w,rfl,e1,e2):=vz r;cases (show v=.ref d from e1);cases (show w=.int m from e2);show#[d,l,m,U,B.nE,h1,h2,λq H' q1 q2 A' bt=>kk _ (k q q1 q2) M H' _ #[A',λb o e g=>bt b o e (λz=>g (.inl z)) λz=>g (.inr z),λb m=>?_,B.mo,λ_ m=>m,λ_ m=>.inl m] rfl];let(o,e):=B.md b m;exact#[o,bt b o e (λz=>B.mo b m (.inl z)) λz=>B.mo b m (.inr z)]
section
variable{X:Cx}{c:Ent}
def So(i:Nat):aV:=λs Q=>(∃ d,s.sl[i]?=some (.dat d)/\Q d s)\/∃ k d,s.sl[i]?=some (.own k)/\s.os[k]?=some (some d)/\Q d (s.freeze k d)
theorem xM{i:Nat}{e:Cl}(h:PE X e (bN i)):DE X c e (So i):=#[λTW s0 σ H Q I zz=>cV zz λM s as R L q kk=>by
 rcases q with q | q
 .exact (dv (c:=c) h).pe TW s0 σ H Q I #[M,s,as,R,L,q,kk]
 .exact (R9 (c:=c) h).pe TW s0 σ H Q I #[M,s,as,R,L,q,kk]]
def M8(neg:Bool)(i:Nat)(tb:aV):aV:=λs Q=>∃ k d0,s.sl[i]?=some (.own k)/\s.os[k]?=some (some d0)/\tb s λb s1=>∃ d,s1.os[k]?=some (some d)/\(ni d=true/\ni b=true/\(zu d<=150\/zu b<=150))/\Q (.bl (if neg then (not (Ll d b)) else Ll d b)) s1
theorem Ks{neg:Bool}{i:Nat}{tb:aV}{σ:St}{H:Hp}{Q:VK}:tE X.K c (M8 neg i tb) σ H Q->iW (AN X.K neg) (bN i) (tE X.K c tb) σ H Q:=λz1q=>by
 let(M,s,as,R,L,(k,d0,h1,h2,q),kk):=z1q;let(a,o,g1,g2,g3,g4):=L.slot h1 h2;show#[_,g2,M,s,as,_,L,q,λb s1 z2q M1 H1 v L1 E1 rv=>?_];let(d,e1,(o1,o2,hd),q1):=z2q;let((o',f1,f2),nm,ng,h0):=L1.obj k _ a e1 g1;exact#[λb=>M1 b\/b=a,d,b,(f2.mono (λ_ m=>.inl m) λ_ _ _ e=>e).rep f1 (.inr U),Rep.mono (λ_ m=>.inl m) (λ_ _ _ e=>e) _ _ rv,o1,o2,hd,kk _ s1 q1 M1 H1 _ L1 E1 U]
theorem Kx{neg:Bool}{i:Nat}{a b:Cl}{op:CmpOp}{tb:aV}{pos:Pos}(ho:jC X (KM op) (AN X.K neg))(ha:PE X a (bN i))(hb:DE X c b tb)(hm:behindInMarks op b=false):DT X c (.Compare a [op] [b] pos) (Di (M8 neg i tb)):=#[(hW ho ha hb.pe hm).imp λ_ _ _=>fu Ks]
theorem lJ:qX X c (λx y H Q=>∃ i j,x=.str i/\y=.str j/\i.length+j.length<=FB/\Q (.str (i++j)) H) Ot:=λM s as σ H x y dx dy k Q L rx ry z2r kk=>by
 let(i,j,e1,e2,h,hk):=z2r;subst e1;subst e2;exact#[i,j,rx,ry,h,kk _ hk M H _ L .refl U]
def Qc:D->D->(D->Prop)->Prop:=λa b k=>∃ z n,a=.str z/\b=.int n/\MulOk z n/\k (.str (Txt.mul z n))
theorem A4:qX X c (λx y H Q=>∃ z n,x=.str z/\y=.int n/\MulOk z n/\Q (.str (Txt.mul z n)) H) Qc:=λM s as σ H x y dx dy k Q L rx ry z3r kk=>by
 let(i,j,e1,e2,h,hk):=z3r;subst e1;subst e2;exact#[i,j,rx,ry,h,kk _ hk M H _ L .refl U]
def RD(te:aV)(tl th:Fq):aV:=λs Q=>te s λa s1=>tl s1 λl s2=>th s2 λu s3=>∃ z,a=.str z/\z.length<=FB/\Q (.str (Txt.slice z l u)) s3
theorem u6{e:Cl}{lo hi:Option Cl}{te:aV}{tl th:Fq}{p2 pos:Pos}(he:DE X c e te)(hl:DO X c lo tl)(hu:DO X c hi th):DE X c (.Subscript e (.Slice lo hi none p2) pos) (RD te tl th):=#[(lr IH he.pe hl.po hu.po).imp λσ H Q zz=>cV zz λM s as R L q k =>
 #[M,s,as,_,L,q,λd s1 q1 M1 H1 v L1 E1 rv=>#[M1,s1,as,_,L1,q1,λl s2 q2 M2 H2 Lb E2=>#[M2,s2,as,_,Lb,q2,λu s3 q3 M3 H3 Lc E3=>by
  let(z,e,hz,q):=q3;subst e;have E13:=E2.trans Lb.base E3;exact#[z,rv,hz,k _ s3 q M3 H3 _ Lc (E1.trans L1.base E13) U]]]]]
theorem uh{K:Frag}{H:Hp}{M:AC->Prop}:∀ {bs:!Str} {vs:!V},az K H M (bs.map .str) vs->vs=bs.map V.str
 | [],vs,r=>r
 | b::bs,vs,r=>by
  let(x,xr,rfl,r1,r2):=r;have r1:x=.str b:=r1;rw[r1,uh r2,Wj]
def Qj(to:aV)(t:eJ):aV:=λs Q=>to s λa s1=>∃ z,a=.str z/\t s1 λds s2=>∃ zs,ds=[.lst (zs.map .str)]/\(zs.map (·.length)).sum+zs.length * z.length<=16777216/\Q (.str (Txt.join z zs)) s2
theorem Hn{o e:Cl}{es:!Cl}{to:aV}{t:eJ}{apos cX:Pos}(ho:DE X c o to)(ha:DA X c (e::es) t)(gL:(attributeBase o "join" X.env (eval o X.env)=eval o X.env)⁻¹)(r8:(((IR cX (GT (e::es) X.env)).all (λx=>(not x.1))&&(P3 cX (Re [] X.env)).all (λx=>x.1.isSome)
   && decide ((e::es).length+([]:!Rs).length+(if ([]:!Rs).isEmpty then 0 else 1) < 30))=true)⁻¹)(g6:((apos.endLine == cX.line)=true)⁻¹)(hs:(Ya X.env e es)⁻¹)(ip:((IR cX (GT es X.env)).any (·.1)=false)⁻¹) :
  DE X c (.Call (.Attribute o "join" apos) (e::es) [] cX) (Qj to t):=#[(Ck PySem.F.plainAttrs_str PySem.F.slot_str_join PySem.F.type_str_join DB ho.pe ha.pa gL r8 g6 hs ip).imp λσ H Q zz=>cV zz λM s as R L q kk=>by
 show#[M,s,as,_,L,q,λd s1 #[z,e,q1] M1 H1 v L1 E1 rv=>?_];subst e;cases (show v=.str z from rv);show#[U,M1,s1,as,_,L1,q1,λds s2 #[zs,e2,hz,q2] M2 H2 vs L2 E2 rvs hl=>?_];subst e2;let(w,rfl,p,ys,rfl,(m,h),r'):=dO rvs;rw[uh r'] at h;exact#[z,p,zs,U,U,.of h,hz,kk _ s2 q2 M2 H2 _ L2 (E1.trans L1.base E2) U]]
def JB(zs:!Str):eJ:=λs Q=>Q (zs.map .str) s
theorem qv{K:Frag}{H:Hp}{M:AC->Prop}:∀ (zs:!Str),az K H M (zs.map .str) (zs.map V.str)
 | []=>rfl
 | z::zs=>#[_,_,U,U,qv zs]
theorem EI{es:!Cl}{zs:!Str}(h:tY es=true)(h2:xY es=zs)(h3:es.length=zs.length):DA X c es (JB zs):=#[(by subst h2;exact (xt h).imp λσ H Q zz=>cV zz λM s as R L q k=>k _ s q M H _ L .refl (qv _) (by rw[V8];exact h3.symm))]
def PD(neg:Bool)(te:aV)(i:Nat):aV:=λs Q=>te s λa s1=>∃ k ds,s1.sl[i]?=some (.own k)/\s1.os[k]?=some (some (.lst ds))/\(gJ a=true/\ds.all gJ=true)/\Q (.bl (if neg then (not (v3 (fv a) (ds.map fv))) else v3 (fv a) (ds.map fv))) s1
theorem Jt{neg:Bool}{i:Nat}{te:aV}{σ:St}{H:Hp}{Q:VK}:tE X.K c (PD neg te i) σ H Q->iW (Le X.K neg) (tE X.K c te) (bN i) σ H Q:=λzz=>cV zz λM s as R L q kk =>
 #[M,s,as,_,L,q,λd s1 z5q M1 H1 v L1 E1 rv=>by
  let(k,ds,h1,h2,(f1,f2),q1):=z5q;let(a,o,g1,g2,g3,g4):=L1.slot h1 h2;cases o with
  | lst us =>
   have g4:az X.K H1 M1 ds us:=g4;have e1:=rv.flat f1;subst e1;let(e,f):=g4.flat f2;show#[_,g2,a,us,U,.inl (.of g3),oH f1,f,?_];rw[e];exact kk _ s1 q1 M1 H1 _ L1 E1 U
  | _=>exact g4.elim]
theorem Jb{neg:Bool}{i:Nat}{a b:Cl}{op:CmpOp}{ta:aV}{pos:Pos}(ho:jC X (KM op) (Le X.K neg))(ha:DE X c a ta)(hb:PE X b (bN i))(hm:behindInMarks op b=false):DT X c (.Compare a [op] [b] pos) (Di (PD neg ta i)):=#[(hW ho ha.pe hb hm).imp λ_ _ _=>fu Jt]
end
end DL
namespace DL
open PySem PySem.Spec L2
section
variable{κ:Type}[DecidableEq κ]
theorem sk{ks:!κ}{q:κ}:o7 ks q=true↔q∈ks:=by
 unfold o7;rw[XE];constructor
 .rintro⟨k,h1,h2⟩;rw[<- of_decide_eq_true h2];exact h1
 .intro h;exact#[q,h,decide_eq_true U]
theorem oR:∀ {ks:!κ} {vs:!D} {q:κ} {x:D} (r:κ),ks.length=vs.length->q∈ks->br ks (mW ks vs q x) r=if r=q then some x else br ks vs r
 | [],vs,q,x,r,_,h=>by cases h
 | k::ks,[],q,x,r,e,_=>by simp at e
 | k::ks,v::vs,q,x,r,e,h=>by
  change (if k=r then some (if k=q then x else v) else br ks (mW ks vs q x) r)=if r=q then some x else if k=r then some v else br ks vs r;by_cases h1:k=r
  .subst h1;rw[if_pos U,if_pos U];by_cases h2:k=q
   .rw[if_pos h2,if_pos h2]
   .rw[if_neg h2,if_neg h2]
  .rw[if_neg h1,if_neg h1];by_cases h3:q∈ks
   .exact oR r (by simpa using e) h3
   .have h4:q=k:=by
     rcases Wu.mp h with h | h
     .exact h
     .exact absurd h h3
    have h5:¬ r=q:=λz=>h1 (h4.symm.trans z.symm);rw[if_neg h5];have:∀ {ks:!κ} {vs:!D},ks.length=vs.length->q∉ks->br ks (mW ks vs q x) r=br ks vs r:=by
     intro ks vs
     induction ks generalizing vs with
     | nil=>intro e _;cases vs<;>first | rfl | simp at e
     | cons k ks ih =>
      intro e hn;cases vs with
      | nil=>simp at e
      | cons v vs =>
       change (if k=r then some (if k=q then x else v) else br ks (mW ks vs q x) r)=if k=r then some v else br ks vs r;have hk:¬ k=q:=λz=>hn (by rw[z];exact Wg);rw[if_neg (c:=k=q) hk,ih (by simpa using e) λz=>hn (List.mem_cons_of_mem _ z)]
    exact this (by simpa using e) h3
theorem qG:∀ {ks:!κ} {vs:!D} {q:κ} {x:D} (r:κ),ks.length=vs.length->q∉ks->br (ks++[q]) (vs++[x]) r=if r=q then some x else br ks vs r
 | [],[],q,x,r,_,h=>by
  change (if q=r then some x else none)=_;by_cases h1:r=q
  .rw[if_pos h1,if_pos h1.symm]
  .rw[if_neg h1,if_neg (Ne.symm h1)]
   rfl
 | [],_::_,q,x,r,e,_=>by simp at e
 | _::_,[],q,x,r,e,_=>by simp at e
 | k::ks,v::vs,q,x,r,e,h=>by
  change (if k=r then some v else br (ks++[q]) (vs++[x]) r)=if r=q then some x else if k=r then some v else br ks vs r;have hk:k≠q:=λz=>h (by rw[z];exact Wg);by_cases h1:k=r
  .subst h1;rw[if_pos U,if_neg hk,if_pos U]
  .rw[if_neg h1,if_neg h1];exact qG r (by simpa using e) λz=>h (List.mem_cons_of_mem _ z)
theorem CV{ks:!κ}{vs:!D}{q:κ}{x:D}(r:κ)(e:ks.length=vs.length):br (cY ks q) (dh ks vs q x) r=if r=q then some x else br ks vs r:=by
 unfold cY dh;by_cases h:o7 ks q=true
 .rw[if_pos h,if_pos h];exact oR r e (sk.mp h)
 .rw[if_neg h,if_neg h];exact qG r e λz=>h (sk.mpr z)
theorem qT:∀ {ks:!κ} {vs:!D} {q:κ} {x:D},ks.length=vs.length->(mW ks vs q x).length=vs.length
 | [],[],q,x,_=>rfl
 | [],_::_,q,x,e=>by simp at e
 | _::_,[],q,x,e=>by simp at e
 | k::ks,v::vs,q,x,e=>by
  change (mW ks vs q x).length+1=vs.length+1;rw[qT (by simpa using e)]
theorem xW{ks:!κ}{vs:!D}{q:κ}{x:D}(e:ks.length=vs.length):(cY ks q).length=(dh ks vs q x).length/\(cY ks q).length<=ks.length+1:=by
 unfold cY dh;by_cases h:o7 ks q=true
 .rw[if_pos h,if_pos h,qT e];exact#[e,XZ _]
 .rw[if_neg h,if_neg h];simp[e]
end
def Fm.strs:Fm->!Str
 | .nm x=>[x]
 | .num _=>[]
 | .op s=>[s]
 | .sU=>[]
 | .lt x=>[x]
 | .mk c=>[c]
 | .ask f=>[f]
 | .j9 r hs=>r::(hs.map λh=>h.1::h.2).flatten
 | .new k hs=>k::(hs.map λh=>h.1::h.2).flatten
mutual
noncomputable def Tm.Gs:Tm->Bool
 | .node f ks=>f.strs.all Gc.strOk&&Df ks
noncomputable def Df:!Tm->Bool
 | []=>true
 | t::r=>t.Gs&&Df r
end
theorem xG:∀ {ks:!Tm} {n:Nat},(∀ k∈ks,k.dep<=n)->Bi ks<=n
 | [],n,_=>WH _
 | t::r,n,h=>by
  have h1:=h t Wg;have h2:=xG (n:=n) λk hk=>h k (Wd _ hk);change max t.dep (Bi r)<=n;cbv
end DL
namespace DL
open PySem PySem.Spec L2
open PyProof.Rows hiding St
def Lw(x:Str):Prop:=∀ ch∈x.cps.toList,97<=ch/\ch<=122
noncomputable instance (x:Str):Decidable (Lw x):=by unfold Lw;infer_instance
theorem Lw.app{x y:Str}(h:Lw x)(k:Lw y):Lw (x++y):=λch hc=>by
 have e:(x++y).cps.toList=x.cps.toList++y.cps.toList:=by change (x.cps++y.cps).toList=_;simp
 rw[e,WA] at hc;rcases hc with hc | hc
 .exact h ch hc
 .exact k ch hc
theorem Lw.slice{x:Str}(h:Lw x)(l u:Option Int):Lw (Txt.slice x l u):=by
 unfold Txt.slice;split
 .exact h
 .intro ch hc;simp only[List.mem_filterMap] at hc;let(i,_,e):=hc;let(hi,e):=Array.getElem?_eq_some_iff.mp e;exact h ch (by rw[<- e];simp)
theorem vg:∀ (cs:!Nat),(Txt.join ("":Str) (cs.map λc=>(#[#v[c]]:Str))).cps.toList=cs
 | []=>by unfold Txt.join;rw[PySem.StrLaws.glued_eq_join];rfl
 | [c]=>by unfold Txt.join;rw[PySem.StrLaws.glued_eq_join];rfl
 | c::d::r=>by
  have ih:=vg (d::r);have e:(Txt.join ("":Str) ((c::d::r).map λc=>(#[#v[c]]:Str)))=(#[#v[c]]:Str)++("":Str)++Txt.join ("":Str) ((d::r).map λc=>(#[#v[c]]:Str)):=by
   unfold Txt.join;rw[Xs,Xs]
   rfl
  rw[e];change ((#v[c]++#v[])++(Txt.join ("":Str) ((d::r).map λc=>(#[#v[c]]:Str))).cps).toList=_;rw[Array.toList_append,ih]
  rfl
theorem Lw.strOk{x:Str}(h:Lw x):Gc.strOk x=true:=by
 unfold Gc.strOk;rw[Array.all_eq_true];intro i hi;have:=h x.cps[i] (by simp);simp;cbv
theorem oW{nt:Nat}{us:!Nat}{g:pZ}{te:aV}(Pd:D->Prop){Q:!D->DS->Prop}{s:DS}:∀ (xs:!D) {acc:!D},(∀ x∈xs,∀ k:D->DS->Prop,(∀ (y:D) (s':DS),Pd y->s'.os=s.os->k y s')->g x (iF nt us s) λs1=>te s1 k)->(∀ ys:!D,ys.length=xs.length->(∀ y∈ys,Pd y)->Q (acc++ys) s)->cA nt us g dI te xs acc s Q
 | [],acc,_,q=>by
  have:=q [] rfl (λ_ h=>absurd h (by simp));rw[Wf] at this;exact this
 | x::xs,acc,hx,q=>by
  have:=hx x Wg (λy s3=>cA nt us g dI te xs (acc++[y]) #[s.sl,s3.os] Q) λy s' hy e=>by
   change cA nt us g dI te xs (acc++[y]) #[s.sl,s'.os] Q;rw[e];show oW Pd xs (λz hz=>hx z (Wd _ hz)) λys hl hp=>?_;rw[WB];show q ([y]++ys) (by simp[hl]) λz hz=>?_;rcases Wu.mp hz with rfl | hz
   .exact hy
   .exact hp z hz
  rw[cA];simpa [dI] using this
theorem Ee{X:Cx}{qW:!Ev}{t:AC->jg}(h:∀ d l M0 H0,qg X #[bg d l,M0,H0] qW (t d)):nK X qW (λE σ H=>∃ d l M0 H0,tS X.K #[bg d l,M0,H0] (t d) E σ H):=λTW s σ H E I #[d,l,M0,H0,q]=>(h d l M0 H0).ps TW s σ H E I q
theorem Ka{K:Frag}{d l:AC}{H:Hp}{t:AC->jg}{E:Ends}{σ:St}{n nos:Nat}(D1:cR.At H d l)(hl:σ.length=n+2)(h1:σ[1]?=some (some (.ref d)))(q:t d { nx:=λ_=>False,rt:=λx=>x=.bl true } #[.no::.dat (.bG d)::List.replicate n .no,List.replicate nos none])(k:∀ H',E.rt (.bl true) H'):∃ d l M0 H0,tS K #[bg d l,M0,H0] (t d) E σ H:=by
 show#[d,l,λ_=>False,H,λ_=>False,_,List.replicate nos 0,_,?_,q,?_]
 .refine#[#[D1,λb o e _=>e,λb m=>m.elim,λb m=>m.elim,λb m=>m.elim,λb m=>m.elim],by simp[hl],by simp,λi x e=>?_,λi k e=>?_,λk x a e=>?_,λk _ x _ a e=>?_,λk a e=>(nomatch e)]
  .match i,e with
   | 0,e=>simp at e
   | 1,e =>
    simp at e;subst e;exact#[_,h1,U]
   | i+2,e =>
    let(_,e):=Wb.mp e;simp at e
  .match i,e with
   | 0,e=>simp at e
   | 1,e=>simp at e
   | i+2,e =>
    let(_,e):=Wb.mp e;simp at e
  .let(_,e):=Wb.mp e;simp at e
  .let(_,e):=Wb.mp e;simp at e
 .refine#[λ_ _ _ _ _ z=>z.elim,λ_ _ _ _ _ z=>z.elim,λ_ _ _ _ _ z=>z.elim,λx M' H' v r B' rv=>?_,λ_ _ _ _ _ z=>z.elim,λ_ _ _ _ _ _ _ z=>z.elim];cases (show x=.bl true from r);cases (show v=.bl true from rv);exact k H'
def yb(K:Frag):Sp:=λvs H Q _=>∃ (a:AC) (ns:!Int),vs=[.ref a]/\d8 K H a (ns.map V.int)/\ns.length<=63/\∀ H',Q (.bl true) H'
def vo:!Str:=["made","asked","def","tab","cross","to","number"]
def qx:!Str:=["zero","let","make","ask","case","new"]
def Nm(x:Str):Prop:=Lw x/\1<=x.length/\x.length<=8/\x∉vo/\x∉qx
noncomputable instance (x:Str):Decidable (Nm x):=by unfold Nm;infer_instance
theorem EH:∀ z∈cR.near,Nm z:=by decide+kernel
theorem DJ:∀ z∈vo,(z++("q":Str))∉vo/\(z++("q":Str))∉qx/\z.length<=6:=by decide+kernel
theorem D9:∀ z∈qx,(z++("q":Str))∉vo/\(z++("q":Str))∉qx/\z.length<=6:=by decide+kernel
theorem fh{w:Str}:∀ {zs:!Str},v3 (.str w) (zs.map V.str)=decide (w∈zs)
 | []=>rfl
 | z::zs=>by
  have ih:=fh (w:=w) (zs:=zs);unfold v3 at ih ⊢;rw[Wj,Xv,ih];rw[show EE (V.str z) (V.str w)=decide (z=w) from U];by_cases h:z=w
  .simp[h]
  .simp[h,Ne.symm h]
def wl(pre post:!Nat)(tn k e:Nat):!Nat:=pre++(97+(tn+7 * k) % 26)::(post++(List.replicate (k % 2) 120++(List.replicate (k / 26) 121++List.replicate e 113)))
theorem IP{pre post:!Nat}{tn k k' e e':Nat}(h:wl pre post tn k e=wl pre post tn k' e'):k=k':=by
 unfold wl at h;have h:=XW h;injection h with h1 h2;have h2:=XW h2;have h3:k % 26=k' % 26:=by cbv
 have h4:k % 2=k' % 2:=by cbv
 rw[h4] at h2;have h2:=XW h2;have h5:=congrArg (List.count 121) h2;simp[List.count_append,List.count_replicate] at h5;cbv
theorem lu(x y:Str):(x++y).cps.toList=x.cps.toList++y.cps.toList:=by change (x.cps++y.cps).toList=_;simp
theorem yA{r:Int}(h0:0<=r)(h1:r < 26):jF cR.OC.cps.toList r=some (97+r.toNat):=by
 have hn:∀ n:Fin 26,cR.OC.cps.toList[n.val]?=some (97+n.val):=by decide+kernel
 have hj:r.toNat < 26:=by cbv
 have e:(r.toNat:Int)=r:=Int.toNat_of_nonneg h0;have q:=iC (xs:=cR.OC.cps.toList) (j:=r.toNat) (v:=97+r.toNat) (hn #[r.toNat,hj]);rw[e] at q;exact q
theorem yo{c:Nat}{n:Int}(h0:0<=n)(h1:n<=2):(Txt.mul (#[#v[c]]:Str) n).cps.toList=List.replicate n.toNat c/\MulOk (#[#v[c]]:Str) n:=by
 have:n=0\/n=1\/n=2:=by cbv
 rcases this with rfl | rfl | rfl
 .exact#[U,U,λh=>absurd () h,λh=>absurd () h]
 .exact#[U,U,λ_ h=>absurd h (by simp),λ_ h=>absurd h (by simp)]
 .exact#[U,U,λ_ _=>by change ¬ ((1:Nat):Int) > (2 ^ 63 - 1) / 2;decide,λ_ _=>by change PySem.Builtin.Str.tooLong (1 * 2)=false;decide]
theorem qS{α:Type}{z:α}:∀ {ws:!α} (i:Nat),ws.Nodup->z∉ws->(ws.set i z).Nodup
 | [],i,h,hz=>by simpa using h
 | w::ws,0,h,hz=>by
  rw[List.set_cons_zero];rw[W3] at h ⊢;exact#[λm=>hz (Wd _ m),h.2]
 | w::ws,i+1,h,hz=>by
  rw[List.set_cons_succ];rw[W3] at h ⊢;show#[λm=>?_,qS i h.2 λm=>hz (Wd _ m)];rcases List.mem_or_eq_of_mem_set m with m | e
  .exact h.1 m
  .exact hz (by rw[<- e];exact Wg)
open PySem.Builtin PySem.Builtin.Str in
theorem uO(x:Str)(l u:Option Int):(Txt.slice x l u).length<=(strSliceIndices l u 1 x.length).length:=by
 unfold Txt.slice;split
 .rename_i h
  simp at h;cbv
 .show (List.filterMap _ (strSliceIndices l u 1 x.length)).toArray.size<=_;rw[Wx];exact List.length_filterMap_le _ _
open PySem.Builtin PySem.Builtin.Str in
theorem zv{x:Str}{i:Int}(h0:0<=i)(h1:i<=x.length):(Txt.slice x none (some i)).length+(Txt.slice x (some i) none).length<=x.length:=by
 have a:=uO x none (some i);have b:=uO x (some i) none;have ha:(strSliceIndices none (some i) 1 x.length).length<=i.toNat:=by
  unfold strSliceIndices sliceRange;simp only[show (1:Int) > 0 by decide,if_true,List.length_map,List.length_range]<;>(split<;>(try split)<;>(try split)<;>(try simp only[Int.ediv_one])<;>cbv)
 have hb:(strSliceIndices (some i) none 1 x.length).length<=x.length - i.toNat:=by
  unfold strSliceIndices sliceRange;simp only[show (1:Int) > 0 by decide,if_true,List.length_map,List.length_range]<;>(split<;>(try split)<;>(try split)<;>(try simp only[Int.ediv_one])<;>cbv)
 cbv
def u5(pre post:!Nat)(tn:Nat)(ws:!Str):Prop:=∀ (j:Nat) (w:Str),ws[j]?=some w->Nm w/\∃ e,w.cps.toList=wl pre post tn j e
theorem u5.nodup{pre post:!Nat}{tn:Nat}{ws:!Str}(h:u5 pre post tn ws):ws.Nodup:=by
 rw[XI,List.pairwise_iff_getElem];intro i j hi hj hij e;let(_,e1,h1):=h i ws[i] (Wq hi);let(_,e2,h2):=h j ws[j] (Wq hj);rw[e,h2] at h1;have:=IP h1;cbv
theorem u5.snoc{pre post:!Nat}{tn:Nat}{ws:!Str}{u:Str}{e:Nat}(h:u5 pre post tn ws)(hu:Nm u)(he:u.cps.toList=wl pre post tn ws.length e):u5 pre post tn (ws++[u]):=λj w q=>by
 by_cases hj:j < ws.length
 .rw[W5 hj] at q;exact h j w q
 .rw[Xa (by cbv)] at q;let(h1,h2):=Wb.mp q;simp at h1;have:j=ws.length:=by cbv
  subst this;simp at h2;subst h2;exact#[hu,e,he]
theorem u5.nm{pre post:!Nat}{tn:Nat}{ws:!Str}(h:u5 pre post tn ws):∀ w∈ws,Nm w:=λw m=>by
 let(j,hj,e):=Xk m;exact (h j w (by rw[Wq hj,e])).1
def zL(d:AC):X9:=λds R=>∃ m:Int,ds=[.bG d,.int m]/\(0 < m/\m<=60)/\∀ ws:!Str,ws.length=m.toNat->ws.Nodup->(∀ x∈ws,Nm x)->R (.lst (ws.map .str))
section
variable{X:Cx}{c:Ent}
def wG:D->Bool
 | .bT=>true
 | _=>false
theorem Rep.P9{K:Frag}{H:Hp}{M:AC->Prop}{d:D}{v:V}(r:Rep K H M d v):decide (v=.bT)=wG d:=by
 cases d with
 | bT=>rw[show v=.bT from r];rfl
 | bl b=>rw[show v=.bl b from r];rfl
 | int b=>rw[show v=.int b from r];rfl
 | str b=>rw[show v=.str b from r];rfl
 | bG b=>rw[show v=.ref b from r];rfl
 | ty b=>rw[show v=.ty b from r];rfl
 | tup _=>let(a,xs,rfl,_):=r;rfl
 | lst _=>let(a,xs,rfl,_):=r;rfl
 | iI _ _=>let(a,xs,rfl,_):=r;rfl
 | nz _ _=>let(a,xs,rfl,_):=r;rfl
 | Hg _ _=>let(a,o,xs,ts,rfl,_):=r;rfl
 | ob _ _ _=>let(a,dx,xs,rfl,_):=r;rfl
def Qf:D->D->(D->Prop)->Prop:=λa b k=>b=.bT/\k (.bl (not (wG a)))
theorem JD:qX X c (λx y H Q=>y=.bT/\Q (.bl (not (decide (x=.bT)))) H) Qf:=λM s as σ H x y dx dy k Q L rx ry z4r kk=>by
 let(e,hk):=z4r;subst e;show#[ry,?_];rw[rx.P9];exact kk _ hk M H _ L .refl U
def Th:X9:=λas k=>∃ i j,as=[.int i,.int j]/\k (.int (if j < i then j else i))
theorem QF:Dk X c (λxs H Q=>∃ i j,xs=[.int i,.int j]/\Q (.int (if j < i then j else i)) H) Th:=λM s as σ H xs ds k Q L r z5r kk=>by
 let(i,j,e,hk):=z5r;subst e;let(v,w,rfl,e1,e2):=vz r;have e1:v=.int i:=e1;have e2:w=.int j:=e2;subst e1;subst e2;exact#[i,j,U,kk _ hk M H _ L .refl U]
end
end DL
namespace PyZ
open PySem Sem
section
variable{prog:GE}{w:Fa}{A:Fr}{E:X7}{s:Da}{z TI TO i1 i2:AC}{f1 f2:!AC}{n1 n2:Nat}{P1 P2:Nat->AT->Prop}{S1 S2:Nat->EQ->Prop}
structure Apart(z TI TO i1 i2:AC)(f1 f2:!AC):Prop where
 TIz:TI≠z
 TOz:TO≠z
 i1z:i1≠z
 i2z:i2≠z
 TITO:TI≠TO
 TIi1:TI≠i1
 TIi2:TI≠i2
 TOi1:TO≠i1
 TOi2:TO≠i2
 z1:z∉f1
 z2:z∉f2
 o1:TO∉f1
 o2:TO∉f2
 a1:i2∉f1
 a2:i1∉f2
structure Zip(S1 S2:Nat->EQ->Prop)(z TI TO i1 i2:AC)(f0:AT)(k1 k2:Nat)(h:EQ):Prop where
 zip:IsZip h z TI TO f0
 ins:Ix h TI (.ref i1) (.ref i2)
 out:∃ a b,Ix h TO a b
 K9:S1 k1 h
 FZ:S2 k2 h
theorem but{c:AC}{f:!AC}{h h':EQ}{S:Nat->EQ->Prop}{it:AC}{n k:Nat}{P:Nat->AT->Prop}(D:Draws prog w A it f n P S)(x:EQ.SameBut c h h')(hc:c∉f)(st:S k h):S k h' :=
 D.frame _ _ _ st λb hb o e=>x.extBut _ _ (λq=>hc (q▸hb)) e
theorem next_item{k:Nat}{Q:X7}(X:Apart z TI TO i1 i2 f1 f2)(D1:Draws prog w A i1 f1 n1 P1 S1)(D2:Draws prog w A i2 f2 n2 P2 S2)(Z:Zip S1 S2 z TI TO i1 i2 .none k k s.heap)(h1:k < n1)(h2:k < n2)(hQ:∀ x y h' tk,P1 k x->P2 k y->Zip S1 S2 z TI TO i1 i2 (KF ↑s) (k+1) (k+1) h'->Ix h' ↑s x y->h'.objs.size=↑s+1 ->
   (∀ c o,c≠z->c≠TO->c≠i1->c≠i2->s.heap.get? c=some o->h'.get? c=some o)->Q (.ref ↑s) { s with heap:=h',toks:=tk }) :
  Db (model prog w) A (Fk.«zip.__next__» #[[.ref z],[]]) (λfin s'=>∃ v,fin=.done (.ret v)/\Q v s') E s:=by
 let(hz,hTI,(a,b,hTO),t1,t2):=Z;change Db _ _ (field (.ref z) 2 >>= _) _ _ _;show Ch (KB hz U (x:=.bool false) U ?_);change Db _ _ (field (.ref z) 3 >>= _) _ _ _;show Ch (KB hz U (x:=.ref TI) U (Ch (PP hTI U ?_)));change Db _ _ (Fk.SmallTypes.ownedTupleIsFree (.ref z) >>= _) _ _ _;show Ch ?_;unfold Fk.SmallTypes.ownedTupleIsFree;show Ch (KB hz U (x:=.none) U (FS ?_));simp only[if_true];show Ch (wpAny_rule (Ch (KB hz U (x:=.ref TO) U (Ch (wpAny_setField_rec hz (by simp) λha hza sa=>?_)))))
 replace hza:IsZip ha z TI TO .ellipsis:=hza
 show Ch ?_;simp only[List.zipIdx_cons,List.zipIdx_nil,List.forIn_cons,List.forIn_nil];show Ch (Ch (wpAny_onRaise ?_));change Db _ _ (Fk.SmallTypes.nextOf (.ref i1) >>= _) _ _ _;show Ch (D1.item k _ _ _ h1 (but D1 sa X.z1 t1) λx hb tk1 px t1b sb=>FS ?_);have ob:Ix hb TO a b:=sb.extBut _ _ X.TOi1 (sa.extBut _ _ X.TOz hTO);show Ch (PP ob U (Ch (wpAny_updateSeq_pair ob λhc oc sc=>Ch (wpAny_letGo (FS ?_)))))
 replace oc:Ix hc TO x b:=oc
 show Ch (Ch (wpAny_onRaise ?_));change Db _ _ (Fk.SmallTypes.nextOf (.ref i2) >>= _) _ _ _;show Ch (D2.item k _ _ _ h2 (but D2 sc X.o2 (but D2 sb X.a2 (but D2 sa X.z2 t2))) λy hd tk2 py t2d sd=>FS ?_);have od:Ix hd TO x b:=sd.extBut _ _ X.TOi2 oc;show Ch (PP od U (Ch (wpAny_updateSeq_pair od λhe oe se=>Ch (wpAny_letGo (FS (FS ?_))))))
 replace oe:Ix he TO x y:=oe
 show Ch (PP oe U (Ch (wpAny_newTuple ?_)));have hsz:he.objs.size=↑s:=by rw[se.1,sd.1,sc.1,sb.1,sa.1]
 have ze:IsZip he z TI TO .ellipsis:=se.extBut _ _ X.TOz.symm (sd.extBut _ _ X.i2z.symm (sc.extBut _ _ X.TOz.symm (sb.extBut _ _ X.i1z.symm hza)));have ke:∀ c o,c≠z->c≠TO->c≠i1->c≠i2->s.heap.get? c=some o->he.get? c=some o:=λc o c1 c2 c3 c4 e =>
  se.extBut _ _ c2 (sd.extBut _ _ c4 (sc.extBut _ _ c2 (sb.extBut _ _ c3 (sa.extBut _ _ c1 e))))
 have t1e:S1 (k+1) he:=but D1 se X.o1 (but D1 sd X.a1 (but D1 sc X.o1 t1b));have t2e:S2 (k+1) he:=but D2 se X.o2 t2d;have hzlt:z < he.objs.size:=Wh ze;change Db _ _ (Fk.SmallTypes.ownedTupleHandOut (.ref z) (.ref he.objs.size) >>= _) _ _ _;show Ch ?_;unfold Fk.SmallTypes.ownedTupleHandOut;have zf:IsZip (he.push { cls:=.type "tuple",data:=.seq #v[x,y] }) z TI TO .ellipsis:=V9 _ ze;show Ch (wpAny_setField_rec zf (by simp) λhg zg sg=>?_)
 replace zg:IsZip hg z TI TO (KF he.objs.size):=zg
 show wpAny_setField_rec zg (by simp) λhh zh sh=>?_
 replace zh:IsZip hh z TI TO (KF he.objs.size):=zh
 have up:∀ c o,c≠z->he.get? c=some o->hh.get? c=some o:=λc o c1 e=>sh.extBut _ _ c1 (sg.extBut _ _ c1 (V9 _ e));have pT:Ix hh he.objs.size x y:=sh.extBut _ _ (Xq hzlt) (sg.extBut _ _ (Xq hzlt) (Wl _ U));have z8:hh.objs.size=he.objs.size+1:=by rw[sh.1,sg.1,WS]
 rw[hsz] at zh pT z8;show FS #[_,U,?_];change Q (.ref he.objs.size) _;rw[hsz];show hQ x y hh _ px py #[zh,up _ _ X.TIz (ke _ _ X.TIz X.TITO X.TIi1 X.TIi2 hTI),#[_,_,up _ _ X.TOz oe],?_,?_] pT z8 λc o c1 c2 c3 c4 e=>up c o c1 (ke c o c1 c2 c3 c4 e)
 .exact D1.frame _ _ _ t1e λq hq o e=>up q o (λr=>X.z1 (r▸hq)) e
 .exact D2.frame _ _ _ t2e λq hq o e=>up q o (λr=>X.z2 (r▸hq)) e
def Ends(prog:GE)(w:Fa)(A:Fr)(it:AC)(S:EQ->Prop):Prop:=∀ (s:Da) (Q:X7) (E:X7),S s.heap ->
  (∀ h' e,EQ.ExtBut it s.heap h'->(∃ o,h'.get? e=some o/\o.cls=.type "StopIteration")->E (.ref e) { s with heap:=h' })->Db (model prog w) A (Fk.SmallTypes.nextOf (.ref it)) Q E s
theorem next_end{k:Nat}{Q:PySem.Fin->Da->Prop}(X:Apart z TI TO i1 i2 f1 f2)(D1:Draws prog w A i1 f1 n1 P1 S1)(D2:Draws prog w A i2 f2 n2 P2 S2)(Z:Zip S1 S2 z TI TO i1 i2 .none k k s.heap)(hk:Ends prog w A i1 (S1 k)\/(k < n1/\Ends prog w A i2 (S2 k)))(hE:∀ h' e tk,(∀ c o,c≠z->c≠TO->c≠i1->c≠i2->s.heap.get? c=some o->h'.get? c=some o)->(∃ o,h'.get? e=some o/\o.cls=.type "StopIteration")->E (.ref e) { s with heap:=h',toks:=tk }) :
  Db (model prog w) A (Fk.«zip.__next__» #[[.ref z],[]]) Q E s:=by
 let(hz,hTI,(a,b,hTO),t1,t2):=Z;change Db _ _ (field (.ref z) 2 >>= _) _ _ _;show Ch (KB hz U (x:=.bool false) U ?_);change Db _ _ (field (.ref z) 3 >>= _) _ _ _;show Ch (KB hz U (x:=.ref TI) U (Ch (PP hTI U ?_)));change Db _ _ (Fk.SmallTypes.ownedTupleIsFree (.ref z) >>= _) _ _ _;show Ch ?_;unfold Fk.SmallTypes.ownedTupleIsFree;show Ch (KB hz U (x:=.none) U (FS ?_));simp only[if_true];show Ch (wpAny_rule (Ch (KB hz U (x:=.ref TO) U (Ch (wpAny_setField_rec hz (by simp) λha hza sa=>?_)))))
 replace hza:IsZip ha z TI TO .ellipsis:=hza
 show Ch ?_;simp only[List.zipIdx_cons,List.zipIdx_nil,List.forIn_cons,List.forIn_nil];show Ch (Ch (wpAny_onRaise ?_));change Db _ _ (Fk.SmallTypes.nextOf (.ref i1) >>= _) _ _ _;rcases hk with d1 | ⟨h1,d2⟩
 rotate_left
 .refine Ch (D1.item k _ _ _ h1 (but D1 sa X.z1 t1) λx hb tk1 px t1b sb=>FS ?_);have ob:Ix hb TO a b:=sb.extBut _ _ X.TOi1 (sa.extBut _ _ X.TOz hTO);show Ch (PP ob U (Ch (wpAny_updateSeq_pair ob λhc oc sc=>Ch (wpAny_letGo (FS ?_)))));show Ch (Ch (wpAny_onRaise ?_));change Db _ _ (Fk.SmallTypes.nextOf (.ref i2) >>= _) _ _ _;show Ch (d2 _ _ _ (but D2 sc X.o2 (but D2 sb X.a2 (but D2 sa X.z2 t2))) λhd e sd he=>?_);let(oe,hoe,hce):=he;have zd:IsZip hd z TI TO .ellipsis:=sd _ _ X.i2z.symm (sc.extBut _ _ X.TOz.symm (sb.extBut _ _ X.i1z.symm hza));have hez:e≠z:=λx=>by subst x;rw[zd] at hoe;cases hoe;simp at hce
  exact wpAny_setField_rec zd (by simp) λhf _ sf=>hE hf e _ (λc o c1 c2 c3 c4 x=>sf.extBut _ _ c1 (sd _ _ c4 (sc.extBut _ _ c2 (sb.extBut _ _ c3 (sa.extBut _ _ c1 x))))) #[oe,sf.extBut _ _ hez hoe,hce]
 .refine Ch (d1 _ _ _ (but D1 sa X.z1 t1) λhb e sb he=>?_);let(oe,hoe,hce):=he;have zb:IsZip hb z TI TO .ellipsis:=sb _ _ X.i1z.symm hza;have hez:e≠z:=λx=>by subst x;rw[zb] at hoe;cases hoe;simp at hce
  exact wpAny_setField_rec zb (by simp) λhf _ sf=>hE hf e _ (λc o c1 _ c3 _ x=>sf.extBut _ _ c1 (sb _ _ c3 (sa.extBut _ _ c1 x))) #[oe,sf.extBut _ _ hez hoe,hce]
theorem xU{k:Nat}{Q:Option AT->Da->Prop}(X:Apart z TI TO i1 i2 f1 f2)(D1:Draws prog w A.in1 i1 f1 n1 P1 S1)(D2:Draws prog w A.in1 i2 f2 n2 P2 S2)(Z:Zip S1 S2 z TI TO i1 i2 .none k k s.heap)(h1:k < n1)(h2:k < n2)(hQ:∀ x y h' tk,P1 k x->P2 k y->Zip S1 S2 z TI TO i1 i2 (KF ↑s) (k+1) (k+1) h'->Ix h' ↑s x y->h'.objs.size=↑s+1 ->
   (∀ c o,c≠z->c≠TO->c≠i1->c≠i2->s.heap.get? c=some o->h'.get? c=some o)->Q (some (.ref ↑s)) { s with heap:=h',toks:=tk }):Db (model prog w) A (pyNext (.ref z)) Q E s:=by
 have hT:s.TypeIs (.ref z) "zip":=#[_,Z.zip,U];unfold pyNext;exact Ch (wpAny_attempt (wpAny_callSpecial?_slot (name:=Str.ofString "__next__") hT F.slot_zip_next
  (SL F.slot_zip_next hT F.entry_zip_next (next_item X D1 D2 Z h1 h2 λx y h' tk a1 a2 a3 a4 a5 a6=>FS (hQ x y h' tk a1 a2 a3 a4 a5 a6)) (F.args_zip_next_1 _))))
theorem Cv{k:Nat}{Q:Option AT->Da->Prop}(X:Apart z TI TO i1 i2 f1 f2)(D1:Draws prog w A.in1 i1 f1 n1 P1 S1)(D2:Draws prog w A.in1 i2 f2 n2 P2 S2)(Z:Zip S1 S2 z TI TO i1 i2 .none k k s.heap)(hk:Ends prog w A.in1 i1 (S1 k)\/(k < n1/\Ends prog w A.in1 i2 (S2 k)))(hQ:∀ h' tk,(∀ c o,c≠z->c≠TO->c≠i1->c≠i2->s.heap.get? c=some o->h'.get? c=some o)->Q none { s with heap:=h',toks:=tk }):Db (model prog w) A (pyNext (.ref z)) Q E s:=by
 have hT:s.TypeIs (.ref z) "zip":=#[_,Z.zip,U];unfold pyNext;show Ch (wpAny_attempt (wpAny_callSpecial?_slot (name:=Str.ofString "__next__") hT F.slot_zip_next
  (SL F.slot_zip_next hT F.entry_zip_next (next_end X D1 D2 Z hk λh' e tk kk he=>?_) (F.args_zip_next_1 _))))
 let(o,ho,hc):=he;show Ch (wpAny_isInstance (T:="StopIteration") (b:=true) #[o,ho,hc] isSubtype_stop ?_);exact FS (hQ _ _ kk)
end
end PyZ
namespace PyZ
open PySem Sem L2
def ki(t:Bool)(h:EQ)(l:AC)(xs:Array AT):Prop:=if t=true then h.IsTuple l xs else h.IsList l xs
def Kw(t:Bool)(l:AC):Obj:={ cls:=.type (if t=true then "tuple_iterator" else "list_iterator"),data:=.fields #v[.ref l,.int 0 0] }
theorem ki.at{t:Bool}{h h':EQ}{l:AC}{xs:Array AT}(x:ki t h l xs)(k:∀ o,h.get? l=some o->h'.get? l=some o):ki t h' l xs:=by
 cases t with
 | true =>
  let(o,e,r):=(show h.IsTuple l xs from x);exact#[o,k o e,r]
 | false=>exact EQ.IsList.at (show h.IsList l xs from x) k
section
variable{prog:GE}{w:Fa}{A:Fr}{E:X7}{s:Da}
theorem zU{t:Bool}{l:AC}{xs:Array AT}{Q:X7}(hl:ki t s.heap l xs)(h:Q (.ref ↑s) { s with heap:=s.heap.push (Kw t l) }):Db (model prog w) A (pyIter (.ref l)) Q E s:=by
 cases t with
 | true=>exact wpAny_pyIter_tuple (show s.heap.IsTuple l xs from hl) h
 | false=>exact wpAny_pyIter_list (show s.heap.IsList l xs from hl) h
theorem jv(t:Bool)(hh:A.handled=none)(it l:AC)(vD:l≠it)(xs:Array AT):Draws prog w A it [it,l] xs.size (λi v=>xs[i]?=some v) (λi h=>hX t h it l i/\ki t h l xs):=by
 cases t with
 | true=>exact JN.Bz hh it l vD xs
 | false=>exact Draws.list hh it l vD xs
end
theorem sV{prog:GE}{w:Fa}{A:Fr}(t:Bool)(hh:A.handled=none){it l:AC}{xs:Array AT}{k:Nat}(hk:xs.size<=k):Ends prog w A it (λh=>hX t h it l k/\ki t h l xs):=λs Q E z6r hE=>by
 let(a,b):=z6r;have hn:xs[k]?=none:=Array.getElem?_eq_none hk;cases t with
 | true=>exact JN.eP hh (show s.heap.IsTupleIter it l k from a) (show s.heap.IsTuple l xs from b) hn hE
 | false=>exact wpAny_nextOf_list_end hh (show s.heap.IsListIter it l k from a) (show s.heap.IsList l xs from b) hn hE
abbrev q1(t1:Bool)(h:EQ)(l1:AC):EQ:=h.push (Kw t1 l1)
abbrev q2(t1 t2:Bool)(h:EQ)(l1 l2:AC):EQ:=(q1 t1 h l1).push (Kw t2 l2)
abbrev q3(t1 t2:Bool)(h:EQ)(l1 l2:AC):EQ:=(q2 t1 t2 h l1 l2).push { cls:=.type "tuple",data:=.seq #v[.ref h.objs.size,.ref (q1 t1 h l1).objs.size] }
abbrev q4(t1 t2:Bool)(h:EQ)(l1 l2:AC):EQ:=(q3 t1 t2 h l1 l2).push { cls:=.type "tuple",data:=.seq #v[.none,.none] }
abbrev q5(t1 t2:Bool)(h:EQ)(l1 l2:AC):EQ:=(q4 t1 t2 h l1 l2).push { cls:=.type "zip",data:=.fields #v[.none,.bool false,.bool false,.ref (q2 t1 t2 h l1 l2).objs.size,.ref (q3 t1 t2 h l1 l2).objs.size] }
theorem yZ(t1 t2:Bool)(l1 l2:AC)(xs ys:Array AT) :
  Meets (Fk.«zip.__new__» #[[.type "zip",.ref l1,.ref l2],[]]) (λ_ R s=>ki t1 s.heap l1 xs/\ki t2 s.heap l2 ys /\
   R (.ok (.ret (.ref (q4 t1 t2 s.heap l1 l2).objs.size))) { s with heap:=q5 t1 t2 s.heap l1 l2 }) :=
 .of_wp λprog w A R s h=>by
  let(hp,g,d,tk,os):=s;let(yJ,Ex,h):=h;have hsub:=sub_zip;have hL1:ki t1 (Da.heap #[hp,g,d,tk,os]) l1 xs:=yJ;have hL2:ki t2 (Da.heap #[hp.push (Kw t1 l1),g,d,tk,os]) l2 ys:=ki.at Ex λo e=>V9 _ e
  wp_walk using zU hL1,zU hL2
  exact#[_,U,h]
section
variable{prog:GE}{w:Fa}{A:Fr}{E:X7}{s:Da}
theorem uB{t:Bool}{h:EQ}{it l:AC}(e:h.get? it=some (Kw t l)):hX t h it l 0:=by
 cases t with
 | true=>exact (show h.IsTupleIter it l 0 from #[_,e,U,U])
 | false=>exact (show h.IsListIter it l 0 from #[_,e,U,U])
theorem uT{t1 t2:Bool}{l1 l2:AC}{xs ys:Array AT}{Q:X7}(yJ:ki t1 s.heap l1 xs)(Ex:ki t2 s.heap l2 ys)(h:∀ h',IsZip h' (↑s+4) (↑s+2) (↑s+3) .none->Ix h' (↑s+2) (.ref ↑s) (.ref (↑s+1)) ->
   Ix h' (↑s+3) .none .none->hX t1 h' ↑s l1 0->hX t2 h' (↑s+1) l2 0->h'.objs.size=↑s+5 ->
   (∀ c o,s.heap.get? c=some o->h'.get? c=some o)->Q (.ref (↑s+4)) { s with heap:=h' }) :
  Db (model prog w) A (call (.type "zip") [.ref l1,.ref l2]) Q E s:=by
 show callType_new F.called_zip () (F.typeCall_zip_2 _ _) (F.newCall_zip_2 _ _) (λobj=>F.args_object_init_3 obj _ _) F.entry_zip_new (yZ t1 t2 l1 l2 xs ys) #[yJ,Ex,?_];have z1:(q1 t1 s.heap l1).objs.size=↑s+1:=WS ..;have z2:(q2 t1 t2 s.heap l1 l2).objs.size=↑s+2:=by rw[WS,z1]
 have z3:(q3 t1 t2 s.heap l1 l2).objs.size=↑s+3:=by rw[WS,z2]
 have z4:(q4 t1 t2 s.heap l1 l2).objs.size=↑s+4:=by rw[WS,z3]
 have z5:(q5 t1 t2 s.heap l1 l2).objs.size=↑s+5:=by rw[WS,z4]
 have g5:(q5 t1 t2 s.heap l1 l2).get? (q4 t1 t2 s.heap l1 l2).objs.size=some _:=Wl _ U;have g4:(q5 t1 t2 s.heap l1 l2).get? (q3 t1 t2 s.heap l1 l2).objs.size=some _:=V9 _ (Wl _ U);have g3:(q5 t1 t2 s.heap l1 l2).get? (q2 t1 t2 s.heap l1 l2).objs.size=some _:=V9 _ (V9 _ (Wl _ U));have g2:(q5 t1 t2 s.heap l1 l2).get? (q1 t1 s.heap l1).objs.size=some (Kw t2 l2):=V9 _ (V9 _ (V9 _ (Wl _ U)));have g1:(q5 t1 t2 s.heap l1 l2).get? ↑s=some (Kw t1 l1):=V9 _ (V9 _ (V9 _ (V9 _ (Wl _ U))));change _/\_;rw[z2,z3,z4] at g5;rw[z1,z2] at g3;rw[z3] at g4;rw[z1] at g2;rw[z4];exact#[#[_,g5,U],h _ g5 g3 g4 (uB g1) (uB g2) z5 λc o x =>
  V9 _ (V9 _ (V9 _ (V9 _ (V9 _ x))))]
end
end PyZ
namespace L2
open PySem PySem.Spec PyZ
open PyProof.Rows hiding St
def Ut(K:Frag)(t1 t2:Bool)(a b:AC):It :=
 #[λi H=>∃ xs ys x y,(xJ K t1 H a xs/\xJ K t2 H b ys)/\xs[i]?=some x/\ys[i]?=some y,
  λi H x H'=>∃ p,H p=none/\x=.ref p/\∀ xs ys,xJ K t1 H a xs->xJ K t2 H b ys->∃ u v,xs[i]?=some u/\ys[i]?=some v/\H'=upd H p (.tup [u,v]),
  λi H=>∃ xs ys,(xJ K t1 H a xs/\xJ K t2 H b ys)/\min xs.length ys.length<=i]
section
variable{P:GE}{w:Fa}{K:Frag}
theorem i8{X:Cx}{TW:X8}{σ:St}{H:Hp}{s:Da}{a:AC}{t:Bool}{xs:!V}(I:Inv X TW σ H s)(h:xJ X.K t H a xs):∃ its:!AT,Vals xs its/\ki t s.heap a its.toArray/\xs.length<=FB:=by
 cases t with
 | true =>
  let(its,r,p,hz):=I.tuple (show jx X.K H a xs from h);exact#[its,r,p,hz]
 | false =>
  let(its,r,p,hz):=I.list (show d8 X.K H a xs from h);exact#[its,r,p.isList,hz]
structure FW(t1 t2:Bool)(z TI TO i1 i2 a b:AC)(i:Nat)(h:EQ):Prop where
 zip:IsZip h z TI TO .none
 ins:Ix h TI (.ref i1) (.ref i2)
 out:∃ u v,Ix h TO u v
 e1:hX t1 h i1 a i
 e2:hX t2 h i2 b i
theorem B0(t1 t2:Bool){elts:!Cl}{k:Nat}{ma:Pos}{z TI TO i1 i2 a b:AC}(Y:Apart z TI TO i1 i2 [i1,a] [i2,b])(ha:a≠i1)(hb:b≠i2):Turn P w K (.Tuple elts k ma) (Ut K t1 t2 a b) [z,TI,TO,i1,i2] z (FW t1 t2 z TI TO i1 i2 a b) where
 mem:=by simp
 obj:=λi h st c hc=>by
  simp only[List.mem_cons,List.not_mem_nil,or_false] at hc;rcases hc with rfl | rfl | rfl | rfl | rfl
  .exact#[_,st.zip,λv q=>by
    have q':Data.fields _=Data.cell v:=q;cases q']
  .exact#[_,st.ins,λv q=>by
    have q':Data.seq _ _=Data.cell v:=q;cases q']
  .let(u,v,e):=st.out;exact#[_,e,λv q=>by
    have q':Data.seq _ _=Data.cell v:=q;cases q']
  .exact st.e1.obj
  .exact st.e2.obj
 keep:=λi h h' st kk=>#[kk z (by simp) _ st.zip,kk TI (by simp) _ st.ins,let #[u,v,e]:=st.out;#[u,v,kk TO (by simp) _ e],st.e1.at λo x=>kk i1 (by simp) o x,st.e2.at λo x=>kk i2 (by simp) o x]
 item:=by
  intro X hP hw hK hc i TW s σ H E I hf st hg;subst hP hw hK;let(xs,ys,x,y,(hx,hy),ex,ey):=hg;let(eR,r1,p1,_):=i8 I hx;let(er,r2,p2,_):=i8 I hy;let(u,hu,ru):=r1.get ex;let(v,hv,rv):=r2.get ey;have hd:(X.A.in1).handled=none:=I.ok.hd hc;show xU Y (jv t1 hd i1 a ha eR.toArray) (jv t2 hd i2 b hb er.toArray) #[st.zip,st.ins,st.out,#[st.e1,p1],#[st.e2,p2]] ?_ ?_ λu' v' h' tk pu pv Z pT hsz hk=>?_
  .have:=(Wb.mp hu).1;simpa using this
  .have:=(Wb.mp hv).1;simpa using this
  have e1:u'=u:=by
   have q:eR[i]?=some u':=by simpa using pu
   rw[hu] at q;exact (WC q).symm
  have e2:v'=v:=by
   have q:er[i]?=some v':=by simpa using pv
   rw[hv] at q;exact (WC q).symm
  subst e1;subst e2;show#[_,U,wpAny_letOwnedTupleGo_zip (s:={ s with heap:=h',toks:=tk }) Z.zip λh2 z2 s2=>?_];have hzlt:z < ↑s:=Wh st.zip;have keep:∀ c o,c∉[z,TI,TO,i1,i2]->s.heap.get? c=some o->h2.get? c=some o:=λc o hc q=>by
   simp only[List.mem_cons,List.not_mem_nil,or_false,not_or] at hc;exact s2.extBut _ _ hc.1 (hk c o hc.1 hc.2.2.1 hc.2.2.2.1 hc.2.2.2.2 q)
  have hfr:H ↑s=none:=I.bx.fresh (We _);have I1:Inv X TW σ (upd H ↑s (.tup [x,y])) { s with heap:=h2,toks:=tk } :=
   Inv.rP I keep hf (We _) #[by change 2<=FB;decide,[u',v'],.cons ru (.cons rv .nil),#[_,s2.extBut _ _ (Xq hzlt) pT,U,_,U,U]]
  show#[.ref ↑s,_,I1,U,#[↑s,hfr,U,λzs ws q1 q2=>#[x,y,?_,?_,U]],#[z2,s2.extBut _ _ Y.TIz Z.ins,let #[p,q,e]:=Z.out;#[p,q,s2.extBut _ _ Y.TOz e],Z.K9.1.at λo e=>s2.extBut _ _ Y.i1z e,Z.FZ.1.at λo e=>s2.extBut _ _ Y.i2z e],λc hc=>?_]
  .rw[yh I hx q1];exact ex
  .rw[yh I hy q2];exact ey
  .have gE:c < ↑s:=by
    simp only[List.mem_cons,List.not_mem_nil,or_false] at hc;rcases hc with rfl | rfl | rfl | rfl | rfl
    .exact hzlt
    .exact Wh st.ins
    .let(_,_,e):=st.out;exact Wh e
    .let(o,e,_):=st.e1.obj;exact Wh e
    .let(o,e,_):=st.e2.obj;exact Wh e
   rw[aw (Ww gE)];exact (hf c hc).1
 done:=by
  intro X hP hw hK hc i TW s σ H E I hf st hg;subst hP hw hK;let(xs,ys,(hx,hy),hm):=hg;let(eR,r1,p1,_):=i8 I hx;let(er,r2,p2,_):=i8 I hy;have l1:=r1.length;have l2:=r2.length;have hd:(X.A.in1).handled=none:=I.ok.hd hc;show Cv Y (jv t1 hd i1 a ha eR.toArray) (jv t2 hd i2 b hb er.toArray) #[st.zip,st.ins,st.out,#[st.e1,p1],#[st.e2,p2]] ?_ λh' tk hk=>#[U,Inv.gq (t':=tk) I (λc o hc q=>?_) hf]
  .by_cases h1:i < eR.length
   .exact .inr #[by simpa using h1,sV t2 hd (by simp;cbv)]
   .exact .inl (sV t1 hd (by simp;cbv))
  .simp only[List.mem_cons,List.not_mem_nil,or_false,not_or] at hc;exact hk c o hc.1 hc.2.2.1 hc.2.2.2.1 hc.2.2.2.2 q
 self:=λ_ _ _ _ _ st h=>wpAny_pyIter_zip st.zip h
end
section
variable{X:Cx}
theorem ki.lt{t:Bool}{h:EQ}{l:AC}{xs:Array AT}(x:ki t h l xs):l < h.objs.size:=by
 cases t with
 | true =>
  let(o,e,_):=(show h.IsTuple l xs from x);exact Wh e
 | false =>
  let(o,e,_):=(show h.IsList l xs from x);exact Wh e
theorem apart_new{n l1 l2:Nat}(h1:l1 < n)(h2:l2 < n):Apart (n+4) (n+2) (n+3) n (n+1) [n,l1] [n+1,l2]:=by
 have ne:∀ (a b:Nat),¬ a=b->¬ ((n+a:Nat):AC)=(n+b:Nat):=λa b h e=>h (Nat.add_left_cancel (show n+a=n+b from e));have nl:∀ {l:Nat} (a:Nat),l < n->¬ ((n+a:Nat):AC)=l:=λ{l} a h e=>W6 l (Wz h (Ws (X1 n a) (XQ e)));have two:∀ {x a b:AC},¬ x=a->¬ x=b->x∉[a,b]:=λh k z=>(Wu.mp z).elim h λz=>k (Wn.mp z);exact#[ne 2 4 (),ne 3 4 (),ne 0 4 (),ne 1 4 (),ne 2 3 (),ne 2 0 (),ne 2 1 (),ne 3 0 (),ne 3 1 (),two (ne 4 0 ()) (nl 4 h1),two (ne 4 1 ()) (nl 4 h2),two (ne 3 0 ()) (nl 3 h1),two (ne 3 1 ()) (nl 3 h2),two (ne 1 0 ()) (nl 1 h1),two (ne 0 1 ()) (nl 0 h2)]
def R1(K:Frag)(t:TA):TI:=λσ H R=>t σ H λvs H1=>∃ a b t1 t2 xs ys,vs=[.ref a,.ref b]/\(xJ K t1 H1 a xs/\xJ K t2 H1 b ys)/\(xs.length<=FB->R (Ut K t1 t2 a b) H1)
theorem I0{elts:!Cl}{k:Nat}{ma p pos:Pos}{a b:Cl}{t:TA}(hg:Gl X "zip")(hm:X.mg "zip"=none)(ha:PA X [a,b] t)(hs:(GT [a,b] X.env=[(false,eval a X.env),(false,eval b X.env)])⁻¹)(oX:(GT [b] X.env=[(false,eval b X.env)])⁻¹):PI X (.Tuple elts k ma) (.Call (.Name "zip" p) [a,b] [] pos) (R1 X.K t):=by
 intro TW s σ H R I h;show Call_ (ib I hg hm (u:=.type "zip") (by decide+kernel) (PyProof.Rows.callWith_type1 (b3 (ha pos TW s σ H _ I h) λus s1 zz=>el2 zz λvs H1 I1 r1 q1=>?_) (by rw[hs,oX]) (by rw[oX];rfl)));let(l1,l2,t1,t2,xs,ys,e,(hx,hy),q):=q1;subst e;let(u,v,rfl,ru,rv):=Vals.two r1;cases ru;cases rv;let(eR,v1,p1,z1):=i8 I1 hx;let(er,v2,p2,z2):=i8 I1 hy;have b1:=ki.lt p1;have b2:=ki.lt p2;show uT p1 p2 λh' hz hI hO e1 e2 hsz hk=>wpAny_pyIter_zip hz ?_;show#[↑s1+4,[↑s1+4,↑s1+2,↑s1+3,↑s1,↑s1+1],_,_,H1,U,I1.kept (t':=s1.toks) hk,
  B0 t1 t2 (apart_new b1 b2) (Ww b1) (Ww (Nat.lt_succ_of_lt b2)),#[hz,hI,#[_,_,hO],e1,e2],λc hc=>?_,q z1]
 .have hle:↑s1<=c:=by
   simp only[List.mem_cons,List.not_mem_nil,or_false] at hc;rcases hc with e | e | e | e | e<;>(rw[e];first | exact We _ | exact X1 _ _)
  exact I1.pQ hle (I1.bx.fresh hle)
end
end L2
namespace DL
open PySem PySem.Spec L2
open PyProof.Rows hiding St
section
variable{X:Cx}{c:Ent}
def j7(xs ys:!D):!D:=xs.zipWith (λx y=>.tup [x,y]) ys
def Bg:D->Option (!D)
 | .lst ds=>some ds
 | .tup ds=>some ds
 | _=>none
def Qe(t:eJ):eJ:=λs Q=>t s λas s1=>∃ d e xs ys,as=[d,e]/\(Bg d=some xs/\Bg e=some ys)/\Q (j7 xs ys) s1
theorem uE{xs ys:!D}:(j7 xs ys).length=min xs.length ys.length:=by simp[j7]
theorem Cc{xs ys:!D}{i:Nat}{d:D}(h:(j7 xs ys)[i]?=some d):∃ x y,xs[i]?=some x/\ys[i]?=some y/\d=.tup [x,y]:=by
 unfold j7 at h;rw[X3] at h;cases e:xs[i]? with
 | none=>rw[e] at h;cases h
 | some x =>
  cases e2:ys[i]? with
  | none=>rw[e,e2] at h;cases h
  | some y =>
   rw[e,e2] at h;cases h;exact#[x,y,U,U,U]
theorem nG{K:Frag}{M1:AC->Prop}{H1:Hp}{d:D}{xs:!D}{v:V}(h:Bg d=some xs)(r:Rep K H1 M1 d v):∃ a t vs,v=.ref a/\az K H1 M1 xs vs/\∀ M2 H2,ei M1 H1 M2 H2->xJ K t H2 a vs/\az K H2 M2 xs vs:=by
 cases d with
 | lst ds =>
  cases h;let(a,vs,rfl,(m,e),r):=r;exact#[a,false,vs,U,r,λM2 H2 G=>#[d8.of ((G a m).2 _ e),G.u3 r]]
 | tup ds =>
  cases h;let(a,vs,rfl,e,r):=r;exact#[a,true,vs,U,r,λM2 H2 G=>#[(e.mono (λb m=>(G b m).1) λb o m e=>(G b m).2 o e).sq,G.u3 r]]
 | _=>cases h
theorem CG{elts:!Cl}{k:Nat}{ma p pos:Pos}{a b:Cl}{t:eJ}(hg:Gl X "zip")(hm:X.mg "zip"=none)(ha:DA X c [a,b] t)(hs:(GT [a,b] X.env=[(false,eval a X.env),(false,eval b X.env)])⁻¹)(oX:(GT [b] X.env=[(false,eval b X.env)])⁻¹):DI X c (.Tuple elts k ma) (.Call (.Name "zip" p) [a,b] [] pos) (Qe t) :=
 #[λTW s σ H R I zz=>cV zz λM s0 as R0 L q k=>I0 hg hm ha.pa hs oX TW s σ H R I
  #[M,s0,as,_,L,q,λads s1 z7r M1 H1 vs L1 E1 rv _=>by
   let(d,e,xs,ys,ead,(hd,he),q1):=z7r;subst ead;let(u,v,rfl,ru,rw):=vz rv;let(a,t1,us,rfl,r1,g1):=nG hd ru;let(b,t2,ws,rfl,r2,g2):=nG he rw;have G0:ei M1 H1 M1 H1:=λb m=>#[m,λ_ h=>h];show#[a,b,t1,t2,us,ws,U,#[(g1 M1 H1 G0).1,(g2 M1 H1 G0).1],λhl=>k _ s1 q1 M1 H1 _ L1 E1 (λM2 H2 G=>?_) (by rw[uE,<- r1.length];cbv)];let(h1,y1):=g1 M2 H2 G;let(h2,y2):=g2 M2 H2 G;show#[λi hi=>#[us,ws,#[h1,h2],by rw[r1.length,r2.length];rw[uE] at hi;exact hi],λi d hd=>?_];let(x,y,ex,ey,rfl):=Cc hd;let(v1,c1,c2):=y1.get ex;let(v2,c3,c4):=y2.get ey;show#[#[us,ws,v1,v2,#[h1,h2],c1,c3],λx H3 #[b,hb,ex,hx]=>.inr ?_];let(w1,w2,m1,m2,m3):=hx us ws h1 h2;rw[c1] at m1;rw[c3] at m2;cases m1;cases m2;subst m3;exact#[b,_,hb,U,b,_,ex,#[.inr U,aA],#[_,_,U,o6 hb c2,_,_,U,o6 hb c4,U]]]]
theorem aD.over{K:Frag}{c:Ent}{M:AC->Prop}{s:DS}{as:!AC}{σ:St}{H:Hp}{p:AC}{o:HO}{ys:!(Key×V)}(L:aD K c M s as σ H)(hq:H p=some (.dK ys))(n1:¬ M p)(n2:¬ c.g.own p)(n3:¬ dF s as p)(n4:c.H0 p=none):aD K c M s as σ (upd H p o):=by
 have ne:∀ b,M b->b≠p:=λb m q=>n1 (q▸m);have ng:∀ b,c.g.own b->b≠p:=λb m q=>n2 (q▸m);have n0:∀ b u,c.H0 b=some u->b≠p:=λb u e q=>by rw[q,n4] at e;cases e
 show#[#[c.g.loc H _ L.base.nE λb u g e=>?_,λb u e g=>?_,λb m=>?_,L.base.mo,L.base.m0,L.base.mn],L.len,L.ek,λi d e=>?_,L.own,λk d a e1 e2=>?_,L.inj,L.lt]
 .rw[aw (g.elim (ng b) λ#[φ,f] z=>by subst f;rw[z,hq] at e;cases e)];exact e
 .rw[aw (n0 b u e)];exact L.base.fr b u e g
 .let(u,e):=L.base.md b m;exact#[u,by rw[aw (ne b m)];exact e]
 .let(v,h1,h2):=L.dat i d e;exact#[v,h1,Rep.mono (λ_ h=>h) (λb u m e=>by rw[aw (ne b m)];exact e) d v h2]
 .let((u,q,r),q1):=L.obj k d a e1 e2;show#[#[u,?_,cx.mono (λ_ h=>h) (λb u m e=>by rw[aw (ne b m)];exact e) r],q1];have na:a≠p:=λz=>n3 #[k,d,e1,z▸e2];rw[aw na];exact q
def vM:!(Str×aV)->eJ
 | [],s,Q=>Q [] s
 | kt::r,s,Q=>kt.2 s λd s1=>vM r s1 λds s2=>Q (d::ds) s2
def BK(K:Frag)(c:Ent)(jA:!(Str×aV)):!(TE×TE):=jA.map λkt=>(tC (.str kt.1),tE K c kt.2)
structure Q3(X:Cx)(c:Ent)(pos:Pos)(keys:!(Option Cl))(values:!Cl)(jA:!(Str×aV)):Prop where
 pp:N6 X pos keys values (BK X.K c jA)
 kl:keys.length=jA.length
theorem xx{pos:Pos}:Q3 X c pos [] [] []:=#[xF,U]
theorem g7{pos pk:Pos}{k:Str}{j}{v:Cl}{ks:!(Option Cl)}{vs:!Cl}{te:aV}{jA:!(Str×aV)}(hv:DE X c v te)(hr:Q3 X c pos ks vs jA):Q3 X c pos (some (.Constant (.str k) j pk)::ks) (v::vs) ((k,te)::jA):=#[lj dJ hv.pe hr.pp,by rw[Wi,Wi,hr.kl]]
def kE:!(Str×aV)->!V->!(Key×V)
 | kt::r,v::vs=>(.inr kt.1,v)::kE r vs
 | _,_=>[]
theorem vn{σ:St}{as:!AC}:∀ (jA:!(Str×aV)) {M:AC->Prop} {s:DS} {H:Hp} {R:!D->DS->Prop} {Q:!(V×V)->Hp->Prop},aD X.K c M s as σ H->vM jA s R ->
  (∀ ds s',R ds s'->∀ M' H' vs,aD X.K c M' s' as σ H'->Ext c as M s H M' s' H'->az X.K H' M' ds vs->ds.length=jA.length->Q ((kE jA vs).map λkv=>(kV kv.1,kv.2)) H')->oG (BK X.K c jA) σ H Q
 | [],M,s,H,R,Q,L,q,k=>k [] s q M H [] L .refl U U
 | kt::r,M,s,H,R,Q,L,q,k=>by
  change tC (.str kt.1) σ H λx H1=>tE X.K c kt.2 σ H1 λy H2=>oG (BK X.K c r) σ H2 λps H3=>Q ((x,y)::ps) H3;show#[M,s,as,_,L,q,λd s1 q1 M1 H1 v L1 E1 rv=>?_];show vn r L1 q1 λds s2 q2 M2 H2 vs Lb E2 rvs hl=>?_;exact k (d::ds) s2 q2 M2 H2 (v::vs) Lb (E1.trans L1.base E2) #[v,vs,U,E2.rep L1 rv,rvs] (by rw[Wi,Wi,hl])
theorem mz:∀ (more kvs:!(Key×V)),(∀ a∈kvs,∀ b∈more,a.1≠b.1)->(more.map (·.1)).Nodup->gy kvs more=kvs++more
 | [],kvs,_,_=>by simp[gy]
 | b::more,kvs,h,nd=>by
  rw[Wj,W3] at nd;have hp:putK kvs b.1 b.2=kvs++[b]:=by
   unfold putK;rw[if_neg];intro q;let(a,m,e):=XE.mp q;exact h a m b Wg (of_decide_eq_true e)
  change gy (putK kvs b.1 b.2) more=_;rw[hp,mz more (kvs++[b]) (λa ha x hx=>?_) nd.2,WB]
  .rfl
  .rcases WA.mp ha with ha | ha
   .exact h a ha x (Wd _ hx)
   .rw[Wn] at ha;subst ha;exact λe=>nd.1 (e▸Wr hx)
theorem pq:∀ (jA:!(Str×aV)) (vs:!V),vs.length=jA.length->(kE jA vs).map (·.1)=jA.map λkt=>Sum.inr kt.1
 | [],[],_=>rfl
 | [],_::_,h=>by simp at h
 | _::_,[],h=>by simp at h
 | kt::r,v::vs,h=>by rw[kE,List.map_cons,List.map_cons,pq r vs (by simpa using h)]
theorem ow:∀ (jA:!(Str×aV)) (vs:!V),vs.length=jA.length->(kE jA vs).map (·.2)=vs
 | [],[],_=>rfl
 | [],_::_,h=>by simp at h
 | _::_,[],h=>by simp at h
 | kt::r,v::vs,h=>by rw[kE,List.map_cons,ow r vs (by simpa using h)]
def KP(jA:!(Str×aV)):aV:=λs Q=>vM jA s λds s1=>Q (.iI (jA.map λkt=>Sum.inr kt.1) ds) s1
theorem Dd{pos:Pos}{keys:!(Option Cl)}{values:!Cl}{jA:!(Str×aV)}(h:Q3 X c pos keys values jA)(nd:(jA.map λkt=>(Sum.inr kt.1:Key)).Nodup)(Bf:(keys.all (·.isSome)=true)⁻¹)(hl:(keys.length=values.length)⁻¹)(h0:keys≠[]:=by simp)(K5: ~~~(keys.length<=15)):DN X c (.Dict keys values pos) (KP jA) :=
 #[(xp h.pp Bf hl h0 K5).imp λσ H Q z5q p hp=>by
   let(M,s,as,R,L,q,k):=z5q;let(n1,n2,n3,n4):=notM L hp;show vn jA (L.laid (o:=.dK []) hp) q λds s1 q1 M1 H1 vs L1 E1 rvs hd=>?_;have e1:H1 p=some (.dK []):=E1.keep p _ aA n2 n3;have m1:¬ M1 p:=λm=>by
    rcases E1.new p m with z | (z | ⟨_,z⟩) | z
    .exact n1 z
    .rw[aA] at z;cases z
    .rw[aA] at z;cases z
    .exact n3 z
   have w1:¬ dF s1 as p:=λz=>n3 (E1.iz p z);have hv:vs.length=jA.length:=by rw[rvs.length];exact hd
   have hk:=pq jA vs hv;show#[e1,kE jA vs,U,?_,?_]
   .have:=congrArg List.length hk;rw[V8,V8] at this;rw[this,<- h.kl];exact K5
   .rw[mz _ [] (λa ha=>absurd ha (by simp)) (by rw[hk];exact nd),List.nil_append];have up:∀ b u,M1 b->H1 b=some u->upd H1 p (.dK (kE jA vs)) b=some u:=λb u m e=>by
     have hb:b≠p:=λq=>m1 (q▸m);rw[aw hb];exact e
    show k _ s1 q1 M1 _ p (.dK (kE jA vs)) (L1.over e1 m1 n2 w1 n4) ?_ aA #[hk,?_] m1 n2 w1 n4 (.inl hp)
    .refine#[E1.sub,λb m=>?_,λb u e g z=>?_,E1.iz]
     .rcases E1.new b m with z | (z | ⟨xs,z⟩) | z
      .exact .inl z
      .by_cases hb:b=p
       .exact .inr (.inl (.inl (hb▸hp)))
       .rw[aw hb] at z;exact .inr (.inl (.inl z))
      .by_cases hb:b=p
       .exact .inr (.inl (.inl (hb▸hp)))
       .rw[aw hb] at z;exact .inr (.inl (.inr #[xs,z]))
      .exact .inr (.inr z)
     .have hb:b≠p:=aE e hp;rw[aw hb];exact E1.keep b u (by rw[aw hb];exact e) g z
    .rw[ow jA vs hv];exact az.mono (λ_ h=>h) up _ _ rvs]
end
end DL
namespace L2
open PySem PySem.Spec PyProof.Rows
section
variable{X:Cx}
theorem zX(items:Array AT):slicePick items none none (some 1)=items:=by
 have hb:sliceBounds none none (some 1) items.size=(0,(items.size:Int),1):=by first | rfl | simp[sliceBounds]
 unfold slicePick;rw[hb];change ((sliceRange 0 (items.size:Int) 1).filterMap (items[·]?)).toArray=_;have hr:sliceRange 0 (items.size:Int) 1=List.range items.size:=by
  unfold sliceRange;simp only[show (1:Int) > 0 by decide,if_true];by_cases h:(items.size:Int) > 0
  .simp only[h,if_true];apply List.ext_getElem
   .simp
   .intro i h1 h2;simp
  .have e:items.size=0:=by cbv
   rw[e];simp
 rw[hr,PySem.W.krv_all]
def k9(w:Int){α:Type}(xs:!α):!α:=if w=1 then xs else xs.reverse
def Hj(K:Frag)(te tw:TE):TE:=λσ H Q=>te σ H λx H1=>tw σ H1 λy H2=>∃ a xs w,x=.ref a/\y=.int w/\(w=1\/w=-1)/\d8 K H2 a xs/\∀ l,H2 l=none->Q (.ref l) (upd H2 l (.lst (k9 w xs)))
theorem AK{e st:Cl}{te tw:TE}{p2 pos:Pos}(he:PE X e te)(gn:PE X st tw):PE X (.Subscript e (.Slice none none (some st) p2) pos) (Hj X.K te tw):=by
 intro TW s σ H Q I h;show Subscript_ (b3 (he TW s σ H _ I h) λv s1 z3q=>?_);let(x,H1,I1,r1,q1):=z3q;show wpAny_Slice ?_;rw[evalPart_none];show FS ?_;show FS ?_;rw[evalPart_some];show b3 (gn TW s1 σ H1 _ I1 q1) λu s2 z4q=>?_;let(y,H2,I2,r2,a,xs,w,ex,ey,hw,hq,q):=z4q;subst ex ey;cases r1;let(t,rfl):=r2;let(its,r,ht,hz):=I2.list hq;have hlen:=r.length;have I3:Inv X TW σ H2 { s2 with heap:=s2.heap.push { cls:=.type "slice",data:=.fields #v[.none,.none,.int w t] } }:=I2.kept (t':=s2.toks) λb ob q=>V9 _ q;change Db (model X.prog X.w) X.A (subscriptTail e (.Slice none none (some st) p2) (.ref a) (.ref ↑s2)) (EP X TW σ Q) X.xe { s2 with heap:=s2.heap.push { cls:=.type "slice",data:=.fields #v[.none,.none,.int w t] } };show tail_any (ops:=[.ref a,.ref ↑s2]) (ht.isList.push _).typeIs slot_list_getitem.lookup ?_ (by with_unfolding_all rfl);have hw0:(some w:Option Int)≠some 0:=by rcases hw with rfl | rfl<;>decide
 show wpAny_getItem_list_slice (ht.isList.push _) (EQ.IsSliceOf.new ..) .none .none (.int w t) hw0 ?_ (by rw[Wx];cbv);rcases hw with rfl | rfl
 .rw[zX];show#[.ref _,_,I3.laid (t':=s2.toks) (o:=.lst xs) (λb ob q=>V9 _ q) (We _) ?_,U,q _ (I3.bx.fresh (We _))];exact#[hz,its,0,r,Wl _ U]
 .rw[PySem.W.krv_pick];show#[.ref _,_,I3.laid (t':=s2.toks) (o:=.lst xs.reverse) (λb ob q=>V9 _ q) (We _) ?_,U,q _ (I3.bx.fresh (We _))];exact#[by rw[List.length_reverse];exact hz,_,0,by simpa using r.reverse,EQ.get?_push_size _ U]
end
end L2
namespace DL
open PySem PySem.Spec L2
open PyProof.Rows hiding St
section
variable{X:Cx}{c:Ent}
def SH:D->D->(D->Prop)->Prop:=λa b k=>∃ ds w,a=.lst ds/\b=.int w/\(w=1\/w=-1)/\k (.lst (k9 w ds))
def Ry(C:D->D->(D->Prop)->Prop)(ta tb:aV):aV:=λs Q=>ta s λa s1=>tb s1 λb s2=>C a b λd=>Q d s2
theorem GB{e st:Cl}{te tw:aV}{p2 pos:Pos}(he:DE X c e te)(gn:DE X c st tw):DN X c (.Subscript e (.Slice none none (some st) p2) pos) (Ry SH te tw):=#[(AK he.pe gn.pe).imp λσ H Q zz=>cV zz λM s as R L q k =>
 #[M,s,as,_,L,q,λd s1 q1 M1 H1 v L1 E1 rv=>#[M1,s1,as,_,L1,q1,λd2 s2 z8r M2 H2 v2 Lb E2 rv2=>by
  let(ds,w,e,e2,hw,q2):=z8r;subst e e2;let(p,xs,rfl,(m,t),r):=E2.rep L1 rv;show#[p,xs,w,U,rv2,hw,.of t,λb hb=>ij (d:=.lst _) L Lb (E1.trans L1.base E2) hb ?_ (k _ s2 q2)];change az _ _ _ (k9 w ds) (k9 w xs);unfold k9;split
  .exact r
  .exact r.reverse]]]
end
end DL
namespace PySem.F
theorem Cm:typeLookup (.type "zip") "__len__"=pure none:=by rw[typeLookup_type,builtinLookup_eq_fast];kernel_rfl
theorem yH:typeLookup (.type "zip") "__length_hint__"=pure none:=by rw[typeLookup_type,builtinLookup_eq_fast];kernel_rfl
end PySem.F
namespace PyZ
open PySem Sem
section
variable{prog:GE}{w:Fa}{A:Fr}{E:X7}{s:Da}{z TI TO i1 i2:AC}{f1 f2:!AC}{n1 n2:Nat}{P1 P2:Nat->AT->Prop}{S1 S2:Nat->EQ->Prop}
theorem Jl{M:Model}{a:AC}{Q:Option Obj->Da->Prop}(h:Q (s.heap.get? a) s):Db M A (loadIfAlive a) Q E s:=λΓ p _=>by
 change wp M Γ (.loadIfAlive a .pure) _ _ p s;rw[wp_loadIfAlive];exact h
def qe(f0:AT)(b:Bool)(TI TO:AC):Obj:={ cls:=.type "zip",dict:=none,data:=.fields #v[f0,.bool b,.bool false,.ref TI,.ref TO],slots:=#v[] }
theorem xA{T:AC}{oT:Obj}{b:Bool}{Q:Bool->Da->Prop}(hz:s.heap.get? z=some (qe (KF T) b TI TO))(hT:s.heap.get? T=some oT)(hQ:∀ h',h'.get? z=some (qe (KF T) true TI TO)->EQ.SameBut z s.heap h'->Q false { s with heap:=h' }):Db (model prog w) A (Fk.SmallTypes.ownedTupleIsFree (.ref z)) Q E s:=by
 unfold Fk.SmallTypes.ownedTupleIsFree;show Ch (KB hz U (x:=KF T) U ?_);change Db _ _ (loadIfAlive ((T:Nat):Int).toNat >>= _) _ _ _;rw[Xh];show Ch (Jl ?_);rw[hT];change Db _ _ (field (.ref z) 1 >>= _) _ _ _;show Ch (KB hz U (x:=.bool b) U ?_);cases b with
 | false =>
  change Db _ _ (setField (.ref z) 1 (.bool true) >>= λ_=>Pure.pure false) _ _ _;exact Ch (wpAny_setField_rec hz (by simp) λh' hz' hs=>FS (hQ h' hz' hs))
 | true=>exact FS (hQ s.heap hz #[U,λ_ _=>rfl])
theorem zc{k:Nat}{T:AC}{oT:Obj}{b:Bool}{Q:X7}(X:Apart z TI TO i1 i2 f1 f2)(D1:Draws prog w A i1 f1 n1 P1 S1)(D2:Draws prog w A i2 f2 n2 P2 S2)(hz:s.heap.get? z=some (qe (KF T) b TI TO))(hT:s.heap.get? T=some oT)(hI:Ix s.heap TI (.ref i1) (.ref i2))(t1:S1 k s.heap)(t2:S2 k s.heap)(h1:k < n1)(h2:k < n2)(hQ:∀ x y h' tk,P1 k x->P2 k y->h'.get? z=some (qe (KF T) true TI TO)->S1 (k+1) h'->S2 (k+1) h'->Ix h' ↑s x y->h'.objs.size=↑s+1 ->
   (∀ c o,c≠z->c≠i1->c≠i2->s.heap.get? c=some o->h'.get? c=some o)->Q (.ref ↑s) { s with heap:=h',toks:=tk }) :
  Db (model prog w) A (Fk.«zip.__next__» #[[.ref z],[]]) (λfin s'=>∃ v,fin=.done (.ret v)/\Q v s') E s:=by
 change Db _ _ (field (.ref z) 2 >>= _) _ _ _;show Ch (KB hz U (x:=.bool false) U ?_);change Db _ _ (field (.ref z) 3 >>= _) _ _ _;show Ch (KB hz U (x:=.ref TI) U (Ch (PP hI U ?_)));change Db _ _ (Fk.SmallTypes.ownedTupleIsFree (.ref z) >>= _) _ _ _;show Ch (xA hz hT λha za sa=>?_);simp only[Bool.false_eq_true,if_false];show Ch ?_;simp only[<- Array.forIn_toList,List.forIn_cons,List.forIn_nil];show Ch (Ch (NE ?_));change Db _ _ (Fk.SmallTypes.nextOf (.ref i1) >>= _) _ _ _;show Ch (D1.item k _ _ _ h1 (but D1 sa X.z1 t1) λx hb tk1 px t1b sb=>FS (FS ?_));show Ch (Ch (NE ?_));change Db _ _ (Fk.SmallTypes.nextOf (.ref i2) >>= _) _ _ _;show Ch (D2.item k _ _ _ h2 (but D2 sb X.a2 (but D2 sa X.z2 t2)) λy hc tk2 py t2c sc=>FS (FS (FS ?_)));show Ch (wpAny_newTuple (hsz:=(show 2<=FB by decide)) (FS #[_,U,?_]));have hsz:hc.objs.size=↑s:=by rw[sc.1,sb.1,sa.1]
 rw[hsz];have up:∀ c o,c≠z->c≠i1->c≠i2->s.heap.get? c=some o->(hc.push { cls:=.type "tuple",data:=.seq #v[x,y] }).get? c=some o:=λc o c1 c2 c3 e=>V9 _ (sc.extBut _ _ c3 (sb.extBut _ _ c2 (sa.extBut _ _ c1 e)));show hQ x y _ _ px py (V9 _ (sc.extBut _ _ X.i2z.symm (sb.extBut _ _ X.i1z.symm za))) ?_ ?_ (hsz▸Wl _ U) (by rw[WS,hsz]) up
 .exact D1.frame _ _ _ (but D1 sc X.a1 t1b) λq hq o e=>V9 _ e
 .exact D2.frame _ _ _ t2c λq hq o e=>V9 _ e
theorem Bt{k:Nat}{T:AC}{oT:Obj}{b:Bool}{Q:PySem.Fin->Da->Prop}(X:Apart z TI TO i1 i2 f1 f2)(D1:Draws prog w A i1 f1 n1 P1 S1)(D2:Draws prog w A i2 f2 n2 P2 S2)(hz:s.heap.get? z=some (qe (KF T) b TI TO))(hT:s.heap.get? T=some oT)(hI:Ix s.heap TI (.ref i1) (.ref i2))(t1:S1 k s.heap)(t2:S2 k s.heap)(hk:Ends prog w A i1 (S1 k)\/(k < n1/\Ends prog w A i2 (S2 k)))(hE:∀ h' e tk,(∀ c o,c≠z->c≠i1->c≠i2->s.heap.get? c=some o->h'.get? c=some o)->(∃ o,h'.get? e=some o/\o.cls=.type "StopIteration")->E (.ref e) { s with heap:=h',toks:=tk }) :
  Db (model prog w) A (Fk.«zip.__next__» #[[.ref z],[]]) Q E s:=by
 change Db _ _ (field (.ref z) 2 >>= _) _ _ _;show Ch (KB hz U (x:=.bool false) U ?_);change Db _ _ (field (.ref z) 3 >>= _) _ _ _;show Ch (KB hz U (x:=.ref TI) U (Ch (PP hI U ?_)));change Db _ _ (Fk.SmallTypes.ownedTupleIsFree (.ref z) >>= _) _ _ _;show Ch (xA hz hT λha za sa=>?_);simp only[Bool.false_eq_true,if_false];show Ch ?_;simp only[<- Array.forIn_toList,List.forIn_cons,List.forIn_nil];show Ch (Ch (NE ?_));change Db _ _ (Fk.SmallTypes.nextOf (.ref i1) >>= _) _ _ _;rcases hk with d1 | ⟨h1,d2⟩
 .refine Ch (d1 _ _ _ (but D1 sa X.z1 t1) λhb e sb he=>?_);exact hE hb e _ (λc o c1 c2 c3 x=>sb _ _ c2 (sa.extBut _ _ c1 x)) he
 .refine Ch (D1.item k _ _ _ h1 (but D1 sa X.z1 t1) λx hb tk1 px t1b sb=>FS (FS ?_));show Ch (Ch (NE ?_));change Db _ _ (Fk.SmallTypes.nextOf (.ref i2) >>= _) _ _ _;show Ch (d2 _ _ _ (but D2 sb X.a2 (but D2 sa X.z2 t2)) λhc e sc he=>?_);exact hE hc e _ (λc o c1 c2 c3 x=>sc _ _ c3 (sb.extBut _ _ c2 (sa.extBut _ _ c1 x))) he
theorem Fe{k:Nat}{T:AC}{oT:Obj}{b:Bool}{Q:Option AT->Da->Prop}(X:Apart z TI TO i1 i2 f1 f2)(D1:Draws prog w A.in1 i1 f1 n1 P1 S1)(D2:Draws prog w A.in1 i2 f2 n2 P2 S2)(hz:s.heap.get? z=some (qe (KF T) b TI TO))(hT:s.heap.get? T=some oT)(hI:Ix s.heap TI (.ref i1) (.ref i2))(t1:S1 k s.heap)(t2:S2 k s.heap)(h1:k < n1)(h2:k < n2)(hQ:∀ x y h' tk,P1 k x->P2 k y->h'.get? z=some (qe (KF T) true TI TO)->S1 (k+1) h'->S2 (k+1) h'->Ix h' ↑s x y->h'.objs.size=↑s+1 ->
   (∀ c o,c≠z->c≠i1->c≠i2->s.heap.get? c=some o->h'.get? c=some o)->Q (some (.ref ↑s)) { s with heap:=h',toks:=tk }):Db (model prog w) A (pyNext (.ref z)) Q E s:=by
 have hT2:s.TypeIs (.ref z) "zip":=#[_,hz,U];unfold pyNext;exact Ch (wpAny_attempt (wpAny_callSpecial?_slot (name:=Str.ofString "__next__") hT2 F.slot_zip_next
  (SL F.slot_zip_next hT2 F.entry_zip_next (zc X D1 D2 hz hT hI t1 t2 h1 h2 λx y h' tk a1 a2 a3 a4 a5 a6 a7 a8=>FS (hQ x y h' tk a1 a2 a3 a4 a5 a6 a7 a8)) (F.args_zip_next_1 _))))
theorem uU{k:Nat}{T:AC}{oT:Obj}{b:Bool}{Q:Option AT->Da->Prop}(X:Apart z TI TO i1 i2 f1 f2)(D1:Draws prog w A.in1 i1 f1 n1 P1 S1)(D2:Draws prog w A.in1 i2 f2 n2 P2 S2)(hz:s.heap.get? z=some (qe (KF T) b TI TO))(hT:s.heap.get? T=some oT)(hI:Ix s.heap TI (.ref i1) (.ref i2))(t1:S1 k s.heap)(t2:S2 k s.heap)(hk:Ends prog w A.in1 i1 (S1 k)\/(k < n1/\Ends prog w A.in1 i2 (S2 k)))(hQ:∀ h' tk,(∀ c o,c≠z->c≠i1->c≠i2->s.heap.get? c=some o->h'.get? c=some o)->Q none { s with heap:=h',toks:=tk }):Db (model prog w) A (pyNext (.ref z)) Q E s:=by
 have hT2:s.TypeIs (.ref z) "zip":=#[_,hz,U];unfold pyNext;show Ch (wpAny_attempt (wpAny_callSpecial?_slot (name:=Str.ofString "__next__") hT2 F.slot_zip_next
  (SL F.slot_zip_next hT2 F.entry_zip_next (Bt X D1 D2 hz hT hI t1 t2 hk λh' e tk kk he=>?_) (F.args_zip_next_1 _))))
 let(o,ho,hc):=he;show Ch (wpAny_isInstance (T:="StopIteration") (b:=true) #[o,ho,hc] isSubtype_stop ?_);exact FS (hQ _ _ kk)
end
end PyZ
namespace L2
open PySem PySem.Spec PyZ
open PyProof.Rows hiding St
def oK:Hp->!(V×V)->Hp->!AC->Prop
 | H,[],H',ps=>H'=H/\ps=[]
 | H,(u,v)::r,H',ps=>∃ p qs,H p=none/\ps=p::qs/\oK (upd H p (.tup [u,v])) r H' qs
section
variable{X:Cx}{TW:X8}{σ:St}
structure ZS(t1 t2:Bool)(z TI TO i1 i2 a b S:AC)(eR er:Array AT)(k:Nat)(H:Hp)(h:EQ)(acc:Array AT)(c:Nat):Prop where
 zip:IsZip h z TI TO .none\/∃ (T:AC) (tv:!V) (b':Bool),h.get? z=some (qe (KF T) b' TI TO)/\H T=some (.tup tv)
 ins:Ix h TI (.ref i1) (.ref i2)
 out:∃ u v,Ix h TO u v
 e1:hX t1 h i1 a k/\ki t1 h a eR
 e2:hX t2 h i2 b k/\ki t2 h b er
 lst:h.get? S=some { cls:=.type "list",dict:=none,data:=.seq acc c,slots:=#v[] }
theorem rA{xs:!V}{its:!AT}{k:Nat}{u:V}(h:Vals (u::xs) (its.drop k)):∃ v,its[k]?=some v/\RelV u v/\Vals xs (its.drop (k+1)):=by
 cases e:its.drop k with
 | nil=>rw[e] at h;cases h
 | cons v r =>
  rw[e] at h;cases h with
  | cons h1 h2 =>
  show#[v,?_,h1,?_]
  .have:=congrArg (λl=>l[0]?) e;simpa using this
  .rw[<- List.drop_drop (i:=1) (j:=k),e];exact h2
theorem jI{its:!AT}{k:Nat}(h:Vals [] (its.drop k)):its.length<=k:=by
 cases e:its.drop k with
 | nil=>simpa using e
 | cons v r=>rw[e] at h;cases h
theorem AI(hc:X.calm=true){A:Fr}(hh:A.in1.in1.handled=none){t1 t2:Bool}{z TI TO i1 i2 a b S:AC}(Y:Apart z TI TO i1 i2 [i1,a] [i2,b])(ha:a≠i1)(hb:b≠i2)(hS:S∉[z,TI,TO,i1,i2])(Vv:a≠S)(Vn:b≠S)(ho:a∉[z,TI,TO,i1,i2]/\b∉[z,TI,TO,i1,i2]){eR er:!AT}{res:AT}{R:Result->Da->Prop}(QU:eR.length<=FB):∀ (xs ys:!V) (k:Nat) (s:Da) (H:Hp) (acc:Array AT) (c:Nat),
  Vals xs (eR.drop k)->Vals ys (er.drop k)->acc.size=k->k<=eR.length->Inv X TW σ H s->(∀ q∈[z,TI,TO,i1,i2,S],fb X TW H q)->ZS t1 t2 z TI TO i1 i2 a b S eR.toArray er.toArray k H s.heap acc c ->
  (∀ s' H' qs acc' c',Inv X TW σ H' s'->(∀ q∈[z,TI,TO,i1,i2,S],fb X TW H' q)->s'.heap.get? S=some { cls:=.type "list",dict:=none,data:=.seq acc' c',slots:=#v[] }->acc'.toList=acc.toList++qs.map AT.ref->acc'.size<=FB->oK H (xs.zip ys) H' qs->R (.ok (.ret res)) s') ->
  codeAny (model X.prog X.w) A (.builtin "list.extend.loop" #[[.ref S,.ref z,res],[]]) R s:=by
 have nS:∀ {q:AC},q∈[z,TI,TO,i1,i2]->q≠S:=λhq e=>hS (e▸hq);have D1:=jv (prog:=X.prog) (w:=X.w) t1 hh i1 a ha eR.toArray;have D2:=jv (prog:=X.prog) (w:=X.w) t2 hh i2 b hb er.toArray;have fin:∀ (xs ys:!V) (k:Nat) (s:Da) (H:Hp) (acc:Array AT) (c:Nat),xs.zip ys=[]->(PyZ.Ends X.prog X.w A.in1.in1 i1 (λh=>hX t1 h i1 a k/\ki t1 h a eR.toArray)\/(k < eR.toArray.size/\PyZ.Ends X.prog X.w A.in1.in1 i2 (λh=>hX t2 h i2 b k/\ki t2 h b er.toArray)))->acc.size=k->k<=eR.length->Inv X TW σ H s->(∀ q∈[z,TI,TO,i1,i2,S],fb X TW H q)->ZS t1 t2 z TI TO i1 i2 a b S eR.toArray er.toArray k H s.heap acc c ->
  (∀ s' H' qs acc' c',Inv X TW σ H' s'->(∀ q∈[z,TI,TO,i1,i2,S],fb X TW H' q)->s'.heap.get? S=some { cls:=.type "list",dict:=none,data:=.seq acc' c',slots:=#v[] }->acc'.toList=acc.toList++qs.map AT.ref->acc'.size<=FB->oK H (xs.zip ys) H' qs->R (.ok (.ret res)) s') ->
  codeAny (model X.prog X.w) A (.builtin "list.extend.loop" #[[.ref S,.ref z,res],[]]) R s:=by
  intro xs ys k s H acc c he hk hacc hkl I hf Z hR;show codeAny_builtin F.entry_extend_loop ?_;rw[Fr.under_plainId F.plain_extend_loop _];change Db _ A.in1 (pyNext (.ref z) >>= _) _ _ s;have done:∀ h' tk,(∀ c o,c≠z->c≠TO->c≠i1->c≠i2->s.heap.get? c=some o->h'.get? c=some o)->R (.ok (.ret res)) { s with heap:=h',toks:=tk }:=λh' tk kk=>by
   show hR _ H [] acc c (Inv.gq I (λb o hb e=>?_) hf) hf ?_ (by simp) (by cbv) (by rw[he];exact#[U,U])
   .simp only[List.mem_cons,List.not_mem_nil,or_false,not_or] at hb;exact kk b o hb.1 hb.2.2.1 hb.2.2.2.1 hb.2.2.2.2.1 e
   .exact kk S _ (λe=>hS (by simp[e])) (λe=>hS (by simp[e])) (λe=>hS (by simp[e])) (λe=>hS (by simp[e])) Z.lst
  rcases Z.zip with hz | ⟨T,tv,b',hz,hT⟩
  .exact Ch (Cv Y D1 D2 #[hz,Z.ins,Z.out,Z.e1,Z.e2] hk λh' tk kk=>FS (done h' tk kk))
  .let(_,its,_,oT,eT,_):=(show b6 X.prog X.w H s.heap T (.tup tv) from I.bx T _ hT);exact Ch (uU Y D1 D2 hz eT Z.ins Z.e1 Z.e2 hk λh' tk kk=>FS (done h' tk λc o c1 _ c3 c4 e=>kk c o c1 c3 c4 e))
 intro xs
 induction xs with
 | nil =>
  intro ys k s H acc c v1 v2 hacc hkl I hf Z hR;exact fin [] ys k s H acc c U (.inl (sV t1 hh (by rw[Wx];exact jI v1))) hacc hkl I hf Z hR
 | cons x xs ih =>
  intro ys k s H acc c v1 v2 hacc hkl I hf Z hR;let(u,hu,ru,v1'):=rA v1;have hk1:k < eR.length:=(Wb.mp hu).1;cases ys with
  | nil=>exact fin (x::xs) [] k s H acc c U (.inr #[by simpa using hk1,sV t2 hh (by rw[List.size_toArray];exact jI v2)]) hacc hkl I hf Z hR
  | cons y ys =>
  let(v,hv,rv,v2'):=rA v2;have hk2:k < er.length:=(Wb.mp hv).1;show codeAny_builtin F.entry_extend_loop ?_;rw[Fr.under_plainId F.plain_extend_loop _];change Db _ A.in1 (pyNext (.ref z) >>= _) _ _ s;have hfr:H ↑s=none:=I.bx.fresh (We _);have gE:∀ q∈[z,TI,TO,i1,i2,S],q < ↑s:=λq hq=>by
   simp only[List.mem_cons,List.not_mem_nil,or_false] at hq;rcases hq with rfl | rfl | rfl | rfl | rfl | rfl
   .rcases Z.zip with e | ⟨_,_,_,e,_⟩
    .exact Wh e
    .exact Wh e
   .exact Wh Z.ins
   .let(_,_,e):=Z.out;exact Wh e
   .let(o,e,_):=Z.e1.1.obj;exact Wh e
   .let(o,e,_):=Z.e2.1.obj;exact Wh e
   .exact Wh Z.lst
  have cont:∀ (h':EQ) (tk:Nat) (T:AC) (tv:!V) (b':Bool),upd H ↑s (.tup [x,y]) T=some (.tup tv)->h'.get? z=some (qe (KF T) b' TI TO)->Ix h' TI (.ref i1) (.ref i2)->(∃ u v,Ix h' TO u v)->(hX t1 h' i1 a (k+1)/\ki t1 h' a eR.toArray)->(hX t2 h' i2 b (k+1)/\ki t2 h' b er.toArray)->Ix h' ↑s u v->(∀ c o,c∉[z,TI,TO,i1,i2]->s.heap.get? c=some o->h'.get? c=some o) ->
    Db (model X.prog X.w) A.in1 (updateSeq S (·.push (AT.ref ↑s)) >>= λ_=>again (.builtin "list.extend.loop" #[[.ref S,.ref z,res],[]])) (λfin s'=>match fin with | .done f=>R (.ok f) s' | .again c'=>c'.quiet=true/\codeAny (model X.prog X.w) A c' R s') (λe s'=>R (.error e) s') { s with heap:=h',toks:=tk }:=by
   intro h' tk T tv b' hT hz hI hO q1 q2 hp kk;have I1:Inv X TW σ (upd H ↑s (.tup [x,y])) { s with heap:=h',toks:=tk } :=
    Inv.rP I (λb o hb e=>kk b o (λm=>hb (by simp only[List.mem_cons,List.not_mem_nil,or_false] at m ⊢;rcases m with m | m | m | m | m<;>simp[m])) e) hf (Nat.le_refl _) #[by change 2<=FB;decide,[u,v],.cons ru (.cons rv .nil),#[_,hp,rfl,_,rfl,rfl]]
   have hf1:∀ q∈[z,TI,TO,i1,i2,S],fb X TW (upd H ↑s (.tup [x,y])) q:=λq hq=>by
    let(f0,fr):=hf q hq;exact#[by rw[aw (Ww (gE q hq))];exact f0,fr]
   have hS':h'.get? S=some { cls:=.type "list",dict:=none,data:=.seq acc c,slots:=#v[] }:=kk S _ hS Z.lst;show Ch (wpAny_updateSeq hS' U (FS #[plainId_quiet F.plain_extend_loop _,?_]) (by cbv) (by change (acc.push _).size<=FB+1;rw[Array.size_push];cbv));have oth:∀ q o,q≠S->h'.get? q=some o->(h'.update S (Obj.mapSeq (·.push (AT.ref ↑s)))).get? q=some o:=λq o hq e=>(W0 _ _ (Ne.symm hq)).trans e;have I2:Inv X TW σ (upd H ↑s (.tup [x,y])) { s with heap:=h'.update S (Obj.mapSeq (·.push (AT.ref ↑s))),toks:=tk } :=
    Inv.gq (s:={ s with heap:=h',toks:=tk }) I1 (λq o hq e=>oth q o (λe=>hq (by simp[e])) e) hf1
   obtain⟨c2,hc2⟩:∃ c2,(h'.update S (Obj.mapSeq (·.push (AT.ref ↑s)))).get? S=some { cls:=.type "list",dict:=none,data:=.seq (acc.push (AT.ref ↑s)) c2,slots:=#v[] }:=#[_,WX _ hS' U];show ih ys (k+1) _ (upd H ↑s (.tup [x,y])) (acc.push (AT.ref ↑s)) c2 v1' v2' (by rw[Array.size_push,hacc]) hk1 I2 hf1 ?_ λs' H' qs acc' c' J1 J2 J3 J4 J5 J6=>?_
   .refine#[.inr #[T,tv,b',oth z _ (nS (by simp)) hz,hT],oth TI _ (nS (by simp)) hI,let #[p,q,e]:=hO;#[p,q,oth TO _ (nS (by simp)) e],#[q1.1.at λo e=>oth i1 o (nS (by simp)) e,q1.2.at λo e=>oth a o Vv e],#[q2.1.at λo e=>oth i2 o (nS (by simp)) e,q2.2.at λo e=>oth b o Vn e],?_];exact hc2
   .refine hR s' H' (↑s::qs) acc' c' J1 J2 J3 ?_ J5 #[_,qs,hfr,U,J6];rw[J4];simp
  rcases Z.zip with hz | ⟨T,tv,b',hz,hT⟩
  .refine Ch (xU Y D1 D2 #[hz,Z.ins,Z.out,Z.e1,Z.e2] (by simpa using hk1) (by simpa using hk2) λu' v' h' tk pu pv Z' pT hsz kk=>?_);have e1:u'=u:=by
    have q:eR[k]?=some u':=by simpa using pu
    rw[hu] at q;exact (WC q).symm
   have e2:v'=v:=by
    have q:er[k]?=some v':=by simpa using pv
    rw[hv] at q;exact (WC q).symm
   subst e1;subst e2;exact cont h' tk ↑s _ false aA Z'.zip Z'.ins Z'.out Z'.K9 Z'.FZ pT λc o hc e=>by
    simp only[List.mem_cons,List.not_mem_nil,or_false,not_or] at hc;exact kk c o hc.1 hc.2.2.1 hc.2.2.2.1 hc.2.2.2.2 e
  .let(_,its,_,oT,eT,_):=(show b6 X.prog X.w H s.heap T (.tup tv) from I.bx T _ hT);show Ch (Fe Y D1 D2 hz eT Z.ins Z.e1 Z.e2 (by simpa using hk1) (by simpa using hk2) λu' v' h' tk pu pv z' s1 s2 pT hsz kk=>?_);have e1:u'=u:=by
    have q:eR[k]?=some u':=by simpa using pu
    rw[hu] at q;exact (WC q).symm
   have e2:v'=v:=by
    have q:er[k]?=some v':=by simpa using pv
    rw[hv] at q;exact (WC q).symm
   subst e1;subst e2;let(p,q,eO):=Z.out;show cont h' tk T tv true (by rw[aw (aE hT hfr)];exact hT) z' (kk TI _ Y.TIz Y.TIi1 Y.TIi2 Z.ins) #[p,q,kk TO _ Y.TOz Y.TOi1 Y.TOi2 eO] s1 s2 pT λc o hc e=>?_;simp only[List.mem_cons,List.not_mem_nil,or_false,not_or] at hc;exact kk c o hc.1 hc.2.2.2.1 hc.2.2.2.2 e
def BX(K:Frag)(t:TA):TE:=λσ H Q=>t σ H λvs H1=>∃ a b t1 t2 xs ys,vs=[.ref a,.ref b]/\(xJ K t1 H1 a xs/\xJ K t2 H1 b ys)/\∀ H2 qs l,oK H1 (xs.zip ys) H2 qs->H2 l=none->Q (.ref l) (upd H2 l (.lst (qs.map V.ref)))
theorem rH:∀ qs:!AC,Vals (qs.map V.ref) (qs.map AT.ref)
 | []=>.nil
 | _::qs=>.cons U (rH qs)
theorem Inv.NJ{s:Da}{H:Hp}{S:AC}{o:HO}(I:Inv X TW σ H s)(f:fb X TW H S)(new:b6 X.prog X.w (upd H S o) s.heap S o):Inv X TW σ (upd H S o) s:=by
 let(f0,f1,f2,f3,f4,f5):=f;have up:∀ b u,H b=some u->upd H S o b=some u:=λb u e=>by rw[aw (aE e f0)];exact e
 show I.step (g':=s.gens) (d':=s.drawn) (t':=s.toks) (h':=s.heap) (ch:=[S]) (λb hb=>?_) (λb ob _ _ _ e _=>e) (λb ob _ _ _ e _=>#[ob.slots,e]) (λb ob hc _ n=>?_)
  (λb ob _ e=>#[ob,e]) (λb xs e=>up b _ e) (λb ob u e=>up b _ e) (λb ps e=>#[#v[],by rw[up b _ e];simp]) (λm hm=>hm) (λb u e=>?_) I.bare
 .rw[Wn.mp hb];exact#[f3,f1,f4,f5]
 .rw[aw (λe=>hc (by rw[e];exact Wn.mpr U))];exact n
 .by_cases hb:b=S
  .subst hb;rw[aA] at e;cases e;exact new
  .rw[aw hb] at e;exact (I.bx b u e).uR (λ_ _ _ q=>q) (λ_ q=>up _ _ q) λ_ _ q=>up _ _ q
theorem zN(hc:X.calm=true){s:Da}{H:Hp}{z TI TO i1 i2 a b:AC}{t1 t2:Bool}(Y:Apart z TI TO i1 i2 [i1,a] [i2,b])(ha:a≠i1)(hb:b≠i2){eR er:!AT}{xs ys:!V}(v1:Vals xs eR)(v2:Vals ys er)(QU:eR.length<=FB)(I:Inv X TW σ H s)(hf:∀ q∈[z,TI,TO,i1,i2],fb X TW H q)(Z:FW t1 t2 z TI TO i1 i2 a b 0 s.heap)(p1:ki t1 s.heap a eR.toArray)(p2:ki t2 s.heap b er.toArray)(ho:a∉[z,TI,TO,i1,i2]/\b∉[z,TI,TO,i1,i2]){Q:X7}{E:X7}(hQ:∀ s' H' qs l,oK H (xs.zip ys) H' qs->H' l=none->Inv X TW σ (upd H' l (.lst (qs.map V.ref))) s'->Q (.ref l) s') :
  Db (model X.prog X.w) X.A (call (.type "list") [.ref z]) Q E s:=by
 have hzlt:z < ↑s:=Wh Z.zip;have gE:∀ q∈[z,TI,TO,i1,i2],q < ↑s:=λq hq=>by
  simp only[List.mem_cons,List.not_mem_nil,or_false] at hq;rcases hq with rfl | rfl | rfl | rfl | rfl
  .exact hzlt
  .exact Wh Z.ins
  .let(_,_,e):=Z.out;exact Wh e
  .let(o,e,_):=Z.e1.obj;exact Wh e
  .let(o,e,_):=Z.e2.obj;exact Wh e
 have hS5:↑s∉[z,TI,TO,i1,i2]:=λm=>absurd (gE _ m) (W6 _);show callType_codes (Q₁:=λobj s₁=>obj=.ref ↑s/\s₁={ s with heap:=s.heap.push { cls:=.type "list",data:=.seq #v[] } }) F.called_list (F.typeCall_list_1 _) F.entry_list_init
  (code_list_new _ #[U,U]) λobj s₁ h₁=>?_
 let(rfl,rfl):=h₁;have hL:(s.heap.push { cls:=.type "list",data:=.seq #v[] }).get? ↑s=some { cls:=.type "list",data:=.seq #v[] }:=Wl _ U;show#[#[_,hL,U],F.args_list_init_2 _ _,?_];change Db _ _ (do let old <- Fk.List.listItems (.ref ↑s);Fk.List.listUpdate (.ref ↑s) (λ_=>#v[]);letGo old.toList.reverse;Fk.List.listExtendWith (.ref ↑s) (.ref z) .none) _ _ _;show Ch ?_;unfold Fk.List.listItems;show Ch (PP hL U (FS ?_));change Db _ _ (updateSeq ↑s (λ_=>#v[]) >>= λ_=>letGo (#v[]:Array AT).toList.reverse >>= λ_=>Fk.List.listExtendWith (.ref ↑s) (.ref z) .none) _ _ _;show Ch (wpAny_updateSeq hL U ?_);obtain⟨c2,h2⟩:∃ c2,((s.heap.push { cls:=.type "list",data:=.seq #v[] }).update ↑s (Obj.mapSeq (λ_=>(#v[]:Array AT)))).get? ↑s=some { cls:=.type "list",dict:=none,data:=.seq #v[] c2,slots:=#v[] }:=#[_,WX _ hL U];have oth:∀ b o,b≠↑s->s.heap.get? b=some o->((s.heap.push { cls:=.type "list",data:=.seq #v[] }).update ↑s (Obj.mapSeq (λ_=>(#v[]:Array AT)))).get? b=some o :=
  λb o hb e=>(W0 _ _ (Ne.symm hb)).trans (V9 _ e)
 show Ch (wpAny_letGo ?_);generalize (s.heap.push { cls:=.type "list",data:=.seq #v[] }).update ↑s (Obj.mapSeq (λ_=>(#v[]:Array AT)))=h3 at h2 oth;have hzz:IsZip h3 z TI TO .none:=oth z _ (Ww hzlt) Z.zip;have hTz:Da.TypeIs { s with heap:=h3 } (.ref z) "zip":=#[_,hzz,U];unfold Fk.List.listExtendWith;show Ch (wpAny_typeOf hTz ?_);have g1:Fk.List.listSameRef (.ref ↑s) (.ref z)=false:=by simp[Fk.List.listSameRef,Nat.ne_of_gt hzlt]
 have g2:(AT.type "zip" == AT.type "list")=false:=by decide
 have g3:(AT.type "zip" == AT.type "tuple")=false:=by decide
 simp only[g1,g2,g3,Bool.or_false,Bool.false_eq_true,if_false];show Ch (wpAny_pyIter_zip hzz ?_);show Ch (NE ?_);unfold Fk.List.listLengthHint;show Ch (wpAny_specialOf hTz F.Cm ?_)
 wp_delta
 show Ch (wpAny_specialOf hTz F.yH ?_);show FS ?_;rw[if_pos ()];show Ch (wpAny_rule ?_);unfold Fk.List.listTouch;show Ch (Ch ?_);change Db _ _ (updateSeq ↑s (·.push .none)) _ _ _;show wpAny_updateSeq h2 U ?_;obtain⟨c4,h4⟩:∃ c4,(h3.update ↑s (Obj.mapSeq (·.push AT.none))).get? ↑s=some { cls:=.type "list",dict:=none,data:=.seq #v[.none] c4,slots:=#v[] }:=#[_,WX _ h2 U];have oth4:∀ b o,b≠↑s->s.heap.get? b=some o->(h3.update ↑s (Obj.mapSeq (·.push AT.none))).get? b=some o:=λb o hb e=>(W0 _ _ (Ne.symm hb)).trans (oth b o hb e);generalize h3.update ↑s (Obj.mapSeq (·.push AT.none))=h5 at h4 oth4;change Db _ _ (updateSeq ↑s (·.pop)) _ _ _;show wpAny_updateSeq h4 U ?_;obtain⟨c6,h6⟩:∃ c6,(h5.update ↑s (Obj.mapSeq (·.pop))).get? ↑s=some { cls:=.type "list",dict:=none,data:=.seq #v[] c6,slots:=#v[] }:=#[_,WX _ h4 U];have oth6:∀ b o,b≠↑s->s.heap.get? b=some o->(h5.update ↑s (Obj.mapSeq (·.pop))).get? b=some o:=λb o hb e=>(W0 _ _ (Ne.symm hb)).trans (oth4 b o hb e);generalize h5.update ↑s (Obj.mapSeq (·.pop))=h7 at h6 oth6;have kept:∀ b o,s.heap.get? b=some o->h7.get? b=some o:=λb o e=>oth6 b o (Ww (Wh e)) e;have aS:a≠↑s:=Ww (ki.lt p1);have bS:b≠↑s:=Ww (ki.lt p2);have I7:Inv X TW σ H { s with heap:=h7 }:=I.kept (t':=s.toks) kept;have hf7:∀ q∈[z,TI,TO,i1,i2,↑s],fb X TW H q:=λq hq=>by
  simp only[List.mem_cons,List.not_mem_nil,or_false] at hq;rcases hq with e | e | e | e | e | e
  .exact hf q (by simp[e])
  .exact hf q (by simp[e])
  .exact hf q (by simp[e])
  .exact hf q (by simp[e])
  .exact hf q (by simp[e])
  .rw[e];exact I.pQ (We _) (I.bx.fresh (We _))
 show FS #[plainId_quiet F.plain_extend_loop _,?_];show AI (A:=X.A.in1) hc (I.ok.hd hc) Y ha hb hS5 aS bS ho QU xs ys 0 _ H #v[] c6 (by simpa using v1) (by simpa using v2) U (Nat.zero_le _) I7 hf7
  #[.inl (kept _ _ Z.zip),kept _ _ Z.ins,let #[p,q,e]:=Z.out;#[p,q,kept _ _ e],#[Z.e1.at λo e=>kept _ _ e,p1.at λo e=>kept _ _ e],#[Z.e2.at λo e=>kept _ _ e,p2.at λo e=>kept _ _ e],h6] λs' H' qs acc' c' J1 J2 J3 J4 J5 J6=>?_
 have hn:H' ↑s=none:=(J2 ↑s (by simp)).1;show#[U,hQ s' H' qs ↑s J6 hn (Inv.NJ J1 (J2 ↑s (by simp)) ?_)];have e4:acc'.toList=qs.map AT.ref:=by simpa using J4
 have e5:(qs.map V.ref).length=acc'.size:=by
  have:=congrArg List.length e4;simp at this;rw[V8];exact this.symm
 exact#[by rw[e5];exact J5,qs.map AT.ref,c',rH qs,by rw[<- e4];exact J3]
theorem vW{a b:Cl}{t:TA}{p p2 pos j4:Pos}(hc:X.calm=true)(MP:Gl X "list")(pY:X.mg "list"=none)(hg:Gl X "zip")(hm:X.mg "zip"=none)(ha:PA X [a,b] t)(hs:(GT [.Call (.Name "zip" p2) [a,b] [] j4] X.env=[(false,eval (.Call (.Name "zip" p2) [a,b] [] j4) X.env)])⁻¹)(Rm:(GT [a,b] X.env=[(false,eval a X.env),(false,eval b X.env)])⁻¹)(oX:(GT [b] X.env=[(false,eval b X.env)])⁻¹) :
  PE X (.Call (.Name "list" p) [.Call (.Name "zip" p2) [a,b] [] j4] [] pos) (BX X.K t):=by
 intro TW s σ H Q I h;show wpAny_Call_Name_kw (ib I MP pY PyProof.Rows.boot_list ?_ () ());show PyProof.Rows.callWith_type1 ?_ hs U;rw[hs];change Db _ _ (spliced ((false,eval (.Call (.Name "zip" p2) [a,b] [] j4) X.env)::IR pos [])) _ _ s;show Calls.spliced_cons ?_;show Call_ (ib I hg hm (u:=.type "zip") (by decide+kernel) (PyProof.Rows.callWith_type1 (b3 (ha j4 TW s σ H _ I h) λus s1 zz=>el2 zz λvs H1 I1 r1 q1=>?_) (by rw[Rm,oX]) (by rw[oX];rfl)));let(l1,l2,t1,t2,xs,ys,e,(hx,hy),q):=q1;subst e;let(u,v,rfl,ru,rv):=Vals.two r1;cases ru;cases rv;let(eR,v1,p1,z1):=i8 I1 hx;let(er,v2,p2,z2):=i8 I1 hy;have b1:=ki.lt p1;have b2:=ki.lt p2;have l1':=v1.length;show uT p1 p2 λh' hz hI hO e1 e2 hsz hk=>?_;show Calls.spliced_nil ?_;have I2:Inv X TW σ H1 { s1 with heap:=h' }:=I1.kept (t':=s1.toks) hk;have ge:∀ {c:AC},c∈[↑s1+4,↑s1+2,↑s1+3,↑s1,↑s1+1]->↑s1<=c:=λ{c} hc=>by
  simp only[List.mem_cons,List.not_mem_nil,or_false] at hc;rcases hc with e | e | e | e | e<;>(rw[e];first | exact We _ | exact X1 _ _)
 show zN hc (apart_new b1 b2) (Ww b1) (Ww (Nat.lt_succ_of_lt b2)) v1 v2 (by cbv) I2 (λc hc=>I1.pQ (ge hc) (I1.bx.fresh (ge hc))) #[hz,hI,#[_,_,hO],e1,e2] (p1.at λo e=>hk _ o e) (p2.at λo e=>hk _ o e) #[λm=>absurd (Wz b1 (ge m)) (W6 _),λm=>absurd (Wz b2 (ge m)) (W6 _)] λs' H' qs l J1 J2 J3=>?_;exact#[.ref l,_,J3,U,q H' qs l J1 J2]
end
end L2
namespace DL
open PySem PySem.Spec L2
open PyProof.Rows hiding St
section
variable{X:Cx}{c:Ent}
theorem qV{K:Frag}{s:DS}{as:!AC}{σ:St}:∀ (xs ys:!D) (us vs:!V) (M:AC->Prop) (H H':Hp) (qs:!AC),aD K c M s as σ H->az K H M xs us->az K H M ys vs->oK H (us.zip vs) H' qs ->
  ∃ M',aD K c M' s as σ H'/\Ext c as M s H M' s H'/\az K H' M' (j7 xs ys) (qs.map V.ref)
 | [],ys,us,vs,M,H,H',qs,L,r1,r2,l=>by
  have r1:us=[]:=r1;subst r1;let(e1,e2):=(show H'=H/\qs=[] from l);subst e1 e2;exact#[M,L,.refl,U]
 | x::xs,[],us,vs,M,H,H',qs,L,r1,r2,l=>by
  have r2:vs=[]:=r2;subst r2;rw[List.zip_nil_right] at l;let(e1,e2):=(show H'=H/\qs=[] from l);subst e1 e2;exact#[M,L,.refl,U]
 | x::xs,y::ys,us,vs,M,H,H',qs,L,r1,r2,l=>by
  let(u,us,rfl,ru,r1):=r1;let(v,vs,rfl,rv,r2):=r2;let(p,ps,hp,rfl,l2):=(show ∃ p ps,H p=none/\qs=p::ps/\oK (upd H p (.tup [u,v])) (us.zip vs) H' ps from l);let(M',L',E',r'):=qV xs ys us vs _ _ H' ps (L.fresh (o:=.tup [u,v]) hp) (kZ hp r1) (kZ hp r2) l2;show#[M',L',(Ext.fresh hp).trans (L.fresh hp).base E',.ref p,_,U,?_,r'];show E'.rep (L.fresh hp) #[p,[u,v],U,#[.inr U,aA],?_];exact#[u,[v],U,o6 hp ru,v,[],U,o6 hp rv,U]
def y3(t:eJ):aV:=λs Q=>t s λas s1=>∃ d e xs ys,as=[d,e]/\(Bg d=some xs/\Bg e=some ys)/\Q (.lst (j7 xs ys)) s1
theorem rE{a b:Cl}{t:eJ}{p p2 pos j4:Pos}(hc:X.calm=true)(MP:Gl X "list")(pY:X.mg "list"=none)(hg:Gl X "zip")(hm:X.mg "zip"=none)(ha:DA X c [a,b] t)(hs:(GT [.Call (.Name "zip" p2) [a,b] [] j4] X.env=[(false,eval (.Call (.Name "zip" p2) [a,b] [] j4) X.env)])⁻¹)(Rm:(GT [a,b] X.env=[(false,eval a X.env),(false,eval b X.env)])⁻¹)(oX:(GT [b] X.env=[(false,eval b X.env)])⁻¹) :
  DN X c (.Call (.Name "list" p) [.Call (.Name "zip" p2) [a,b] [] j4] [] pos) (y3 t):=#[(vW hc MP pY hg hm ha.pa hs Rm oX).imp λσ H Q zz=>cV zz λM s as R L q k =>
 #[M,s,as,_,L,q,λds s1 q1 M1 H1 vs L1 E1 r1 hl=>by
  let(d,e,xs,ys,rfl,(hd,he),q2):=q1;let(u,r,rfl,ru,r):=r1;let(v,r',rfl,rv,r):=r;have r:r'=[]:=r;subst r;let(a1,t1,us,rfl,rus,g1):=nG hd ru;let(a2,t2,vs,rfl,rvs,g2):=nG he rv;have G0:ei M1 H1 M1 H1:=λb m=>#[m,λo e=>e];show#[a1,a2,t1,t2,us,vs,U,#[(g1 M1 H1 G0).1,(g2 M1 H1 G0).1],λH2 qs l J hl=>?_];let(M2,Lb,E2,r2):=qV xs ys us vs M1 H1 H2 qs L1 rus rvs J;exact ij (d:=.lst _) L Lb (E1.trans L1.base E2) hl r2 (k _ s1 q2)]]
theorem AW{ty td:aV}{σ:St}{H:Hp}{Q:VK}:tE X.K c (vi false ty td) σ H Q->Ke (tE X.K c ty) (tE X.K c td) σ H Q:=λzz=>cV zz λM s as R L q kk =>
 #[M,s,as,_,L,q,λdy s1 q1 M1 H1 y L1 E1 ry=>#[M1,s1,as,_,L1,q1,λd s2 z9r M2 H2 v Lb E2 rv=>by
  let(hd,q2):=z9r;let(a,o,rfl,f1,f2):=rv.dc hd;let(ov,od,w1,w2,w3):=jj q2 f1 f2 (E2.rep L1 ry);show#[a,ov,U,w1,?_];have e:ov.isSome=od.isSome:=by
   rcases w3 with ⟨rfl,rfl⟩ | ⟨v,x,rfl,rfl,rx⟩<;>rfl
  rw[e];exact kk _ s2 w2 M2 H2 _ Lb (E1.trans L1.base E2) U]]
theorem wI{i o:Cl}{pos:Pos}{ty td:aV}(hu:X.A.units+1 < cLine)(hi:DE X c i ty)(ho:DE X c o td)(h1:(behindInMarks .In o=false)⁻¹):DT X c (.Compare i [.In] [o] pos) (Di (vi false ty td)) :=
 #[(oE (sO hu hi.pe ho.pe) h1).imp λσ H Q q=>fu AW q]
end
end DL
namespace DL
open PySem PySem.Spec L2
structure eB where
 name:Str
 fs:!(Str×Str)
structure dE where
 name:Str
 ps:!(Str×Str)
 res:Str
structure Kd where
 asked:Bool
 name:Str
 bz:!eB
 bK:!dE
structure bf where
 kinds:!Kd
 vars:!Str
 heads:!Str
 inner:Bool
 words:!Str
def c9(b:Bool):Str:=if b=true then "asked" else "made"
def pairD(p:Str×Str):D:=.tup [.str p.1,.str p.2]
def bW(ps:!(Str×Str)):D:=.tup (ps.map pairD)
def dB(m:eB):D:=.tup [.str m.name,bW m.fs]
def cW(a:dE):D:=.tup [.str a.name,bW a.ps,.str a.res]
def kh(k:Kd):D:=.tup [.str (c9 k.asked),.str k.name,.tup (k.bz.map dB),.tup (k.bK.map cW)]
def Tu:!Key:=[.inr "kinds",.inr "vars",.inr "heads",.inr "inner",.inr "words"]
def eL(W:bf):D:=.iI Tu [.lst (W.kinds.map kh),.lst (W.vars.map .str),.lst (W.heads.map .str),.bl W.inner,.lst (W.words.map .str)]
def kj(W:bf)(k:Str):Prop:=k="number"\/∃ kd∈W.kinds,kd.bz≠[]/\kd.name=k
def B6(W:bf)(ns:!Str)(ps:!(Str×Str)):Prop:=ps.length<=3/\ps.map (·.1)=ns.take ps.length/\∀ p∈ps,kj W p.2
structure dG(W:bf):Prop where
 kl:W.kinds.length<=5
 kn:(W.kinds.map Kd.name).Nodup
 kw:∀ k∈W.kinds,Nm k.name/\k.bz.length<=5/\k.bK.length<=5
 mn:(W.kinds.flatMap λk=>k.bz.map eB.name).Nodup
 an:(W.kinds.flatMap λk=>k.bK.map dE.name).Nodup
 mo:∀ k∈W.kinds,∀ m∈k.bz,Nm m.name/\B6 W (W.heads.take 3) m.fs
 ao:∀ k∈W.kinds,∀ a∈k.bK,Nm a.name/\B6 W (W.heads.drop 3) a.ps/\kj W a.res
 ft:∀ k∈W.kinds,∀ m r,k.bz=m::r->∀ p∈m.fs,p.2="number"
 hl:W.heads.length=6
 vl:W.vars.length=15
 nd:(W.heads++W.vars).Nodup
 nm:∀ x∈W.heads++W.vars,Nm x
structure jB(W:bf)(sc:!(Str×Str)):Prop where
 len:sc.length<=15
 nd:(sc.map (·.1)).Nodup
 ok:∀ p∈sc,kj W p.2/\(p.1∈W.heads\/∃ j,j < sc.length/\W.vars[j]?=some p.1)
def nJ(W:bf)(sc:!(Str×Str))(ns:!Str):Prop:=ns.Nodup/\(∀ x∈ns,x∉sc.map (·.1))/\∀ x∈ns,x∈W.heads\/∃ j,j < sc.length+ns.length/\W.vars[j]?=some x
inductive pX(W:bf)(sc:!(Str×Str)):Str->Fm->!(!(Str×Str)×Str)->Prop
 | nm {x k:Str}:(x,k)∈sc->pX W sc k (.nm x) []
 | num {i:Int}:0<=i->i < 1000000->pX W sc "number" (.num i) []
 | op {o:Str}:o∈(["+","-","*"]:!Str)->pX W sc "number" (.op o) [([],"number"),([],"number")]
 | sU {k:Str}:pX W sc k .sU [([],"number"),([],k),([],k)]
 | lt {x k k':Str}:nJ W sc [x]->kj W k'->pX W sc k (.lt x) [([],k'),([(x,k')],k)]
 | mk {kd:Kd} {m:eB}:kd∈W.kinds->m∈kd.bz->pX W sc kd.name (.mk m.name) (m.fs.map λp=>([],p.2))
 | ask {kd:Kd} {a:dE}:kd∈W.kinds->kd.bz≠[]->a∈kd.bK->pX W sc a.res (.ask a.name) (([],kd.name)::a.ps.map λp=>([],p.2))
 | j9 {k:Str} {kd:Kd} {sub:!(eB×!Str)}:kd∈W.kinds->kd.bz≠[]->kd.asked=false->(sub.map (·.1)).Sublist kd.bz->(∀ p∈sub,p.2.length=p.1.fs.length/\nJ W sc p.2) ->
   pX W sc k (.j9 k (sub.map λp=>(p.1.name,p.2))) (([],kd.name)::sub.map λp=>(p.2.zip (p.1.fs.map (·.2)),k))
 | new {kd:Kd} {sub:!(dE×!Str)}:kd∈W.kinds->kd.bz≠[]->kd.asked=true->(sub.map (·.1)).Sublist kd.bK->(∀ p∈sub,p.2.length=p.1.ps.length/\nJ W sc p.2) ->
   pX W sc kd.name (.new kd.name (sub.map λp=>(p.1.name,p.2))) (sub.map λp=>(p.2.zip (p.1.ps.map (·.2)),p.1.res))
mutual
noncomputable def Ty(W:bf):!(Str×Str)->Str->Tm->Prop
 | sc,k,.node f ts=>∃ sp,pX W sc k f sp/\el W sc sp ts
noncomputable def el(W:bf):!(Str×Str)->!(!(Str×Str)×Str)->!Tm->Prop
 | sc,sp,[]=>sp=[]
 | sc,sp,t::ts=>∃ e r,sp=e::r/\Ty W (sc++e.1) e.2 t/\el W sc r ts
end
theorem el.len{W:bf}{sc:!(Str×Str)}:∀ {sp:!(!(Str×Str)×Str)} {ts:!Tm},el W sc sp ts->ts.length=sp.length
 | sp,[],h=>by
  have h:sp=[]:=h;rw[h];rfl
 | sp,t::ts,h=>by
  let(e,r,rfl,_,h):=(show ∃ e r,sp=e::r/\Ty W (sc++e.1) e.2 t/\el W sc r ts from h);rw[Wi,Wi,el.len h]
theorem Ty.mk{W:bf}{sc:!(Str×Str)}{k:Str}{f:Fm}{ts:!Tm}{sp:!(!(Str×Str)×Str)}(h:pX W sc k f sp)(r:el W sc sp ts):Ty W sc k (.node f ts):=#[sp,h,r]
theorem el.nil{W:bf}{sc:!(Str×Str)}:el W sc [] []:=rfl
theorem el.cons{W:bf}{sc ex:!(Str×Str)}{k:Str}{t:Tm}{ts:!Tm}{sp:!(!(Str×Str)×Str)}(h:Ty W (sc++ex) k t)(r:el W sc sp ts):el W sc ((ex,k)::sp) (t::ts):=#[(ex,k),sp,U,h,r]
theorem el.rG{W:bf}{sc:!(Str×Str)}{k:Str}{t:Tm}{ts:!Tm}{sp:!(!(Str×Str)×Str)}(h:Ty W sc k t)(r:el W sc sp ts):el W sc (([],k)::sp) (t::ts):=el.cons (by rw[Wf];exact h) r
theorem el.app{W:bf}{sc:!(Str×Str)}:∀ {sp sq:!(!(Str×Str)×Str)} {ts us:!Tm},el W sc sp ts->el W sc sq us->el W sc (sp++sq) (ts++us)
 | sp,sq,[],us,h,h'=>by
  have h:sp=[]:=h;subst h;exact h'
 | sp,sq,t::ts,us,h,h'=>by
  let(e,r,rfl,h1,h):=(show ∃ e r,sp=e::r/\Ty W (sc++e.1) e.2 t/\el W sc r ts from h);exact#[e,r++sq,U,h1,el.app h h']
theorem Nm.ok{x:Str}(h:Nm x):Gc.strOk x=true:=h.1.strOk
theorem yy{W:bf}(w:dG W){j:Nat}{x:Str}(h:W.vars[j]?=some x):x∈W.vars:=WJ h
theorem nJ.nm{W:bf}(w:dG W){sc:!(Str×Str)}{ns:!Str}(b:nJ W sc ns):∀ x∈ns,Nm x:=λx hx=>by
 rcases b.2.2 x hx with h | ⟨j,_,h⟩
 .exact w.nm x (WQ _ h)
 .exact w.nm x (WD _ (yy w h))
theorem jB.nm{W:bf}(w:dG W){sc:!(Str×Str)}(h:jB W sc):∀ p∈sc,Nm p.1:=λp hp=>by
 rcases (h.ok p hp).2 with h | ⟨j,_,h⟩
 .exact w.nm _ (WQ _ h)
 .exact w.nm _ (WD _ (yy w h))
theorem kj.ok{W:bf}(w:dG W){k:Str}(h:kj W k):Gc.strOk k=true:=by
 rcases h with rfl | ⟨kd,hk,_,rfl⟩
 .decide+kernel
 .exact (w.kw kd hk).1.ok
theorem jB.more{W:bf}{sc:!(Str×Str)}(h:jB W sc){ns ks:!Str}(b:nJ W sc ns)(hl:ns.length=ks.length)(hk:∀ k∈ks,kj W k)(K5:sc.length+ns.length<=15):jB W (sc++ns.zip ks):=by
 have e1:(ns.zip ks).map (·.1)=ns:=Xc (by cbv);have e2:(ns.zip ks).length=ns.length:=by rw[WZ];cbv
 show#[by rw[Wa,e2];exact K5,?_,λp hp=>?_]
 .rw[Wc,e1,WI];exact#[h.nd,b.1,λx hx y hy e=>b.2.1 y hy (e▸hx)]
 .rcases WA.mp hp with hp | hp
  .let(h1,h2):=h.ok p hp;show#[h1,h2.imp id λ#[j,hj,e]=>#[j,by rw[Wa];cbv,e]]
  .have m1:p.1∈ns:=e1▸Wr (f:=(·.1)) hp;have m2:p.2∈ks:=by
    have:(ns.zip ks).map (·.2)=ks:=List.map_snd_zip (by cbv);exact this▸Wr (f:=(·.2)) hp
   show#[hk _ m2,(b.2.2 p.1 m1).imp id λ#[j,hj,e]=>#[j,by rw[Wa,e2];exact hj,e]]
theorem fJ{α β:Type}{nt:Nat}{us:!Nat}{g:pZ}{te:aV}(h:α->D)(f:β->D)(Rl:α->β->Prop){Q:!D->DS->Prop}{s:DS}:∀ (xs:!α) {acc:!D},(∀ x∈xs,∀ k:D->DS->Prop,(∀ (y:β) (s':DS),Rl x y->s'.os=s.os->k (f y) s')->g (h x) (iF nt us s) λs1=>te s1 k)->(∀ ys:!β,Paired Rl xs ys->Q (acc++ys.map f) s)->cA nt us g dI te (xs.map h) acc s Q
 | [],acc,_,q=>by
  have:=q [] .nil;rw[WR,Wf] at this;exact this
 | x::xs,acc,hx,q=>by
  have:=hx x Wg (λy s3=>cA nt us g dI te (xs.map h) (acc++[y]) #[s.sl,s3.os] Q) λy s' hy e=>by
   change cA nt us g dI te (xs.map h) (acc++[f y]) #[s.sl,s'.os] Q;rw[e];show fJ h f Rl xs (λz hz=>hx z (Wd _ hz)) λys hp=>?_;rw[WB];exact q (y::ys) (.cons hy hp)
  rw[Wj,cA];simpa [dI] using this
theorem fT{α β:Type}{F:α->β->Prop}:∀ {l₁:!α} {l₂:!β},Paired F l₁ l₂->l₂.length=l₁.length
 | _,_,.nil=>rfl
 | _,_,.cons _ t=>by rw[Wi,Wi,fT t]
theorem fU{α β:Type}{F:α->β->Prop}:∀ {l₁:!α} {l₂:!β},Paired F l₁ l₂->∀ y∈l₂,∃ x∈l₁,F x y
 | _,_,.nil,y,h=>nomatch h
 | _,_,.cons r t,y,h=>by
  rcases Wu.mp h with rfl | h
  .exact#[_,Wg,r]
  .let(x,hx,q):=fU t y h;exact#[x,Wd _ hx,q]
theorem Aa{α β:Type}{F:α->β->Prop}:∀ {l₁:!α} {l₂:!β},Paired F l₁ l₂->∀ {i:Nat} {x:α},l₁[i]?=some x->∃ y,l₂[i]?=some y/\F x y
 | _,_,.nil,i,x,h=>by simp at h
 | _,_,.cons r t,0,x,h=>by
  simp at h;subst h;exact#[_,U,r]
 | _,_,.cons r t,i+1,x,h=>by
  let(y,h1,h2):=Aa t (i:=i) (x:=x) (by simpa using h);exact#[y,by simpa using h1,h2]
theorem rN{β γ:Type}{F:Nat->β->Prop}{v:β->γ}{ns:!γ}(h:∀ i y,F i y->ns[i]?=some (v y)){n:Nat}{ys:!β}(p:Paired F (List.range n) ys):ys.map v=ns.take ys.length:=by
 have hl:=fT p;rw[W8] at hl;apply List.ext_getElem?;intro i;rw[WL,List.getElem?_take];by_cases hi:i < n
 .let(y,e,f):=Aa p (i:=i) (x:=i) (by simp[hi]);rw[e,if_pos (by cbv),h i y f]
  rfl
 .rw[if_neg (by cbv),XB (by cbv)]
  rfl
theorem BF{α β γ:Type}{F:α->β->Prop}{u:α->γ}{v:β->γ}(h:∀ x y,F x y->v y=u x):∀ {l₁:!α} {l₂:!β},Paired F l₁ l₂->l₂.map v=l₁.map u
 | _,_,.nil=>rfl
 | _,_,.cons r t=>by rw[Wj,Wj,h _ _ r,BF h t]
theorem pJ{α:Type}{f:α->D}{xs:!α}{r:Int}(h0:0<=r)(h1:r < xs.length):∃ x,xs[r.toNat]?=some x/\jF (xs.map f) r=some (f x):=by
 have hj:r.toNat < xs.length:=by cbv
 show#[xs[r.toNat],Wq hj,?_];have e:(r.toNat:Int)=r:=Int.toNat_of_nonneg h0;have q:=iC (xs:=xs.map f) (j:=r.toNat) (v:=f xs[r.toNat]) (by simp[hj]);rw[e] at q;exact q
theorem jP{α:Type}{f:α->D}{xs:!α}{r:Int}(h0:0<=r)(h1:r < xs.length):∃ x,x∈xs/\jF (xs.map f) r=some (f x):=by
 let(x,h,e):=pJ (f:=f) h0 h1;exact#[x,WJ h,e]
theorem fX(n:Nat):fk 0 n=(List.range n).map λ(i:Nat)=>D.int (i:Int):=by
 unfold fk;show XJ λi _=>?_;rw[Int.zero_add]
theorem ff{α:Type}{f:α->D}{xs:!α}{lo hi:Option Int}:cutD (xs.map f) lo hi=((xs.drop (HT.b8 xs.length 0 lo)).take (HT.b8 xs.length xs.length hi - HT.b8 xs.length 0 lo)).map f:=by
 unfold cutD;rw[V8,<- List.map_drop,<- List.map_take]
theorem v7{f:Str->D}{ws:!Str}{n:Int}(h0:0<=n)(h1:n<=ws.length):∃ al:!Str,cutD (ws.map f) (some n) none++cutD (ws.map f) none (some n)=al.map f/\al.Perm ws:=by
 have e1:HT.b8 ws.length 0 (some n)=n.toNat:=by
  unfold HT.b8;simp only[]
  repeat' split
  all_goals cbv
 have e2:HT.b8 ws.length ws.length (some n)=n.toNat:=by
  unfold HT.b8;simp only[]
  repeat' split
  all_goals cbv
 have e3:HT.b8 ws.length ws.length none=ws.length:=rfl;have e4:HT.b8 ws.length 0 none=0:=rfl;show#[ws.drop n.toNat++ws.take n.toNat,?_,?_]
 .rw[ff,ff,e1,e2,e3,e4,List.drop_zero,Nat.sub_zero,List.map_append,List.take_of_length_le (by simp)]
 .refine XC.trans ?_;rw[Xu]
def _root_.DL.Sl.pl:Sl->Bool
 | .own _=>false
 | _=>true
theorem cq{k i:Nat}{x:Sl}{r:!Sl}(h:x.pl=true):noRef k (i+1) (x::r)=noRef k i r:=by
 cases x with
 | own j=>cases h
 | _=>rfl
def zk(xs:!D)(j n:Nat):Prop:=j<=n/\xs=(List.range' j (n - j)).map λ(i:Nat)=>D.int (i:Int)
theorem zk.init(n:Nat):zk (fk 0 n) 0 n:=#[WH _,by rw[fX,Nat.sub_zero,List.range_eq_range']]
theorem zk.nil{j n:Nat}(h:zk [] j n):j=n:=by
 have:=congrArg List.length h.2;simp at this;have:=h.1;cbv
theorem zk.cons{x:D}{xs:!D}{j n:Nat}(h:zk (x::xs) j n):x=.int (j:Int)/\j < n/\zk xs (j+1) n:=by
 let(h1,h2):=h;have h3:=congrArg List.length h2;simp at h3;have e:n - j=(n - (j+1))+1:=by cbv
 rw[e,List.range'_succ,Wj] at h2;injection h2 with h4 h5;exact#[h4,by cbv,by cbv,h5]
def Dj(ns ss:!Str)(ps:!(Str×Str)):Prop:=ps.length<=3/\ps.map (·.1)=ns.take ps.length/\∀ p∈ps,p.2∈ss
abbrev hJ:!Str:=["number"]
def dZ(ks:!Kd):!Str:=ks.flatMap λk=>k.bz.map eB.name
def dA(ks:!Kd):!Str:=ks.flatMap λk=>k.bK.map dE.name
structure Qq(ws ns:!Str)(k:Kd):Prop where
 m0:k.bz≠[]
 ml:k.bz.length<=5
 al:k.bK.length<=5
 mp:∀ m∈k.bz,Dj ((ws.drop 24).take 3) (ns++hJ) m.fs
 mf:∀ m r,k.bz=m::r->∀ p∈m.fs,p.2="number"
 ap:∀ a∈k.bK,Dj ((ws.drop 27).take 3) (ns++hJ) a.ps/\a.res∈ns++hJ
structure ED(ws ns ML AL:!Str)(ks:!Kd):Prop where
 kl:ks.length<=ns.length
 kn:ks.map Kd.name=ns.take ks.length
 rg:∀ k∈ks,Qq ws ns k
 mn:dZ ks=ML.take (dZ ks).length
 an:dA ks=AL.take (dA ks).length
 mb:(dZ ks).length<=5 * ks.length
 ab:(dA ks).length<=5 * ks.length
theorem ED.nil{ws ns ML AL:!Str}:ED ws ns ML AL []:=#[WH _,U,λ_ h=>(nomatch h),U,U,WH _,WH _]
theorem gr(ks:!Kd)(k:Kd):dZ (ks++[k])=dZ ks++k.bz.map eB.name:=by simp[dZ]
theorem gj(ks:!Kd)(k:Kd):dA (ks++[k])=dA ks++k.bK.map dE.name:=by simp[dA]
theorem take_snoc{α:Type}{L A B:!α}(ha:A=L.take A.length)(hb:B=(L.drop A.length).take B.length):A++B=L.take (A++B).length:=by
 rw[Wa,List.take_add,<- ha,<- hb]
theorem ED.snoc{ws ns ML AL:!Str}{ks:!Kd}(h:ED ws ns ML AL ks){k:Kd}(r:Qq ws ns k)(hk:ns[ks.length]?=some k.name)(hm:k.bz.map eB.name=(ML.drop (dZ ks).length).take k.bz.length)(ha:k.bK.map dE.name=(AL.drop (dA ks).length).take k.bK.length):ED ws ns ML AL (ks++[k]):=by
 let(gE,e):=Wb.mp hk;show#[by simp;cbv,?_,λx hx=>?_,?_,?_,?_,?_]
 .rw[Wc,h.kn,Wa,List.take_add]
  congr 1
  change [k.name]=(ns.drop ks.length).take 1;rw[WW gE,e]
  rfl
 .rcases WA.mp hx with hx | hx
  .exact h.rg x hx
  .rw[Wn.mp hx];exact r
 .rw[gr];exact take_snoc h.mn (by rw[V8];exact hm)
 .rw[gj];exact take_snoc h.an (by rw[V8];exact ha)
 .have:=h.mb;have:=r.ml;rw[gr,Wa,Wa,V8];simp;cbv
 .have:=h.ab;have:=r.al;rw[gj,Wa,Wa,V8];simp;cbv
theorem b5{k:Nat}{d:D}{x:Sl}(h:x.pl=true):(iJ k d x).pl=true:=by
 cases x with
 | own j=>cases h
 | _=>rfl
structure GW(ws ns L:!Str)(ms:!eB):Prop where
 nm:ms.map eB.name=L.take ms.length
 mp:∀ m∈ms,Dj ((ws.drop 24).take 3) (ns++hJ) m.fs
 mf:∀ m r,ms=m::r->∀ p∈m.fs,p.2="number"
theorem GW.nil{ws ns L:!Str}:GW ws ns L []:=#[U,λ_ h=>(nomatch h),λ_ _ h=>by simp at h]
theorem qB{α β:Type}{v:β->α}{L:!α}{ms:!β}{m:β}(h:ms.map v=L.take ms.length)(e:L[ms.length]?=some (v m)):(ms++[m]).map v=L.take (ms++[m]).length:=by
 let(gE,e):=Wb.mp e;rw[Wc,h,Wa,List.take_add]
 congr 1
 change [v m]=(L.drop ms.length).take 1;rw[WW gE,e]
 rfl
theorem GW.snoc{ws ns L:!Str}{ms:!eB}(h:GW ws ns L ms){m:eB}(e:L[ms.length]?=some m.name)(hp:Dj ((ws.drop 24).take 3) (ns++hJ) m.fs)(hf:ms=[]->∀ p∈m.fs,p.2="number"):GW ws ns L (ms++[m]):=by
 show#[qB h.nm e,λx hx=>?_,λx r hx=>?_]
 .rcases WA.mp hx with hx | hx
  .exact h.mp x hx
  .rw[Wn.mp hx];exact hp
 .cases ms with
  | nil =>
   injection hx with e1 e2;subst e1;exact hf U
  | cons y ys =>
   injection hx with e1 e2;subst e1;exact h.mf _ _ U
structure CZ(ws ns L:!Str)(as:!dE):Prop where
 nm:as.map dE.name=L.take as.length
 ap:∀ a∈as,Dj ((ws.drop 27).take 3) (ns++hJ) a.ps/\a.res∈ns++hJ
theorem CZ.nil{ws ns L:!Str}:CZ ws ns L []:=#[U,λ_ h=>nomatch h]
theorem CZ.snoc{ws ns L:!Str}{as:!dE}(h:CZ ws ns L as){a:dE}(e:L[as.length]?=some a.name)(hp:Dj ((ws.drop 27).take 3) (ns++hJ) a.ps)(hr:a.res∈ns++hJ):CZ ws ns L (as++[a]):=by
 show#[qB h.nm e,λx hx=>?_];rcases WA.mp hx with hx | hx
 .exact h.ap x hx
 .rw[Wn.mp hx];exact#[hp,hr]
theorem Dj.sub{ns ss tt:!Str}{ps:!(Str×Str)}(h:Dj ns ss ps)(hs:∀ x∈ss,x∈tt):Dj ns tt ps:=#[h.1,h.2.1,λp hp=>hs _ (h.2.2 p hp)]
theorem GY{L:!Str}{n j:Nat}(h:n+j < L.length):∃ x,L[n+j]?=some x/\(L.drop n)[j]?=some x/\seqIndex? 0 (((L.drop (n+j)).map D.str)).length=some 0/\((L.drop (n+j)).map D.str)[0]?=some (.str x)/\((L.drop (n+j)).map D.str).eraseIdx 0=(L.drop (n+(j+1))).map D.str:=by
 show#[L[n+j],Wq h,?_,?_,?_,?_]
 .rw[Xy,Wq h]
 .rw[V8,Xm];exact PySem.seqIndex_of () (by cbv)
 .rw[WL,Xy,Nat.add_zero,Wq h]
  rfl
 .rw[List.eraseIdx_zero,<- List.map_tail,List.tail_drop]
  congr 1
theorem xQ{r:Int}(h0:0<=r)(h1:r < 2):∃ b:Bool,jF [D.str "made",D.str "asked"] r=some (.str (c9 b)):=by
 have:r=0\/r=1:=by cbv
 rcases this with rfl | rfl
 .exact#[false,U]
 .exact#[true,U]
def oP(ws:!Str)(ks:!Kd)(inner:Bool):bf:=#[ks,ws.drop 30,(ws.drop 24).take 6,inner,ws]
theorem pb{ws:!Str}(h:ws.Nodup){n j:Nat}(hn:n<=j){x:Str}(e:ws[j]?=some x):(ws.take n++[x]).Nodup:=by
 let(hj,e):=Wb.mp e;have hs:(ws.take n++[x]).Sublist ws:=by
  have h1:(ws.take n++[x]).Sublist (ws.take n++ws.drop n):=by
   show XM (Xi _) (List.singleton_sublist.mpr ?_);have:(ws.drop n)[j - n]?=some x:=by
    rw[Xy,show n+(j - n)=j by cbv,Wq hj,e]
   exact WJ this
  rwa [Xu] at h1
 exact h.sublist hs
theorem eS{W:bf}{k:Option D->Prop}(h:k (some (.lst (W.kinds.map kh)))):wK (eL W)=true/\sC (eL W) (.str "kinds") k:=#[U,.inl #[_,_,_,U,U,h]]
theorem zx{W:bf}{k:Option D->Prop}(h:k (some (.lst (W.vars.map .str)))):wK (eL W)=true/\sC (eL W) (.str "vars") k:=#[U,.inl #[_,_,_,U,U,h]]
theorem vL{W:bf}{k:Option D->Prop}(h:k (some (.lst (W.heads.map .str)))):wK (eL W)=true/\sC (eL W) (.str "heads") k:=#[U,.inl #[_,_,_,U,U,h]]
theorem oB{W:bf}{k:Option D->Prop}(h:k (some (.bl W.inner))):wK (eL W)=true/\sC (eL W) (.str "inner") k:=#[U,.inl #[_,_,_,U,U,h]]
theorem e8{α:Type}{f:α->D}:∀ {l:!α},(∀ x∈l,ni (f x)=true)->tP (l.map f)=true
 | [],_=>rfl
 | x::l,h=>by
  change (ni (f x)&&tP (l.map f))=true;rw[h x Wg,e8 λy hy=>h y (Wd _ hy)]
  rfl
theorem sX{W:bf}(w:dG W){ns:!Str}(hn:∀ x∈ns,Nm x){ps:!(Str×Str)}(h:B6 W ns ps):ni (bW ps)=true:=by
 show e8 λp hp=>?_;have h1:p.1∈ns:=by
  have:p.1∈ps.map (·.1):=Wr hp;rw[h.2.1] at this;exact W7 this
 change (Gc.strOk p.1&&(Gc.strOk p.2&&true))=true;rw[(hn _ h1).ok,(h.2.2 p hp).ok w]
 rfl
theorem xu{W:bf}(w:dG W){k:Kd}(hk:k∈W.kinds):ni (.tup (k.bz.map dB))=true:=by
 show e8 λm hm=>?_;let(h1,h2):=w.mo k hk m hm;change (Gc.strOk m.name&&(ni (bW m.fs)&&true))=true;rw[h1.ok,sX w (λx hx=>w.nm x (WQ _ (W7 hx))) h2]
 rfl
theorem Fb{W:bf}(w:dG W){k:Kd}(hk:k∈W.kinds):ni (.tup (k.bK.map cW))=true:=by
 show e8 λa ha=>?_;let(h1,h2,h3):=w.ao k hk a ha;change (Gc.strOk a.name&&(ni (bW a.ps)&&(Gc.strOk a.res&&true)))=true;rw[h1.ok,sX w (λx hx=>w.nm x (WQ _ (XG hx))) h2,h3.ok w]
 rfl
def things(W:bf):!Kd:=W.kinds.filter λk=>(not k.bz.isEmpty)
theorem fR{W:bf}{k:Kd}:k∈things W↔k∈W.kinds/\k.bz≠[]:=by
 unfold things;rw[W9];simp
theorem nJ.heads{W:bf}(w:dG W){sc:!(Str×Str)}{al:!Str}(p:al.Perm (W.heads.filter λx=>(not (decide (x∈sc.map (·.1))))))(m:Nat):nJ W sc (al.take m):=by
 have mem:∀ x∈al.take m,x∈W.heads/\x∉sc.map (·.1):=λx hx=>by
  have:=p.mem_iff.mp (W7 hx);let(h1,h2):=W9.mp this;exact#[h1,by simpa using h2]
 show#[?_,λx hx=>(mem x hx).2,λx hx=>.inl (mem x hx).1];have h1:W.heads.Nodup:=(WI.mp w.nd).1;exact (p.nodup_iff.mpr (h1.sublist List.filter_sublist)).sublist (WT _ _)
theorem nJ.vars{W:bf}(w:dG W){sc:!(Str×Str)}(s:jB W sc){m:Nat}{ns:!Str}(p:Paired (λk x=>W.vars[sc.length+k]?=some x) (List.range m) ns):nJ W sc ns:=by
 have hl:=fT p;rw[W8] at hl;have h2:W.vars.Nodup:=(WI.mp w.nd).2.1;have e:ns=(W.vars.drop sc.length).take ns.length:=by
  have:=rN (v:=id) (ns:=W.vars.drop sc.length) (λi y h=>by rw[Xy];exact h) p;simpa using this
 show#[?_,λx hx hs=>?_,λx hx=>?_]
 .rw[e];exact h2.sublist ((WT _ _).trans (List.drop_sublist _ _))
 .let(k,_,hk):=fU p x hx;let(q,hq,eq):=Wk.mp hs;rcases (s.ok q hq).2 with h | ⟨j,hj,ej⟩
  .rw[eq] at h;exact (WI.mp w.nd).2.2 x h x (WJ hk) U
  .rw[eq] at ej;let(l1,g1):=Wb.mp hk;let(l2,g2):=Wb.mp ej;have:=(X0 h2).mp (g1.trans g2.symm);cbv
 .let(k,hk,hv):=fU p x hx;have:=Xp.mp hk;exact .inr #[sc.length+k,by cbv,hv]
theorem y4{ws:!Str}:(ws.map D.str).all gJ=true:=by
 rw[List.all_map];exact Xo.mpr λ_ _=>rfl
theorem xn{x:Str}{ws:!Str}:v3 (fv (.str x)) ((ws.map D.str).map fv)=decide (x∈ws):=by
 rw[Wo];exact fh
theorem eu{a b:Str}:decide (fv (.str a)=fv (.str b))=decide (a=b):=by
 change decide (V.str a=V.str b)=_;by_cases h:a=b
 .simp[h]
 .have:¬ V.str a=V.str b:=λe=>h (by injection e);rw[decide_eq_false this,decide_eq_false h]
theorem tK{W:bf}(w:dG W){a b:Kd}(ha:a∈W.kinds)(hb:b∈W.kinds)(e:a.name=b.name):a=b:=by
 let(i,hi,rfl):=Xk ha;let(j,hj,rfl):=Xk hb;have:=XI.mp w.kn;have h2:(W.kinds.map Kd.name)[i]'(by simpa using hi)=(W.kinds.map Kd.name)[j]'(by simpa using hj):=by simpa using e
 have:=(X0 w.kn).mp h2;subst this
 rfl
theorem kf{α:Type}{p:α->Bool}{a:α}:∀ {l:!α},a∈l->p a=true->(∀ x∈l,p x=true->x=a)->∃ n,l.filter p=List.replicate (n+1) a
 | [],h,_,_=>nomatch h
 | x::l,h,ha,hu=>by
  by_cases hx:p x=true
  .have e:=hu x Wg hx;subst e;rw[List.filter_cons_of_pos hx];by_cases hm:x∈l
   .let(n,e):=kf hm ha λy hy=>hu y (Wd _ hy);exact#[n+1,by rw[e];rfl]
   .refine#[0,?_];have:l.filter p=[]:=List.filter_eq_nil_iff.mpr λy hy hp=>hm (hu y (Wd _ hy) hp▸hy);rw[this]
    rfl
  .rw[List.filter_cons_of_neg hx];show kf ?_ ha λy hy=>hu y (Wd _ hy);rcases Wu.mp h with rfl | h
   .exact absurd ha hx
   .exact h
theorem kinds_of{W:bf}(w:dG W){k:Str}(h:kj W k)(hn:k≠"number"):∃ kd∈W.kinds,kd.bz≠[]/\kd.name=k/\∃ n,(W.kinds.filter λx=>decide (x.name=k))=List.replicate (n+1) kd:=by
 rcases h with h | ⟨kd,h1,h2,h3⟩
 .exact absurd h hn
 .exact#[kd,h1,h2,h3,kf h1 (by simpa using h3) λx hx hp=>tK w hx h1 (by rw[h3];simpa using hp)]
end DL
namespace DL
theorem jn{C G:Prop}(iM:C)(h:C->G):G:=h iM
end DL
namespace DL
open PySem L2
theorem xf{α:Type}{W:bf}{sc:!(Str×Str)}{F:α->Tm->Prop}{v:α->Str}:∀ {ps:!α} {ts:!Tm},Paired F ps ts->(∀ p∈ps,∀ t,F p t->Ty W sc (v p) t)->el W sc (ps.map λp=>([],v p)) ts
 | _,_,.nil,_=>el.nil
 | _,_,.cons (a:=p) r t,h=>el.rG (h _ Wg _ r) (xf t λq hq=>h q (Wd _ hq))
theorem yP{x:D}{xs:!D}:cutD (x::xs) (some 1) none=xs:=by
 unfold cutD;have e1:HT.b8 (x::xs).length 0 (some 1)=1:=by
  unfold HT.b8;simp only[List.length_cons]
  repeat' split
  all_goals cbv
 have e2:HT.b8 (x::xs).length (x::xs).length none=(x::xs).length:=rfl;rw[e1,e2,List.drop_succ_cons,List.drop_zero,List.take_of_length_le (by simp)]
theorem kD{f:Fm}{ts:!Tm}{n:Nat}(h:∀ t∈ts,t.dep<=n):(Tm.node f ts).dep<=n+1:=by
 have:=xG h;change Bi ts+1<=n+1;cbv
theorem Au{W:bf}(w:dG W){k:Kd}(hk:k∈W.kinds):ni (kh k)=true:=by
 change (Gc.strOk (c9 k.asked)&&(Gc.strOk k.name&&(ni (.tup (k.bz.map dB))&&(ni (.tup (k.bK.map cW))&&true))))=true;rw[(w.kw k hk).1.ok,xu w hk,Fb w hk];cases k.asked<;>decide+kernel
theorem MK{W:bf}(w:dG W){k:Kd}(hk:k∈W.kinds):k.name≠"number":=λe=>by
 have:=(w.kw k hk).1.2.2.2.1;rw[e] at this;exact this (by decide+kernel)
theorem Bs{W:bf}(w:dG W){k:Str}(h:kj W k){kd:Kd}(hk:kd∈W.kinds)(e:kd.name=k):kd.bz≠[]:=by
 rcases h with h | ⟨kd',h1,h2,h3⟩
 .exact absurd (e.trans h) (MK w hk)
 .have:=tK w hk h1 (e.trans h3.symm);rw[this];exact h2
theorem Aq(t:Tm):(not (wG (toD t)))=true:=by
 cases t with
 | node f ks=>cases f<;>rfl
end DL
namespace DL
open PySem PySem.Spec L2
theorem pX.ar{W:bf}(w:dG W){sc:!(Str×Str)}{k:Str}{f:Fm}{sp:!(!(Str×Str)×Str)}(h:pX W sc k f sp):f.ar sp.length=true:=by
 cases h with
 | nm _=>rfl
 | num _ _=>rfl
 | op _=>rfl
 | sU=>rfl
 | lt _ _=>rfl
 | mk _ _=>rfl
 | ask _ _ _=>simp[Fm.ar]
 | @j9 _ kd sub h1 h2 h3 h4 h5 =>
  simp only[Fm.ar,List.length_cons,List.length_map,beq_self_eq_true,Bool.true_and,List.all_eq_true,List.mem_map];rintro _ ⟨p,hp,rfl⟩;have hm:p.1∈kd.bz:=h4.subset (Wr hp);have:=(w.mo kd h1 p.1 hm).2.1;have:=(h5 p hp).1;simp;cbv
 | @new kd sub h1 h2 h3 h4 h5 =>
  simp only[Fm.ar,List.length_map,beq_self_eq_true,Bool.true_and,List.all_eq_true,List.mem_map];rintro _ ⟨p,hp,rfl⟩;have hm:p.1∈kd.bK:=h4.subset (Wr hp);have:=(w.ao kd h1 p.1 hm).2.1.1;have:=(h5 p hp).1;simp;cbv
theorem pX.strs{W:bf}(w:dG W){sc:!(Str×Str)}{k:Str}{f:Fm}{sp:!(!(Str×Str)×Str)}(ky:∀ p∈sc,Gc.strOk p.1=true)(hk:Gc.strOk k=true)(h:pX W sc k f sp):f.strs.all Gc.strOk=true/\∀ e∈sp,Gc.strOk e.2=true/\∀ p∈e.1,Gc.strOk p.1=true:=by
 have num:Gc.strOk ("number":Str)=true:=by decide+kernel
 cases h with
 | @nm x _ hx=>exact#[by simp[Fm.strs,ky _ hx],λ_ h=>by cases h]
 | num _ _=>exact#[U,λ_ h=>by cases h]
 | @op o ho =>
  show#[?_,λe he=>?_]
  .simp only[Fm.strs,List.all_cons,List.all_nil,Bool.and_true]
   revert o
   decide+kernel
  .simp at he;subst he;exact#[num,λ_ h=>by cases h]
 | sU =>
  show#[U,λe he=>?_];simp at he;rcases he with rfl | rfl
  .exact#[num,λ_ h=>by cases h]
  .exact#[hk,λ_ h=>by cases h]
 | @lt x _ k' hb CK =>
  have hx:=(hb.nm w x (Wn.mpr U)).ok;show#[by simp[Fm.strs,hx],λe he=>?_];simp at he;rcases he with rfl | rfl
  .exact#[CK.ok w,λ_ h=>by cases h]
  .exact#[hk,λp hp=>by rw[Wn.mp hp];exact hx]
 | @mk kd m h1 h2 =>
  let(m1,m2,m3,m4):=w.mo kd h1 m h2;show#[by simp[Fm.strs,m1.ok],λe he=>?_];let(p,hp,rfl):=Wk.mp he;exact#[(m4 p hp).ok w,λ_ h=>by cases h]
 | @ask kd a h1 h2 h3 =>
  let(m1,(m2,m3,m4),m5):=w.ao kd h1 a h3;show#[by simp[Fm.strs,m1.ok],λe he=>?_];rcases Wu.mp he with rfl | he
  .exact#[(w.kw kd h1).1.ok,λ_ h=>by cases h]
  let(p,hp,rfl):=Wk.mp he;exact#[(m4 p hp).ok w,λ_ h=>by cases h]
 | @j9 _ kd sub h1 h2 h3 h4 h5 =>
  show#[?_,λe he=>?_]
  .simp only[Fm.strs,List.all_cons,hk,Bool.true_and,List.map_map,List.all_flatten,List.all_map,List.all_eq_true];intro p hp;have hm:p.1∈kd.bz:=h4.subset (Wr hp);simp only[Function.comp,List.all_cons,(w.mo kd h1 p.1 hm).1.ok,Bool.true_and,List.all_eq_true];exact λx hx=>((h5 p hp).2.nm w x hx).ok
  .rcases Wu.mp he with rfl | he
   .exact#[(w.kw kd h1).1.ok,λ_ h=>by cases h]
   let(p,hp,rfl):=Wk.mp he;show#[hk,λq hq=>?_];exact ((h5 p hp).2.nm w _ (WO hq).1).ok
 | @new kd sub h1 h2 h3 h4 h5 =>
  show#[?_,λe he=>?_]
  .simp only[Fm.strs,List.all_cons,hk,Bool.true_and,List.map_map,List.all_flatten,List.all_map,List.all_eq_true];intro p hp;have hm:p.1∈kd.bK:=h4.subset (Wr hp);simp only[Function.comp,List.all_cons,(w.ao kd h1 p.1 hm).1.ok,Bool.true_and,List.all_eq_true];exact λx hx=>((h5 p hp).2.nm w x hx).ok
  .let(p,hp,rfl):=Wk.mp he;have hm:p.1∈kd.bK:=h4.subset (Wr hp);show#[(w.ao kd h1 p.1 hm).2.2.ok w,λq hq=>?_];exact ((h5 p hp).2.nm w _ (WO hq).1).ok
mutual
theorem Ty.good{W:bf}(w:dG W):∀ (t:Tm) (sc:!(Str×Str)) (k:Str),(∀ p∈sc,Gc.strOk p.1=true)->Gc.strOk k=true->Ty W sc k t->t.wf=true/\t.Gs=true
 | .node f ts,sc,k,ky,hk,h=>by
  let(sp,hf,hr):=(show ∃ sp,pX W sc k f sp/\el W sc sp ts from h);let(s1,s2):=hf.strs w ky hk;let(g1,g2):=el.good w ts sc sp ky s2 hr;show#[?_,?_]
  .show (f.ar ts.length&&Mb ts)=true;rw[hr.len,hf.ar w,g1]
   rfl
  .show (f.strs.all Gc.strOk&&Df ts)=true;rw[s1,g2]
   rfl
theorem el.good{W:bf}(w:dG W):∀ (ts:!Tm) (sc:!(Str×Str)) (sp:!(!(Str×Str)×Str)),(∀ p∈sc,Gc.strOk p.1=true)->(∀ e∈sp,Gc.strOk e.2=true/\∀ p∈e.1,Gc.strOk p.1=true)->el W sc sp ts->Mb ts=true/\Df ts=true
 | [],sc,sp,ky,hs,h=>#[U,U]
 | t::ts,sc,sp,ky,hs,h=>by
  let(e,r,rfl,h1,h2):=(show ∃ e r,sp=e::r/\Ty W (sc++e.1) e.2 t/\el W sc r ts from h);let(e1,e2):=hs e Wg;let(a1,a2):=Ty.good w t (sc++e.1) e.2 (λp hp=>(WA.mp hp).elim (ky p) (e2 p)) e1 h1;let(b1,b2):=el.good w ts sc r ky (λx hx=>hs x (Wd _ hx)) h2;exact#[by change (t.wf&&Mb ts)=true;rw[a1,b1];rfl,by change (t.Gs&&Df ts)=true;rw[a2,b2];rfl]
end
structure PK where
 asked:Bool
 kd:Kd
 tabs:!(!(Str×Tm))
def qJ(r:Str×Tm):D:=.tup [.str r.1,toD r.2]
def J7(rs:!(Str×Tm)):D:=.tup (rs.map qJ)
def f9(x:eB×!(Str×Tm)):D:=.tup [.str x.1.name,bW x.1.fs,J7 x.2]
def fV(x:dE×!(Str×Tm)):D:=.tup [.str x.1.name,bW x.1.ps,.str x.1.res,J7 x.2]
def dq(p:PK):!D:=if p.asked=true then (p.kd.bz.zip p.tabs).map f9 else (p.kd.bK.zip p.tabs).map fV
def LV(p:PK):D:=if p.asked=true then .tup (p.kd.bK.map cW) else .tup (p.kd.bz.map dB)
def eZ(p:PK):D:=.tup [.str (c9 p.asked),.str p.kd.name,LV p,.tup (dq p)]
def uw(p:PK):!(Str×!(Str×Tm)):=(if p.asked=true then p.kd.bz.map eB.name else p.kd.bK.map dE.name).zip p.tabs
def gU(asked:Bool)(b:Str×!(Str×Tm)):!((Str×Str)×Tm):=b.2.map λr=>(if asked=true then (b.1,r.1) else (r.1,b.1),r.2)
def ents(p:PK):!((Str×Str)×Tm):=(uw p).flatMap (gU p.asked)
theorem uv{ms:!eB}{ts:!(!(Str×Tm))}(h:ts.length=ms.length){α:Type}(f:eB->α):(ms.zip ts).map (λx=>f x.1)=ms.map f:=by
 have:(ms.zip ts).map Prod.fst=ms:=Xc (by cbv);rw[show (λx:eB×!(Str×Tm)=>f x.1)=f∘Prod.fst from U,<- Wo,this]
theorem pI{ms:!dE}{ts:!(!(Str×Tm))}(h:ts.length=ms.length){α:Type}(f:dE->α):(ms.zip ts).map (λx=>f x.1)=ms.map f:=by
 have:(ms.zip ts).map Prod.fst=ms:=Xc (by cbv);rw[show (λx:dE×!(Str×Tm)=>f x.1)=f∘Prod.fst from U,<- Wo,this]
theorem G9{kd:Kd}{ts:!(!(Str×Tm))}:uw #[true,kd,ts]=(kd.bz.zip ts).map λx=>(x.1.name,x.2):=by
 change (kd.bz.map eB.name).zip ts=_;rw[XY];exact XJ λx _=>rfl
theorem Kv{kd:Kd}{ts:!(!(Str×Tm))}:uw #[false,kd,ts]=(kd.bK.zip ts).map λx=>(x.1.name,x.2):=by
 change (kd.bK.map dE.name).zip ts=_;rw[XY];exact XJ λx _=>rfl
end DL
namespace DL
open PySem L2
theorem eg(b:Bool):decide (fv (.str (c9 b))=fv (.str "made"))=(not b):=by cases b<;>decide+kernel
theorem fW(b:Bool):decide (fv (.str (c9 b))=fv (.str "asked"))=b:=by cases b<;>decide+kernel
theorem lA{W:bf}(w:dG W){kd:Kd}(hk:kd∈W.kinds){m:eB}(hm:m∈kd.bz){a:dE}(ha:a∈kd.bK):jB W (m.fs++a.ps):=by
 let(_,m2,m3,m4):=w.mo kd hk m hm;let(_,(a2,a3,a4),_):=w.ao kd hk a ha;have hh:W.heads.take 3++W.heads.drop 3=W.heads:=Xu _ _;have hn:W.heads.Nodup:=(WI.mp w.nd).1;have hs:((m.fs++a.ps).map (·.1)).Sublist W.heads:=by
  rw[Wc,m3,a3];have:=XM (WT m.fs.length (W.heads.take 3)) (WT a.ps.length (W.heads.drop 3))
  rwa [hh] at this
 show#[by rw[Wa];cbv,hn.sublist hs,λp hp=>#[?_,.inl (hs.subset (Wr hp))]];rcases WA.mp hp with h | h
 .exact m4 p h
 .exact a4 p h
theorem xl{α β:Type}{F:α->β->Prop}:∀ {l₁:!α} {l₂:!β} {a:α} {b:β},Paired F l₁ l₂->F a b->Paired F (l₁++[a]) (l₂++[b])
 | _,_,a,b,.nil,h=>.cons h .nil
 | _,_,a,b,.cons r t,h=>.cons r (xl t h)
end DL
namespace DL
open PySem PySem.Spec L2
theorem ie{α β:Type}{nt:Nat}{us:!Nat}{g:pZ}{ti:lD}{te:aV}(h:α->D)(f:β->D)(Rl:α->β->Prop){Q:!D->DS->Prop}{s:DS}:∀ (xs:!α) {acc:!D},
  (∀ x∈xs,∀ (k:D->DS->Prop) (N:DS->Prop),(∀ (y:β) (s':DS),Rl x y->s'.os=s.os->k (f y) s')->(∀ s':DS,s'.os=s.os->N s')->g (h x) (iF nt us s) λs1=>ti s1 λb s2=>if b=true then te s2 k else N s2)->(∀ (sub:!α) (ys:!β),sub.Sublist xs->Paired Rl sub ys->Q (acc++ys.map f) s)->cA nt us g ti te (xs.map h) acc s Q
 | [],acc,_,q=>by
  have:=q [] [] (Xi _) .nil;rw[WR,Wf] at this;exact this
 | x::xs,acc,hx,q=>by
  show hx x Wg (λy s3=>cA nt us g ti te (xs.map h) (acc++[y]) #[s.sl,s3.os] Q) (λs2=>cA nt us g ti te (xs.map h) acc #[s.sl,s2.os] Q) (λy s' hy e=>?_) λs' e=>?_
  .show cA nt us g ti te (xs.map h) (acc++[f y]) #[s.sl,s'.os] Q;rw[e];show ie h f Rl xs (λz hz=>hx z (Wd _ hz)) λsub ys hs hp=>?_;rw[WB];exact q (x::sub) (y::ys) (hs.cons_cons _) (.cons hy hp)
  .show cA nt us g ti te (xs.map h) acc #[s.sl,s'.os] Q;rw[e];exact ie h f Rl xs (λz hz=>hx z (Wd _ hz)) λsub ys hs hp=>q sub ys (hs.cons _) hp
theorem qY{α:Type}(w:Int)(xs:!α):(k9 w xs).Perm xs:=by
 unfold k9;split
 .exact List.Perm.refl _
 .exact List.reverse_perm _
theorem uK{α β:Type}(f:α->β)(w:Int)(xs:!α):k9 w (xs.map f)=(k9 w xs).map f:=by
 unfold k9;split
 .rfl
 .rw[List.map_reverse]
theorem yN(b:Bool)(x:Str×!(Str×Tm)):(gU b x).length=x.2.length:=by unfold gU;rw[List.length_map]
theorem Ep{b:Bool}{bs:!(Str×!(Str×Tm))}{e:(Str×Str)×Tm}(h:e∈bs.flatMap (gU b)):∃ x∈bs,∃ r∈x.2,e=(if b=true then (x.1,r.1) else (r.1,x.1),r.2):=by
 let(x,hx,he):=Xd.mp h;let(r,hr,e):=Wk.mp he;exact#[x,hx,r,hr,e.symm]
theorem qU{b:Bool}:∀ {bs:!(Str×!(Str×Tm))},(bs.map (·.1)).Nodup->(∀ x∈bs,(x.2.map (·.1)).Nodup)->((bs.flatMap (gU b)).map (·.1)).Nodup
 | [],_,_=>XU
 | x::bs,h1,h2=>by
  rw[Wj,W3] at h1;rw[Wv,Wc,WI];show#[?_,qU h1.2 λy hy=>h2 y (Wd _ hy),?_]
  .have:=h2 x Wg;unfold gU;rw[Wo];rw[XI,List.pairwise_map] at this ⊢;show this.imp λ{a c} hac e=>hac ?_;cases b with
   | true=>exact (Prod.mk.inj e).2
   | false=>exact (Prod.mk.inj e).1
  .intro k hk k' CK e;subst e;let(a,ha,rfl):=Wk.mp hk;let(c,hc,ec):=Wk.mp CK;let(r,hr,rfl):=Wk.mp ha;let(y,hy,r2,hr2,rfl):=Ep hc;show h1.1 ?_;have:y.1=x.1:=by
    cases b with
    | true=>exact (Prod.mk.inj ec).1
    | false=>exact (Prod.mk.inj ec).2
   rw[<- this];exact Wr hy
theorem yk{b:Bool}:∀ {bs:!(Str×!(Str×Tm))},(∀ x∈bs,x.2.length<=5)->(bs.flatMap (gU b)).length<=5 * bs.length
 | [],_=>WH _
 | x::bs,h=>by
  have h1:=h x Wg;have h2:=yk (b:=b) λy hy=>h y (Wd _ hy);rw[Wv,Wa,yN,Wi];cbv
theorem jq{W:bf}(w:dG W){kd:Kd}(hk:kd∈W.kinds):(kd.bz.map eB.name).Nodup:=by
 let(a,c,e):=List.append_of_mem hk;have:=w.mn;rw[e,WE,Wv] at this;exact (WI.mp (WI.mp this).2.1).1
theorem jz{W:bf}(w:dG W){kd:Kd}(hk:kd∈W.kinds):(kd.bK.map dE.name).Nodup:=by
 let(a,c,e):=List.append_of_mem hk;have:=w.an;rw[e,WE,Wv] at this;exact (WI.mp (WI.mp this).2.1).1
theorem ji{W:bf}(w:dG W){kd:Kd}(hk:kd∈W.kinds){m:eB}(hm:m∈kd.bz){a:dE}(ha:a∈kd.bK){t:Tm}(h:Ty W (m.fs++a.ps) a.res t):t.wf=true/\t.Gs=true :=
 Ty.good w t _ _ (λp hp=>((DL.lA w hk hm ha).nm w p hp).ok) ((w.ao kd hk a ha).2.2.ok w) h
end DL
namespace DL
open PySem L2
theorem map_one{α:Type}{f:α->Str}{l:!α}(h:(l.map f).Nodup){a b:α}(ha:a∈l)(hb:b∈l)(e:f a=f b):a=b:=by
 let(i,hi,rfl):=Xk ha;let(j,hj,rfl):=Xk hb;have h2:(l.map f)[i]'(by simpa using hi)=(l.map f)[j]'(by simpa using hj):=by simpa using e
 have:=(X0 h).mp h2;subst this
 rfl
theorem lz{α β:Type}{l:!α}{m:!β}{a:α}{b:β}(h:m.length=l.length):(l++[a]).zip (m++[b])=l.zip m++[(a,b)]:=by
 rw[List.zip_append (by cbv)]
 rfl
end DL
namespace Dm
open PySem Sem
open PySem.AutoSeq1 (wpAny_loadPart')
section
variable{prog:GE}{w:Fa}{A:Fr}{E:X7}{s:Da}
theorem Uk(id:String)(c:Int)(tk:Tok):Fk.SmallTypes.indexObject id (AT.int c tk)=Pure.pure (AT.int c tk):=by
 unfold Fk.SmallTypes.indexObject;have h:asInt? (AT.int c tk)=Pure.pure (some c):=rfl;rw[h,pure_bind]
 rfl
theorem zi(l:AC)(xs:Array AT)(k c:Nat)(tk:Tok)(od:Option AC)(sl:Array (Option AT))(hc:Fk.SmallTypes.fitsIndex (c:Int)=true) :
  Meets (Fk.«enumerate.__new__» #[[.type "enumerate",.ref l],[("start",.int c tk)]]) λ_ R s=>s.heap.get? l=some #[.type "tuple",od,.seq xs k,sl] /\
   R (.ok (.ret (.ref (s.heap.push { cls:=.type "tuple_iterator",data:=.fields #v[.ref l,.int 0 0] }).objs.size)))
    { s with heap:=(s.heap.push { cls:=.type "tuple_iterator",data:=.fields #v[.ref l,.int 0 0] }).push { cls:=.type "enumerate",data:=.fields #v[.none,.bool false,.ref ↑s,KF c,.none,.none] } } :=
 .of_wp λprog w A R s h=>by
  let(hp,g,d,t,os):=s;let(hl,h):=h;have hs:=sub_enumerate;have hT:EQ.IsTuple (Da.heap #[hp,g,d,t,os]) l xs:=#[_,hl,U,k,U]
  wp_walk using wpAny_loadPart' hl
  show wpAny_stack_any λst=>FS ?_;have hc':(not (Fk.SmallTypes.fitsIndex (c:Int)))=false:=by rw[hc];rfl
  split
  .rename_i v _ _ _ _ _
   extract_lets z gv dj
   have hd:∀ x:AT×Option AT,x=(AT.ref l,some (AT.int c tk))->Db (model prog w) A.in1 (dj x) (λfin s'=>∃ v,fin=Fin.done (Flow.ret v)/\R (.ok (.ret v)) s') (λe s'=>R (.error e) s') #[hp,g,d,t,os]:=by
    rintro _ rfl;dsimp only[dj];rw[Uk,pure_bind,show asInt? (AT.int c tk)=Pure.pure (some (c:Int)) from U,pure_bind];dsimp only;rw[hc',if_neg Wm]
    wp_walk using wpAny_loadPart' hl,wpAny_pyIter_tuple hT
    exact#[_,U,h]
   clear_value dj
   cases (v == AT.type "enumerate")
   .simp only[Bool.false_eq_true,if_false];show Ch ?_;show wpAny_of_eq (a:=(AT.ref l,some (AT.int c tk))) ?_ (hd _ U)
    kernel_rfl
   .simp only[if_true];show Ch ?_;show wpAny_of_eq (a:=(AT.ref l,some (AT.int c tk))) ?_ (hd _ U)
    kernel_rfl
  .extract_lets z gv dj
   have hd:∀ x:AT×Option AT,x=(AT.ref l,some (AT.int c tk))->Db (model prog w) A.in1 (dj x) (λfin s'=>∃ v,fin=Fin.done (Flow.ret v)/\R (.ok (.ret v)) s') (λe s'=>R (.error e) s') #[hp,g,d,t,os]:=by
    rintro _ rfl;dsimp only[dj];rw[Uk,pure_bind,show asInt? (AT.int c tk)=Pure.pure (some (c:Int)) from U,pure_bind];dsimp only;rw[hc',if_neg Wm]
    wp_walk using wpAny_loadPart' hl,wpAny_pyIter_tuple hT
    exact#[_,U,h]
   clear_value dj
   simp only[Bool.false_eq_true,if_false];show Ch ?_;show wpAny_of_eq (a:=(AT.ref l,some (AT.int c tk))) ?_ (hd _ U)
   kernel_rfl
theorem ET{T mk:String}{self:AT}{more:!AT}{kw:!(Str×AT)}(h1:typeLookup (.type T) "__init__"=Pure.pure (some (.builtin "object.__init__")))(h2:Bind.madeBy (.type T)=Pure.pure (some mk))(h3:(some mk != some "object.__new__")=true)(h4:more≠[]) :
  Meets (Fk.«object.__init__» #[self::more,kw]) (λ_ R s=>s.TypeIs self T/\R (.ok (.ret .none)) s):=by
 show Meets.of_wp λprog w A R s hs=>?_;let(hT,q):=hs;cases more with
 | nil=>exact absurd U h4
 | cons a r =>
  repeat (any_goals (first | assumption | wp_step))
  exact#[_,U,q]
theorem Dq{T mk SM:String}{N I:Fk}{ps:!AT}{kw:!(Str×AT)}{S:Spec}{Q Q1:X7}(ft:TypeCalled T mk SM)(h1:checkTypeCall T #[ps,kw]=Pure.pure Unit.unit)(h2:checkBuiltinCall mk #[.type T::ps,kw]=Pure.pure Unit.unit)(eN:entryFor table mk=some N)(eI:entryFor table SM=some I)(g:Meets (N #[.type T::ps,kw]) S)(h:S A.in1 (wants Q1 E) s)(hn:∀ o s1,Q1 o s1->s1.TypeIs o T/\argsOk SM #[o::ps,kw]/\∃ Si,Meets (I #[o::ps,kw]) Si/\Si A.in1 (wants (λr s2=>r=.none/\Q o s2) E) s1) :
  Db (model prog w) A (call (.type T) ps kw) Q E s:=by
 let(c0,tl,m1):=ft.mro;have m2:=ft.made;have m3:=ft.sub;show wpAny_call (codeAny_of_tree ?_);show FS #[Code.quiet_builtin _ (by decide+kernel),codeAny_builtin F.entry_type_call ?_];rw[Fr.under_plain (weight_type_call_type T ps kw) (units_type_call_type T ps kw)];have m4:=ft.notType;have m5:=ft.canCreate
 repeat (any_goals (first | assumption | wp_step))
 show codeAny_mono (codeAny_call_builtin ft.plain eN (wpAny_of_eq h2 (g prog w A.in1 _ s h))) λr s1 hr=>?_;cases r with
 | error e=>exact hr
 | ok fl =>
  cases fl with
  | ret o =>
   let(hT,ho,Si,gi,hi):=hn _ _ hr;have m6:=ft.init.lookup;have m7:=ft.init.bind o
   repeat (any_goals (first | assumption | wp_step))
   show codeAny_mono (codeAny_call_builtin ft.init.plain eI (ft.init.check _ _ _ _ _ _ _ _ hT ho (gi prog w A.in1 _ s1 hi))) λr2 s2 hr2=>?_;cases r2 with
   | error e=>exact hr2
   | ok fl2 =>
    cases fl2 with
    | ret r =>
     let(rfl,hq):=hr2
     repeat (any_goals (first | assumption | wp_step))
    | _=>exact hr2.elim
  | _=>exact hr.elim
theorem Ir(x:AT)(c:Int)(tk:Tok):checkTypeCall "enumerate" #[[x],[("start",.int c tk)]]=Pure.pure Unit.unit:=by kernel_rfl
theorem HC(x:AT)(c:Int)(tk:Tok):checkBuiltinCall "enumerate.__new__" #[[.type "enumerate",x],[("start",.int c tk)]]=Pure.pure Unit.unit:=by kernel_rfl
theorem KY(o x:AT)(c:Int)(tk:Tok):argsOk "object.__init__" #[[o,x],[("start",.int c tk)]]:=by
 unfold argsOk;rw[signature?_of (id:="object.__init__") (n:=['_','_','t','i','n','i','_','_']) (o:=['t','c','e','j','b','o']) (by kernel_rfl) F.owner_object]
 kernel_rfl
theorem wJ{l:AC}{xs:Array AT}{c:Nat}{tk:Tok}{Q:X7}(hL:s.heap.IsTuple l xs)(hc:(c:Int) < 2 ^ 63)(h:∀ h',IsEnum h' (↑s+1) ↑s c .none->h'.IsTupleIter ↑s l 0->(∀ b o,s.heap.get? b=some o->h'.get? b=some o)->Q (.ref (↑s+1)) { s with heap:=h' }) :
  Db (model prog w) A (call (.type "enumerate") [.ref l] [("start",.int c tk)]) Q E s:=by
 let((cl,od,dt,sl),hl,e1,k,e2):=hL
 replace e1:cl=.type "tuple":=e1
 replace e2:dt=.seq xs k:=e2
 subst e1 e2;have hf:Fk.SmallTypes.fitsIndex (c:Int)=true:=by
  unfold Fk.SmallTypes.fitsIndex;simp only[Bool.and_eq_true,decide_eq_true_eq];cbv
 have z:(s.heap.push { cls:=.type "tuple_iterator",data:=.fields #v[.ref l,.int 0 0] }).objs.size=↑s+1:=WS ..;have q:IsEnum ((s.heap.push { cls:=.type "tuple_iterator",data:=.fields #v[.ref l,.int 0 0] }).push { cls:=.type "enumerate",data:=.fields #v[.none,.bool false,.ref ↑s,KF c,.none,.none] }) (↑s+1) ↑s c .none:=by
  have:=Wl (s.heap.push { cls:=.type "tuple_iterator",data:=.fields #v[.ref l,.int 0 0] }) (o:={ cls:=.type "enumerate",data:=.fields #v[.none,.bool false,.ref ↑s,KF c,.none,.none] }) U
  rwa [z] at this
 show Dq (Q1:=λo s1=>s1.TypeIs o "enumerate"/\Q o s1) F.called_enumerate (Ir _ _ _) (HC _ _ _) F.entry_enumerate_new F.entry_object_init (zi l xs k c tk od sl hf) #[hl,?_] λo s1 hq=>#[hq.1,KY _ _ _ _,_,ET F.called_enumerate.init.lookup F.called_enumerate.made () (by simp),hq.1,U,hq.2];change _/\_;rw[z];exact#[#[_,q,U],h _ q #[_,V9 _ (Wl _ U),U,U] λb o x=>V9 _ (V9 _ x)]
theorem shift{it:AC}{fp:!AC}{n:Nat}{P:Nat->AT->Prop}{St:Nat->EQ->Prop}(D:Draws prog w A it fp n P St)(c:Nat):Draws prog w A it fp (c+n) (λi v=>∃ j,i=c+j/\P j v) (λi h=>∃ j,i=c+j/\St j h) where
 live:=λ_ h #[j,_,st]=>D.live j h st
 frame:=λ_ h h' #[j,e,st] k=>#[j,e,D.frame j h h' st k]
 item:=λi s Q E hi #[j,e,st] hQ=>D.item j s Q E (by cbv) st λx h' tk p oq sb=>hQ x h' tk #[j,e,p] #[j+1,by cbv,oq] sb
 done:=λs Q E #[j,e,st] hE=>D.done s Q E (by rw[show n=j by cbv];exact st) hE
theorem AU{e it l:AC}{i:Nat}{c:Int}{xs:Array AT}{old:AT}{Q:Option AT->Da->Prop}(hh:A.handled=none)(he:IsEnum s.heap e it c old)(hit:s.heap.IsTupleIter it l i)(hl:s.heap.IsTuple l xs)(hx:xs[i]?=none)(hQ:∀ h',EQ.ExtBut it s.heap h'->Q none { s with heap:=h' }):Db (model prog w) A (pyNext (.ref e)) Q E s:=by
 have hT:s.TypeIs (.ref e) "enumerate":=#[_,he,U];unfold pyNext;show Ch (wpAny_attempt (wpAny_callSpecial?_slot (name:=Str.ofString "__next__") hT F.slot_enumerate_next (SL F.slot_enumerate_next hT F.entry_enumerate_next ?_ (F.args_enumerate_next_1 _))));change Db _ _ (field (.ref e) 2 >>= _) _ _ _;show Ch (KB he U (x:=.ref it) U ?_);show Ch (JN.eP hh hit hl hx λh' x he' hx'=>?_);let(o,ho,hc):=hx';show Ch (wpAny_isInstance (T:="StopIteration") (b:=true) #[o,ho,hc] isSubtype_stop ?_);exact FS (hQ _ he')
end
end Dm
namespace L2
open PySem PySem.Spec
open PyProof.Rows hiding St
def Uc(K:Frag)(c:Nat)(a:AC):It :=
 #[λi H=>∃ xs x,jx K H a xs/\xs[i]?=some x,λi H x H'=>∃ p,H p=none/\x=.ref p/\∀ xs,jx K H a xs->∃ y,xs[i]?=some y/\H'=upd H p (.tup [.int (c+i:Nat),y]),λi H=>∃ xs,jx K H a xs/\xs.length<=i]
section
variable{P:GE}{w:Fa}{K:Frag}
theorem vO{elts:!Cl}{k:Nat}{ma:Pos}(c:Nat)(a it e:AC)(Te:e≠it):Turn P w K (.Tuple elts k ma) (Uc K c a) [e,it] e (λi h=>(∃ old,IsEnum h e it (c+i:Nat) old)/\h.IsTupleIter it a i) where
 mem:=by simp
 obj:=λi h st b hb=>by
  rcases Wu.mp hb with rfl | hb
  .let((old,he),_):=st;exact#[_,he,λv z=>by
    have z':Data.fields _=Data.cell v:=z;cases z']
  .rw[Wn.mp hb];exact hX.obj (tup:=true) st.2
 keep:=λi h h' st kk=>#[let #[old,he]:=st.1;#[old,kk e (by simp) _ he],st.2.at λo x=>kk it (by simp) o x]
 item:=by
  intro X hP hw hK hc i TW s σ H E I hf st hg;subst hP hw hK;let((old,he),hit):=st;let(xs,x,hq,hx):=hg;have hd:(X.A.in1).handled=none:=I.ok.hd hc;have helt:e < ↑s:=Wh he;let(its,rv,p,hz):=I.tuple hq;have hef:e∉[it,a]:=λhm=>by
   rcases Wu.mp hm with z | hm
   .exact Te z
   .have z:e=a:=Wn.mp hm;subst z;let(o,e1,c1,_):=p;rw[he] at e1;cases e1;exact absurd c1 (by change ¬ AT.type "enumerate"=AT.type "tuple";decide)
  have hai:a≠it:=λz=>by
   subst z;let(o,e1,c1,_):=p;let(o',e2,c2,_):=hit;rw[e1] at e2;cases e2;rw[c1] at c2;exact absurd c2 ()
  let(u,hu,ru):=rv.get hx;have hi:i < its.toArray.size:=by
   have:=(Wb.mp hu).1;simpa using this
  show wpAny_pyNext_enum_itemD (Dm.shift (JN.Bz hd it a hai its.toArray) c) he #[i,U,hit,p] (by cbv) Te hef λy h' tk hy ho Gk hT hsz hk=>?_;let(j,ej,hy):=hy;let(j',ej',Gk,_):=Gk;have:j=i:=by cbv
  subst this;have:j'=j+1:=by cbv
  subst this;have e:y=u:=by
   have hy':its[j]?=some y:=by simpa using hy
   rw[hu] at hy';exact (WC hy').symm
  subst e;show#[_,U,?_];show wpAny_letOwnedTupleGo_enum (s:={ s with heap:=h',toks:=tk+1 }) ho λh2 Rb oX=>?_;have hkeep:∀ b o,b≠e->b≠it->s.heap.get? b=some o->h2.get? b=some o:=λb o h1 h2' h3=>(oX.2 b h1).trans (hk b o h1 h2' h3);have hTe:↑s≠e:=Xq helt;have hfr:H ↑s=none:=I.bx.fresh (We _);have I1:Inv X TW σ (upd H ↑s (.tup [.int (c+j:Nat),x])) { s with heap:=h2,toks:=tk+1 } :=
   Inv.rP I (λb o hb q=>hkeep b o (λz=>hb (by simp[z])) (λz=>hb (by simp[z])) q) hf (Nat.le_refl _)
    #[by change 2<=FB;decide,[.int (c+j:Nat) tk,y],.cons #[tk,U] (.cons ru .nil),#[_,(oX.2 _ hTe).trans hT,U,_,U,U]]
  show#[.ref ↑s,_,I1,U,#[↑s,hfr,U,λzs hz=>#[x,by rw[I.lG hz hq];exact hx,U]],#[#[y,Rb],Gk.at λo y=>(oX.2 it Te.symm).trans y],λb hb=>?_];have hb':b < ↑s:=by
   rcases Wu.mp hb with rfl | hb
   .exact helt
   .rw[Wn.mp hb];let(o,y,_):=hit;exact Wh y
  rw[aw (Ww hb')];exact (hf b hb).1
 done:=by
  intro X hP hw hK hc i TW s σ H E I hf st hg;subst hP hw hK;let((old,he),hit):=st;let(xs,hq,hx):=hg;let(its,rv,p,hz):=I.tuple hq;have hn:its.toArray[i]?=none:=by
   have:=rv.length;simp;cbv
  exact Dm.AU (I.ok.hd hc) he hit p hn λh' eb=>#[U,Inv.gq (t':=s.toks) I (λb o hb q=>eb b o (λz=>hb (by simp[z])) q) hf]
 self:=λ_ _ _ _ _ st h=>by
  let((old,he),_):=st;exact wpAny_pyIter_enum he h
section
variable{M:Model}{A:Fr}{E:X7}{s:Da}{env:Env}
theorem QA{f:Cl}{as:!Cl}{ks:!Rs}{pos:Pos}{Q:X7}(h:Db M A (eval f env) (λv s1=>Db M A (callWith pos v [] (IR pos (GT as env)) (P3 pos (Re ks env))) Q E s1) E s)(he:(eval (.Call f as ks pos) env=(do callWith pos (<- eval f env) [] (IR pos (GT as env)) (P3 pos (Re ks env))))⁻¹):Db M A (eval (.Call f as ks pos) env) Q E s:=by
 rw[he];exact Ch h
theorem sG{T:String}{pos:Pos}{as:!(Bool×Sem AT)}{ks:!(Option Str×Sem AT)}{Q:X7}(h1:as.any (·.1)=false)(h2:ks.any (·.1.isNone)=false)(h:Db M A (evalArgs (.type T) true as ks) (λa s1=>Db M A (call (.type T) a.pos a.kw) Q E s1) E s):Db M A (callWith pos (.type T) [] as ks) Q E s:=by
 unfold callWith;show Ch (NE (b3 h λa s1 q=>Ch (wpAny_standAt ?_)));simp only[h1,h2,Bool.or_false];show Ch (FS ?_);exact Ch (b3 q λr s2 hr=>Ch (NE (wpAny_point (FS hr))))
end
section
variable{X:Cx}
def TB(K:Frag)(t:TA)(u:TE):TI:=λσ H R=>t σ H λvs H1=>u σ H1 λcv H2=>∃ (a:AC) (xs:!V) (c:Nat),vs=[.ref a]/\cv=.int c/\(c:Int) < 2 ^ 63/\jx K H2 a xs/\(xs.length<=FB->R (Uc K c a) H2)
theorem Jw{elts:!Cl}{k:Nat}{ma p pos kp:Pos}{a e:Cl}{t:TA}{u:TE}(hg:Gl X "enumerate")(hm:X.mg "enumerate"=none)(ha:PA X [a] t)(he:PE X e u)(hs:(GT [a] X.env=[(false,eval a X.env)])⁻¹):PI X (.Tuple elts k ma) (.Call (.Name "enumerate" p) [a] [#[some "start",e,kp]] pos) (TB X.K t u):=by
 intro TW s σ H R I h;show QA (ib I hg hm (u:=.type "enumerate") (by decide+kernel) ?_);have hb:IR pos (GT [a] X.env)=(false,eval a X.env)::IR pos (GT [] X.env):=by rw[hs];rfl
 show sG (by rw[hb];rfl) U ?_;rw[hb];show evalArgs_kwB U ?_;rw[<- hb];show b3 (ha pos TW s σ H _ I h) λus s1 zz=>el2 zz λvs H1 I1 r1 q1=>?_;show kws_cons (b3 (he TW s1 σ H1 _ I1 q1) λcu s2 zz=>el2 zz λcv H2 I2 rc q2=>kws_nil ?_);let(a,xs,c,rfl,rfl,hc,hq,q):=q2;let(u0,rfl,ru):=Vals.one r1;cases ru;let(tk,rfl):=rc;have fp:∀ b∈[↑s2+1,↑s2],fb X TW H2 b:=λb hb=>by
  have hle:↑s2<=b:=by
   rcases Wu.mp hb with rfl | hb
   .cbv
   .rw[Wn.mp hb];exact We _
  exact I2.pQ hle (I2.bx.fresh hle)
 let(its,rv,pp,hz):=I2.tuple hq;show Dm.wJ (xs:=its.toArray) pp hc λh' en hit hk=>?_;show wpAny_pyIter_enum en ?_;exact#[↑s2+1,_,_,_,H2,U,I2.kept (t':=s2.toks) hk,vO c a ↑s2 (↑s2+1) (Nat.succ_ne_self _),#[#[_,en],hit],fp,q hz]
end
end
end L2
namespace DL
open PySem PySem.Spec L2
open PyProof.Rows hiding St
section
variable{X:Cx}{c:Ent}
def og(n:Nat)(ds:!D):!D:=(List.range ds.length).zipWith (λi d=>.tup [.int (n+i:Nat),d]) ds
theorem yY{n:Nat}{ds:!D}{i:Nat}{d:D}(h:(og n ds)[i]?=some d):∃ x,ds[i]?=some x/\d=.tup [.int (n+i:Nat),x]:=by
 unfold og at h;rw[X3] at h;cases e:ds[i]? with
 | none =>
  rw[e] at h;cases e2:(List.range ds.length)[i]? with
  | none=>rw[e2] at h;cases h
  | some j=>rw[e2] at h;cases h
 | some x =>
  have hl:=(Wb.mp e).1;rw[e,List.getElem?_range hl] at h;cases h;exact#[x,U,U]
theorem qM{n:Nat}{ds:!D}:(og n ds).length=ds.length:=by simp[og]
def OW(t:eJ)(u:aV):eJ:=λs Q=>t s λas s1=>u s1 λv s2=>∃ ds n,as=[.tup ds]/\v=.int (n:Nat)/\(n:Int) < 2 ^ 63/\Q (og n ds) s2
theorem Mj{elts:!Cl}{k:Nat}{ma p pos kp:Pos}{a e:Cl}{t:eJ}{u:aV}(hg:Gl X "enumerate")(hm:X.mg "enumerate"=none)(ha:DA X c [a] t)(he:DE X c e u)(hs:(GT [a] X.env=[(false,eval a X.env)])⁻¹):DI X c (.Tuple elts k ma) (.Call (.Name "enumerate" p) [a] [#[some "start",e,kp]] pos) (OW t u) :=
 #[λTW s σ H R I zz=>cV zz λM s0 as R0 L q k=>Jw hg hm ha.pa he.pe hs TW s σ H R I
  #[M,s0,as,_,L,q,λads s1 q1 M1 H1 vs L1 E1 rv _=>#[M1,s1,as,_,L1,q1,λcd s2 z0r M2 H2 cv L2 E2 rc=>by
   let(ds,n,ed,ec,hn,q2):=z0r;subst ed ec;let(v,ev,rw1):=dO rv;subst ev;let(a,xs,rfl,h,r):=E2.rep L1 rw1;have rc:cv=.int (n:Nat):=rc;show#[a,xs,n,U,rc,hn,h.sq,λhl=>k _ s2 q2 M2 H2 _ L2 (E1.trans L1.base E2) (λM3 H3 G=>?_) (by rw[qM,<- r.length];exact hl)];have h2:=(h.mono (λb m=>(G b m).1) λb o m e=>(G b m).2 o e).sq;have r2:=G.u3 r;show#[λi hi=>#[xs,h2,by rw[r.length];rw[qM] at hi;exact hi],λi d hd=>?_];let(y,hy,rfl):=yY hd;let(v,g1,g2):=r2.get hy;show#[#[xs,v,h2,g1],λx H3 #[b,hb,ex,hx]=>.inr ?_];let(w,w1,w2):=hx xs h2;rw[g1] at w1;cases w1;subst w2;exact#[b,_,hb,U,b,_,ex,#[.inr U,aA],#[_,_,U,U,_,_,U,o6 hb g2,U]]]]]
end
end DL
namespace Dm
open PySem Sem
theorem rS:typeLookup (.type "list") "keys"=Pure.pure none:=by rw[typeLookup_type,builtinLookup_eq_fast];kernel_rfl
theorem wo:typeLookup (.type "list") "__getattr__"=Pure.pure none:=by rw[typeLookup_type,builtinLookup_eq_fast];kernel_rfl
section
variable{prog:GE}{w:Fa}{A:Fr}{E:X7}{h:EQ}{g:Array GenState}{d:Drawn}{t:Nat}{os:OsState}{a:AC}{o:Obj}
theorem iP:isSubtype (.type "AttributeError") (.type "AttributeError")=Pure.pure true:=by rw[isSubtype_type];kernel_rfl
theorem wC(vs:!AT):firstArgMember (.type "AttributeError") vs=Pure.pure .none:=by
 unfold firstArgMember;have e:((Manifest.find? "AttributeError").elim false λt=>t.mro.contains "StopIteration"||t.mro.contains "SystemExit")=false:=by decide+kernel
 simp only[pure_bind,e]
 rfl
theorem wV{α:Type}{h2:EQ}{e:AC}{p v:AT}{nm:Str}{sl:Array (Option AT)}{Q:α->Da->Prop}(hh:A.handled=none)(he:h2.get? e=some #[.type "AttributeError",none,.fields #v[p,.none,.none,.none,.bool false,.none,unsetMember,unsetMember],sl])(hq:∀ h3 t',(∀ b u,b≠e->h2.get? b=some u->h3.get? b=some u)->(∃ u,h3.get? e=some u/\u.cls=.type "AttributeError")->E (.ref e) #[h3,g,d,t',os]) :
  Db (model prog w) A (mkText nm >>= λn=>noteAttr (.ref e) v n >>= λ_=>raiseNew (.ref e)) Q E #[h2,g,d,t,os]:=by
 have hT:∀ t',(#[h2,g,d,t',os]:Da).TypeIs (.ref e) "AttributeError":=λ_=>#[_,he,U];have hT1:=hT (t+1);have f6:=iP;unfold noteAttr raiseNew
 repeat (any_goals (first | assumption | wp_step))
 exact hq _ _ (λb u hb x=>(EQ.get?_update_ne _ _ _ _ hb).trans x) #[_,WX _ he (Obj.isFreed_of_fields (Obj.data_mapFields U _)),(Obj.cls_mapFields ..).trans U]
theorem ph{α:Type}{v:AT}{nm msg:Str}{Q:α->Da->Prop}(hh:A.handled=none)(hz:msg.length<=FB)(hq:∀ h' e t',(∀ b u,h.get? b=some u->h'.get? b=some u)->(∃ u,h'.get? e=some u/\u.cls=.type "AttributeError")->E (.ref e) #[h',g,d,t',os]) :
  Db (model prog w) A (raiseAttrError v nm msg) Q E #[h,g,d,t,os]:=by
 unfold raiseAttrError;simp only[newExc,newTuple];show Ch (wpAny_mkStr ?_ hz);show Ch (Ch (ST ?_ (by size_fits)));show Ch (m:=firstArgMember _ _) (wpAny_of_eq (wC _) ?_);show ST ?_ (by size_fits);dsimp only;show wV (sl:=#v[]) hh (Wl _ U) λh3 t' k c=>hq h3 _ t' (λb u x=>k b u (Ww (Wz (Wh x) ?_)) (V9 _ (V9 _ x))) c;rw[WS];exact XZ _
theorem vV{tk:Tok}{items:Array AT}{n:Nat}{sl:Array (Option AT)}{Q:PySem.Fin->Da->Prop}(hh:A.handled=none)(hx:h.get? a=some #[.type "list",none,.seq items n,sl])(hq:∀ h' e t',(∀ b u,h.get? b=some u->h'.get? b=some u)->(∃ u,h'.get? e=some u/\u.cls=.type "AttributeError")->E (.ref e) #[h',g,d,t',os]) :
  Db (model prog w) A (Fk.«object.__getattribute__» #[[.ref a,.str "keys" tk],[]]) Q E #[h,g,d,t,os]:=by
 have hT:(#[h,g,d,t,os]:Da).TypeIs (.ref a) "list":=#[_,hx,U];have f4:=rS
 repeat (any_goals (first | assumption | with_reducible show ph hh (by decide+kernel) hq | wp_step))
theorem Eb{tk:Tok}{items:Array AT}{n:Nat}{sl:Array (Option AT)}{Q:X7}(hh:A.handled=none)(hx:h.get? a=some #[.type "list",none,.seq items n,sl])(hq:∀ h' e t',(∀ b u,h.get? b=some u->h'.get? b=some u)->(∃ u,h'.get? e=some u/\u.cls=.type "AttributeError")->E (.ref e) #[h',g,d,t',os]) :
  Db (model prog w) A (getAttrBy (.ref a) (.str "keys" tk) false) Q E #[h,g,d,t,os]:=by
 have hT:(#[h,g,d,t,os]:Da).TypeIs (.ref a) "list":=#[_,hx,U];have f2:=F.slot_list_getattribute.lookup;have f3:=F.slot_list_getattribute.bind (.ref a);have f5:=wo
 repeat (any_goals (first | assumption | wp_step))
 show codeAny_call_builtin F.slot_list_getattribute.plain F.entry_list_ga (F.slot_list_getattribute.check _ _ _ _ _ _ _ _ hT (F.args_list_getattribute_2 _ _) (vV hh hx λh' e t' k c=>?_));let(u,hu,hc):=c;have hT2:(#[h',g,d,t',os]:Da).TypeIs (.ref e) "AttributeError":=#[u,hu,hc];have f6:=iP;change Db _ _ (getattributeRaised (.ref a) (.str "keys" tk) (.type "list") (.ref e) none false false) _ _ _;have hE:=hq h' e t' k #[u,hu,hc]
 repeat (any_goals (first | assumption | wp_step))
theorem EZ{items:Array AT}{n:Nat}{sl:Array (Option AT)}{Q:Option AT->Da->Prop}(hh:A.handled=none)(hx:h.get? a=some #[.type "list",none,.seq items n,sl])(hq:∀ h' t',(∀ b u,h.get? b=some u->h'.get? b=some u)->Q none #[h',g,d,t',os]) :
  Db (model prog w) A (getAttr? (.ref a) "keys") Q E #[h,g,d,t,os]:=by
 unfold getAttr? getAttrBy?;show Ch ?_;have f6:=iP;unfold mkText
 repeat (any_goals (first | assumption | with_reducible apply Eb hh hx | wp_step))
 intro h' e t' k c;let(u,hu,hc):=c;have hT2:(#[h',g,d,t',os]:Da).TypeIs (.ref e) "AttributeError":=#[u,hu,hc];have hE:=hq h' t' k
 repeat (any_goals (first | assumption | wp_step))
end
end Dm
namespace L2
open PySem PySem.Spec
open PyProof.Rows hiding St
section
variable{X:Cx}{TW:X8}{σ:St}
theorem jm:entryFor table "dict.update.loop"=some Fk.«dict.update.loop»:=entryFor_of_tree (by kernel_rfl)
theorem Eg{K:Frag}{H:Hp}{l a:AC}{xs:!V}{o:HO}(e:H a=none)(h:d8 K H l xs):d8 K (upd H a o) l xs:=by
 rcases h with (h | ⟨u,h⟩) | h
 .exact .inl (.inl (by rw[aw (aE h e)];exact h))
 .exact .inl (.inr #[u,by rw[aw (aE h e)];exact h])
 .exact .inr h
end
end L2
namespace DL
open PySem PySem.Spec L2
section
variable{X:Cx}{c:Ent}
end
end DL
namespace HT
open PySem PySem.Spec PyProof.Rows
open PySem.AutoSeq1
section
variable{prog:GE}{w:Fa}{A:Fr}{E:X7}{s:Da}
end
end HT
namespace L2
open PySem PySem.Spec PyProof.Rows
section
variable{X:Cx}
end
end L2
namespace DL
open PySem PySem.Spec L2
section
variable{X:Cx}{c:Ent}
end
end DL
namespace DL
open PySem PySem.Spec L2
open PyProof.Rows hiding St
section
variable{K:Frag}{H:Hp}{M:AC->Prop}{a:AC}
end
section
variable{X:Cx}{c:Ent}{k:Nat}{f:AC}{fd:Go}{ps:!Str}{t:X9}{x:Str}{p pos:Pos}{e ex:Cl}{te:aV}
end
end DL
namespace DL
open PySem L2
end DL
namespace DL
open PySem PySem.Spec L2
open PyProof.Rows hiding St
section
variable{K:Frag}{d l r:AC}{M:AC->Prop}{H:Hp}
end
section
variable{P:GE}{w:Fa}{K:Frag}{mg:Str->Option AT}{base:EQ}{d l r:AC}
end
section
variable{X:Cx}{c:Ent}{st:Ev}{e:Cl}{te:aV}{pos:Pos}
def QI(te:aV):jg:=λR s=>te s λx s1=>R.rs x s1
theorem AJ(he:DE X c e te):p6 X c (.Return (some e) pos) (QI te):=#[(me he.pe).imp λE σ H zz=>cV zz λM s as R L q k =>
 #[M,s,as,_,L,q,λd s1 r M' H' v L' E' rv=>k.rs d s1 as M' σ H' v r L' rv]]
end
section
variable{K:Frag}{c:Ent}{M M':AC->Prop}{s:DS}{as:!AC}{σ:St}{H H':Hp}{d l r:AC}
end
section
variable{X:Cx}{k:Nat}{f d l r:AC}{M0:AC->Prop}{H0:Hp}{fd:Go}{ps:!Str}{x:Str}{p pos:Pos}{e:Cl}{es:!Cl}{ta:eJ}
end
end DL
namespace HT
open PySem PySem.Spec PyProof.Rows
open PySem.AutoSeq1
section
variable{prog:GE}{w:Fa}{A:Fr}{E:X7}{s:Da}
end
end HT
namespace L2
open PySem PySem.Spec PyProof.Rows
section
variable{X:Cx}
end
end L2
namespace DL
open PySem PySem.Spec L2
section
variable{X:Cx}{c:Ent}
end
end DL
namespace DL
open PySem L2
def Jg(x:Str):Prop:=Nm x\/x="number"
def Pw(hs:!(Str×!Str)):Prop:=hs.length<=5/\∀ h∈hs,Nm h.1/\h.2.length<=3/\∀ n∈h.2,Nm n
def N8:Fm->Nat->Prop
 | .nm x,n=>Nm x/\n=0
 | .num i,n=>(0<=i/\i < 1000000)/\n=0
 | .op s,n=>(s="+"\/s="-"\/s="*")/\n=2
 | .sU,n=>n=3
 | .lt x,n=>Nm x/\n=2
 | .mk c,n=>Nm c/\n<=3
 | .ask f,n=>Nm f/\1<=n/\n<=4
 | .j9 r hs,n=>Jg r/\Pw hs/\n=hs.length+1
 | .new k hs,n=>Jg k/\Pw hs/\n=hs.length
def Fm.w:Fm->Nat
 | .nm _=>0
 | .num _=>0
 | _=>1
mutual
noncomputable def Tm.gt:Tm->Prop
 | .node f ks=>N8 f ks.length/\R8 ks
noncomputable def R8:!Tm->Prop
 | []=>True
 | t::r=>t.gt/\R8 r
end
mutual
noncomputable def Tm.FF:Tm->Nat
 | .node f ks=>f.w+v8 ks
noncomputable def v8:!Tm->Nat
 | []=>0
 | t::r=>t.FF+v8 r
end
theorem kj.O5{W:bf}(w:dG W){k:Str}(h:kj W k):Jg k:=by
 rcases h with rfl | ⟨kd,hkd,_,rfl⟩
 .exact .inr U
 .exact .inl (w.kw kd hkd).1
theorem pX.fm{W:bf}(w:dG W){sc:!(Str×Str)}{k:Str}{f:Fm}{sp:!(!(Str×Str)×Str)}(ky:∀ p∈sc,Nm p.1)(hk:Jg k)(h:pX W sc k f sp):N8 f sp.length/\∀ e∈sp,Jg e.2/\∀ p∈e.1,Nm p.1:=by
 have none:∀ p:Str×Str,p∈([]:!(Str×Str))->Nm p.1:=λ_ h=>by cases h
 cases h with
 | @nm x _ hx=>exact#[#[ky _ hx,U],λ_ h=>by cases h]
 | num h0 h1=>exact#[#[#[h0,h1],U],λ_ h=>by cases h]
 | @op o ho =>
  show#[#[by simpa using ho,U],λe he=>?_];simp at he;subst he;exact#[.inr U,none]
 | sU =>
  show#[U,λe he=>?_];simp at he;rcases he with rfl | rfl
  .exact#[.inr U,none]
  .exact#[hk,none]
 | @lt x _ k' hb CK =>
  have hx:=hb.nm w x (Wn.mpr U);show#[#[hx,U],λe he=>?_];simp at he;rcases he with rfl | rfl
  .exact#[CK.O5 w,none]
  .exact#[hk,λp hp=>by rw[Wn.mp hp];exact hx]
 | @mk kd m h1 h2 =>
  let(m1,m2,m3,m4):=w.mo kd h1 m h2;show#[#[m1,by rw[V8];exact m2],λe he=>?_];let(p,hp,rfl):=Wk.mp he;exact#[(m4 p hp).O5 w,none]
 | @ask kd a h1 h2 h3 =>
  let(m1,(m2,m3,m4),m5):=w.ao kd h1 a h3;show#[#[m1,by simp,by rw[List.length_cons,List.length_map];cbv],λe he=>?_];rcases Wu.mp he with rfl | he
  .exact#[.inl (w.kw kd h1).1,none]
  let(p,hp,rfl):=Wk.mp he;exact#[(m4 p hp).O5 w,none]
 | @j9 _ kd sub h1 h2 h3 h4 h5 =>
  have hl:=h4.length_le;have hl5:=(w.kw kd h1).2.1;rw[V8] at hl;show#[#[hk,#[by rw[List.length_map];cbv,λh hh=>?_],by simp],λe he=>?_]
  .let(p,hp,rfl):=Wk.mp hh;have hm:p.1∈kd.bz:=h4.subset (Wr hp);let(m1,m2,_):=w.mo kd h1 p.1 hm;show#[m1,?_,λx hx=>(h5 p hp).2.nm w x hx];change p.2.length<=3;rw[(h5 p hp).1];exact m2
  .rcases Wu.mp he with rfl | he
   .exact#[.inl (w.kw kd h1).1,none]
   let(p,hp,rfl):=Wk.mp he;exact#[hk,λq hq=>(h5 p hp).2.nm w _ (WO hq).1]
 | @new kd sub h1 h2 h3 h4 h5 =>
  have hl:=h4.length_le;have hl5:=(w.kw kd h1).2.2;rw[V8] at hl;show#[#[hk,#[by rw[List.length_map];cbv,λh hh=>?_],by simp],λe he=>?_]
  .let(p,hp,rfl):=Wk.mp hh;have hm:p.1∈kd.bK:=h4.subset (Wr hp);let(m1,(m2,_),_):=w.ao kd h1 p.1 hm;show#[m1,?_,λx hx=>(h5 p hp).2.nm w x hx];change p.2.length<=3;rw[(h5 p hp).1];exact m2
  .let(p,hp,rfl):=Wk.mp he;have hm:p.1∈kd.bK:=h4.subset (Wr hp);exact#[(w.ao kd h1 p.1 hm).2.2.O5 w,λq hq=>(h5 p hp).2.nm w _ (WO hq).1]
mutual
theorem Ty.Py{W:bf}(w:dG W):∀ (t:Tm) (sc:!(Str×Str)) (k:Str),(∀ p∈sc,Nm p.1)->Jg k->Ty W sc k t->t.gt
 | .node f ts,sc,k,ky,hk,h=>by
  let(sp,hf,hr):=(show ∃ sp,pX W sc k f sp/\el W sc sp ts from h);let(s1,s2):=hf.fm w ky hk;show#[?_,el.Py w ts sc sp ky s2 hr];rw[hr.len];exact s1
theorem el.Py{W:bf}(w:dG W):∀ (ts:!Tm) (sc:!(Str×Str)) (sp:!(!(Str×Str)×Str)),(∀ p∈sc,Nm p.1)->(∀ e∈sp,Jg e.2/\∀ p∈e.1,Nm p.1)->el W sc sp ts->R8 ts
 | [],sc,sp,ky,hs,h=>trivial
 | t::ts,sc,sp,ky,hs,h=>by
  let(e,r,rfl,h1,h2):=(show ∃ e r,sp=e::r/\Ty W (sc++e.1) e.2 t/\el W sc r ts from h);let(e1,e2):=hs e Wg;exact#[Ty.Py w t (sc++e.1) e.2 (λp hp=>(WA.mp hp).elim (ky p) (e2 p)) e1 h1,el.Py w ts sc r ky (λx hx=>hs x (Wd _ hx)) h2]
end
theorem jB.VO{W:bf}(w:dG W){sc:!(Str×Str)}(h:jB W sc):∀ p∈sc,Nm p.1:=λp hp=>by
 rcases (h.ok p hp).2 with z | ⟨j,_,z⟩
 .exact w.nm _ (WQ _ z)
 .exact w.nm _ (WD _ (WJ z))
end DL
namespace DL
open PySem PySem.Spec L2
structure yt(ws:!Str)(ks:!Kd):Prop where
 ex:∃ (ns ML AL:!Str) (ub:!Kd),ns=ws.take ns.length/\1<=ns.length/\ns.length<=4/\ML.Perm ws/\AL.Perm ws/\ub.length=ns.length/\ED ws ns ML AL ub /\
  (ks=ub\/∃ kd:Kd,ks=ub++[kd]/\kd.bz=[]/\ws[44]?=some kd.name/\kd.bK.length<=2/\CZ ws [] (AL.drop (dA ub).length) kd.bK)
theorem yt.aT{ws:!Str}{ks:!Kd}(inner:Bool)(h:yt ws ks)(hl:ws.length=45)(hn:ws.Nodup)(hm:∀ x∈ws,Nm x):dG (oP ws ks inner):=by
 let(ns,ML,AL,ub,e1,n1,n3,pM,pA,rl,I,hk):=h.ex;have hML:ML.Nodup:=pM.nodup_iff.mpr hn;have hAL:AL.Nodup:=pA.nodup_iff.mpr hn;have rk:ub.map Kd.name=ns:=by rw[I.kn,rl,List.take_length]
 have hh:(ws.drop 24).take 6++ws.drop 30=ws.drop 24:=by
  have:=Xu 6 (ws.drop 24)
  rwa [List.drop_drop] at this
 have h3:((ws.drop 24).take 6).take 3=(ws.drop 24).take 3:=by rw[List.take_take];rfl
 have h4:((ws.drop 24).take 6).drop 3=(ws.drop 27).take 3:=by rw[List.drop_take,List.drop_drop]
 have mem:∀ k∈ks,k∈ub\/(k.bz=[]/\ws[44]?=some k.name/\k.bK.length<=2/\CZ ws [] (AL.drop (dA ub).length) k.bK):=λk hkk=>by
  rcases hk with rfl | ⟨kd,rfl,a,b,c,d⟩
  .exact .inl hkk
  .rcases WA.mp hkk with z | z
   .exact .inl z
   .rw[Wn.mp z];exact .inr #[a,b,c,d]
 have sub:∀ k∈ub,k∈ks:=λk hkk=>by
  rcases hk with rfl | ⟨kd,rfl,_⟩
  .exact hkk
  .exact WQ _ hkk
 have inML:∀ x∈ML,Nm x:=λx hx=>hm x (pM.mem_iff.mp hx);have inAL:∀ x∈AL,Nm x:=λx hx=>hm x (pA.mem_iff.mp hx);have mnm:∀ k∈ub,∀ m∈k.bz,Nm m.name:=λk hkk m hmm=>by
  have:m.name∈dZ ub:=Xd.mpr #[k,hkk,Wr hmm];rw[I.mn] at this;exact inML _ (W7 this)
 have anm:∀ k∈ub,∀ a∈k.bK,Nm a.name:=λk hkk a haa=>by
  have:a.name∈dA ub:=Xd.mpr #[k,hkk,Wr haa];rw[I.an] at this;exact inAL _ (W7 this)
 have kok:∀ x∈ns++hJ,kj (oP ws ks inner) x:=λx hx=>by
  rcases WA.mp hx with hx | hx
  .rw[<- rk] at hx;let(k,hkk,e):=Wk.mp hx;exact .inr #[k,sub k hkk,(I.rg k hkk).m0,e]
  .exact .inl (Wn.mp hx)
 have kok0:∀ x∈([]:!Str)++hJ,kj (oP ws ks inner) x:=λx hx=>.inl (Wn.mp hx);show#[?_,?_,λk hkk=>?_,?_,?_,λk hkk m hmm=>?_,λk hkk a haa=>?_,λk hkk m r e=>?_,?_,?_,?_,λx hx=>?_]
 .rcases hk with rfl | ⟨kd,rfl,_⟩
  .show ks.length<=5;cbv
  .show (ub++[kd]).length<=5;rw[Wa];simp;cbv
 .rcases hk with rfl | ⟨kd,rfl,_,b,_⟩
  .show (ks.map Kd.name).Nodup;rw[rk,e1];exact hn.sublist (WT _ _)
  .show ((ub++[kd]).map Kd.name).Nodup;rw[Wc,rk,e1];exact pb hn (by cbv) b
 .rcases mem k hkk with z | ⟨a,b,c,d⟩
  .refine#[?_,(I.rg k z).ml,(I.rg k z).al];have:k.name∈ns:=rk▸Wr z;rw[e1] at this;exact hm _ (W7 this)
  .exact#[hm _ (WJ b),by rw[a];decide,by cbv]
 .have:dZ ks=dZ ub:=by
   rcases hk with rfl | ⟨kd,rfl,a,_⟩
   .rfl
   .rw[gr,a,WR,Wf]
  change (dZ ks).Nodup;rw[this,I.mn];exact hML.sublist (WT _ _)
 .show (dA ks).Nodup;rcases hk with rfl | ⟨kd,rfl,_,_,_,d⟩
  .rw[I.an];exact hAL.sublist (WT _ _)
  .rw[gj];have:=take_snoc (A:=dA ub) (B:=kd.bK.map dE.name) I.an (by rw[V8];exact d.nm);rw[this];exact hAL.sublist (WT _ _)
 .rcases mem k hkk with z | ⟨a,_⟩
  .refine#[mnm k z m hmm,?_];let(q1,q2,q3):=(I.rg k z).mp m hmm;exact#[q1,by rw[show (oP ws ks inner).heads.take 3=(ws.drop 24).take 3 from h3];exact q2,λp hp=>kok _ (q3 p hp)]
  .rw[a] at hmm;cases hmm
 .rcases mem k hkk with z | ⟨_,_,_,d⟩
  .refine#[anm k z a haa,?_];let((q1,q2,q3),q4):=(I.rg k z).ap a haa;exact#[#[q1,by rw[show (oP ws ks inner).heads.drop 3=(ws.drop 27).take 3 from h4];exact q2,λp hp=>kok _ (q3 p hp)],kok _ q4]
  .let((q1,q2,q3),q4):=d.ap a haa;show#[?_,#[q1,by rw[show (oP ws ks inner).heads.drop 3=(ws.drop 27).take 3 from h4];exact q2,λp hp=>kok0 _ (q3 p hp)],kok0 _ q4];have:a.name∈k.bK.map dE.name:=Wr haa;rw[d.nm] at this;exact inAL _ (XG (W7 this))
 .rcases mem k hkk with z | ⟨a,_⟩
  .exact (I.rg k z).mf m r e
  .rw[a] at e;cases e
 .show ((ws.drop 24).take 6).length=6;simp[hl]
 .show (ws.drop 30).length=15;simp[hl]
 .show ((ws.drop 24).take 6++ws.drop 30).Nodup;rw[hh];exact hn.sublist (List.drop_sublist _ _)
 .have hx:x∈(ws.drop 24).take 6++ws.drop 30:=hx;rw[hh] at hx;exact hm x (XG hx)
def VF:!Nat:=[4,4,25,26,51,52,76,77,103,104,105,127,154,177,178,179,207]
def Vr:!Nat:=[1,1,7,8,15,16,22,23,31,32,33,37,46,51,52,53,63]
def sz(r:Nat):Nat:=VF.getD r 207
def si(r:Nat):Nat:=Vr.getD r 63
theorem nI{a b:Nat}(h:a<=b)(hb:b<=16):sz a<=sz b/\si a<=si b:=by
 have:∀ b,b < 17->∀ a,a < 17->a<=b->sz a<=sz b/\si a<=si b:=by decide
 exact this b (by cbv) a (by cbv) h
def Rh(n q r:Nat):Prop:=n * sz q+1<=sz r/\n * si q+1<=si r
theorem w6{r n:Nat}(h:r<=16)(h2:2<=r)(hn:n<=4):Rh n ((r - 1) / max 1 n) r:=by
 have:∀ r,r < 17->2<=r->∀ n,n < 5->n * sz ((r - 1) / max 1 n)+1<=sz r/\n * si ((r - 1) / max 1 n)+1<=si r:=by decide
 exact this r (by cbv) h2 n (by cbv)
theorem Hl{r:Nat}(h:r<=16)(h2:2<=r):Rh 3 (r / 3) r:=by
 have:∀ r,r < 17->2<=r->3 * sz (r / 3)+1<=sz r/\3 * si (r / 3)+1<=si r:=by decide
 exact this r (by cbv) h2
theorem Kk{r:Nat}(h:r<=16)(h2:2<=r):Rh 2 (r / 2) r:=by
 have:∀ r,r < 17->2<=r->2 * sz (r / 2)+1<=sz r/\2 * si (r / 2)+1<=si r:=by decide
 exact this r (by cbv) h2
theorem BJ{r m:Nat}(h:r<=16)(h2:2<=r)(hm:m<=5):sz (r / 3)+m * sz ((r - 1) / (1+m))+1<=sz r/\si (r / 3)+m * si ((r - 1) / (1+m))+1<=si r:=by
 have:∀ r,r < 17->2<=r->∀ m,m < 6->sz (r / 3)+m * sz ((r - 1) / (1+m))+1<=sz r/\si (r / 3)+m * si ((r - 1) / (1+m))+1<=si r:=by decide
 exact this r (by cbv) h2 m (by cbv)
theorem ku{m:Nat}:∀ {ts:!Tm},(∀ t∈ts,t.size<=m)->d9 ts<=ts.length * m
 | [],_=>WH _
 | t::ts,h=>by
  have h1:=h t Wg;have h2:=ku λu hu=>h u (Wd _ hu);change t.size+d9 ts<=(ts.length+1) * m;rw[Nat.add_mul];cbv
theorem nH{m:Nat}:∀ {ts:!Tm},(∀ t∈ts,t.FF<=m)->v8 ts<=ts.length * m
 | [],_=>WH _
 | t::ts,h=>by
  have h1:=h t Wg;have h2:=nH λu hu=>h u (Wd _ hu);change t.FF+v8 ts<=(ts.length+1) * m;rw[Nat.succ_mul];cbv
theorem IB(f:Fm):f.w<=1:=by cases f<;>exact Nat.le_of_ble_eq_true U
def Tm.rq(n r:Nat)(t:Tm):Prop:=t.dep<=n/\t.size<=sz r/\t.FF<=si r
theorem jt{f:Fm}{ts:!Tm}{n r q:Nat}(h:∀ t∈ts,t.rq n q)(hb:Rh ts.length q r):(Tm.node f ts).rq (n+1) r:=by
 show#[kD λt ht=>(h t ht).1,?_,?_]
 .show d9 ts+1<=_;exact Ws (Nat.add_le_add_right (ku λt ht=>(h t ht).2.1) 1) hb.1
 .show f.w+v8 ts<=_;have:=IB f;have:=nH λt ht=>(h t ht).2.2;have:=hb.2;cbv
theorem G7{f:Fm}{t0:Tm}{ts:!Tm}{n r m:Nat}(h0:t0.rq n (r / 3))(h:∀ t∈ts,t.rq n ((r - 1) / (1+m)))(hl:ts.length<=m)(hm:m<=5)(h2:2<=r)(hr:r<=16):(Tm.node f (t0::ts)).rq (n+1) r:=by
 let(e4,e5):=BJ hr h2 hm;show#[kD λt ht=>?_,?_,?_]
 .rcases Wu.mp ht with rfl | ht
  .exact h0.1
  .exact (h t ht).1
 .show (t0.size+d9 ts)+1<=_;have e1:=h0.2.1;have e2:=ku λt ht=>(h t ht).2.1;have e3:ts.length * sz ((r - 1) / (1+m))<=m * sz ((r - 1) / (1+m)):=XH _ hl;cbv
 .show f.w+(t0.FF+v8 ts)<=_;have e0:=IB f;have e1:=h0.2.2;have e2:=nH λt ht=>(h t ht).2.2;have e3:ts.length * si ((r - 1) / (1+m))<=m * si ((r - 1) / (1+m)):=XH _ hl;cbv
theorem Io{f:Fm}{ts:!Tm}{n r m:Nat}(h:∀ t∈ts,t.rq n ((r - 1) / (1+m)))(hl:ts.length<=m)(hm:m<=5)(h2:2<=r)(hr:r<=16):(Tm.node f ts).rq (n+1) r:=by
 show jt h ?_;let(e4,e5):=BJ hr h2 hm;have e3:ts.length * sz ((r - 1) / (1+m))<=m * sz ((r - 1) / (1+m)):=XH _ hl;have e6:ts.length * si ((r - 1) / (1+m))<=m * si ((r - 1) / (1+m)):=XH _ hl;exact#[by cbv,by cbv]
def Tm.lf(n:Nat)(k:Str)(t:Tm):Prop:=t.dep<=n/\t.size<=4/\(k="number"->t.size<=1)/\t.FF<=1/\(k="number"->t.FF<=0)
theorem xZ{f:Fm}{n:Nat}{k:Str}(hf:(f.w=0)⁻¹):(Tm.node f []).lf (n+1) k:=#[kD λ_ h=>(nomatch h),by change 0+1<=4;cbv,λ_=>by change 0+1<=1;cbv,by change f.w+0<=1;cbv,λ_=>by change f.w+0<=0;cbv]
theorem D6{f:Fm}{ts:!Tm}{n:Nat}{k:Str}(hk:k≠"number")(hl:ts.length<=3)(h:∀ t∈ts,t.lf n "number"):(Tm.node f ts).lf (n+1) k:=by
 show#[kD λt ht=>(h t ht).1,?_,λe=>absurd e hk,?_,λe=>absurd e hk]
 .show d9 ts+1<=4;have h2:=ku λt ht=>(h t ht).2.2.1 U;cbv
 .show f.w+v8 ts<=1;have h2:=nH λt ht=>(h t ht).2.2.2.2 U;have:=IB f;cbv
theorem Tm.lf.rq{n m r:Nat}{k:Str}{t:Tm}(h:t.lf n k)(hm:n<=m)(hr:r<=16):t.rq m r:=#[Ws h.1 hm,Ws h.2.1 (nI (WH r) hr).1,Ws h.2.2.2.1 (nI (WH r) hr).2]
end DL
namespace DL
open PySem L2 PyProof.Rows
abbrev D3:=Str×Ev×!Str
def Own(K:Frag)(mg:Str->Option AT)(d:D3):Prop:=∃ f fd,tL K d.1 d.1 d.2.1 f fd/\mg d.1=some (.ref f)/\Binds K fd d.2.2 []
def C4(P:GE)(w:Fa)(K:Frag)(mg:Str->Option AT)(base:EQ)(CX:wU)(d:D3)(k:Nat)(sp:Sp):Prop:=∃ f fd,bP P w K mg base CX k f fd d.2.2 sp/\tL K d.1 d.1 d.2.1 f fd/\mg d.1=some (.ref f)/\Binds K fd d.2.2 []
section
variable{P:GE}{w:Fa}{K:Frag}{mg:Str->Option AT}{base:EQ}{CX:wU}{d:D3}{k:Nat}{sp O6:Sp}
theorem Own.c(o:Own K mg d)(h:∀ f fd,tL K d.1 d.1 d.2.1 f fd->bP P w K mg base CX k f fd d.2.2 sp):C4 P w K mg base CX d k sp :=
 let #[f,fd,F,m,b]:=o
 #[f,fd,h f fd F,F,m,b]
theorem C4.imp(c:C4 P w K mg base CX d k sp)(h:∀ f fd,bP P w K mg base CX k f fd d.2.2 sp->bP P w K mg base CX k f fd d.2.2 O6):C4 P w K mg base CX d k O6 :=
 let #[f,fd,G,r]:=c
 #[f,fd,h f fd G,r]
theorem Jq{h:EQ}{f:AC}{oc:AT}{od an:Option AC}{Dn:Array (Option AT)}{kV doc pm bh ct:AT}(X:K.In h)(G:h.Ns GM mg)(a:nsIn K GM d.1=some (some (.ref f)))(l:K.lookup f=some #[oc,od,.func (fnOf d.1 d.1 (bR d.2.1) (aL d.2.1) (ai d.2.1) .none kV doc pm an bh ct),Dn])(c:codeIn K bh d.1=true)(k:keepIn K (.ref f)=true)(b:∀ (kV doc pm:AT) (an:Option AC) (bh ct:AT) (us:!AT),us.length=d.2.2.length->bindArgs (fnOf d.1 d.1 (bR d.2.1) (aL d.2.1) (ai d.2.1) .none kV doc pm an bh ct) #[us,[]]=pure (d.2.2.zip us)):Own K mg d :=
 #[f,_,eC l c k,WG X G a,(eC (st:=d.2.1) l c k).binds b]
end
section
variable{X:Cx}{c:Ent}{d:D3}{k m:Nat}{t:X9}{x:Str}{p pos:Pos}{e:Cl}{es:!Cl}{ta:eJ}
theorem ax(hr:bO m X.A)(G:C4 X.prog X.w X.K X.mg X.base aR d k (cQ X.K c.g t))(ha:DA X c (e::es) ta)(hx:(d.1=x)⁻¹)(hk:k<=m:=by ac_rfl)(hg:(Gl X x)⁻¹)(ig: ~~~(Yc x))(he:(Ya X.env e es)⁻¹)(fq:(Yb X.env pos es)⁻¹) :
  DE X c (.Call (.Name x p) (e::es) [] pos) (iq t ta):=by
 subst hx;let(f,fd,G,F,M,b):=G;exact Jc (hr.mono hk) hg M F.kp b ha G ig he fq
theorem bu(hr:bO m X.A)(G:C4 X.prog X.w X.K X.mg X.base aR d k (cQ X.K .no t))(ha:DA X c (e::es) ta)(hx:(d.1=x)⁻¹)(hk:k<=m:=by ac_rfl)(hg:(Gl X x)⁻¹)(ig: ~~~(Yc x))(he:(Ya X.env e es)⁻¹)(fq:(Yb X.env pos es)⁻¹) :
  DE X c (.Call (.Name x p) (e::es) [] pos) (iq t ta):=by
 subst hx;let(f,fd,G,F,M,b):=G;exact Ej (hr.mono hk) hg M F.kp b ha G ig he fq
theorem iY(hr:bO m X.A)(G:C4 X.prog X.w X.K X.mg X.base aR d k (zG X.K .no t))(ha:DA X c (e::es) ta)(hx:(d.1=x)⁻¹)(hk:k<=m:=by ac_rfl)(hg:(Gl X x)⁻¹)(ig: ~~~(Yc x))(he:(Ya X.env e es)⁻¹)(fq:(Yb X.env pos es)⁻¹) :
  DN X c (.Call (.Name x p) (e::es) [] pos) (iq t ta):=by
 subst hx;let(f,fd,G,F,M,b):=G;exact Fx (hr.mono hk) hg M F.kp b ha G ig he fq
end
theorem eF{N P:!Str}{sc:Scope}(h1:(sc.kind=.function)⁻¹)(h2:(sc.isCoroutine=false)⁻¹)(h3:(sc.isGenerator=false)⁻¹)(h4:N.Nodup:=by decide+kernel)(h5:(N.take P.length=P)⁻¹)(h6:∀ x∈P,sc.names.lookup x=some .local\/sc.names.lookup x=some .cell:=by decide+kernel)(h7:∀ y∈sc.names,y.2≠.free:=by decide+kernel):av N P sc:=#[h1,h2,h3,h4,h5,h6,h7]
theorem dH{g:pZ}{tb:jg}{R:jN}(I:!D->DS->Prop)(h0:∀ s,I [] s->R.nx s)(h1:∀ x xs s (E:jN),I (x::xs) s->(∀ s',I xs s'->E.nx s')->(∀ d,R.rt d->E.rt d)->g x s λs1=>tb E s1):∀ xs s,I xs s->lT g tb R xs s
 | [],s,h=>h0 s h
 | x::xs,s,h=>h1 x xs s { R with nx:=λs'=>lT g tb R xs s',ct:=λs'=>lT g tb R xs s',bk:=R.nx } h (λs' h'=>dH I h0 h1 xs s' h') λ_ h=>h
section
variable{X:Cx}{c:Ent}{x:Str}{pos p:Pos}
theorem vd(i:Nat)(hN:(X.N[i]?=some x)⁻¹)(hv:Lh X.env.scope x:=by first | exact Or.inl U | exact Or.inr (Or.inl U) | exact Or.inr (Or.inr U))(hd: ~~~(Yc x))(sW: ~~~((x == ("__classdict__":Str))=false)):DE X c (.Name x pos) (K2 i):=dv (w8 hN hv hd sW)
theorem gN{n:Nat}(i:Nat)(hN:X.N.Nodup)(hi:(X.N[i]?=some x)⁻¹)(hx:Loc X.env.scope x:=by exact Or.inl U)(hf:Yd X x:=by ac_nf)(hl: ~~~(i < n)):DG X c n (.Name x pos) (r9 i):=kc (eU hN hi hx hf) hl
theorem gM{n:Nat}(i:Nat)(L:!Str)(hN:L.Nodup:=by decide+kernel)(hL:(X.N=L)⁻¹)(hi:(L[i]?=some x)⁻¹)(hx:Loc X.env.scope x:=by exact Or.inl U)(hf:Yd X x:=by ac_nf)(hl: ~~~(i < n)):DG X c n (.Name x pos) (r9 i):=kc (eU (hL▸hN) (hL▸hi) hx hf) hl
theorem sS{e:Cl}{te:aV}(i:Nat)(hN:X.N.Nodup)(he:DE X c e te)(hi:(X.N[i]?=some x)⁻¹)(hx:Loc X.env.scope x:=by exact Or.inl U)(hs:(swapsWith e (some (.Name x p)) pos.line X.env=pure false)⁻¹)(hf:Yd X x:=by ac_nf):p6 X c (.Assign [.Name x p] e pos) (AZ i te):=mH (gz hN hi hx he.pe hs hf)
theorem sN{e:Cl}{te:aV}(k i:Nat)(hN:X.N.Nodup)(he:DN X c e te)(hi:(X.N[i]?=some x)⁻¹)(hx:Loc X.env.scope x:=by exact Or.inl U)(hs:(swapsWith e (some (.Name x p)) pos.line X.env=pure false)⁻¹)(hf:Yd X x:=by ac_nf)(gE:c.g.nh.length<=k:=by first | exact WH _ | exact We _ | exact Nat.succ_le_succ (WH _)):p6 X c (.Assign [.Name x p] e pos) (AF i k te):=IY (gz hN hi hx he.pe hs hf) gE
variable{a b:Cl}{ta tb:aV}
theorem cG(ha:DE X c a ta)(hb:DE X c b tb)(hs:kO b:=by exact λ_ _=>rfl):DE X c (.Subscript a b pos) (BZ LF ta tb):=CP HP Mo ha hb hs
theorem ou(ha:DE X c a ta)(hb:DE X c b tb)(hs:kO b:=by exact λ_ _=>rfl):DE X c (.Subscript a b pos) (BZ Ip ta tb):=CP xO Mt ha hb hs
theorem sF{tg iter:Cl}{body:!Ev}{ti:eJ}{g:pZ}{tb:jg}(hi:DI X c tg iter ti)(hg:DG X c 1000 tg g)(hb:qg X c body tb)(hc:(X.calm=true)⁻¹)(hp:PassesOwn (model X.prog X.w) X.A X.env X.xe:=by exact PassesOwn.never)(hs:Ye iter X.env:=by intro _;rfl):p6 X c (.For tg iter body [] pos) (F0 ti g tb):=MN hp hc hi hg hb hs
theorem yn{e:Cl}{es:!Cl}{t:eJ}{apos cX:Pos}(i:Nat)(ha:DA X c (e::es) t)(hN:(X.N[i]?=some x)⁻¹)(hv:Lh X.env.scope x:=by first | exact Or.inl U | exact Or.inr (Or.inl U) | exact Or.inr (Or.inr U))(hd: ~~~(Yc x))(sW: ~~~((x == ("__classdict__":Str))=false))(gL:(attributeBase (.Name x p) "append" X.env (eval (.Name x p) X.env)=eval (.Name x p) X.env)⁻¹)(r8:(((IR cX (GT (e::es) X.env)).all (λx=>(not x.1))&&(P3 cX (Re [] X.env)).all (λx=>x.1.isSome)
   && decide ((e::es).length+([]:!Rs).length+(if ([]:!Rs).isEmpty then 0 else 1) < 30))=true)⁻¹)(g6:((apos.endLine == cX.line)=true)⁻¹)(hs:(Ya X.env e es)⁻¹)(ip:((IR cX (GT es X.env)).any (·.1)=false)⁻¹)(Lr:(swapsWith (.Call (.Attribute (.Name x p) "append" apos) (e::es) [] cX) none pos.line X.env=pure false)⁻¹) :
  p6 X c (.Expr (.Call (.Attribute (.Name x p) "append" apos) (e::es) [] cX) pos) (Ak (Sb i Oh t)):=aU (yB PySem.F.slot_list_append PySem.F.type_list_append l5 GJ (w8 hN hv hd sW) ha gL r8 g6 hs ip) Lr
end
section
variable{X:Cx}{c:Ent}{pos p:Pos}{e:Cl}{es:!Cl}{t:eJ}
theorem fE(hm:X.mg "len"=none)(ha:DA X c (e::es) t)(hg:(Gl X "len")⁻¹)(he:(Ya X.env e es)⁻¹)(fq:(Yb X.env pos es)⁻¹):DE X c (.Call (.Name "len" p) (e::es) [] pos) (kT Jj t):=ju ia Qo hg hm PySem.boot_len ha () () he fq
theorem iS(hm:X.mg "tuple"=none)(ha:DA X c (e::es) t)(hg:(Gl X "tuple")⁻¹)(he:(Ya X.env e es)⁻¹)(fq:(Yb X.env pos es)⁻¹):DE X c (.Call (.Name "tuple" p) (e::es) [] pos) (kT KO t):=iR qa Lz hg hm (by decide+kernel) ha () () he fq
variable{tg elt iter:Cl}{ifs:!Cl}{scope:Scope}{tx:eJ}{g:pZ}{ti:lD}{te:aV}
theorem nC(ts:!Str)(us:!Nat)(hi:DI X c tg iter tx)(hg:∀ C s H fp,DG (X.comp ts us scope C s H fp) c ts.length tg g)(AR:∀ C s H fp,NF (X.comp ts us scope C s H fp) c ifs ti)(he:∀ C s H fp,DE (X.comp ts us scope C s H fp) c elt te)(S:bD X ts us scope:=by exact#[U,U,U,U,U,U])(hc:(X.calm=true)⁻¹)(hs:Ye iter X.env:=by intro _;rfl):DN X c (.ListComp elt [#[tg,iter,ifs,0]] scope pos) (pf ts.length us tx g ti te):=KQ S hc hi hg AR he hs
end
section
variable{P:GE}{w:Fa}{K:Frag}{mg:Str->Option AT}{base:EQ}{q:D3}{k nos:Nat}{g:yq}{t:X9}{N:!Str}
theorem Own.d(o:Own K mg q)(S:av N q.2.2 (ai q.2.1))(len:∀ ds R,t ds R->ds.length=q.2.2.length)(hb:∀ (f:AC) (bh:AT) (A:Fr) (outer:!Env) (s:Da) (H:Hp) (E:XK) (M:AC->Prop),bO k (A.deeper (envOfC q.1 (ai q.2.1) ↑s f bh)) ->
   ∃ tb,qg (iT aR P w K mg base N q.1 (ai q.2.1) f bh A outer s H E).wD #[g,M,H] (aL q.2.1) tb/\∀ ds R,t ds R->tb { nx:=λ_=>R .bT,rt:=R } (dX N.length nos ds))(hg:(g.nh=[])⁻¹):C4 P w K mg base aR q (k+1) (cQ K g t):=o.c λf fd F=>Ol F S len (hb f) hg
end
end DL
namespace DL
open PySem PySem.Spec L2
open PyProof.Rows hiding St
section
variable{X:Cx}{k m:Nat}{d l r:AC}{M0:AC->Prop}{H0:Hp}{q:D3}{x:Str}{p pos:Pos}
end
end DL
namespace DL
open PySem L2
theorem dM{α:Type}{g:pZ}{tb:jg}{R:jN}(f:α->D)(I:!α->DS->Prop){l:!α}(h0:∀ s,I l s->R.nx s)(h1:∀ dn x td s (E:jN),l=dn++x::td->I dn s->(∀ s',I (dn++[x]) s'->E.nx s')->(∀ d,R.rt d->E.rt d)->g (f x) s λs1=>tb E s1)(s:DS)(h:I [] s):lT g tb R (l.map f) s:=by
 show dH (λxs s=>∃ dn td,l=dn++td/\xs=td.map f/\I dn s) ?_ ?_ _ s #[[],l,U,U,h]
 .rintro s ⟨dn,td,e,hx,hi⟩;cases td with
  | nil=>rw[Wf] at e;subst e;exact h0 s hi
  | cons a b=>cases hx
 .rintro x xs s E ⟨dn,td,e,hx,hi⟩ hN hE;cases td with
  | nil=>cases hx
  | cons a td =>
   injection hx with e1 e2;subst e1 e2;exact h1 dn a td s E e hi (λs' hs=>hN s' #[dn++[a],td,by rw[e];simp,U,hs]) hE
section
variable{X:Cx}{c:Ent}{a b:Cl}{ta tb:aV}{pos:Pos}
end
section
open PyProof.Rows
variable{P:GE}{w:Fa}{K:Frag}{mg:Str->Option AT}{base:EQ}{q:D3}{k nos:Nat}{g:yq}{t:X9}{N:!Str}
theorem Own.n(o:Own K mg q)(S:av N q.2.2 (ai q.2.1))(len:∀ ds R,t ds R->ds.length=q.2.2.length)(hb:∀ (f:AC) (bh:AT) (A:Fr) (outer:!Env) (s:Da) (H:Hp) (E:XK) (M:AC->Prop),bO k (A.deeper (envOfC q.1 (ai q.2.1) ↑s f bh)) ->
   ∃ tb,qg (iT aR P w K mg base N q.1 (ai q.2.1) f bh A outer s H E).wD #[g,M,H] (aL q.2.1) tb/\∀ ds R,t ds R->tb { nx:=λ_=>False,rt:=λ_=>False,rf:=R } (dX N.length nos ds))(hg:(g.nh=[])⁻¹):C4 P w K mg base aR q (k+1) (zG K g t):=o.c λf fd F=>VB F S len (hb f) hg
end
theorem kq{α:Type}{x y:α}{r:!α}:jF (x::y::r) 1=some y:=iC (j:=1) U
theorem lb{α:Type}{x y z:α}{r:!α}:jF (x::y::z::r) 2=some z:=iC (j:=2) U
end DL
namespace DL
open PySem PySem.Spec L2
open PyProof.Rows hiding St
def gO(rs:!AC):yq:={ yq.no with nh:=rs }
def g8(H:Hp)(rs:!AC):Hp:=λb=>if b∈rs then none else H b
theorem gg{H:Hp}{rs:!AC}{b:AC}(h:b∉rs):g8 H rs b=H b:=if_neg h
theorem tp{H:Hp}{rs:!AC}{b:AC}(h:b∈rs):g8 H rs b=none:=if_pos h
theorem Fn{H:Hp}{rs:!AC}{b:AC}{o:HO}(h:g8 H rs b=some o):b∉rs/\H b=some o:=by
 by_cases q:b∈rs
 .rw[tp q] at h;cases h
 .rw[gg q] at h;exact#[q,h]
theorem lC{H:Hp}{x:AC}{o:HO}(h:H x=none):g8 (upd H x o) [x]=H:=by
 funext b
 by_cases q:b=x
 .subst q;rw[tp (Wn.mpr U),h]
 .rw[gg (λz=>q (Wn.mp z)),aw q]
structure lN(K:Frag)(H:Hp)(M:AC->Prop)(rs:!AC)(cs:!D):Prop where
 inj:∀ (k l:Nat) (r:AC),rs[k]?=some r->rs[l]?=some r->k=l
 len:rs.length=cs.length
 at_:∀ (k:Nat) (r:AC) (d:D),rs[k]?=some r->cs[k]?=some d->¬ M r/\∃ o,H r=some o/\cx K H M d o
def vK:!(Option D)->Option (!D)
 | []=>some []
 | none::_=>none
 | some d::r=>match vK r with
  | some l=>some (d::l)
  | none=>none
theorem Aw:∀ {l:!(Option D)} {cs:!D},vK l=some cs->l=cs.map some
 | [],cs,h=>by cases h;rfl
 | none::r,cs,h=>by cases h
 | some d::r,cs,h=>by
  unfold vK at h;cases e:vK r with
  | none=>rw[e] at h;cases h
  | some l=>rw[e] at h;cases h;rw[Aw e];rfl
theorem L9{l:!(Option D)}{cs:!D}{n:Nat}(h:vK (l.take n)=some cs):(∀ (k:Nat) (d:D),cs[k]?=some d->l[k]?=some (some d))/\(∀ (k:Nat),k < n->k < l.length->∃ d,cs[k]?=some d/\l[k]?=some (some d))/\cs.length=min n l.length:=by
 have e:=Aw h;have hl:cs.length=min n l.length:=by
  have:=congrArg List.length e;rw[Xl,V8] at this;exact this.symm
 have g:∀ (k:Nat) (d:D),cs[k]?=some d->l[k]?=some (some d):=λk d hk=>by
  have h1:(l.take n)[k]?=some (some d):=by rw[e,WL,hk];rfl
  rw[List.getElem?_take] at h1;split at h1
  .exact h1
  .cases h1
 show#[g,λk h1 h2=>?_,hl];have hk:k < cs.length:=by cbv
 exact#[cs[k],Wq hk,g k _ (Wq hk)]
abbrev pU:=!AC->!D->!D->(D->!D->Prop)->Prop
def df(K:Frag)(t:pU):Sp:=λvs H Q _=>∃ rs M ds cs R,Base #[.no,M,H] M H/\lN K H M rs cs/\az K H M ds vs/\t rs ds cs R /\
 ∀ x iK,R x iK->∀ M' H' v,Base #[.no,M,g8 H rs] M' H'->lN K H' M' rs iK->Rep K H' M' x v->Q v H'
def nR(n nos:Nat)(ds cs:!D):DS:=#[ds.map .dat++List.replicate (n - ds.length) .no,cs.map some++List.replicate nos none]
section
variable{K:Frag}{M M' M0:AC->Prop}{H H' H0:Hp}{rs:!AC}{cs iK:!D}{s:DS}{as:!AC}{σ:St}{nos:Nat}
theorem Base.yT(B:Base #[gO rs,M0,H0] M H):Base #[.no,M0,H0] M H:=#[B.nE,B.fr,B.md,B.mo,B.m0,B.mn]
theorem aD.yT(L:aD K #[gO rs,M0,H0] M s as σ H):aD K #[.no,M0,H0] M s as σ H:=#[L.base.yT,L.len,L.ek,L.dat,L.own,L.obj,L.inj,λ_ _ h=>(nomatch h)]
theorem wm{k:Nat}{d:D}{a:AC}(hl:rs.length=cs.length)(h1:(cs.map some++List.replicate nos none)[k]?=some (some d))(h2:(rs++List.replicate nos 0)[k]?=some a):cs[k]?=some d/\rs[k]?=some a:=by
 by_cases hk:k < cs.length
 .rw[W5 (by rw[V8];exact hk),WL] at h1;rw[W5 (by rw[hl];exact hk)] at h2;let(x,q1,q2):=WN.mp h1;cases q2;exact#[q1,h2]
 .rw[Xa (by rw[V8];cbv)] at h1;let(_,e):=Wb.mp h1;simp at e
theorem aD.hold(L:aD K #[.no,M0,H0] M s as σ H)(uc:s.os=[])(h:lN K H M rs cs)(hn:∀ r∈rs,H0 r=none):aD K #[gO rs,M0,H0] M #[s.sl,cs.map some++List.replicate nos none] (rs++List.replicate nos 0) σ H:=by
 show#[#[L.base.nE,L.base.fr,L.base.md,L.base.mo,L.base.m0,L.base.mn],L.len,by simp[h.len],L.dat,λi k e=>?_,λk d a e1 e2=>?_,λk l d e a e1 e2 g1 g2=>?_,λk a e=>?_]
 .let(a,z,_):=L.own i k e;have:=(Wb.mp z).1;rw[L.ek,uc] at this;exact absurd this (Nat.not_lt_zero _)
 .let(q1,q2):=wm h.len e1 e2;let(nm,o):=h.at_ k a d q2 q1;exact#[o,nm,λz=>z,hn a (WJ q2)]
 .exact h.inj k l a (wm h.len e1 g1).2 (wm h.len e2 g2).2
 .have e:rs[k]?=some a:=e;rw[W5 (Wb.mp e).1];exact e
theorem mv{N:!Str}{ds:!D}{vs:!V}(B:Base #[.no,M,H] M H)(h:lN K H M rs cs)(r:az K H M ds vs):aD K #[gO rs,M,g8 H rs] M (nR N.length nos ds cs) (rs++List.replicate nos 0) (L2.start N vs) H:=by
 have L0:=jU (N:=N) (nos:=0) (g:=.no) B r U;have L1:aD K #[.no,M,g8 H rs] M (dX N.length 0 ds) (List.replicate 0 0) (L2.start N vs) H:=#[#[trivial,λb o e _=>(Fn e).2,B.md,λ_ _ z=>z,λ_ m=>m,λ_ m=>.inl m],L0.len,L0.ek,L0.dat,L0.own,λk d a e=>by simp[dX] at e,L0.inj,L0.lt];exact L1.hold U h λr hr=>tp hr
theorem aD.there{n:Nat}(L:aD K #[gO rs,M0,H0] M s as σ H)(hn:rs.length=n):n<=s.os.length:=by
 cases n with
 | zero=>exact WH _
 | succ m =>
  have h:m < rs.length:=by cbv
  have:=(Wb.mp (L.lt m rs[m] (Wq h))).1;rw[L.ek] at this;exact this
theorem aD.at_{n:Nat}(L:aD K #[gO rs,M0,H0] M s as σ H)(hn:rs.length=n)(hc:vK (s.os.take n)=some cs){k:Nat}{r:AC}(h:rs[k]?=some r):∃ d,cs[k]?=some d/\s.os[k]?=some (some d)/\as[k]?=some r:=by
 have hk:k < rs.length:=(Wb.mp h).1;let(d,h1,h2):=(L9 hc).2.1 k (by cbv) (Wz (by cbv) (L.there hn));exact#[d,h1,h2,L.lt k r h]
theorem aD.held{n:Nat}(L:aD K #[gO rs,M0,H0] M s as σ H)(hn:rs.length=n)(hc:vK (s.os.take n)=some cs):lN K H M rs cs:=by
 show#[λk l r h1 h2=>?_,?_,λk r d h1 h2=>?_]
 .let(d,_,q2,q3):=L.at_ hn hc h1;let(e,_,p2,p3):=L.at_ hn hc h2;exact L.inj k l d e r q2 p2 q3 p3
 .have:=(L9 hc).2.2;have:=L.there hn;cbv
 .let(d',q1,q2,q3):=L.at_ hn hc h1;rw[h2] at q1;cases q1;let(o,nm,_):=L.obj k d r q2 q3;exact#[nm,o]
def DS.back(s:DS)(n:Nat)(cs:!D):DS:=#[s.sl,cs.map some++s.os.drop n]
theorem vf{n k:Nat}{x:D}(hl:iK.length=n)(h:(s.back n iK).os[k]?=some (some x)):(k < n/\iK[k]?=some x)\/(n<=k/\s.os[k]?=some (some x)):=by
 have h:(iK.map some++s.os.drop n)[k]?=some (some x):=h;by_cases hk:k < n
 .rw[W5 (by rw[V8];cbv),WL] at h;let(y,q1,q2):=WN.mp h;cases q2;exact .inl #[hk,q1]
 .rw[Xa (by rw[V8];cbv),V8,hl,Xy,show n+(k - n)=k by cbv] at h;exact .inr #[by cbv,h]
theorem aD.given(L:aD K #[gO rs,M0,H0] M s as σ H)(hc:vK (s.os.take rs.length)=some cs)(B:Base #[.no,M,g8 H rs] M' H')(h:lN K H' M' rs iK) :
  aD K #[gO rs,M0,H0] M' (s.back rs.length iK) as σ H'/\Ext #[gO rs,M0,H0] as M s H M' (s.back rs.length iK) H':=by
 have hl:iK.length=rs.length:=h.len.symm;have old:∀ {k:Nat} {x:D},(s.back rs.length iK).os[k]?=some (some x)->∃ y,s.os[k]?=some (some y):=λ{k x} e=>by
  rcases vf hl e with ⟨hk,_⟩ | ⟨_,q⟩
  .let(d,_,q2,_):=L.at_ U hc (Wq hk);exact#[d,q2]
  .exact#[x,q]
 have z0:∀ r∈rs,H0 r=none/\¬ M r/\¬ M' r/\dF s as r:=λr hr=>by
  let(k,hk):=Xw hr;let(d,_,q2,q3):=L.at_ U hc hk;let(_,nm,_,h0):=L.obj k d r q2 q3;obtain⟨d',hd'⟩:∃ d',iK[k]?=some d':=#[_,Wq (show k < iK.length by rw[hl];exact (Wb.mp hk).1)];exact#[h0,nm,(h.at_ k r d' hk hd').1,k,d,q2,q3]
 have kp:∀ b u,b∉rs->H b=some u->H' b=some u:=λb u nb e=>B.fr b u (by change g8 H rs b=_;rw[gg nb];exact e) λz=>z;have km:∀ b u,M b->H b=some u->H' b=some u:=λb u m e=>kp b u (λz=>(z0 b z).2.1 m) e;have nu:∀ b,M' b->M b\/Nu H b:=λb m=>by
  rcases B.mn b m with z | z
  .exact .inl z
  .have z:Nu (g8 H rs) b:=z;unfold Nu at z;rw[gg λq=>(z0 b q).2.2.1 m] at z;exact .inr z
 show#[#[#[trivial,λb u e g=>kp b u (λz=>?_) (L.base.fr b u e g),B.md,λ_ _ z=>z,λb m=>B.m0 b (L.base.m0 b m),λb m=>?_],L.len,?_,λi x e=>?_,L.own,λk x a h1 h2=>?_,λk l x y a h1 h2 g1 g2=>?_,L.lt],#[B.m0,λb m=>(nu b m).imp id .inl,λb u e _ w=>kp b u (λz=>w (z0 b z).2.2.2) e,λb #[k,x,h1,h2]=>?_]]
 .have e:H0 b=some u:=e;rw[(z0 b z).1] at e;cases e
 .rcases nu b m with m | n | ⟨xs,n⟩
  .exact L.base.mn b m
  .exact .inr (.inl (L.base.oQ n))
  .refine .inr ?_;cases e:H0 b with
   | none=>exact .inl e
   | some o =>
    have:=L.base.fr b o e λz=>z;rw[n] at this;cases this;exact .inr #[xs,e]
 .show as.length=(iK.map some++s.os.drop rs.length).length;have:=L.there U;rw[L.ek,Wa,V8,Xm,hl];cbv
 .let(v,q1,q2):=L.dat i x e;exact#[v,q1,Rep.mono B.m0 km x v q2]
 .rcases vf hl h1 with ⟨hk,q⟩ | ⟨hk,q⟩
  .have hr:=Wq hk;have e2:=L.lt k _ hr;rw[h2] at e2;injection e2 with e2;let(nm,o):=h.at_ k _ x hr q;have m:=XF hk;rw[<- e2] at nm o m;exact#[o,nm,λz=>z,(z0 a m).1]
  .let((o,q1,q2),nm,ng,hz):=L.obj k x a q h2;have na:a∉rs:=λz=>by
    let(j,hj):=Xw z;let(d,_,p2,p3):=L.at_ U hc hj;have:=L.inj j k d x a p2 q p3 h2;have:=(Wb.mp hj).1;cbv
   show#[#[o,kp a o na q1,q2.mono B.m0 km],λm=>?_,ng,hz];rcases nu a m with m | n | ⟨xs,n⟩
   .exact nm m
   .rw[n] at q1;cases q1
   .rw[n] at q1;cases q1;exact q2.BS
 .let(x',e1):=old h1;let(y',e2):=old h2;exact L.inj k l x' y' a e1 e2 g1 g2
 .let(x',e1):=old h1;exact#[k,x',e1,h2]
theorem pN.yT{R:jN}{E:Ends}(k:pN K #[.no,M0,H0] M H R E):pN K #[gO rs,M0,H0] M H R E :=
 #[λs as M' σ H' r L=>k.nx s as M' σ H' r L.yT,λs as M' σ H' r L=>k.bk s as M' σ H' r L.yT,λs as M' σ H' r L=>k.ct s as M' σ H' r L.yT,λd M' H' v r B=>k.rt d M' H' v r B.yT,λd M' H' a o r B=>k.rf d M' H' a o r B.yT,λd s as M' σ H' v r L=>k.rs d s as M' σ H' v r L.yT]
end
def IA(n:Nat)(R:D->!D->Prop):jN:={ nx:=λs=>∃ cs,vK (s.os.take n)=some cs/\R .bT cs,rt:=λ_=>False,rs:=λx s=>∃ cs,vK (s.os.take n)=some cs/\R x cs }
section
variable{P:GE}{w:Fa}{K:Frag}{mg:Str->Option AT}{base:EQ}
theorem U9{x qual:Str}{st:Ev}{f:AC}{fd:Go}{N ps:!Str}{k nos n:Nat}{t:pU}(F:tL K x qual st f fd)(S:av N ps (ai st))(len:∀ rs ds cs R,t rs ds cs R->ds.length=ps.length/\rs.length=n)(hb:∀ (bh:AT) (A:Fr) (outer:!Env) (s:Da) (H:Hp) (E:XK) (M:AC->Prop) (rs:!AC),bO k (A.deeper (envOfC qual (ai st) ↑s f bh))->rs.length=n ->
   ∃ tb,qg (iT aR P w K mg base N qual (ai st) f bh A outer s H E).wD #[gO rs,M,g8 H rs] (aL st) tb/\∀ ds cs R,t rs ds cs R->tb (IA n R) (nR N.length nos ds cs)):bP P w K mg base aR (k+1) f fd ps (df K t):=by
 show F.ok S (λvs H Q E h=>?_) λbh A outer s H vs Q E hr h=>?_
 .let(rs,M,ds,cs,R,B,hh,r,q,_):=h;rw[r.length];exact (len rs ds cs R q).1
 .let(rs,M,ds,cs,R,B,hh,r,q,kk):=h;have hn:=(len rs ds cs R q).2;let(tb,h1,h2):=hb bh A outer s H E M rs hr hn;show#[_,h1.ps,M,_,_,_,mv B hh r,h2 ds cs R q,#[λs as M' σ H' #[iK,hc,r'] L _=>?_,λ_ _ _ _ _ z=>z.elim,λ_ _ _ _ _ z=>z.elim,λ_ _ _ _ z=>z.elim,λ_ _ _ _ _ z=>z.elim,λx s as M' σ H' v #[iK,hc,r'] L rv=>?_]]
  .exact kk .bT iK r' M' H' .bT L.base.yT (L.held hn hc) U
  .exact kk x iK r' M' H' v L.base.yT (L.held hn hc) rv
theorem Own.o{q:D3}{N:!Str}{k nos n:Nat}{t:pU}(o:Own K mg q)(S:av N q.2.2 (ai q.2.1))(len:∀ rs ds cs R,t rs ds cs R->ds.length=q.2.2.length/\rs.length=n)(hb:∀ (f:AC) (bh:AT) (A:Fr) (outer:!Env) (s:Da) (H:Hp) (E:XK) (M:AC->Prop) (rs:!AC),bO k (A.deeper (envOfC q.1 (ai q.2.1) ↑s f bh))->rs.length=n ->
   ∃ tb,qg (iT aR P w K mg base N q.1 (ai q.2.1) f bh A outer s H E).wD #[gO rs,M,g8 H rs] (aL q.2.1) tb/\∀ ds cs R,t rs ds cs R->tb (IA n R) (nR N.length nos ds cs)):C4 P w K mg base aR q (k+1) (df K t):=o.c λf fd F=>U9 F S len (hb f)
def gP(K:Frag)(C:AC)(qual:Str)(d:D3):Prop:=∃ f fd,tL K d.1 qual d.2.1 f fd/\Meth K C d.1 f/\Binds K fd d.2.2 []
def gY(P:GE)(w:Fa)(K:Frag)(mg:Str->Option AT)(base:EQ)(C:AC)(d:D3)(k:Nat)(sp:Sp):Prop:=∃ f fd,bP P w K mg base aR k f fd d.2.2 sp/\Meth K C d.1 f/\Binds K fd d.2.2 []
theorem gP.o{C:AC}{qual:Str}{q:D3}{N:!Str}{k nos n:Nat}{t:pU}(o:gP K C qual q)(S:av N q.2.2 (ai q.2.1))(len:∀ rs ds cs R,t rs ds cs R->ds.length=q.2.2.length/\rs.length=n)(hb:∀ (f:AC) (bh:AT) (A:Fr) (outer:!Env) (s:Da) (H:Hp) (E:XK) (M:AC->Prop) (rs:!AC),bO k (A.deeper (envOfC qual (ai q.2.1) ↑s f bh))->rs.length=n ->
   ∃ tb,qg (iT aR P w K mg base N qual (ai q.2.1) f bh A outer s H E).wD #[gO rs,M,g8 H rs] (aL q.2.1) tb/\∀ ds cs R,t rs ds cs R->tb (IA n R) (nR N.length nos ds cs)):gY P w K mg base C q (k+1) (df K t):=by
 let(f,fd,F,m,b):=o;exact#[f,fd,U9 F S len (hb f),m,b]
end
section
variable{X:Cx}{k m n:Nat}{rs:!AC}{M0:AC->Prop}{H0:Hp}{q:D3}{x:Str}{p pos apos:Pos}{o e:Cl}{es:!Cl}{ta:eJ}{te tv:aV}{t:pU}{C:AC}{ks:!Str}
def KU(rs:!AC)(t:pU)(ta:eJ):aV:=λs Q=>ta s λds s1=>∃ cs,vK (s1.os.take rs.length)=some cs/\t rs ds cs λx iK=>Q x (s1.back rs.length iK)
theorem rO{M1:AC->Prop}{H1:Hp}{s1:DS}{as:!AC}{σ:St}{ds cs:!D}{vs:!V}{Q:VK}{E:XK}{R:D->!D->Prop}(L1:aD X.K #[gO rs,M0,H0] M1 s1 as σ H1)(hc:vK (s1.os.take rs.length)=some cs)(r1:az X.K H1 M1 ds vs)(q1:t rs ds cs R)(kk:∀ x iK,R x iK->∀ M' H' v,aD X.K #[gO rs,M0,H0] M' (s1.back rs.length iK) as σ H'->Ext #[gO rs,M0,H0] as M1 s1 H1 M' (s1.back rs.length iK) H'->Rep X.K H' M' x v->Q v H'):df X.K t vs H1 Q E :=
 #[rs,M1,ds,cs,R,L1.base.mD,L1.held U hc,r1,q1,λx iK rx M' H' v B h rv=>kk x iK rx M' H' v (L1.given hc B h).1 (L1.given hc B h).2 rv]
theorem kX(hr:bO m X.A)(G:C4 X.prog X.w X.K X.mg X.base aR q k (df X.K t))(ha:DA X #[gO rs,M0,H0] (e::es) ta)(hx:(q.1=x)⁻¹)(hk:k<=m:=by ac_rfl)(hg:(Gl X x)⁻¹)(ig: ~~~(Yc x))(he:(Ya X.env e es)⁻¹)(fq:(Yb X.env pos es)⁻¹) :
  DE X #[gO rs,M0,H0] (.Call (.Name x p) (e::es) [] pos) (KU rs t ta):=by
 subst hx;let(f,fd,G,F,hm,hb):=G;exact#[(jw G (hr.mono hk) hg hm F.kp hb .nil (E:=E0) hV ha.pa ig he fq).imp λσ H Q zz=>cV zz λM s as R L q kk =>
  #[M,s,as,_,L,q,λds s1 #[cs,hc,q1] M1 H1 vs L1 E1 r1 hl=>rO L1 hc (by rw[Wf];exact r1) q1 λx iK rx M' H' v L2 E2 rv=>kk x _ rx M' H' v L2 (E1.trans L1.base E2) rv]]
theorem jr:∀ {fs:!(Str×V)} {f:Str},f∉fs.map (·.1)->fs.lookup f=none
 | [],f,h=>rfl
 | (g,x)::r,f,h=>by
  have hb:(f == g)=false:=beq_eq_false_iff_ne.mpr λz=>h (by rw[z];exact Wg);simp only[List.lookup,hb];exact jr λz=>h (Wd _ z)
def CF(rs:!AC)(k:Nat)(C:AC)(ks:!Str)(te:aV)(t:pU)(ta:eJ):aV:=λs Q=>te s λd s1=>∃ a vs,d=.bG a/\rs[k]?=some a/\s1.os[k]?=some (some (.ob C ks vs))/\ta s1 λds s2=>∃ cs,vK (s2.os.take rs.length)=some cs/\t rs (d::ds) cs λx iK=>Q x (s2.back rs.length iK)
theorem pP{M:AC->Prop}{H:Hp}{s:DS}{as:!AC}{σ:St}{a:AC}{vs:!D}{j:Nat}(L:aD X.K #[gO rs,M0,H0] M s as σ H)(hr:rs[j]?=some a)(ho:s.os[j]?=some (some (.ob C ks vs))):∃ dx fs,H a=some (.ins C dx fs)/\fs.map (·.1)=ks/\az X.K H M vs (fs.map (·.2)):=by
 let((o,h1,h2),_):=L.obj j _ a ho (L.lt j a hr);cases o with
 | ins C' dx fs =>
  let(rfl,h3,h4):=h2;exact#[dx,fs,h1,h3,h4]
 | _=>exact h2.elim
theorem b7{pl:Sem Bool}{mm:Str}(j:Nat)(ks:!Str)(c:sZ X.K C)(hr:bO m X.A)(G:gY X.prog X.w X.K X.mg X.base C q k (df X.K t))(ho:DE X #[gO rs,M0,H0] o te)(ha:DA X #[gO rs,M0,H0] (e::es) ta)(hx:(q.1=mm)⁻¹)(hk:k<=m:=by ac_rfl)(ur:mm∉ks:=by decide+kernel)(gn:(Ya X.env e es)⁻¹)(fq:(Yb X.env pos es)⁻¹)(ht:(eval (.Call (.Attribute o mm apos) (e::es) [] pos) X.env=(do
   let ov <- eval o X.env
   standAt apos.atName
   let (f,first) <- holding [ov] (getMethod ov mm pl)
   callWith pos f first (IR pos (GT (e::es) X.env)) (P3 pos (Re [] X.env))))⁻¹) :
  DE X #[gO rs,M0,H0] (.Call (.Attribute o mm apos) (e::es) [] pos) (CF rs j C ks te t ta):=by
 subst hx;let(f,fd,G,hm,hb):=G;exact#[(yl ho.pe c hm G (hr.mono hk) hb .nil (E:=E0) hV ha.pa gn fq ht).imp λσ H Q zz=>cV zz λM s as R L q kk =>
  #[M,s,as,_,L,q,λd s1 z M1 H1 v L1 E1 rv=>by
   let(a,vs,ed,hj,ho,q1):=z;subst ed;have rv:v=.ref a:=rv;subst rv;let(dx,fs,h1,h2,h3):=pP L1 hj ho;show#[a,dx,fs,U,h1,jr (by rw[h2];exact ur),M1,s1,as,_,L1,q1,λds s2 #[cs,hc,q2] M2 H2 vs L2 E2 r2 hl=>?_];exact rO L2 hc (ds:=.bG a::ds) #[_,_,U,U,by rw[Wf];exact r2] q2 λx iK rx M' H' v L3 E3 rv=>kk x _ rx M' H' v L3 ((E1.trans L1.base E2).trans L2.base E3) rv]]
def Gf:!Str->Str->Option Nat
 | [],_=>none
 | k::r,f=>if k=f then some 0 else match Gf r f with
  | some i=>some (i+1)
  | none=>none
theorem A6{k f:Str}{r:!Str}{i:Nat}(h:Gf (k::r) f=some i):(k=f/\i=0)\/(k≠f/\∃ j,Gf r f=some j/\i=j+1):=by
 unfold Gf at h;by_cases e:k=f
 .rw[if_pos e] at h;cases h;exact .inl #[e,U]
 .rw[if_neg e] at h;cases q:Gf r f with
  | none=>rw[q] at h;cases h
  | some j=>rw[q] at h;cases h;exact .inr #[e,j,U,U]
theorem wZ:∀ {fs:!(Str×V)} {f:Str} {i:Nat},Gf (fs.map (·.1)) f=some i->fs.lookup f=(fs.map (·.2))[i]?
 | [],f,i,h=>by cases h
 | (g,x)::r,f,i,h=>by
  rcases A6 h with ⟨e,rfl⟩ | ⟨ne,j,hj,rfl⟩
  .have hb:(f == g)=true:=beq_iff_eq.mpr (Eq.symm e);simp only[List.lookup,hb]
   rfl
  .have hb:(f == g)=false:=beq_eq_false_iff_ne.mpr λz=>ne (Eq.symm z);simp only[List.lookup,hb];rw[wZ hj]
   rfl
theorem pB(y:V):∀ {fs:!(Str×V)} {f:Str},f∉fs.map (·.1)->gS f y fs=fs++[(f,y)]
 | [],f,h=>rfl
 | (g,x)::r,f,h=>by
  have ne:¬ g=f:=λz=>h (by rw[<- z];exact Wg);rw[show gS f y ((g,x)::r)=(if g=f then (g,y)::r else (g,x)::gS f y r) from U,if_neg ne,pB y λz=>h (Wd _ z)]
  rfl
def Qh(rs:!AC)(k:Nat)(C:AC)(ks:!Str)(i:Nat)(te:aV):aV:=λs Q=>te s λd s1=>∃ a vs y,d=.bG a/\rs[k]?=some a/\s1.os[k]?=some (some (.ob C ks vs))/\vs[i]?=some y/\Q y s1
theorem bE{f:Str}(j:Nat)(ks:!Str)(i:Nat)(c:sZ X.K C)(hn:cz X.K C f)(ho:DE X #[gO rs,M0,H0] o te)(hi:Gf ks f=some i:=by decide+kernel)(hb:(attributeBase o f X.env (eval o X.env)=eval o X.env)⁻¹):DE X #[gO rs,M0,H0] (.Attribute o f pos) (Qh rs j C ks i te) :=
 #[(BY ho.pe hb).imp λσ H Q zz=>cV zz λM s as R L q kk=>#[M,s,as,_,L,q,λd s1 z M1 H1 v L1 E1 rv=>by
   let(a,vs,y,ed,hj,ho,hy,q1):=z;subst ed;have rv:v=.ref a:=rv;subst rv;let(dx,fs,h1,h2,h3):=pP L1 hj ho;let(v,h4,h5):=h3.get hy;exact#[a,C,dx,fs,v,U,h1,c,hn,by rw[wZ (by rw[h2];exact hi)];exact h4,kk y s1 q1 M1 H1 v L1 E1 h5]]]
def N9(rs:!AC)(k:Nat)(C:AC)(ks:!Str)(f:Str)(te tv:aV):jg:=λR s=>tv s λy s1=>te s1 λd s2=>∃ a vs,d=.bG a/\rs[k]?=some a/\s2.os[k]?=some (some (.ob C ks vs))/\R.nx (s2.put k (.ob C (ks++[f]) (vs++[y])))
theorem xc{f:Str}{value:Cl}{pos':Pos}(j:Nat)(ks:!Str)(c:sZ X.K C)(hn:cz X.K C f)(ho:DE X #[gO rs,M0,H0] o te)(hv:DE X #[gO rs,M0,H0] value tv)(hi:f∉ks:=by decide+kernel)(hl: ~~~(ks.length < 1000))(hs:(swapsWith value (some (.Attribute o f pos')) pos.line X.env=pure false)⁻¹) :
  p6 X #[gO rs,M0,H0] (.Assign [.Attribute o f pos'] value pos) (N9 rs j C ks f te tv) :=
 #[(CH ho.pe hv.pe hs).imp λE σ H zz=>cV zz λM s as R L q kk=>#[M,s,as,_,L,q,λy s1 q1 M1 H1 w L1 E1 rw=>#[M1,s1,as,_,L1,q1,λd s2 z M2 H2 v L2 E2 rv=>by
   let(a,vs,ed,hj,ho,q2):=z;subst ed;have rv:v=.ref a:=rv;subst rv;let(dx,fs,h1,h2,h3):=pP L2 hj ho;have g:=pB w (fs:=fs) (f:=f) (by rw[h2];exact hi);show#[a,C,dx,fs,U,h1,c,hn,(by rw[<- V8 (f:=λx:Str×V=>x.1),h2];exact hl),?_];have E3:=(E1.trans L1.base E2).trans L2.base (Ext.kx (d:=.ob C (ks++[f]) (vs++[y])) (o:=.ins C dx (gS f w fs)) ho (L2.lt j a hj));exact kk.nx _ as M2 σ _ q2 (L2.kx ho (L2.lt j a hj) #[U,by rw[g,Wc,h2];rfl,by rw[g,Wc];exact h3.append (az.one (E2.rep L1 rw))]) (E3.grow L)]]]
def TZ(rs:!AC)(k:Nat)(C:D->!D->(D->D->Prop)->Prop)(te:aV)(ta:eJ):aV:=λs Q=>te s λx s0=>∃ a d0,x=.bG a/\rs[k]?=some a/\s0.os[k]?=some (some d0)/\RF d0=true/\ta s0 λds s1=>∃ d1,s1.os[k]?=some (some d1)/\C d1 ds λdr d2=>Q dr (s1.put k d2)
theorem T9{r:V->!V->Hp->VK->Prop}{CC:D->!D->(D->D->Prop)->Prop}(ok:EO X r CC){M M1:AC->Prop}{H H1:Hp}{s s1:DS}{as:!AC}{σ:St}{a:AC}{d1:D}{ds:!D}{vs:!V}{Q:VK}{R:D->DS->Prop}{j:Nat}(L1:aD X.K #[gO rs,M0,H0] M1 s1 as σ H1)(E1:Ext #[gO rs,M0,H0] as M s H M1 s1 H1)(r1:az X.K H1 M1 ds vs)(hj:rs[j]?=some a)(e1:s1.os[j]?=some (some d1))(q1:CC d1 ds λdr d2=>R dr (s1.put j d2))(kk:∀ d s',R d s'->∀ M' H' v,aD X.K #[gO rs,M0,H0] M' s' as σ H'->Ext #[gO rs,M0,H0] as M s H M' s' H'->Rep X.K H' M' d v->Q v H'):r (.ref a) vs H1 Q:=by
 have g1:=L1.lt j a hj;let((o1,f1,f2),nm,ng,h0):=L1.obj j d1 a e1 g1;show ok M1 H1 a o1 d1 ds vs _ Q f1 f2 r1 nm q1 λdr d2 hk o' v ro rv=>?_;have E2:Ext #[gO rs,M0,H0] as M1 s1 H1 M1 (s1.put j d2) (upd H1 a o'):=Ext.kx e1 g1;exact kk dr _ hk M1 _ v (L1.kx e1 g1 ro) (E1.trans L1.base E2) (E2.rep L1 rv)
section
variable{name:Str}{cX:Pos}{id:String}{r:V->!V->Hp->VK->Prop}{CC:D->!D->(D->D->Prop)->Prop}
theorem GC(j:Nat)(slot:Slot "list" name id)(yK:typeOf (.builtin id)=pure (.type "method_descriptor"))(hm:Pr X id r)(ok:EO X r CC)(ho:DE X #[gO rs,M0,H0] o te)(ha:DA X #[gO rs,M0,H0] (e::es) ta)(gL:(attributeBase o name X.env (eval o X.env)=eval o X.env)⁻¹)(r8:(((IR cX (GT (e::es) X.env)).all (λx=>(not x.1))&&(P3 cX (Re [] X.env)).all (λx=>x.1.isSome)
   && decide ((e::es).length+([]:!Rs).length+(if ([]:!Rs).isEmpty then 0 else 1) < 30))=true)⁻¹)(g6:((apos.endLine == cX.line)=true)⁻¹)(hs:(Ya X.env e es)⁻¹)(ip:((IR cX (GT es X.env)).any (·.1)=false)⁻¹) :
  DE X #[gO rs,M0,H0] (.Call (.Attribute o name apos) (e::es) [] cX) (TZ rs j CC te ta):=#[(Ck Xx slot yK hm ho.pe ha.pa gL r8 g6 hs ip).imp λσ H Q zz=>cV zz λM s as R L q kk=>#[M,s,as,_,L,q,λx s0 z M1 H1 v L1 E1 rv=>by
   let(a,d0,ed,hj,h2,h3,q):=z;subst ed;have rv:v=.ref a:=rv;subst rv;let((o,g3,g4),_):=L1.obj j d0 a h2 (L1.lt j a hj);let(xs,rfl):=vQ h3 g4;exact#[.inl #[U,xs,.of g3],M1,s0,as,_,L1,q,λds s1 #[d1,e1,q1] M2 H2 vs L2 E2 r2 hl=>T9 ok L2 (E1.trans L1.base E2) r2 hj e1 q1 kk]]]
theorem AY(j:Nat)(slot:Slot "list" name id)(yK:typeOf (.builtin id)=pure (.type "method_descriptor"))(hm:Pr X id r)(ok:EO X r CC)(ho:DE X #[gO rs,M0,H0] o te)(gL:(attributeBase o name X.env (eval o X.env)=eval o X.env)⁻¹)(g6:((apos.endLine == cX.line)=true)⁻¹):DE X #[gO rs,M0,H0] (.Call (.Attribute o name apos) [] [] cX) (TZ rs j CC te FT) :=
 #[(BA Xx slot yK hm ho.pe gL g6).imp λσ H Q zz=>cV zz λM s as R L q kk=>#[M,s,as,_,L,q,λx s0 z M1 H1 v L1 E1 rv=>by
   let(a,d0,ed,hj,h2,h3,d1,e1,q1):=z;subst ed;have rv:v=.ref a:=rv;subst rv;let((o,g3,g4),_):=L1.obj j d0 a h2 (L1.lt j a hj);let(xs,rfl):=vQ h3 g4;exact#[.inl #[U,xs,.of g3],T9 (ds:=[]) ok L1 E1 U hj e1 q1 kk]]]
end
def Ou(rs:!AC)(k:Nat)(te:aV):lD:=λs Q=>te s λx s0=>∃ a xs,x=.bG a/\rs[k]?=some a/\s0.os[k]?=some (some (.lst xs))/\Q (not xs.isEmpty) s0
theorem Et(j:Nat)(he:DE X #[gO rs,M0,H0] e te)(hw:∀ whole,isTrue e X.env whole=(do let v <- whole;standAt e.pos;holding [v] (truthy v)):=by intro _;rfl):DT X #[gO rs,M0,H0] e (Ou rs j te):=#[(Cu he.pe hw).imp λσ H Q zz=>cV zz λM s as R L q kk=>#[M,s,as,_,L,q,λx s0 z M1 H1 v L1 E1 rv=>by
 let(a,xs,ed,hj,h2,q):=z;subst ed;have rv:v=.ref a:=rv;subst rv;let((o,g3,g4),_):=L1.obj j _ a h2 (L1.lt j a hj);cases o with
 | lst us =>
  have g4:az X.K H1 M1 xs us:=g4;show#[(not us.isEmpty),.inl #[us,.of g3,U],?_];rw[ud g4.length];exact kk _ s0 q M1 H1 L1 E1
 | _=>exact g4.elim]]
end
abbrev Q8:=(!AC->DS->Prop)->DS->Prop
def UA(K:Frag)(M0:AC->Prop)(H0:Hp)(rs:!AC)(t:Q8):TS:=λE σ H=>∃ M s as R,aD K #[gO rs,M0,H0] M s as σ H/\t R s/\∀ rs s as M' σ H',R rs s->aD K #[gO rs,M0,H0] M' s as σ H'->E.nx σ H'
structure Li(X:Cx)(M0:AC->Prop)(H0:Hp)(rs:!AC)(qW:!Ev)(t:Q8):Prop where
 ps:nK X qW (UA X.K M0 H0 rs t)
section
variable{X:Cx}{M0:AC->Prop}{H0:Hp}{rs:!AC}{st:Ev}{qW:!Ev}{t:jg}{u:Q8}{uu:AC->Q8}{o value:Cl}{tv:aV}{C:AC}{ks:!Str}{f:Str}{pos pos':Pos}
theorem Bb:Li X M0 H0 rs [] (λR s=>R rs s):=#[t9.imp λE σ H zz=>cV zz λM s as R L q k=>k rs s as M σ H q L]
theorem oI(h1:p6 X #[gO rs,M0,H0] st t)(h2:Li X M0 H0 rs qW u):Li X M0 H0 rs (st::qW) (λR s=>t { nx:=u R,rt:=λ_=>False } s):=#[(b4 h1.ps h2.ps).imp λE σ H zz=>cV zz λM s as R L q k =>
 #[M,s,as,_,L,q,#[λs' as' M' σ' H' r L' G=>#[M',s',as',R,L',r,k],λ_ _ _ _ _ z=>z.elim,λ_ _ _ _ _ z=>z.elim,λ_ _ _ _ z=>z.elim,λ_ _ _ _ _ z=>z.elim,λ_ _ _ _ _ _ _ z=>z.elim]]]
theorem mi{i:Nat}(j:Nat)(ks:!Str)(c:sZ X.K C)(hn:cz X.K C f)(ho:PE X o (bN i))(hv:DN X #[gO rs,M0,H0] value tv)(h2:∀ a,Li X M0 H0 (rs++[a]) qW (uu a))(hi:f∉ks:=by decide+kernel)(hl: ~~~(ks.length < 1000))(hs:(swapsWith value (some (.Attribute o f pos')) pos.line X.env=pure false)⁻¹) :
  Li X M0 H0 rs (.Assign [.Attribute o f pos'] value pos::qW) (λR s=>tv s λy s1=>∃ x vs,s1.sl[i]?=some (.dat (.bG x))/\rs[j]?=some x/\s1.os[j]?=some (some (.ob C ks vs))/\(s1.os[rs.length]?=some none/\noRef rs.length s1.sl.length s1.sl=true)/\∀ a,uu a R #[s1.sl,(s1.os.set rs.length (some y)).set j (some (.ob C (ks++[f]) (vs++[.bG a])))]):=by
 have h3:nK X qW (λE σ H=>∃ a,UA X.K M0 H0 (rs++[a]) (uu a) E σ H):=λTW s σ H E I #[a,q]=>(h2 a).ps TW s σ H E I q;show#[(b4 (CH ho hv.pe hs) h3).imp λE σ H zz=>cV zz λM s as R L q k=>#[M,s,as,_,L,q,λy s1 z M1 H1 a o L1 E1 ha ro nm ng nw h0 hn'=>?_]];let(x,vs,hx,hj,hob,(hfree,hnr),q1):=z;let(v,hv1,hv2):=L1.dat i _ hx;have hv2:v=.ref x:=hv2;subst hv2;let(dx,fs,g1,g2,g3):=pP L1 hj hob;have g:=pB (.ref a) (fs:=fs) (f:=f) (by rw[g2];exact hi);have hjl:j < rs.length:=(Wb.mp hj).1;have hnl:rs.length < s1.os.length:=(Wb.mp hfree).1;have hkl:rs.length < as.length:=by rw[L1.ek];exact hnl
 show#[_,hv1,x,C,dx,fs,U,g1,c,hn,(by rw[<- V8 (f:=λx:Str×V=>x.1),g2];exact hl),a,M1,_,as.set rs.length a,R,?_,q1 a,k];have Lm:aD X.K #[gO (rs++[a]),M0,H0] M1 #[s1.sl,s1.os.set rs.length (some y)] (as.set rs.length a) σ H1:=by
  show#[#[L1.base.nE,L1.base.fr,L1.base.md,L1.base.mo,L1.base.m0,L1.base.mn],L1.len,by simp[L1.ek],L1.dat,λl m e=>?_,λl d b e1 e2=>?_,λl m d e b e1 e2 f1 f2=>?_,λl b e=>?_]
  .let(b,p1,p2):=L1.own l m e;have nm:rs.length≠m:=λz=>by
    subst z;exact lU (We _) hnr e
   exact#[b,by rw[Wt nm];exact p1,p2]
  .rcases cD e1 with ⟨rfl,_,q⟩ | ⟨ne,q⟩
   .cases q;rw[WK hkl] at e2;cases e2;exact#[#[o,ha,ro],nm,ng,h0]
   .rw[Wt ne] at e2;exact L1.obj l d b q e2
  .rcases cD e1 with ⟨rfl,_,q⟩ | ⟨ne,q⟩
   .rcases cD e2 with ⟨rfl,_,q'⟩ | ⟨ne',q'⟩
    .rfl
    .rw[WK hkl] at f1;cases f1;rw[Wt ne'] at f2;exact absurd #[m,e,q',f2] nw
   .rcases cD e2 with ⟨rfl,_,q'⟩ | ⟨ne',q'⟩
    .rw[WK hkl] at f2;cases f2;rw[Wt ne] at f1;exact absurd #[l,d,q,f1] nw
    .rw[Wt ne] at f1;rw[Wt ne'] at f2;exact L1.inj l m d e b q q' f1 f2
  .have e:(rs++[a])[l]?=some b:=e;by_cases hlr:l < rs.length
   .rw[W5 hlr] at e;rw[Wt (by cbv)];exact L1.lt l b e
   .rw[Xa (by cbv)] at e;have:l=rs.length:=by
     have:=(Wb.mp e).1;simp at this;cbv
    subst this;rw[Nat.sub_self] at e;cases e;rw[WK hkl]
 have hob2:(s1.os.set rs.length (some y))[j]?=some (some (.ob C ks vs)):=by rw[Wt (by cbv)];exact hob
 exact Lm.kx (s:=#[s1.sl,s1.os.set rs.length (some y)]) hob2 (by rw[Wt (by cbv)];exact L1.lt j x hj) #[U,by rw[g,Wc,g2];rfl,by rw[g,Wc];exact g3.append (az.one (show Rep X.K H1 M1 (.bG a) (.ref a) from U))]
end
abbrev EC:=!D->(!AC->!D->Prop)->Prop
def yW(K:Frag)(C:AC)(t:EC):Sp:=λvs H Q _=>∃ x dx M ds R ws,vs=.ref x::ws/\H x=some (.ins C dx [])/\Base #[.no,M,H] M H/\¬ M x/\az K H M ds ws/\t ds R /\
 ∀ rs cs,R rs cs->∀ M' H',Base #[.no,M,g8 H [x]] M' H'->lN K H' M' rs cs->rs[0]?=some x->(∀ r∈rs,g8 H [x] r=none)->Q .bT H'
section
variable{P:GE}{w:Fa}{K:Frag}{mg:Str->Option AT}{base:EQ}
theorem Sr{x qual:Str}{st:Ev}{f C:AC}{fd:Go}{N ps:!Str}{k nos:Nat}{t:EC}(F:tL K x qual st f fd)(S:av N ps (ai st))(len:∀ ds R,t ds R->ds.length+1=ps.length)(hb:∀ (bh:AT) (A:Fr) (outer:!Env) (s:Da) (H:Hp) (E:XK) (M:AC->Prop) (x:AC),bO k (A.deeper (envOfC qual (ai st) ↑s f bh)) ->
   ∃ tb,Li (iT aR P w K mg base N qual (ai st) f bh A outer s H E).wD M (g8 H [x]) [x] (aL st) tb/\∀ ds R,t ds R->tb (λrs s=>rs[0]?=some x/\∃ cs,vK (s.os.take rs.length)=some cs/\R rs cs) (nR N.length nos (.bG x::ds) [.ob C [] []])):bP P w K mg base aR (k+1) f fd ps (yW K C t):=by
 show F.ok S (λvs H Q E h=>?_) λbh A outer s H vs Q E hr h=>?_
 .let(x,dx,M,ds,R,ws,rfl,_,_,_,r,q,_):=h;rw[Wi,r.length];exact len ds R q
 .let(x,dx,M,ds,R,ws,rfl,hx,B,nm,r,q,kk):=h;let(tb,h1,h2):=hb bh A outer s H E M x hr;show#[_,h1.ps,M,_,_,_,mv (nos:=nos) (rs:=[x]) (cs:=[.ob C [] []]) (ds:=.bG x::ds) B #[λk l r e1 e2=>?_,U,λk r d e1 e2=>?_] #[_,_,U,U,r],h2 ds R q,λrs s as M' σ H' z L=>?_]
  .match k,l,e1,e2 with
   | 0,0,_,_=>rfl
  .match k,e1,e2 with
   | 0,e1,e2 =>
    cases e1;cases e2;exact#[nm,_,hx,U,U,U]
  .let(hx0,cs,hc,hR):=z;show kk rs cs hR M' H' L.base.yT (L.held U hc) hx0 λr hr=>?_;let(k,hk):=Xw hr;let(d,_,q2,q3):=L.at_ U hc hk;exact (L.obj k d r q2 q3).2.2.2
end
section
variable{X:Cx}{k m i nos:Nat}{M0:AC->Prop}{H0:Hp}{q:D3}{x y:Str}{p p2 p3 pos:Pos}{e:Cl}{es:!Cl}{ta:eJ}{t:EC}{C f:AC}{fd:Go}{ps:!Str}{qW:!Ev}{u:!AC->jg}
theorem DU(nos:Nat)(OA:L2.Mk X.K C f)(F:bP X.prog X.w X.K X.mg X.base aR k f fd ps (yW X.K C t))(hr:bO (k+1) X.A)(hm:X.mg x=some (.ref C))(hb:Binds X.K fd ps [])(hN:X.N.Nodup)(ha:DA X #[.no,M0,H0] (e::es) ta)(h2:∀ rs,qg X #[gO rs,M0,H0] qW (u rs))(hg:(Gl X x)⁻¹)(hi:(X.N[i]?=some y)⁻¹)(hy:Loc X.env.scope y:=by exact Or.inl U)(ig: ~~~(Yc x))(he:(Ya X.env e es)⁻¹)(fq:((IR p3 (GT es X.env)).any (·.1)=false)⁻¹)(hs:(swapsWith (.Call (.Name x p2) (e::es) [] p3) (some (.Name y p)) pos.line X.env=pure false)⁻¹)(hf:X.fn y=true\/X.env.scope.names.lookup y=some .local:=by ac_nf) :
  qg X #[.no,M0,H0] (.Assign [.Name y p] (.Call (.Name x p2) (e::es) [] p3) pos::qW) (λR s=>ta s λds s1=>s1.os=[]/\t ds λrs cs=>∀ z,rs[0]?=some z->u rs R #[s1.sl.set i (.dat (.bG z)),cs.map some++List.replicate nos none]):=by
 have h3:nK X qW (λE σ H=>∃ rs,tS X.K #[gO rs,M0,H0] (u rs) E σ H):=λTW s σ H E I #[rs,q]=>(h2 rs).ps TW s σ H E I q;show#[(b4 (gz hN hi hy (rR OA F hr hg hm hb .nil (E:=E0) hV ha.pa ig he fq) hs hf) h3).imp λE σ H zz=>cV zz λM s as R L q kk=>#[M,s,as,_,L,q,λds s1 z M1 H1 vs L1 E1 r1 hl x dx hx hdx vD=>?_]];let(uc,q1):=z;have hx':upd H1 dx (.own x) x=none:=by rw[aw (Ne.symm vD)];exact hx
 have Ld:=L1.laid (o:=.own x) hdx;let(nm,_):=notM L1 hx;show#[x,dx,M1,ds,_,vs++[],U,aA,(Ld.laid (o:=.ins C dx []) hx').base.mD,nm,by rw[Wf];exact fM hx' (fM hdx r1),q1,λrs cs hR M' H' B' hh h0 hz=>#[U,rs,M',_,rs++List.replicate nos 0,R,?_,hR x h0,?_]]
 .rw[lC hx'] at B' hz;have L2:=Ld.after B';exact (L2.hold (nos:=nos) uc hh λr hr=>Ld.base.oQ (hz r hr)).II i (show Rep X.K H' M' (.bG x) (.ref x) from U)
 .rw[lC hx'] at B';exact (kk.grow (((E1.trans L1.base (Ext.laid hdx)).trans Ld.base (Ext.after B')).grow L)).yT
end
end DL
namespace L2
open PySem PySem.Calls PyProof.Rows PyProof.V PySem.Spec
structure Gr(P:GE)(w:Fa)(K:Frag)(d:AC)(kvs:!(Str×AT)):Prop where
 ob:∃ o,K.lookup d=some o/\o.IsDictOf (strKind P w) kvs
 nm:(d == Ps)=false
section
variable{X:Cx}{d:AC}{kvs:!(Str×AT)}
def TK(d:AC)(kvs:!(Str×AT)):R2:=λx y H Q=>∃ i f,x=.ref d/\y=.str i/\valueAt kvs i=some (.ref f)/\Q (.ref f) H
theorem Gr.dict{TW:X8}{σ:St}{H:Hp}{s:Da}(h:Gr X.prog X.w X.K d kvs)(I:Inv X TW σ H s):s.heap.DictOf (strKind X.prog X.w) d kvs:=by
 let(o,hk,hd):=h.ob;exact EQ.dictOf_iff.mpr #[o,I.vC d o hk,hd]
theorem RB(h:Gr X.prog X.w X.K d kvs):K4 X (TK d kvs):=by
 intro value slice TW s σ H x y v u Q I rx ry q hs;let(i,f,rfl,rfl,e,q):=q;let(t,rfl):=ry;cases (show v=AT.ref d from rx);exact tail_any (h.dict I).typeIs slot_dict_getitem.lookup (wpAny_getItem_of (strKind_is _ _ _ _) (h.dict I).mapOf e #[.ref f,H,I.tok _,U,q]) hs
def GO(X:Cx)(k:Nat)(f:AC)(sp:Sp):Prop:=∃ fd ps,bP X.prog X.w X.K X.mg X.base aR k f fd ps sp/\keepIn X.K (.ref f)=true/\Binds X.K fd ps []
def Iq(X:Cx)(k:Nat)(tf:TE)(t:TA):TE:=λσ H Q=>tf σ H λv H1=>∃ f sp,v=.ref f/\GO X k f sp/\t σ H1 λvs H2=>sp vs H2 Q E0
theorem CN{k:Nat}{a b e:Cl}{es:!Cl}{p pos:Pos}{tf:TE}{t:TA}(hr:bO k X.A)(hf:PE X (.Subscript a b p) tf)(ha:PA X (e::es) t)(he:(Ya X.env e es)⁻¹)(fq:(Yb X.env pos es)⁻¹) :
  PE X (.Call (.Subscript a b p) (e::es) [] pos) (Iq X k tf t):=by
 intro TW s σ H Q I h;rw[show eval (.Call (.Subscript a b p) (e::es) [] pos) X.env=(do callWith pos (<- eval (.Subscript a b p) X.env) [] (IR pos (GT (e::es) X.env)) (P3 pos (Re [] X.env))) from U];show Ch (b3 (hf TW s σ H _ I h) λv s1 #[x,H1,I1,r,f,sp,e1,#[fd,ps,F,hk,hb],q]=>?_);subst e1;cases (show v=AT.ref f from r);show XR (h₀:=X.base) I1.ok.mod.K8 hk (b3 (ha pos TW s1 σ H1 _ I1 q) λus s2 zz=>el2 zz λvs H2 I2 r2 q2=>#[I2.vC,?_]) he fq;exact rX F hr hb .nil hV I2 r2 (by rw[Wf];exact q2)
end
section
variable{X:Cx}
end
end L2
namespace Dm
open PySem Sem
theorem qj:typeLookup (.type "tuple") "keys"=Pure.pure none:=by rw[typeLookup_type,builtinLookup_eq_fast];kernel_rfl
theorem uN:typeLookup (.type "tuple") "__getattr__"=Pure.pure none:=by rw[typeLookup_type,builtinLookup_eq_fast];kernel_rfl
section
variable{prog:GE}{w:Fa}{A:Fr}{E:X7}{h:EQ}{g:Array GenState}{d:Drawn}{t:Nat}{os:OsState}{a:AC}{o:Obj}
theorem vy{tk:Tok}{items:Array AT}{n:Nat}{sl:Array (Option AT)}{Q:PySem.Fin->Da->Prop}(hh:A.handled=none)(hx:h.get? a=some #[.type "tuple",none,.seq items n,sl])(hq:∀ h' e t',(∀ b u,h.get? b=some u->h'.get? b=some u)->(∃ u,h'.get? e=some u/\u.cls=.type "AttributeError")->E (.ref e) #[h',g,d,t',os]) :
  Db (model prog w) A (Fk.«object.__getattribute__» #[[.ref a,.str "keys" tk],[]]) Q E #[h,g,d,t,os]:=by
 have hT:(#[h,g,d,t,os]:Da).TypeIs (.ref a) "tuple":=#[_,hx,U];have f4:=qj
 repeat (any_goals (first | assumption | with_reducible show ph hh (by decide+kernel) hq | wp_step))
theorem CO{tk:Tok}{items:Array AT}{n:Nat}{sl:Array (Option AT)}{Q:X7}(hh:A.handled=none)(hx:h.get? a=some #[.type "tuple",none,.seq items n,sl])(hq:∀ h' e t',(∀ b u,h.get? b=some u->h'.get? b=some u)->(∃ u,h'.get? e=some u/\u.cls=.type "AttributeError")->E (.ref e) #[h',g,d,t',os]) :
  Db (model prog w) A (getAttrBy (.ref a) (.str "keys" tk) false) Q E #[h,g,d,t,os]:=by
 have hT:(#[h,g,d,t,os]:Da).TypeIs (.ref a) "tuple":=#[_,hx,U];have f2:=F.slot_tuple_getattribute.lookup;have f3:=F.slot_tuple_getattribute.bind (.ref a);have f5:=uN
 repeat (any_goals (first | assumption | wp_step))
 show codeAny_call_builtin F.slot_tuple_getattribute.plain F.entry_tuple_ga (F.slot_tuple_getattribute.check _ _ _ _ _ _ _ _ hT (F.args_tuple_getattribute_2 _ _) (vy hh hx λh' e t' k c=>?_));let(u,hu,hc):=c;have hT2:(#[h',g,d,t',os]:Da).TypeIs (.ref e) "AttributeError":=#[u,hu,hc];have f6:=iP;change Db _ _ (getattributeRaised (.ref a) (.str "keys" tk) (.type "tuple") (.ref e) none false false) _ _ _;have hE:=hq h' e t' k #[u,hu,hc]
 repeat (any_goals (first | assumption | wp_step))
theorem Bc{items:Array AT}{n:Nat}{sl:Array (Option AT)}{Q:Option AT->Da->Prop}(hh:A.handled=none)(hx:h.get? a=some #[.type "tuple",none,.seq items n,sl])(hq:∀ h' t',(∀ b u,h.get? b=some u->h'.get? b=some u)->Q none #[h',g,d,t',os]) :
  Db (model prog w) A (getAttr? (.ref a) "keys") Q E #[h,g,d,t,os]:=by
 unfold getAttr? getAttrBy?;show Ch ?_;have f6:=iP;unfold mkText
 repeat (any_goals (first | assumption | with_reducible apply CO hh hx | wp_step))
 intro h' e t' k c;let(u,hu,hc):=c;have hT2:(#[h',g,d,t',os]:Da).TypeIs (.ref e) "AttributeError":=#[u,hu,hc];have hE:=hq h' t' k
 repeat (any_goals (first | assumption | wp_step))
end
end Dm
namespace L2
open PySem PySem.Spec
open PyProof.Rows hiding St
section
variable{X:Cx}{TW:X8}{σ:St}
def wB(H:Hp)(x:V)(kv:Key×V):Prop:=∃ p,x=.ref p/\H p=some (.tup [kV kv.1,kv.2])
def eV(m:!(Key×V))(kvs:!(Key×V)):!(Key×V):=kvs.foldl (λm kv=>putK m kv.1 kv.2) m
theorem wB.up{H:Hp}{x:V}{kv:Key×V}{a:AC}{m m':!(Key×V)}(e:H a=some (.dK m))(h:wB H x kv):wB (upd H a (.dK m')) x kv:=by
 let(p,e1,e2):=h;have n1:p≠a:=λz=>by subst z;rw[e] at e2;cases e2
 exact#[p,e1,by rw[aw n1];exact e2]
theorem wB.new{H:Hp}{x:V}{kv:Key×V}{a:AC}{o:HO}(e:H a=none)(h:wB H x kv):wB (upd H a o) x kv:=by
 let(p,e1,e2):=h;exact#[p,e1,by rw[aw (aE e2 e)];exact e2]
theorem oO{H:Hp}{s:Da}{A:Fr}{E:X7}{a:AC}{k:Key}{v:V}{kr r:AT}{m:!(Key×V)}{Q:Unit->Da->Prop}(I:Inv X TW σ H s)(e:H a=some (.dK m))(ry:RelV (kV k) kr)(l:m.length < FB)(rv:RelV v r)(h:∀ s',Inv X TW σ (upd H a (.dK (putK m k v))) s'->EQ.SameBut a s.heap s'.heap->Q Unit.unit s'):Db (model X.prog X.w) A (dictSet a kr r) Q E s:=by
 let(z,hd,vs,rel,dd):=xT I.bx e;have hz:vs.length<=FB:=by rw[<- rel.length];exact z
 have hl:(putK m k v).length<=FB:=by have:=ee m k v;cbv
 show wpAny_dictSet_pairs (hsz:=hz) (pO ry) dd λh' dd' hs=>h _ ?_ hs;have he:∃ q,h'.get? a=some q:=let #[q,_,_,hq,_]:=dd';#[q,hq];exact nO I (by rw[e];exact True.intro) hs he (rT hl hd (rel.put k rv) dd')
theorem pR{A:Fr}{E:X7}{a it l:AC}{xs:!V}{Q:Da->Prop}(hh:A.in1.handled=none):∀ (rest:!(Key×V)) (i:Nat) (acc:!(Key×V)) (H:Hp) (s:Da),
  Inv X TW σ H s->H a=some (.dK acc)->H l=some (.tup xs)->Paired (wB H) (xs.drop i) rest->fb X TW H it->s.heap.IsTupleIter it l i->acc.length+rest.length < FB ->
  (∀ s',Inv X TW σ (upd H a (.dK (eV acc rest))) s'->Q s') ->
  codeAny (model X.prog X.w) A (.builtin "dict.update.loop" #[[.ref a,.ref it,KF i,.none],[]]) (wants (λr s2=>r=.none/\Q s2) E) s
 | [],i,acc,H,s,I,ha,hl,hp,hf,hit,hz,q=>by
  have hx:xs.drop i=[]:=Xj (Paired.length hp);let(its,rv,pl,_):=I.tuple (.of hl);have hn:its.toArray[i]?=none:=by
   have:=rv.length;have:=congrArg List.length hx;simp at this ⊢;cbv
  show codeAny_builtin jm ?_;rw[Fr.under_plain U U];change Db _ _ (pyNext (.ref it) >>= _) _ _ _;show Ch (wpAny_pyNext_tuple_end hh hit (show s.heap.IsTuple l its.toArray from pl) hn λh' eb=>?_);have I1:Inv X TW σ H { s with heap:=h' }:=Inv.gq (t':=s.toks) (fp:=[it]) I (λb o hb z=>eb b o (λy=>hb (by simp[y])) z) λb hb=>by rw[List.mem_singleton.mp hb];exact hf
  change Db _ _ (Fk.Dict.addKeywords a [] >>= _) _ _ _;show Ch (FS (FS #[U,q _ ?_]));have e:upd H a (.dK (eV acc []))=H:=by
   funext b
   by_cases hb:b=a
   .subst hb;rw[aA,ha]
    rfl
   .rw[aw hb]
  rw[e];exact I1
 | kv::rest,i,acc,H,s,I,ha,hl,hp,hf,hit,hz,q=>by
  have gE:i < xs.length:=by
   have:=Paired.length hp;rw[Xm,Wi] at this;cbv
  rw[WW gE] at hp;cases hp with
  | cons hx hr =>
  let(p,e1,e2):=hx;let(its,rv,pl,_):=I.tuple (.of hl);let(u,hu1,ru):=rv.get (show xs[i]?=some xs[i] from Wq gE);rw[e1] at ru;have ru:u=.ref p:=ru;subst ru;show codeAny_builtin jm ?_;rw[Fr.under_plain U U];change Db _ _ (pyNext (.ref it) >>= _) _ _ _;show Ch (wpAny_pyNext_tuple_item hit (show s.heap.IsTuple l its.toArray from pl) (by simpa using hu1) λh' hit' hs=>?_);have I1:Inv X TW σ H { s with heap:=h' }:=Inv.gq (t':=s.toks) (fp:=[it]) I (λb o hb z=>(hs.2 b (λy=>hb (by simp[y]))).trans z) λb hb=>by rw[List.mem_singleton.mp hb];exact hf
  let(_,ps,rp,op,g1,g2,nn,g3,_):=(show b6 X.prog X.w H h' p (.tup [kV kv.1,kv.2]) from I1.bx p _ e2);let(kr,vr,rfl,rk,rvv):=Vals.two rp;change Db _ _ (holding [AT.ref p] _ >>= _) _ _ _;show Ch (NE (Ch (wpAny_tryCatch ?_)));have hT:Da.TypeIs { s with heap:=h' } (.ref p) "tuple":=#[op,g1,g2];unfold Fk.Dict.pairItems;show Ch (wpAny_typeOf hT ?_);rw[if_pos ()];show Ch (PP g1 g3 (FS ?_));change Db _ _ (holding [kr,vr] (dictSet a kr vr)) _ _ _;have hzl:acc.length+(rest.length+1) < FB:=hz;show NE (oO I1 ha rk (by cbv) rvv λs2 I2 oX=>?_);have hia:it≠a:=λz=>by
   subst z;rw[hf.1] at ha;cases ha
  have hla:l≠a:=λz=>by
   subst z;rw[hl] at ha;cases ha
  show FS #[Code.quiet_builtin _ (by decide+kernel),?_];have fq:=ee acc kv.1 kv.2;show pR hh rest (i+1) (putK acc kv.1 kv.2) (upd H a (.dK (putK acc kv.1 kv.2))) s2 I2 aA (by rw[aw hla];exact hl) (Paired.uQ hr λ_ _ z=>wB.up ha z) #[by rw[aw hia];exact hf.1,hf.2] (hit'.at λo z=>(oX.2 it hia).trans z) (by cbv) λs3 I3=>q s3 ?_;rw[lg] at I3;exact I3
theorem vm{H:Hp}{s:Da}{E:X7}{l:AC}{xs:!V}{kvs:!(Key×V)}{Q:X7}(hh:X.A.handled=none)(I:Inv X TW σ H s)(hl:H l=some (.tup xs))(hp:Paired (wB H) xs kvs)(hz:kvs.length < FB)(h:∀ a s',H a=none->Inv X TW σ (upd H a (.dK (eV [] kvs))) s'->Q (.ref a) s'):Db (model X.prog X.w) X.A (call (.type "dict") [.ref l]) Q E s:=by
 show callType_codes (Q₁:=λobj s₁=>obj=.ref ↑s/\s₁={ s with heap:=s.heap.push { cls:=.type "dict",data:=.dict #v[] } }) PySem.F.kt_called_dict (PySem.F.kt_typeCall_dict_1 _) PySem.F.entry_dict_init (kt_code_dict_new _ #[U,U]) λobj s₁ h₁=>?_;let(rfl,rfl):=h₁;have hfr:H ↑s=none:=I.bx.fresh (We _);have I1:Inv X TW σ (upd H ↑s (.dK [])) { s with heap:=s.heap.push { cls:=.type "dict",data:=.dict #v[] } }:=I.laid (a:=↑s) (o:=.dK []) (t':=s.toks) (λ_ _ q=>V9 _ q) (We _) (kI s.heap I.big);have hT:Da.TypeIs { s with heap:=s.heap.push { cls:=.type "dict",data:=.dict #v[] } } (.ref ↑s) "dict":=#[_,Wl _ U,U];show#[hT,PySem.F.args_dict_init_2 _ _,?_];unfold Fk.«dict.__init__»;show Ch ?_;unfold Fk.Dict.selfAndRest;show Ch (wpAny_notOrdered_dict hT ?_);show FS ?_;change Db _ _ (Fk.Dict.updateFrom "dict.__init__" ↑s (.ref l) [] .none) _ _ _;have yJ:upd H ↑s (.dK []) l=some (.tup xs):=by rw[aw (aE hl hfr)];exact hl
 let(_,its,rv,(cl,od,dt,sl),x1,x2,nn,x4,x3):=(show b6 X.prog X.w _ _ l (.tup xs) from I1.bx l _ yJ)
 replace x2:cl=.type "tuple":=x2
 replace x3:od=none:=x3
 replace x4:dt=.seq its.toArray nn:=x4
 subst x2 x3 x4;have hTl:Da.TypeIs { s with heap:=s.heap.push { cls:=.type "dict",data:=.dict #v[] } } (.ref l) "tuple":=#[_,x1,U];unfold Fk.Dict.updateFrom;show Ch (wpAny_typeOf hTl ?_);rw[if_pos ()];have hhn:(X.A.in1.in1).handled=none:=hh;show Ch (Dm.Bc hhn x1 λh' t' k=>?_);have I2:Inv X TW σ (upd H ↑s (.dK [])) { s with heap:=h',toks:=t' }:=I1.kept (t':=t') k;have hL2:EQ.IsTuple h' l its.toArray:=#[_,k l _ x1,U,nn,U];change Db _ _ (rule _ >>= _) _ _ _;show Ch (wpAny_rule ?_);show Ch (wpAny_pyIter_tuple (s:={ s with heap:=h',toks:=t' }) hL2 ?_);have I3:=I2.kept (h':=h'.push { cls:=.type "tuple_iterator",data:=.fields #v[.ref l,.int 0 0] }) (t':=t') λb u z=>V9 _ z;have gE:↑s < h'.objs.size:=Wh (k _ _ (Wl _ U));have Gh:upd H ↑s (.dK []) h'.objs.size=none:=by
  rw[aw (Xq gE)];exact I.bx.fresh (X4 gE)
 show FS #[Code.quiet_builtin _ (by decide+kernel),?_];show pR (A:=X.A.in1) hh kvs 0 [] (upd H ↑s (.dK [])) _ I3 aA yJ (by rw[List.drop_zero];exact Paired.uQ hp λ_ _ z=>z.new hfr) (I2.pQ (Nat.le_refl _) Gh) #[_,EQ.get?_push_size _ U,U,U] (by simpa using hz) λs' I4=>h _ s' hfr ?_;rw[lg] at I4;exact I4
def Bu:!V->Hp->VK->Prop:=λvs H Q=>∃ l xs kvs,vs=[.ref l]/\H l=some (.tup xs)/\Paired (wB H) xs kvs/\kvs.length < FB/\∀ a,H a=none->Q (.ref a) (upd H a (.dK (eV [] kvs)))
theorem vT(hc:X.calm=true):fo X (.type "dict") Bu:=by
 intro TW s σ H xs us Q I r h;let(l,ys,kvs,rfl,hl,hp,hz,q):=h;let(u,rfl,ru):=Vals.one r;cases ru;exact vm (I.ok.hd hc) I hl hp hz λa s' hn I2=>#[.ref a,_,I2,U,q a hn]
end
end L2
namespace DL
open PySem PySem.Spec L2
section
variable{X:Cx}{c:Ent}
theorem pd{kvs:!(Key×V)}{acc:!(Key×V)}(h:((acc++kvs).map (·.1)).Nodup):eV acc kvs=acc++kvs:=by
 induction kvs generalizing acc with
 | nil=>rw[Wf];rfl
 | cons kv r ih =>
  change eV (putK acc kv.1 kv.2) r=_;have hv:gb acc kv.1=none:=by
   rw[Wc,WI] at h;cases e:gb acc kv.1 with
   | none=>rfl
   | some v =>
    exfalso;have:kv.1∈acc.map (·.1):=DV e;exact h.2.2 _ this _ (by simp) U
  rw[kC kv.2 hv,ih (by rw[WB];exact h),WB]
  rfl
def Iz(ds:!D)(k:D->Prop):Prop:=∃ qs:!(Str×D),ds=[.tup (qs.map λq=>.tup [.str q.1,q.2])]/\(qs.map (·.1)).Nodup/\qs.length < FB/\k (.iI (qs.map λq=>.inr q.1) (qs.map (·.2)))
theorem xg{K:Frag}{H:Hp}{M:AC->Prop}:∀ {qs:!(Str×D)} {xs:!V},az K H M (qs.map λq=>.tup [.str q.1,q.2]) xs->∃ kvs:!(Key×V),Paired (wB H) xs kvs/\kvs.map (·.1)=qs.map (λq=>.inr q.1)/\az K H M (qs.map (·.2)) (kvs.map (·.2))
 | [],xs,r=>by
  have r:xs=[]:=r;subst r;exact#[[],.nil,U,U]
 | q::qs,xs,r=>by
  let(x,xr,rfl,(p,ys,rfl,t,r1),r2):=r;let(v,w,rfl,rv,rw'):=vz r1;have rv:v=.str q.1:=rv;subst rv;let(kvs,h1,h2,h3):=xg r2;exact#[(.inr q.1,w)::kvs,.cons #[p,U,t.2] h1,by rw[Wj,Wj,h2],#[w,_,U,rw',h3]]
theorem zP:zq X c Bu Iz:=λM s as σ H xs ds k Q L r z1r q=>by
 let(qs,e,hn,hz,hk):=z1r;subst e;let(v,rfl,p,ys,rfl,t,r1):=dO r;let(kvs,h1,h2,h3):=xg r1;have hl:kvs.length=qs.length:=by simpa using congrArg List.length h2
 show#[p,ys,kvs,U,t.2,h1,by cbv,λa ha=>?_];rw[pd (acc:=[]) (by rw[Wy,h2];exact List.Pairwise.map _ (λa b hab z=>hab (Sum.inr.inj z)) (List.Pairwise.of_map _ (λa b hab=>hab) hn))];exact q _ hk a (.dK kvs) ha #[h2,h3]
end
section
variable{X:Cx}{c:Ent}{k i:Nat}{f:AC}{fd:Go}{ps:!Str}{t:X9}{x:Str}{p pos:Pos}{e:Cl}{es:!Cl}{ta:eJ}
end
end DL
namespace DF
open PySem PyProof.Rows
variable{prog:GE}{w:Fa}{A:Fr}{E:X7}{s:Da}{it d:AC}{i ep:Nat}{es:Array SZ}{od:Obj}
end DF
namespace L2
open PySem PySem.Spec PyProof.Rows DL
section
variable{X:Cx}
end
end L2
namespace L2
open PySem PySem.Spec DL
open PyProof.Rows hiding St
section
variable{X:Cx}
end
end L2
namespace DL
open PySem PySem.Spec L2
open PyProof.Rows hiding St
section
variable{K:Frag}{c:Ent}{M M' M1:AC->Prop}{s s' s1:DS}{as:!AC}{σ:St}{H H' H1:Hp}{a q:AC}{o:HO}
end
section
variable{X:Cx}{c:Ent}{e:Cl}{te:aV}
end
section
variable{X:Cx}{c:Ent}
end
end DL
namespace L2
open PySem PySem.Spec
open PyProof.Rows hiding St
section
variable{X:Cx}
end
end L2
namespace DL
open PySem PySem.Spec L2
open PyProof.Rows hiding St
section
variable{X:Cx}{c:Ent}
end
end DL
namespace L2
open PySem PySem.Spec
open PyProof.Rows hiding St
section
variable{X:Cx}{TW:X8}{σ:St}{H:Hp}
end
end L2
namespace DL
open PySem PySem.Spec L2
section
variable{X:Cx}{c:Ent}
end
end DL
namespace DL
open PySem L2
section
variable{X:Cx}{c:Ent}{a b e:Cl}{pos:Pos}{ta tb tc:aV}
end
end DL
namespace DL
open PySem PySem.Spec L2
open PyProof.Rows hiding St
section
variable{X:Cx}{c:Ent}
theorem D7{ty td:aV}{σ:St}{H:Hp}{Q:VK}:tE X.K c (vi true ty td) σ H Q->tR (tE X.K c ty) (tE X.K c td) σ H Q:=λzz=>cV zz λM s as R L q kk =>
 #[M,s,as,_,L,q,λdy s1 q1 M1 H1 y L1 E1 ry=>#[M1,s1,as,_,L1,q1,λd s2 z2r M2 H2 v Lb E2 rv=>by
  let(hd,q2):=z2r;let(a,o,rfl,f1,f2):=rv.dc hd;let(ov,od,w1,w2,w3):=jj q2 f1 f2 (E2.rep L1 ry);show#[a,ov,U,w1,?_];have e:ov.isSome=od.isSome:=by
   rcases w3 with ⟨rfl,rfl⟩ | ⟨v,x,rfl,rfl,rx⟩<;>rfl
  rw[e];exact kk _ s2 w2 M2 H2 _ Lb (E1.trans L1.base E2) U]]
theorem iw{i o:Cl}{pos:Pos}{ty td:aV}(hu:X.A.units+1 < cLine)(hi:DE X c i ty)(ho:DE X c o td)(h1:(behindInMarks .NotIn o=false)⁻¹):DT X c (.Compare i [.NotIn] [o] pos) (Di (vi true ty td)) :=
 #[(oE (rB hu hi.pe ho.pe) h1).imp λσ H Q q=>fu D7 q]
end
section
variable{X:Cx}{rs:!AC}{M0:AC->Prop}{H0:Hp}{ty td tv:aV}
def xC(neg:Bool)(rs:!AC)(j:Nat)(ty td:aV):aV:=λs Q=>ty s λdy s1=>td s1 λd s2=>∃ a dx,d=.bG a/\rs[j]?=some a/\s2.os[j]?=some (some dx)/\sC dx dy λod=>Q (.bl (if neg=true then (not od.isSome) else od.isSome)) s2
theorem D5{j:Nat}{σ:St}{H:Hp}{Q:VK}:tE X.K #[gO rs,M0,H0] (xC false rs j ty td) σ H Q->Ke (tE X.K #[gO rs,M0,H0] ty) (tE X.K #[gO rs,M0,H0] td) σ H Q:=λzz=>cV zz λM s as R L q kk =>
 #[M,s,as,_,L,q,λdy s1 q1 M1 H1 y L1 E1 ry=>#[M1,s1,as,_,L1,q1,λd s2 z M2 H2 v Lb E2 rv=>by
  let(a,dx,ed,hj,hx,q2):=z;subst ed;have rv:v=.ref a:=rv;subst rv;let((o,f1,f2),_):=Lb.obj j dx a hx (Lb.lt j a hj);let(ov,od,w1,w2,w3):=jj q2 f1 f2 (E2.rep L1 ry);show#[a,ov,U,w1,?_];have e:ov.isSome=od.isSome:=by
   rcases w3 with ⟨rfl,rfl⟩ | ⟨v,x,rfl,rfl,rx⟩<;>rfl
  rw[e];exact kk _ s2 w2 M2 H2 _ Lb (E1.trans L1.base E2) U]]
theorem zW{j:Nat}{σ:St}{H:Hp}{Q:VK}:tE X.K #[gO rs,M0,H0] (xC true rs j ty td) σ H Q->tR (tE X.K #[gO rs,M0,H0] ty) (tE X.K #[gO rs,M0,H0] td) σ H Q:=λzz=>cV zz λM s as R L q kk =>
 #[M,s,as,_,L,q,λdy s1 q1 M1 H1 y L1 E1 ry=>#[M1,s1,as,_,L1,q1,λd s2 z M2 H2 v Lb E2 rv=>by
  let(a,dx,ed,hj,hx,q2):=z;subst ed;have rv:v=.ref a:=rv;subst rv;let((o,f1,f2),_):=Lb.obj j dx a hx (Lb.lt j a hj);let(ov,od,w1,w2,w3):=jj q2 f1 f2 (E2.rep L1 ry);show#[a,ov,U,w1,?_];have e:ov.isSome=od.isSome:=by
   rcases w3 with ⟨rfl,rfl⟩ | ⟨v,x,rfl,rfl,rx⟩<;>rfl
  rw[e];exact kk _ s2 w2 M2 H2 _ Lb (E1.trans L1.base E2) U]]
theorem rY(j:Nat){i o:Cl}{pos:Pos}(hu:X.A.units+1 < cLine)(hi:DE X #[gO rs,M0,H0] i ty)(ho:DE X #[gO rs,M0,H0] o td)(h1:(behindInMarks .In o=false)⁻¹):DT X #[gO rs,M0,H0] (.Compare i [.In] [o] pos) (Di (xC false rs j ty td)) :=
 #[(oE (sO hu hi.pe ho.pe) h1).imp λσ H Q q=>fu D5 q]
theorem BH(j:Nat){i o:Cl}{pos:Pos}(hu:X.A.units+1 < cLine)(hi:DE X #[gO rs,M0,H0] i ty)(ho:DE X #[gO rs,M0,H0] o td)(h1:(behindInMarks .NotIn o=false)⁻¹):DT X #[gO rs,M0,H0] (.Compare i [.NotIn] [o] pos) (Di (xC true rs j ty td)) :=
 #[(oE (rB hu hi.pe ho.pe) h1).imp λσ H Q q=>fu zW q]
def Jd(rs:!AC)(j:Nat)(td ty tv:aV):jg:=λD s=>tv s λdv s0=>td s0 λd s1=>∃ a,d=.bG a/\rs[j]?=some a/\ty s1 λdy s2=>∃ dx,s2.os[j]?=some (some dx)/\Je dx dy dv λd2=>D.nx (s2.put j d2)
theorem jh(j:Nat){st:Ev}(h:PS X st (qQ (tE X.K #[gO rs,M0,H0] td) (tE X.K #[gO rs,M0,H0] ty) (tE X.K #[gO rs,M0,H0] tv))):p6 X #[gO rs,M0,H0] st (Jd rs j td ty tv):=#[h.imp λE σ H zz=>cV zz λM s as R L q kk =>
 #[M,s,as,_,L,q,λdv s0 q0 Ma Ha v La Ea rv=>#[Ma,s0,as,_,La,q0,λd s1 z M1 H1 u L1 E1 ru=>by
  let(a,ed,hj,q1):=z;subst ed;have ru:u=.ref a:=ru;subst ru;show#[M1,s1,as,_,L1,q1,λdy s2 z2 M2 H2 w Lb E2 rw=>?_];let(dx,h2,q2):=z2;have g1:=Lb.lt j a hj;let((o,f1,f2),nm,ng,h0):=Lb.obj j _ a h2 g1;let(d2,o2,p1,p2,p3):=ya q2 f1 f2 rw ((E1.trans L1.base E2).rep La rv);exact#[a,_,U,p1,kk.nx _ as M2 σ _ p2 (Lb.kx h2 g1 p3) ((Ea.grow L).trans ((E1.grow La).trans ((E2.grow L1).trans ((Ext.kx (c:=#[gO rs,M0,H0]) (M:=M2) (d:=d2) h2 g1).grow Lb))))]]]]
end
end DL
namespace L2
open PySem PySem.Spec
open PyProof.Rows hiding St
section
variable{X:Cx}{TW:X8}{σ:St}
theorem DH{K:Frag}{H:Hp}{l a:AC}{xs:!V}{m:!(Key×V)}{o:HO}(e:H a=some (.dK m))(h:d8 K H l xs):d8 K (upd H a o) l xs:=by
 rcases h with (h | ⟨u,h⟩) | h
 .exact .inl (.inl (by rw[aw λz=>by subst z;rw[e] at h;cases h];exact h))
 .exact .inl (.inr #[u,by rw[aw λz=>by subst z;rw[e] at h;cases h];exact h])
 .exact .inr h
theorem oz{A:Fr}{E:X7}{a it l:AC}{xs:!V}{Q:Da->Prop}(hh:A.in1.handled=none):∀ (rest:!(Key×V)) (i:Nat) (acc:!(Key×V)) (H:Hp) (s:Da),
  Inv X TW σ H s->H a=some (.dK acc)->d8 X.K H l xs->Paired (wB H) (xs.drop i) rest->fb X TW H it->s.heap.IsListIter it l i->acc.length+rest.length < FB ->
  (∀ s',Inv X TW σ (upd H a (.dK (eV acc rest))) s'->Q s') ->
  codeAny (model X.prog X.w) A (.builtin "dict.update.loop" #[[.ref a,.ref it,KF i,.none],[]]) (wants (λr s2=>r=.none/\Q s2) E) s
 | [],i,acc,H,s,I,ha,hl,hp,hf,hit,hz,q=>by
  have hx:xs.drop i=[]:=Xj (Paired.length hp);let(its,rv,pl,_):=I.list hl;have hn:its.toArray[i]?=none:=by
   have:=rv.length;have:=congrArg List.length hx;simp at this ⊢;cbv
  show codeAny_builtin jm ?_;rw[Fr.under_plain U U];change Db _ _ (pyNext (.ref it) >>= _) _ _ _;show Ch (wpAny_pyNext_list_end hh hit pl.isList hn λh' eb=>?_);have I1:Inv X TW σ H { s with heap:=h' }:=Inv.gq (t':=s.toks) (fp:=[it]) I (λb o hb z=>eb b o (λy=>hb (by simp[y])) z) λb hb=>by rw[List.mem_singleton.mp hb];exact hf
  change Db _ _ (Fk.Dict.addKeywords a [] >>= _) _ _ _;show Ch (FS (FS #[U,q _ ?_]));have e:upd H a (.dK (eV acc []))=H:=by
   funext b
   by_cases hb:b=a
   .subst hb;rw[aA,ha]
    rfl
   .rw[aw hb]
  rw[e];exact I1
 | kv::rest,i,acc,H,s,I,ha,hl,hp,hf,hit,hz,q=>by
  have gE:i < xs.length:=by
   have:=Paired.length hp;rw[Xm,Wi] at this;cbv
  rw[WW gE] at hp;cases hp with
  | cons hx hr =>
  let(p,e1,e2):=hx;let(its,rv,pl,_):=I.list hl;let(u,hu1,ru):=rv.get (show xs[i]?=some xs[i] from Wq gE);rw[e1] at ru;have ru:u=.ref p:=ru;subst ru;show codeAny_builtin jm ?_;rw[Fr.under_plain U U];change Db _ _ (pyNext (.ref it) >>= _) _ _ _;show Ch (wpAny_pyNext_list_item hit pl.isList (by simpa using hu1) λh' hit' hs=>?_);have I1:Inv X TW σ H { s with heap:=h' }:=Inv.gq (t':=s.toks) (fp:=[it]) I (λb o hb z=>(hs.2 b (λy=>hb (by simp[y]))).trans z) λb hb=>by rw[List.mem_singleton.mp hb];exact hf
  let(_,ps,rp,op,g1,g2,nn,g3,_):=(show b6 X.prog X.w H h' p (.tup [kV kv.1,kv.2]) from I1.bx p _ e2);let(kr,vr,rfl,rk,rvv):=Vals.two rp;change Db _ _ (holding [AT.ref p] _ >>= _) _ _ _;show Ch (NE (Ch (wpAny_tryCatch ?_)));have hT:Da.TypeIs { s with heap:=h' } (.ref p) "tuple":=#[op,g1,g2];unfold Fk.Dict.pairItems;show Ch (wpAny_typeOf hT ?_);rw[if_pos ()];show Ch (PP g1 g3 (FS ?_));change Db _ _ (holding [kr,vr] (dictSet a kr vr)) _ _ _;have hzl:acc.length+(rest.length+1) < FB:=hz;show NE (oO I1 ha rk (by cbv) rvv λs2 I2 oX=>?_);have hia:it≠a:=λz=>by
   subst z;rw[hf.1] at ha;cases ha
  show FS #[Code.quiet_builtin _ (by decide+kernel),?_];have fq:=ee acc kv.1 kv.2;show oz hh rest (i+1) (putK acc kv.1 kv.2) (upd H a (.dK (putK acc kv.1 kv.2))) s2 I2 aA (DH ha hl) (Paired.uQ hr λ_ _ z=>wB.up ha z) #[by rw[aw hia];exact hf.1,hf.2] (hit'.at λo z=>(oX.2 it hia).trans z) (by cbv) λs3 I3=>q s3 ?_;rw[lg] at I3;exact I3
theorem ug{H:Hp}{s:Da}{E:X7}{l:AC}{xs:!V}{kvs:!(Key×V)}{Q:X7}(hh:X.A.handled=none)(I:Inv X TW σ H s)(hl:d8 X.K H l xs)(hp:Paired (wB H) xs kvs)(hz:kvs.length < FB)(h:∀ a s',H a=none->Inv X TW σ (upd H a (.dK (eV [] kvs))) s'->Q (.ref a) s'):Db (model X.prog X.w) X.A (call (.type "dict") [.ref l]) Q E s:=by
 show callType_codes (Q₁:=λobj s₁=>obj=.ref ↑s/\s₁={ s with heap:=s.heap.push { cls:=.type "dict",data:=.dict #v[] } }) PySem.F.kt_called_dict (PySem.F.kt_typeCall_dict_1 _) PySem.F.entry_dict_init (kt_code_dict_new _ #[U,U]) λobj s₁ h₁=>?_;let(rfl,rfl):=h₁;have hfr:H ↑s=none:=I.bx.fresh (We _);have I1:Inv X TW σ (upd H ↑s (.dK [])) { s with heap:=s.heap.push { cls:=.type "dict",data:=.dict #v[] } }:=I.laid (a:=↑s) (o:=.dK []) (t':=s.toks) (λ_ _ q=>V9 _ q) (We _) (kI s.heap I.big);have hT:Da.TypeIs { s with heap:=s.heap.push { cls:=.type "dict",data:=.dict #v[] } } (.ref ↑s) "dict":=#[_,Wl _ U,U];show#[hT,PySem.F.args_dict_init_2 _ _,?_];unfold Fk.«dict.__init__»;show Ch ?_;unfold Fk.Dict.selfAndRest;show Ch (wpAny_notOrdered_dict hT ?_);show FS ?_;change Db _ _ (Fk.Dict.updateFrom "dict.__init__" ↑s (.ref l) [] .none) _ _ _;have yJ:d8 X.K (upd H ↑s (.dK [])) l xs:=Eg hfr hl;let(its,rv,pl,_):=I1.list yJ;let((cl,od,dt,sl),nn,x1,x2,x3,x4):=pl
 replace x2:cl=.type "list":=x2
 replace x3:od=none:=x3
 replace x4:dt=.seq its.toArray nn:=x4
 subst x2 x3 x4;have hTl:Da.TypeIs { s with heap:=s.heap.push { cls:=.type "dict",data:=.dict #v[] } } (.ref l) "list":=#[_,x1,U];unfold Fk.Dict.updateFrom;show Ch (wpAny_typeOf hTl ?_);rw[if_pos ()];have hhn:(X.A.in1.in1).handled=none:=hh;show Ch (Dm.EZ hhn x1 λh' t' k=>?_);have I2:Inv X TW σ (upd H ↑s (.dK [])) { s with heap:=h',toks:=t' }:=I1.kept (t':=t') k;have hL2:EQ.IsList h' l its.toArray:=#[_,k l _ x1,U,nn,U];change Db _ _ (rule _ >>= _) _ _ _;show Ch (wpAny_rule ?_);show Ch (wpAny_pyIter_list (s:={ s with heap:=h',toks:=t' }) hL2 ?_);have I3:=I2.kept (h':=h'.push { cls:=.type "list_iterator",data:=.fields #v[.ref l,.int 0 0] }) (t':=t') λb u z=>V9 _ z;have gE:↑s < h'.objs.size:=Wh (k _ _ (Wl _ U));have Gh:upd H ↑s (.dK []) h'.objs.size=none:=by
  rw[aw (Xq gE)];exact I.bx.fresh (X4 gE)
 show FS #[Code.quiet_builtin _ (by decide+kernel),?_];show oz (A:=X.A.in1) hh kvs 0 [] (upd H ↑s (.dK [])) _ I3 aA yJ (by rw[List.drop_zero];exact Paired.uQ hp λ_ _ z=>z.new hfr) (I2.pQ (Nat.le_refl _) Gh) #[_,EQ.get?_push_size _ U,U,U] (by simpa using hz) λs' I4=>h _ s' hfr ?_;rw[lg] at I4;exact I4
def Ao(K:Frag):!V->Hp->VK->Prop:=λvs H Q=>∃ l xs kvs,vs=[.ref l]/\d8 K H l xs/\Paired (wB H) xs kvs/\kvs.length < FB/\∀ a,H a=none->Q (.ref a) (upd H a (.dK (eV [] kvs)))
theorem jR(hc:X.calm=true):fo X (.type "dict") (Ao X.K):=by
 intro TW s σ H xs us Q I r h;let(l,ys,kvs,rfl,hl,hp,hz,q):=h;let(u,rfl,ru):=Vals.one r;cases ru;exact ug (I.ok.hd hc) I hl hp hz λa s' hn I2=>#[.ref a,_,I2,U,q a hn]
def Bo:!V->Hp->VK->Prop:=λvs H Q=>∃ d kvs,vs=[.ref d]/\H d=some (.dK kvs)/\∀ a,H a=none->Q (.ref a) (upd H a (.dK kvs))
theorem o8:fo X (.type "dict") Bo:=by
 intro TW s σ H xs us Q I r h;let(d,kvs,rfl,hd,q):=h;let(u,rfl,ru):=Vals.one r;cases ru;let(z,hs,vs,rel,dd):=xT I.bx hd;show kt_call_dict hs dd (by rw[<- rel.length];exact z) λh' dd' sb=>#[.ref _,_,I.laid (a:=↑s) (o:=.dK kvs) (h':=h') (t':=s.toks) (λb u e=>?_) (We _) ?_,U,q _ (I.bx.fresh (We _))]
 .have hb:b≠↑s:=Ww (Wh e);exact (sb.2 b hb).trans (V9 _ e)
 .exact rT z (beq_eq_false_iff_ne.mpr λz=>absurd I.big (by rw[<- z];exact W6 _)) rel dd'
end
end L2
namespace DL
open PySem PySem.Spec L2
open PyProof.Rows hiding St
section
variable{X:Cx}{c:Ent}
def KR(ds:!D)(k:D->Prop):Prop:=∃ qs:!(Str×D),ds=[.lst (qs.map λq=>.tup [.str q.1,q.2])]/\(qs.map (·.1)).Nodup/\qs.length < FB/\k (.iI (qs.map λq=>.inr q.1) (qs.map (·.2)))
theorem n5:zq X c (Ao X.K) KR:=λM s as σ H xs ds k Q L r z3r q=>by
 let(qs,e,hn,hz,hk):=z3r;subst e;let(v,rfl,p,ys,rfl,(m,h),r1):=dO r;let(kvs,h1,h2,h3):=xg r1;have hl:kvs.length=qs.length:=by
  have:=congrArg List.length h2;rw[V8,V8] at this;exact this
 show#[p,ys,kvs,U,.of h,h1,by cbv,λa ha=>?_];rw[pd (acc:=[]) (by rw[Wy,h2];exact List.Pairwise.map _ (λa b hab z=>hab (Sum.inr.inj z)) (List.Pairwise.of_map _ (λa b hab=>hab) hn))];exact q _ hk a (.dK kvs) ha #[h2,h3]
def Kq(ds:!D)(k:D->Prop):Prop:=∃ ks vs,ds=[.iI ks vs]/\k (.iI ks vs)
theorem uq:zq X c Bo Kq:=λM s as σ H xs ds k Q L r z4r q=>by
 let(ks,vs,e,hk):=z4r;subst e;let(v,rfl,p,kvs,rfl,(m,h),h1,h2):=dO r;exact#[p,kvs,U,h,λa ha=>q _ hk a (.dK kvs) ha #[h1,h2]]
end
section
variable{X:Cx}{c:Ent}{o e:Cl}{es:!Cl}{te:aV}{ta tb:eJ}{C:AC}{pos apos:Pos}{k m:Nat}{q:D3}
def Pc(C:AC)(ks:!Str)(i:Nat)(te:aV):aV:=λs Q=>te s λd s1=>∃ vs y,d=.ob C ks vs/\vs[i]?=some y/\Q y s1
theorem gD{f:Str}(ks:!Str)(i:Nat)(cl:sZ X.K C)(hn:cz X.K C f)(ho:DE X c o te)(hi:Gf ks f=some i:=by decide+kernel)(hb:(attributeBase o f X.env (eval o X.env)=eval o X.env)⁻¹):DE X c (.Attribute o f pos) (Pc C ks i te) :=
 #[(BY ho.pe hb).imp λσ H Q zz=>cV zz λM s as R L q kk=>#[M,s,as,_,L,q,λd s1 z M1 H1 v L1 E1 rv=>by
   let(vs,y,ed,hy,q1):=z;subst ed;let(a,dx,fs,rfl,(_,h1),h2,h3):=rv;let(v,h4,h5):=h3.get hy;exact#[a,C,dx,fs,v,U,h1,cl,hn,by rw[wZ (by rw[h2];exact hi)];exact h4,kk y s1 q1 M1 H1 v L1 E1 h5]]]
def Kf(C:AC)(ks:!Str)(t:X9)(te:aV)(ta:eJ):aV:=λs Q=>te s λd s1=>∃ vs,d=.ob C ks vs/\ta s1 λds s2=>t (d::ds) λx=>Q x s2
theorem yc{t:X9}{pl:Sem Bool}{mm:Str}(ks:!Str)(cl:sZ X.K C)(hr:bO m X.A)(G:gY X.prog X.w X.K X.mg X.base C q k (cQ X.K .no t))(ho:DE X c o te)(ha:DA X c (e::es) ta)(hx:(q.1=mm)⁻¹)(hk:k<=m:=by ac_rfl)(ur:mm∉ks:=by decide+kernel)(gn:(Ya X.env e es)⁻¹)(fq:(Yb X.env pos es)⁻¹)(ht:(eval (.Call (.Attribute o mm apos) (e::es) [] pos) X.env=(do
   let ov <- eval o X.env
   standAt apos.atName
   let (f,first) <- holding [ov] (getMethod ov mm pl)
   callWith pos f first (IR pos (GT (e::es) X.env)) (P3 pos (Re [] X.env))))⁻¹) :
  DE X c (.Call (.Attribute o mm apos) (e::es) [] pos) (Kf C ks t te ta):=by
 subst hx;let(f,fd,G,hm,hb):=G;exact#[(yl ho.pe cl hm G (hr.mono hk) hb .nil (E:=E0) hV ha.pa gn fq ht).imp λσ H Q zz=>cV zz λM s as R L q kk =>
  #[M,s,as,_,L,q,λd s1 z M1 H1 v L1 E1 rv=>by
   let(vs,ed,q1):=z;have rv0:=rv;rw[ed] at rv;let(a,dx,fs,rfl,(_,h1),h2,h3):=rv;show#[a,dx,fs,U,h1,jr (by rw[h2];exact ur),M1,s1,as,_,L1,q1,λds s2 q2 M2 H2 vs L2 E2 r2 hl=>?_];exact#[M2,d::ds,_,L2.base.mD,#[_,_,U,E2.rep L1 rv0,by rw[Wf];exact r2],q2,λx rx M' H' v B rv=>kk x s2 rx M' H' v (L2.after (L2.base.sE B)) ((E1.trans L1.base E2).trans L2.base (Ext.after (L2.base.sE B))) rv]]]
end
section
variable{K:Frag}{c:Ent}{M M' M1 M2:AC->Prop}{s s1:DS}{as:!AC}{σ:St}{H H1:Hp}{rs:!AC}
theorem aD.GU(L:aD K c M s as σ H)(hs:∀ b,M b->M' b)(hn:∀ b,M' b->M b\/((∃ o,H b=some o)/\¬ c.g.own b/\¬ dF s as b/\Nu c.H0 b)):aD K c M' s as σ H:=by
 have mk:∀ b u,M b->H b=some u->H b=some u:=λ_ _ _ e=>e;show#[#[L.base.nE,L.base.fr,λb m=>?_,λb m=>?_,λb m=>hs b (L.base.m0 b m),λb m=>?_],L.len,L.ek,λi d e=>?_,L.own,λk d b e1 e2=>?_,L.inj,L.lt]
 .rcases hn b m with m | z
  .exact L.base.md b m
  .exact z.1
 .rcases hn b m with m | z
  .exact L.base.mo b m
  .exact z.2.1
 .rcases hn b m with m | z
  .exact L.base.mn b m
  .exact .inr z.2.2.2
 .let(v,h1,h2):=L.dat i d e;exact#[v,h1,Rep.mono hs mk d v h2]
 .let((u,q,r),q1,q2):=L.obj k d b e1 e2;show#[#[u,q,cx.mono hs mk r],λm=>?_,q2];rcases hn b m with m | z
  .exact q1 m
  .exact z.2.2.1 #[k,d,e1,e2]
theorem Ext.PL(E:Ext c as M s H M1 s1 H1)(hs:∀ b,M1 b->M2 b)(hn:∀ b,M2 b->M1 b\/H b=none\/dF s as b):Ext c as M s H M2 s1 H1:=#[λb m=>hs b (E.sub b m),λb m=>by
 rcases hn b m with m | z | z
 .exact E.new b m
 .exact .inr (.inl (.inl z))
 .exact .inr (.inr z),E.keep,E.iz]
theorem vx:∀ {rr:!AC} {vs:!D} {ws:!V},az K H M (rr.map .bG) ws->rr.length=vs.length->(∀ (k:Nat) (r:AC) (d:D),rr[k]?=some r->vs[k]?=some d->Rep K H M d (.ref r))->az K H M vs ws
 | [],[],ws,h,_,_=>h
 | r::rr,d::vs,ws,h,hl,hk=>by
  let(x,w,rfl,h1,h2):=h;have h1:x=.ref r:=h1;subst h1;exact#[_,w,U,hk 0 r d U U,vx h2 (Nat.succ.inj hl) λk r' d' e1 e2=>hk (k+1) r' d' e1 e2]
theorem lN.iJ{x:AC}{rr:!AC}{C:AC}{ks:!Str}{vs:!D}(h:lN K H M (x::rr) (.ob C ks (rr.map .bG)::vs))(hs:∀ b,M b->M' b)(hm:∀ r∈x::rr,M' r):Rep K H M' (.ob C ks vs) (.ref x):=by
 have mk:∀ b u,M b->H b=some u->H b=some u:=λ_ _ _ e=>e;let(_,o,h1,h2):=h.at_ 0 x _ U U;cases o with
 | ins C' dx fs =>
  let(rfl,h3,h4):=h2;show#[x,dx,fs,U,#[hm x Wg,h1],h3,vx (az.mono hs mk _ _ h4) (Nat.succ.inj h.len) λk r d e1 e2=>?_];let(_,o,g1,g2):=h.at_ (k+1) r d e1 e2;exact (g2.mono hs mk).rep g1 (hm r (Wd _ (WJ e1)))
 | _=>exact h2.elim
end
section
variable{X:Cx}{c:Ent}{k k' m:Nat}{x:Str}{p p2 pos p3:Pos}{e e2:Cl}{es Ql:!Cl}{ta tb:eJ}{t:EC}{C f:AC}{fd:Go}{ps:!Str}{q:D3}{M0:AC->Prop}{H0:Hp}{u:pU}
def JG(C:AC)(ks:!Str)(t:EC)(ta:eJ):aV:=λs Q=>ta s λds s1=>t ds λrs cs=>∃ x rr vs,rs=x::rr/\cs=.ob C ks (rr.map .bG)::vs/\Q (.ob C ks vs) s1
theorem DP(ks:!Str)(OA:L2.Mk X.K C f)(F:bP X.prog X.w X.K X.mg X.base aR k f fd ps (yW X.K C t))(hr:bO (k+1) X.A)(hm:X.mg x=some (.ref C))(hb:Binds X.K fd ps [])(ha:DA X c (e::es) ta)(hg:(Gl X x)⁻¹)(ig: ~~~(Yc x))(he:(Ya X.env e es)⁻¹)(fq:(Yb X.env pos es)⁻¹):DE X c (.Call (.Name x p) (e::es) [] pos) (JG C ks t ta):=by
 show#[(rR OA F hr hg hm hb .nil (E:=E0) hV ha.pa ig he fq).imp λσ H Q zz=>cV zz λM s as R L q kk=>#[M,s,as,_,L,q,λds s1 q1 M1 H1 vs L1 E1 r1 hl x dx hx hdx vD=>?_]];have hx':upd H1 dx (.own x) x=none:=by rw[aw (Ne.symm vD)];exact hx
 have Ld:=L1.laid (o:=.own x) hdx;let(nm,_):=notM L1 hx;show#[x,dx,M1,ds,_,vs++[],U,aA,(Ld.laid (o:=.ins C dx []) hx').base.mD,nm,by rw[Wf];exact fM hx' (fM hdx r1),q1,λrs cs hR M' H' B' hh h0 hz=>#[U,?_]];let(x',rr,ws,rfl,rfl,hQ):=hR;cases h0;rw[lC hx'] at B' hz;have L2:=Ld.after (Ld.base.sE B');have E2:=(E1.trans L1.base (Ext.laid (o:=.own x) hdx)).trans Ld.base (Ext.after (as:=as) (s:=s1) (Ld.base.sE B'));show kk _ s1 hQ (λb=>M' b\/b∈x::rr) H' (.ref x) (L2.GU (λ_ m=>.inl m) λb m=>m.imp id λz=>?_) (E2.PL (λ_ m=>.inl m) λb m=>m.imp id λz=>?_) (hh.iJ (λ_ m=>.inl m) λ_ z=>.inr z)
 .let(_,n1,n2,n3):=notM Ld (hz b z);let(k,hk):=Xw z;let(_,o,g,_):=hh.at_ k b _ hk (Wq (by rw[<- hh.len];exact (Wb.mp hk).1));exact#[#[o,g],n1,n2,.inl n3]
 .let(_,n1,n2,n3):=notM Ld (hz b z);cases g:H b with
  | none=>exact .inl U
  | some o =>
   by_cases w:dF s as b
   .exact .inr w
   .have:=(E1.trans L1.base (Ext.laid (o:=.own x) hdx)).keep b o g n1 w;rw[hz b z] at this;cases this
theorem lN.later{K:Frag}{M M':AC->Prop}{H H':Hp}{rs:!AC}{cs:!D}(h:lN K H M rs cs)(hm:∀ b,M b->M' b)(hH:∀ b o,M b\/b∈rs->H b=some o->H' b=some o)(hn:∀ r∈rs,¬ M' r):lN K H' M' rs cs:=#[h.inj,h.len,λk r d e1 e2=>by
 let(_,o,g1,g2):=h.at_ k r d e1 e2;have z:=WJ e1;exact#[hn r z,o,hH r o (.inr z) g1,g2.mono hm λb u m=>hH b u (.inl m)]]
def DZ(t:EC)(u:pU)(ta tb:eJ):aV:=λs Q=>ta s λds s1=>s1.os=[]/\t ds λrs cs=>∀ x,rs[0]?=some x->tb s1 λds2 s2=>s2.os=[]/\u rs (.bG x::ds2) cs λy _=>Q y s2
theorem Bl(OA:L2.Mk X.K C f)(F:bP X.prog X.w X.K X.mg X.base aR k f fd ps (yW X.K C t))(hr:bO m X.A)(hm:X.mg x=some (.ref C))(hb:Binds X.K fd ps [])(ha:DA X #[.no,M0,H0] (e::es) ta)(G:C4 X.prog X.w X.K X.mg X.base aR q k' (df X.K u))(SN:DA X #[.no,M0,H0] Ql tb){y:Str}(hx:(q.1=y)⁻¹)(hk:k+1<=m:=by ac_rfl)(CK:k'<=m:=by ac_rfl)(hg:(Gl X x)⁻¹)(Vi:(Gl X y)⁻¹)(ig: ~~~(Yc x))(RG: ~~~((y == ("__debug__":Str))=false))(he:(Ya X.env e es)⁻¹)(fq:(Yb X.env pos es)⁻¹)(Rb:(GT (.Call (.Name x p) (e::es) [] pos::Ql) X.env=(false,eval (.Call (.Name x p) (e::es) [] pos) X.env)::GT Ql X.env)⁻¹)(Sh:((IR p3 (GT Ql X.env)).any (·.1)=false)⁻¹) :
  DE X #[.no,M0,H0] (.Call (.Name y p2) (.Call (.Name x p) (e::es) [] pos::Ql) [] p3) (DZ t u ta tb):=by
 subst hx;let(fg,fdg,G,FG,hmg,hbg):=G;show#[(jw G (hr.mono CK) Vi hmg FG.kp hbg .nil (E:=E0) hV (fC (rR OA F (hr.mono hk) hg hm hb .nil (E:=E0) hV ha.pa ig he fq) SN.pa Rb) RG Rb Sh).imp λσ H Q zz=>cV zz λM s as R L q kk=>#[M,s,as,_,L,q,λds s1 z M1 H1 vs L1 E1 r1 hl x dx hx hdx vD=>?_]];let(uc,q1):=z;have hx':upd H1 dx (.own x) x=none:=by rw[aw (Ne.symm vD)];exact hx
 have Ld:=L1.laid (o:=.own x) hdx;let(nm,_):=notM L1 hx;show#[x,dx,M1,ds,_,vs++[],U,aA,(Ld.laid (o:=.ins C dx []) hx').base.mD,nm,by rw[Wf];exact fM hx' (fM hdx r1),q1,λrs cs hR M' H' B' hh h0 hz=>#[U,?_]];rw[lC hx'] at B' hz;have L2:=Ld.after B';have E2:=(E1.trans L1.base (Ext.laid (o:=.own x) hdx)).trans Ld.base (Ext.after (as:=as) (s:=s1) B');show#[M',s1,as,_,L2,hR x h0,λds2 s2 z2 M3 H3 vs2 L3 E3 r3 hl3=>?_];let(hos2,q2):=z2;have now:∀ b,¬ dF s1 as b:=λb #[k,d,h1,_]=>by rw[uc] at h1;cases h1
 have fre:∀ r∈rs,upd H1 dx (.own x) r=none:=hz;have nm3:∀ r∈rs,¬ M3 r:=λr hr' m3=>by
  let(k,hk):=Xw hr';let(n1,o,g1,g2):=hh.at_ k r _ hk (Wq (by rw[<- hh.len];exact (Wb.mp hk).1));rcases E3.new r m3 with z | (z | ⟨xs,z⟩) | z
  .exact n1 z
  .rw[z] at g1;cases g1
  .rw[z] at g1;cases g1;exact g2.BS
  .exact now r z
 have hh3:lN X.K H3 M3 rs cs:=hh.later E3.sub (λb o _ g=>E3.keep b o g (λz=>z) (now b)) nm3;have L3':aD X.K #[.no,M0,H0] M3 s2 as σ (g8 H3 rs):=by
  have mk:∀ b u,M3 b->H3 b=some u->g8 H3 rs b=some u:=λb u m g=>by rw[gg λz=>nm3 b z m];exact g
  show#[#[trivial,λb o g _=>?_,λb m=>?_,λ_ _ z=>z,L3.base.m0,L3.base.mn],L3.len,L3.ek,λi d g=>?_,L3.own,λk d b g1 g2=>?_,L3.inj,L3.lt]
  .rw[gg λz=>?_]
   .exact L3.base.fr b o g λz=>z
   .have:H0 b=none:=Ld.base.oQ (fre b z);rw[show H0 b=some o from g] at this;cases this
  .let(o,g):=L3.base.md b m;exact#[o,mk b o m g]
  .let(v,h1,h2):=L3.dat i d g;exact#[v,h1,Rep.mono (λ_ m=>m) mk d v h2]
  .rw[hos2] at g1;cases g1
 show#[rs,M3,.bG x::ds2,cs,_,L3.base.mD,hh3,#[_,_,U,U,by change az X.K H3 M3 ds2 (vs2++[]);rw[Wf];exact r3],q2,λy iK rx M4 H4 v B4 _ rv=>?_];have L4:=L3'.after B4;show kk y s2 rx M4 H4 v L4 #[λb m=>B4.m0 b (E3.sub b (E2.sub b m)),λb m=>?_,λb o g n1 n2=>?_,λb w=>E1.iz b (E3.iz b w)] rv
 .rcases B4.mn b m with m | z
  .exact (E2.trans L2.base E3).new b m
  .by_cases hbr:b∈rs
   .cases g:H b with
    | none=>exact .inr (.inl (.inl g))
    | some o =>
     by_cases w:dF s as b
     .exact .inr (.inr w)
     .have:=(E1.trans L1.base (Ext.laid (o:=.own x) hdx)).keep b o g (λz=>z) w;rw[fre b hbr] at this;cases this
   .have z:Nu (g8 H3 rs) b:=z;unfold Nu at z;rw[gg hbr] at z;cases g:H b with
    | none=>exact .inr (.inl (.inl g))
    | some o =>
     by_cases w:dF s as b
     .exact .inr (.inr w)
     .have:=(E2.trans L2.base E3).keep b o g (λz=>z) w;rcases z with z | ⟨xs,z⟩
      .rw[z] at this;cases this
      .rw[z] at this;cases this;exact .inr (.inl (.inr #[xs,g]))
 .have hbr:b∉rs:=λz=>by
   have:=(E1.trans L1.base (Ext.laid (o:=.own x) hdx)).keep b o g n1 n2;rw[fre b z] at this;cases this
  show B4.fr b o ?_ λz=>z;change g8 H3 rs b=some o;rw[gg hbr];exact (E2.trans L2.base E3).keep b o g n1 n2
theorem iy{rs:!AC}{o:Cl}{te:aV}{apos:Pos}{pl:Sem Bool}{mm:Str}(j:Nat)(ks:!Str)(cl:sZ X.K C)(hr:bO m X.A)(G:gY X.prog X.w X.K X.mg X.base C q k (df X.K u))(ho:DE X #[gO rs,M0,H0] o te)(hx:(q.1=mm)⁻¹)(hk:k<=m:=by ac_rfl)(ur:mm∉ks:=by decide+kernel)(ht:(eval (.Call (.Attribute o mm apos) [] [] pos) X.env=(do
   let ov <- eval o X.env
   standAt apos.atName
   let (f,first) <- holding [ov] (getMethod ov mm pl)
   callWith pos f first (IR pos (GT [] X.env)) (P3 pos (Re [] X.env))))⁻¹) :
  DE X #[gO rs,M0,H0] (.Call (.Attribute o mm apos) [] [] pos) (CF rs j C ks te u FT):=by
 subst hx;let(f,fd,G,hm,hb):=G;exact#[(Bm ho.pe cl hm G (hr.mono hk) hb .nil (E:=E0) hV ht).imp λσ H Q zz=>cV zz λM s as R L q kk =>
  #[M,s,as,_,L,q,λd s1 z M1 H1 v L1 E1 rv=>by
   let(a,vs,ed,hj,ho,q1):=z;subst ed;have rv:v=.ref a:=rv;subst rv;let(dx,fs,h1,h2,h3):=pP L1 hj ho;let(cs,hc,q2):=q1;exact#[a,dx,fs,U,h1,jr (by rw[h2];exact ur),rO (E:=E0) L1 hc (ds:=[.bG a]) #[_,_,U,U,U] q2 λx iK rx M' H' v L3 E3 rv=>kk x _ rx M' H' v L3 (E1.trans L1.base E3) rv]]]
def E8(rs:!AC)(kvs:!(Str×AT))(t:Str->pU)(ti:aV)(ta:eJ):aV:=λs Q=>ti s λdi s1=>∃ i,di=.str i/\(∃ f,valueAt kvs i=some (.ref f))/\ta s1 λds s2=>∃ cs,vK (s2.os.take rs.length)=some cs/\t i rs ds cs λx iK=>Q x (s2.back rs.length iK)
theorem vb{rs:!AC}{d:AC}{kvs:!(Str×AT)}{ti:aV}{ts:Str->pU}{b:Cl}{p p':Pos}{y:Str}(hr:bO m X.A)(hD:Gr X.prog X.w X.K d kvs)(hm:X.mg y=some (.ref d))(hT:∀ i f,valueAt kvs i=some (.ref f)->GO X m f (df X.K (ts i)))(hi:DE X #[gO rs,M0,H0] b ti)(ha:DA X #[gO rs,M0,H0] (e::es) ta)(hs:kO b:=by exact λ_ _=>rfl)(hg:(Gl X y)⁻¹)(ig: ~~~((y == ("__debug__":Str))=false))(he:(Ya X.env e es)⁻¹)(fq:(Yb X.env pos es)⁻¹) :
  DE X #[gO rs,M0,H0] (.Call (.Subscript (.Name y p') b p) (e::es) [] pos) (E8 rs kvs ts ti ta) :=
 #[(CN hr (B9 (RB hD) (Fv (v:=.ref d) hg hm U ig) hi.pe hs) ha.pa he fq).imp λσ H Q zz=>cV zz λM s as R L q kk=>#[M,s,as,_,L,q,λdi s1 z M1 H1 v L1 E1 rv=>by
   let(i,rfl,(f,hf),q1):=z;have rv:v=.str i:=rv;subst rv;exact#[i,f,U,U,hf,f,_,U,hT i f hf,M1,s1,as,_,L1,q1,λds s2 #[cs,hc,q2] M2 H2 vs L2 E2 r2 hl=>rO L2 hc r2 q2 λx iK rx M' H' v L3 E3 rv=>kk x _ rx M' H' v L3 ((E1.trans L1.base E2).trans L2.base E3) rv]]]
end
section
variable{X:Cx}{c:Ent}{ty:aV}{i:Nat}
def Mh(ty:aV)(i:Nat):aV:=λs Q=>ty s λdy s1=>∃ k d1,s1.sl[i]?=some (.own k)/\s1.os[k]?=some (some d1)/\sC d1 dy λod=>Q (.bl od.isSome) s1
theorem tZ{a b:Cl}{pos:Pos}(hu:X.A.units+1 < cLine)(hi:DE X c a ty)(ho:PE X b (bN i))(h1:(behindInMarks .In b=false)⁻¹):DT X c (.Compare a [.In] [b] pos) (Di (Mh ty i)) :=
 #[(oE (sO hu hi.pe ho) h1).imp λσ H Q q=>fu (λzz=>cV zz λM s as R L q kk=>#[M,s,as,_,L,q,λdy s1 z M1 H1 y L1 E1 ry=>by
   let(k,d1,h1,h2,q2):=z;let(a,o,g1,g2,g3,g4):=L1.slot h1 h2;let(ov,od,w1,w2,w3):=jj q2 g3 g4 ry;show#[.ref a,g2,a,ov,U,w1,?_];have e:ov.isSome=od.isSome:=by
    rcases w3 with ⟨rfl,rfl⟩ | ⟨v,x,rfl,rfl,rx⟩<;>rfl
   rw[e];exact kk _ s1 w2 M1 H1 _ L1 E1 U]) q]
theorem Bk{a b:Cl}{pos:Pos}{td:aV}(hu:X.A.units+1 < cLine)(hi:DE X c a ty)(ho:DE X c b td)(h1:(behindInMarks .In b=false)⁻¹):DE X c (.Compare a [.In] [b] pos) (vi false ty td):=#[(JS (sO hu hi.pe ho.pe) h1).imp λσ H Q q=>AW q]
end
section
variable{X:Cx}{c:Ent}
theorem we:jC X (KM .Is) (λx y H Q=>∃ b,x=.bl b/\y=.bl true/\Q (.bl b) H):=by
 intro TW s σ H x y v u Q I rx ry h;let(b,rfl,rfl,q):=h;cases rx;cases ry;cases b
 .exact FS #[.bl false,H,I,U,q]
 .exact FS #[.bl true,H,I,U,q]
theorem B8:jC X (KM .IsNot) (λx y H Q=>∃ b,x=.bl b/\y=.bl true/\Q (.bl (not b)) H):=by
 intro TW s σ H x y v u Q I rx ry h;let(b,rfl,rfl,q):=h;cases rx;cases ry;cases b
 .exact FS #[.bl true,H,I,U,q]
 .exact FS #[.bl false,H,I,U,q]
def Mz(n:Bool):D->D->(D->Prop)->Prop:=λa b k=>∃ t,a=.bl t/\b=.bl true/\k (.bl (if n=true then (not t) else t))
theorem BV:qX X c (λx y H Q=>∃ b,x=.bl b/\y=.bl true/\Q (.bl b) H) (Mz false):=λM s as σ H x y dx dy k Q L rx ry z5r kk=>by
 let(t,e1,e2,hk):=z5r;subst e1 e2;exact#[t,rx,ry,kk _ hk M H _ L .refl U]
theorem Gp:qX X c (λx y H Q=>∃ b,x=.bl b/\y=.bl true/\Q (.bl (not b)) H) (Mz true):=λM s as σ H x y dx dy k Q L rx ry z6r kk=>by
 let(t,e1,e2,hk):=z6r;subst e1 e2;exact#[t,rx,ry,kk _ hk M H _ L .refl U]
end
section
variable{X:Cx}{rs:!AC}{M0:AC->Prop}{H0:Hp}{x:Str}{p pos:Pos}
theorem sL{e:Cl}{te:aV}{k:Nat}(gE:rs.length<=k)(i:Nat)(hN:X.N.Nodup)(he:DN X #[gO rs,M0,H0] e te)(hi:(X.N[i]?=some x)⁻¹)(hx:Loc X.env.scope x:=by first | exact Or.inl U | exact Or.inr U)(hs:(swapsWith e (some (.Name x p)) pos.line X.env=pure false)⁻¹)(hf:Yd X x:=by ac_nf):p6 X #[gO rs,M0,H0] (.Assign [.Name x p] e pos) (AF i k te):=sN k i hN he hi hx hs hf gE
end
section
variable{P:GE}{w:Fa}{K:Frag}{mg:Str->Option AT}{base:EQ}
theorem gP.d{C:AC}{qual:Str}{q:D3}{N:!Str}{k nos:Nat}{t:X9}(o:gP K C qual q)(S:av N q.2.2 (ai q.2.1))(len:∀ ds R,t ds R->ds.length=q.2.2.length)(hb:∀ (f:AC) (bh:AT) (A:Fr) (outer:!Env) (s:Da) (H:Hp) (E:XK) (M:AC->Prop),bO k (A.deeper (envOfC qual (ai q.2.1) ↑s f bh)) ->
   ∃ tb,qg (iT aR P w K mg base N qual (ai q.2.1) f bh A outer s H E).wD #[.no,M,H] (aL q.2.1) tb/\∀ ds R,t ds R->tb { nx:=λ_=>R .bT,rt:=R } (dX N.length nos ds)):gY P w K mg base C q (k+1) (cQ K .no t):=by
 let(f,fd,F,m,b):=o;exact#[f,fd,Ol F S len (hb f),m,b]
end
end DL
set_option maxHeartbeats 4000000
namespace DL
open PySem PySem.Spec L2
open PyProof.Rows hiding St
section
variable{X:Cx}{c:Ent}
end
section
variable{X:Cx}{k m:Nat}{d l r:AC}{M0:AC->Prop}{H0:Hp}{q:D3}{x:Str}{p pos:Pos}
end
end DL
namespace DL
open PySem L2 PyProof.Rows
section
variable{P:GE}{w:Fa}{K:Frag}{mg:Str->Option AT}{base:EQ}{q:D3}{k m:Nat}{sp:Sp}
theorem C4.uJ{f:AC}(g:C4 P w K mg base aR q k sp)(h:mg q.1=some (.ref f))(hk:k<=m):∃ fd ps,bP P w K mg base aR m f fd ps sp/\keepIn K (.ref f)=true/\Binds K fd ps []:=by
 let(f2,fd,J,F,m2,b):=g;rw[h] at m2;cases m2;exact#[fd,_,J.mono hk,F.kp,b]
end
end DL
namespace DL
open PySem PySem.Spec L2
abbrev Sc:=!(Str×Str)
theorem nJ.perm{W:bf}{sc uk:Sc}{ns:!Str}(p:sc.Perm uk)(h:nJ W sc ns):nJ W uk ns:=by
 show#[h.1,λx hx z=>h.2.1 x hx ((p.map _).mem_iff.mpr z),λx hx=>?_];rw[<- p.length_eq];exact h.2.2 x hx
theorem pX.perm{W:bf}{sc uk:Sc}{k:Str}{f:Fm}{sp:!(Sc×Str)}(p:sc.Perm uk)(h:pX W sc k f sp):pX W uk k f sp:=by
 cases h with
 | nm h=>exact .nm (p.mem_iff.mp h)
 | num a b=>exact .num a b
 | op h=>exact .op h
 | sU=>exact .sU
 | lt h k=>exact .lt (h.perm p) k
 | mk a b=>exact .mk a b
 | ask a b c=>exact .ask a b c
 | j9 a b c d e=>exact .j9 a b c d λq hq=>#[(e q hq).1,(e q hq).2.perm p]
 | new a b c d e=>exact .new a b c d λq hq=>#[(e q hq).1,(e q hq).2.perm p]
mutual
theorem Ty.perm{W:bf}:∀ (t:Tm) {sc uk:Sc} {k:Str},sc.Perm uk->Ty W sc k t->Ty W uk k t
 | .node f ts,sc,uk,k,p,h=>by
  let(sp,h1,h2):=h;exact#[sp,h1.perm p,el.perm ts p h2]
theorem el.perm{W:bf}:∀ (ts:!Tm) {sc uk:Sc} {sp:!(Sc×Str)},sc.Perm uk->el W sc sp ts->el W uk sp ts
 | [],sc,uk,sp,p,h=>h
 | t::ts,sc,uk,sp,p,h=>by
  let(e,r,rfl,h1,h2):=h;exact#[e,r,U,Ty.perm t (p.append_right _) h1,el.perm ts p h2]
end
abbrev yI:=!(Str×(Sc×Str))
inductive gp where
 | term (t:Tm) (sc:Sc) | want (k:Str) | tell (k:Str) | alike | bind (x:Str) (t:Tm) (sc:Sc)
 | iX (f:Str) (ts:!Tm) (sc:Sc) | j9 (r:Str) (hs:!(Str×!Str)) (ts:!Tm) (sc:Sc) | row (cs:yI) (hs:!(Str×!Str)) (ts:!Tm) (j:Nat) (sc:Sc)
def qu(sc:Sc):D:=.iI (sc.map λp=>Sum.inr p.1) (sc.map λp=>.str p.2)
def qf(cs:yI):D:=.iI (cs.map λc=>Sum.inr c.1) (cs.map λc=>.tup [bW c.2.1,.str c.2.2])
def zC:gp->D
 | .term t sc=>.tup [.str "term",toD t,qu sc]
 | .want k=>.tup [.str "want",.str k]
 | .tell k=>.tup [.str "tell",.str k]
 | .alike=>.tup [.str "alike"]
 | .bind x t sc=>.tup [.str "bind",.str x,toD t,qu sc]
 | .iX f ts sc=>.tup [.str "asker",.str f,.tup (toDs ts),qu sc]
 | .j9 r hs ts sc=>.tup [.str "case",.str r,.tup (cN hs (toDs ts)),qu sc]
 | .row cs hs ts j sc=>.tup [.str "row",qf cs,.tup (cN hs (toDs ts)),.int j,qu sc]
def xK(W:bf)(cs:yI)(hs:!(Str×!Str))(ts:!Tm)(j:Nat)(sc:Sc):Prop :=
 ∃ (h:Str×!Str) (t:Tm) (pr:Sc) (k:Str),hs[j]?=some h/\ts[j]?=some t/\(h.1,(pr,k))∈cs/\h.1∉(hs.take j).map (·.1)/\h.2.length=pr.length/\nJ W sc h.2/\kj W k/\Ty W (sc++h.2.zip (pr.map (·.2))) k t
def mZ(W:bf)(sc:Sc):Prop:=(sc.map (·.1)).Nodup/\∀ p∈sc,p.1∈W.heads++W.vars
def go(W:bf)(g:Str):!gp->!Str->Prop
 | [],ds=>ds=[g]
 | .term t sc::r,ds=>mZ W sc/\∃ k,kj W k/\Ty W sc k t/\go W g r (ds++[k])
 | .want k::r,ds=>∃ d0,ds=d0++[k]/\go W g r d0
 | .tell k::r,ds=>go W g r (ds++[k])
 | .alike::r,ds=>∃ d0 k,ds=d0++[k,k]/\go W g r (d0++[k])
 | .bind x t sc::r,ds=>mZ W sc/\∃ d0 k k',ds=d0++[k]/\nJ W sc [x]/\kj W k'/\Ty W (sc++[(x,k)]) k' t/\go W g r (d0++[k'])
 | .iX f ts sc::r,ds=>mZ W sc/\∃ d0 kd a,ds=d0++[Kd.name kd]/\kd∈W.kinds/\a∈kd.bK/\dE.name a=f/\el W sc (a.ps.map λp=>([],p.2)) ts/\go W g r (d0++[a.res])
 | .j9 k hs ts sc::r,ds=>mZ W sc/\∃ d0 kd,ds=d0++[Kd.name kd]/\(kd∈W.kinds/\kd.asked=false)/\(k="number"\/∃ kd'∈W.kinds,kd'.name=k)/\hs.length=ts.length/\(∀ j,j < hs.length->xK W (kd.bz.map λm=>(m.name,(m.fs,k))) hs ts j sc)/\go W g r (d0++[k])
 | .row cs hs ts j sc::r,ds=>mZ W sc/\(cs.map (·.1)).Nodup/\xK W cs hs ts j sc/\go W g r ds
def hand(sc:Sc):!Str->!Tm->!gp
 | k::ks,t::ts=>.term t sc::.want k::hand sc ks ts
 | _,_=>[]
theorem sM{W:bf}{g:Str}{sc:Sc}(hs:mZ W sc):∀ {ks:!Str} {ts:!Tm} {r:!gp} {ds:!Str},(∀ k∈ks,kj W k)->el W sc (ks.map λk=>([],k)) ts->go W g r ds->go W g (hand sc ks ts++r) ds
 | [],[],r,ds,_,h,q=>q
 | k::ks,[],r,ds,_,h,q=>by
  have h:(k::ks).map (λk=>(([]:Sc),k))=[]:=h;cases h
 | ks,t::ts,r,ds,hk,h,q=>by
  let(e,p,e1,h1,h2):=h;cases ks with
  | nil=>cases e1
  | cons k ks =>
   injection e1 with e1 e2;subst e1 e2;have h1:Ty W (sc++[]) k t:=h1;rw[Wf] at h1;exact#[hs,k,hk k Wg,h1,ds,U,sM hs (λx hx=>hk x (Wd _ hx)) h2 q]
def kG(cs:yI)(hs:!(Str×!Str))(ts:!Tm)(sc:Sc)(js:!Nat):!gp:=js.map λj=>.row cs hs ts j sc
theorem rZ{W:bf}{g:Str}{sc:Sc}{cs:yI}{hs:!(Str×!Str)}{ts:!Tm}(hn:mZ W sc)(hc:(cs.map (·.1)).Nodup):∀ {js:!Nat} {r:!gp} {ds:!Str},(∀ j∈js,xK W cs hs ts j sc)->go W g r ds->go W g (kG cs hs ts sc js++r) ds
 | [],r,ds,_,q=>q
 | j::js,r,ds,h,q=>#[hn,hc,h j Wg,rZ hn hc (λi hi=>h i (Wd _ hi)) q]
theorem fF{W:bf}{sc:Sc}:∀ {sp:!(Sc×Str)} {ts:!Tm},el W sc sp ts->∀ (j:Nat) (e:Sc×Str),sp[j]?=some e->∃ t,ts[j]?=some t/\Ty W (sc++e.1) e.2 t
 | sp,[],h,j,e,he=>by
  have h:sp=[]:=h;subst h;cases he
 | sp,t::ts,h,j,e,he=>by
  let(e0,r,rfl,h1,h2):=h;cases j with
  | zero=>cases he;exact#[t,U,h1]
  | succ j=>exact fF h2 j e he
theorem yR{α:Type}{f:α->Str}{l:!α}{sub:!(α×!Str)}(hn:(l.map f).Nodup)(hs:(sub.map (·.1)).Sublist l):((sub.map λp=>(f p.1,p.2)).map (·.1)).Nodup:=by
 have:((sub.map λp=>(f p.1,p.2)).map (·.1))=(sub.map (·.1)).map f:=by rw[Wo,Wo];rfl
 rw[this];exact hn.sublist (hs.map f)
theorem AV{α:Type}{W:bf}{f:α->Str}{pr:α->Sc}{kk:α->Str}{l:!α}{sub:!(α×!Str)}{sc:Sc}{ts:!Tm}(hn:(l.map f).Nodup)(hs:(sub.map (·.1)).Sublist l)(hb:∀ p∈sub,p.2.length=(pr p.1).length/\nJ W sc p.2)(hk:∀ a∈l,kj W (kk a))(ht:el W sc (sub.map λp=>(p.2.zip ((pr p.1).map (·.2)),kk p.1)) ts):∀ j,j < sub.length->xK W (l.map λa=>(f a,(pr a,kk a))) (sub.map λp=>(f p.1,p.2)) ts j sc:=λj hj=>by
 have hg:sub[j]?=some sub[j]:=Wq hj;have hm:sub[j]∈sub:=XF hj;have hl:sub[j].1∈l:=hs.mem (Wr hm);let(t,h1,h2):=fF ht j _ (by rw[WL,hg];rfl);show#[(f sub[j].1,sub[j].2),t,pr sub[j].1,kk sub[j].1,by rw[WL,hg];rfl,h1,Wk.mpr #[_,hl,U],?_,(hb _ hm).1,(hb _ hm).2,hk _ hl,h2];have bG:=yR hn hs;rw[Wo] at bG;have hd:((sub.map ((λx:Str×!Str=>x.1)∘λp=>(f p.1,p.2))).take j++(sub.map ((λx:Str×!Str=>x.1)∘λp=>(f p.1,p.2))).drop j).Nodup:=by rw[Xu];exact bG
 rw[<- List.map_take,Wo,List.map_take];intro z;show (WI.mp hd).2.2 _ z (f sub[j].1) ?_ U;rw[WW (by rw[V8];exact hj),List.getElem_map];exact Wg
theorem fA{W:bf}(w:dG W){g:Str}{sc:Sc}{f:Fm}{ts:!Tm}{r:!gp}{ds:!Str}(h:go W g (.term (.node f ts) sc::r) ds):match f with
  | .nm x=>∃ k,(x,k)∈sc/\go W g r (ds++[k])
  | .num _=>go W g r (ds++[("number":Str)])
  | .op _=>∃ a b,ts=[a,b]/\go W g (.term a sc::.want "number"::.term b sc::.want "number"::.tell "number"::r) ds
  | .sU=>∃ a b c,ts=[a,b,c]/\go W g (.term a sc::.want "number"::.term b sc::.term c sc::.alike::r) ds
  | .lt x=>∃ a b,ts=[a,b]/\go W g (.term a sc::.bind x b sc::r) ds
  | .mk c=>∃ kd m,kd∈W.kinds/\m∈kd.bz/\m.name=c/\ts.length=m.fs.length/\go W g (hand sc (m.fs.map (·.2)) ts++.tell kd.name::r) ds
  | .ask f=>∃ a us,ts=a::us/\go W g (.term a sc::.iX f us sc::r) ds
  | .j9 k hs=>∃ a us,ts=a::us/\go W g (.term a sc::.j9 k hs us sc::r) ds
  | .new k hs=>∃ kd,kd∈W.kinds/\kd.asked=true/\kd.name=k/\hs.length=ts.length/\go W g (kG (kd.bK.map λa=>(a.name,(a.ps,a.res))) hs ts sc (List.range hs.length)++.tell k::r) ds:=by
 let(hn,k,hk,(sp,h1,h2),q):=h;have kd_ok:∀ kd∈W.kinds,kd.bz≠[]->kj W kd.name:=λkd h h'=>.inr #[kd,h,h',U];have n0:kj W "number":=.inl U;cases h1 with
 | nm h=>exact#[k,h,q]
 | num _ _=>exact q
 | op _ =>
  obtain⟨a,b,rfl⟩:∃ a b,ts=[a,b]:=by
   have:=h2.len
   match ts,this with
   | [a,b],_=>exact#[a,b,U]
  let(t1,h3):=fF h2 0 _ U;let(t2,h4):=fF h2 1 _ U;cases h3.1;cases h4.1;have e1:=h3.2;have e2:=h4.2;rw[Wf] at e1 e2;exact#[a,b,U,hn,_,n0,e1,ds,U,hn,_,n0,e2,ds,U,q]
 | sU =>
  obtain⟨a,b,c,rfl⟩:∃ a b c,ts=[a,b,c]:=by
   have:=h2.len
   match ts,this with
   | [a,b,c],_=>exact#[a,b,c,U]
  let(t1,h3):=fF h2 0 _ U;let(t2,h4):=fF h2 1 _ U;let(t3,h5):=fF h2 2 _ U;cases h3.1;cases h4.1;cases h5.1;have e1:=h3.2;have e2:=h4.2;have e3:=h5.2;rw[Wf] at e1 e2 e3;exact#[a,b,c,U,hn,_,n0,e1,ds,U,hn,k,hk,e2,hn,k,hk,e3,ds,k,by rw[WB];rfl,q]
 | lt hb CK =>
  obtain⟨a,b,rfl⟩:∃ a b,ts=[a,b]:=by
   have:=h2.len
   match ts,this with
   | [a,b],_=>exact#[a,b,U]
  let(t1,h3):=fF h2 0 _ U;let(t2,h4):=fF h2 1 _ U;cases h3.1;cases h4.1;have e1:=h3.2;rw[Wf] at e1;exact#[a,b,U,hn,_,CK,e1,hn,ds,_,k,U,hb,hk,h4.2,q]
 | @mk kd m hkd hm =>
  have hfk:=(w.mo kd hkd m hm).2.2.2;show#[kd,m,hkd,hm,U,by rw[h2.len,V8],sM hn (λx hx=>?_) (by rw[Wo];exact h2) q];let(p,hp,rfl):=Wk.mp hx;exact hfk p hp
 | @ask kd a hkd hmk ha =>
  cases ts with
  | nil=>exact nomatch (show (_::_)=[] from h2)
  | cons t us =>
   let(e,r',e1,h3,h4):=h2;injection e1 with e1 e2;subst e1 e2;have h3:Ty W (sc++[]) kd.name t:=h3;rw[Wf] at h3;exact#[t,us,U,hn,_,kd_ok kd hkd hmk,h3,hn,ds,kd,a,U,hkd,ha,U,h4,q]
 | @j9 _ kd sub hkd hmk has hsub hb =>
  cases ts with
  | nil=>exact nomatch (show (_::_)=[] from h2)
  | cons t us =>
   let(e,r',e1,h3,h4):=h2;injection e1 with e1 e2;subst e1 e2;have h3:Ty W (sc++[]) kd.name t:=h3;rw[Wf] at h3;have hmn:(kd.bz.map eB.name).Nodup:=(XD.mp w.mn).1 kd hkd;show#[t,us,U,hn,_,kd_ok kd hkd hmk,h3,hn,ds,kd,U,#[hkd,has],?_,by rw[V8,h4.len,V8],λj hj=>?_,q]
   .rcases hk with h | ⟨kd',h,_,h'⟩
    .exact .inl h
    .exact .inr #[kd',h,h']
   .exact AV (f:=eB.name) (pr:=eB.fs) (kk:=λ_=>k) hmn hsub hb (λ_ _=>hk) h4 j (by rw[V8] at hj;exact hj)
 | @new kd sub hkd hmk has hsub hb =>
  have han:(kd.bK.map dE.name).Nodup:=(XD.mp w.an).1 kd hkd;show#[kd,hkd,has,U,by rw[V8,h2.len,V8],rZ hn (by rw[Wo];exact han) (λj hj=>?_) q];exact AV (f:=dE.name) (pr:=dE.ps) (kk:=dE.res) han hsub hb (λa ha=>(w.ao kd hkd a ha).2.2) h2 j (by have:=Xp.mp hj;rw[V8] at this;exact this)
section
variable{W:bf}{g:Str}{sc:Sc}{r:!gp}{ds:!Str}
theorem By(w:dG W){f:Str}{ts:!Tm}(h:go W g (.iX f ts sc::r) ds):∃ d0 kd a,ds=d0++[Kd.name kd]/\kd∈W.kinds/\a∈kd.bK/\dE.name a=f/\ts.length=a.ps.length/\go W g (hand sc (a.ps.map (·.2)) ts++.tell a.res::r) d0:=by
 let(hn,d0,kd,a,rfl,hkd,ha,rfl,ht,q):=h;show#[d0,kd,a,U,hkd,ha,U,by rw[ht.len,V8],sM hn (λx hx=>?_) (by rw[Wo];exact ht) q];let(p,hp,rfl):=Wk.mp hx;exact (w.ao kd hkd a ha).2.1.2.2 p hp
theorem JV(w:dG W){k:Str}{hs:!(Str×!Str)}{ts:!Tm}(h:go W g (.j9 k hs ts sc::r) ds):∃ d0 kd,ds=d0++[Kd.name kd]/\(kd∈W.kinds/\kd.asked=false)/\(k="number"\/∃ kd'∈W.kinds,kd'.name=k)/\hs.length=ts.length /\
  go W g (kG (kd.bz.map λm=>(m.name,(m.fs,k))) hs ts sc (List.range hs.length)++.tell k::r) d0:=by
 let(hn,d0,kd,rfl,hkd,hk,hl,hr,q):=h;have hmn:(kd.bz.map eB.name).Nodup:=(XD.mp w.mn).1 kd hkd.1;exact#[d0,kd,U,hkd,hk,hl,rZ hn (by rw[Wo];exact hmn) (λj hj=>hr j (Xp.mp hj)) q]
theorem GK{α:Type}[DecidableEq α]:∀ {l m:!α},l.Nodup->(∀ x∈l,x∈m)->l.length<=m.length
 | [],m,_,_=>WH _
 | a::l,m,hn,h=>by
  have hm:=h a Wg;have:=GK (l:=l) (m:=m.erase a) (W3.mp hn).2 λx hx=>(List.mem_erase_of_ne λ(e:x=a)=>(W3.mp hn).1 (e▸hx)).mpr (h x (Wd _ hx));rw[List.length_erase_of_mem hm] at this;have:=List.length_pos_of_mem hm;rw[Wi];cbv
theorem mZ.len(w:dG W)(h:mZ W sc):sc.length<=21:=by
 have:=GK (m:=W.heads++W.vars) h.1 λx hx=>by
  let(p,hp,rfl):=Wk.mp hx;exact h.2 p hp
 rw[V8,Wa,w.hl,w.vl] at this;exact this
theorem mZ.more{ns ks:!Str}(h:mZ W sc)(hb:nJ W sc ns)(hl:ns.length=ks.length):mZ W (sc++ns.zip ks):=by
 have e1:(ns.zip ks).map (·.1)=ns:=Xc (by cbv);show#[?_,λp hp=>?_]
 .rw[Wc,e1,WI];exact#[h.1,hb.1,λx hx y hy e=>hb.2.1 y hy (e▸hx)]
 .rcases WA.mp hp with hp | hp
  .exact h.2 p hp
  .rcases hb.2.2 p.1 (by rw[<- e1];exact Wr hp) with z | ⟨j,_,z⟩
   .exact WQ _ z
   .exact WD _ (WJ z)
theorem Hy{cs:yI}{hs:!(Str×!Str)}{ts:!Tm}{j:Nat}(h:go W g (.row cs hs ts j sc::r) ds):∃ (hd:Str×!Str) (t:Tm) (pr:Sc) (k:Str),hs[j]?=some hd/\ts[j]?=some t/\(hd.1,(pr,k))∈cs/\(cs.map (·.1)).Nodup/\hd.1∉(hs.take j).map (·.1)/\hd.2.length=pr.length/\nJ W sc hd.2/\mZ W sc /\
  go W g (.term t (sc++hd.2.zip (pr.map (·.2)))::.want k::r) ds:=by
 let(hn,hc,(hd,t,pr,k,h1,h2,h3,h4,h5,h6,h7,h8),q):=h;exact#[hd,t,pr,k,h1,h2,h3,hc,h4,h5,h6,hn,hn.more h6 (by rw[V8];exact h5),k,h7,h8,ds,U,q]
theorem Fg{x:Str}{t:Tm}(h:go W g (.bind x t sc::r) ds):∃ d0 k,ds=d0++[k]/\x∉sc.map (·.1)/\mZ W sc/\go W g (.term t (sc++[(x,k)])::r) d0:=by
 let(hn,d0,k,k',rfl,hx,hk,ht,q):=h;exact#[d0,k,U,hx.2.1 x Wg,hn,hn.more (ks:=[k]) hx U,k',hk,ht,q]
end
def CL(c:Nat)(ts:!Tm):Nat:=(ts.map λt=>24 * t.size - 4+c).sum
def wt:gp->Nat
 | .term t _=>24 * t.size - 4
 | .want _=>1
 | .tell _=>1
 | .alike=>1
 | .bind _ t _=>24 * t.size - 4+1
 | .iX _ ts _=>CL 1 ts+2
 | .j9 _ _ ts _=>CL 2 ts+2
 | .row _ _ ts j _=>((ts[j]?).map λt=>24 * t.size - 4+2).getD 1
def wL(st:!gp):Nat:=(st.map wt).sum
theorem aZ(a:gp)(r:!gp):wL (a::r)=wt a+wL r:=by simp[wL]
theorem tj(a b:!gp):wL (a++b)=wL a+wL b:=by simp[wL]
theorem j8{c:Nat}(hc:c<=4):∀ ts:!Tm,CL c ts<=24 * d9 ts
 | []=>We _
 | t::r=>by
  have:=j8 hc r;have:=size_pos t;change 24 * t.size - 4+c+CL c r<=24 * (t.size+d9 r);cbv
theorem yj:∀ ts:!Tm,ts.length<=CL 2 ts
 | []=>We _
 | t::r=>by
  have:=yj r;change r.length+1<=24 * t.size - 4+2+CL 2 r;cbv
theorem rQ(sc:Sc):∀ (ks:!Str) (ts:!Tm),wL (hand sc ks ts)<=CL 1 ts
 | [],ts=>WH _
 | k::ks,[]=>WH _
 | k::ks,t::ts=>by
  have:=rQ sc ks ts;change wL (.term t sc::.want k::hand sc ks ts)<=24 * t.size - 4+1+CL 1 ts;rw[aZ,aZ];change 24 * t.size - 4+(1+_)<=_;cbv
theorem yg(cs:yI)(hs:!(Str×!Str))(sc:Sc):∀ (ts:!Tm),wL (kG cs hs ts sc (List.range ts.length))=CL 2 ts:=by
 have gen:∀ (ts:!Tm),((List.range ts.length).map λj=>((ts[j]?).map λt=>24 * t.size - 4+2).getD 1).sum=CL 2 ts:=λts=>by
  induction ts with
  | nil=>rfl
  | cons t r ih =>
   rw[Wi,List.range_succ_eq_map,Wj,List.sum_cons,Wo];change 24 * t.size - 4+2+((List.range r.length).map λj=>((r[j]?).map λt=>24 * t.size - 4+2).getD 1).sum=24 * t.size - 4+2+CL 2 r;rw[ih]
 intro ts;unfold wL kG;rw[Wo];exact gen ts
theorem Km(a:gp):1<=wt a:=by
 cases a with
 | term t _=>have:=size_pos t;change 1<=24 * t.size - 4;cbv
 | want _=>exact We _
 | tell _=>exact We _
 | alike=>exact We _
 | bind _ t _=>exact X6 _ _
 | iX _ ts _=>exact Ws () (X6 2 _)
 | j9 _ _ ts _=>exact Ws () (X6 2 _)
 | row _ _ ts j _ =>
  change 1<=((ts[j]?).map λt=>24 * t.size - 4+2).getD 1;cases ts[j]? with
  | none=>exact We _
  | some t=>exact Ws () (X6 2 _)
theorem vY:∀ st:!gp,st.length<=wL st
 | []=>We _
 | a::r=>by
  have:=vY r;have:=Km a;rw[aZ];change r.length+1<=_;cbv
section
variable{α:Type}{f:α->Str}{h:α->D}
theorem Hi:∀ {l:!α},(l.map f).Nodup->∀ a∈l,br (l.map λa=>(Sum.inr (f a):Key)) (l.map h) (Sum.inr (f a))=some (h a)
 | [],_,a,ha=>nomatch ha
 | b::l,hn,a,ha=>by
  rw[Wj,Wj,br];rw[Wj,W3] at hn;rcases Wu.mp ha with rfl | ha
  .rw[if_pos U]
  .rw[if_neg λz=>hn.1 (by rw[show f b=f a from Sum.inr.inj z];exact Wr ha)];exact Hi hn.2 a ha
theorem Pa{x:Str}:∀ {l:!α},x∉l.map f->br (l.map λa=>(Sum.inr (f a):Key)) (l.map h) (Sum.inr x)=none
 | [],_=>rfl
 | b::l,hn=>by
  rw[Wj,Wu,not_or] at hn;rw[Wj,Wj,br,if_neg λz=>hn.1 (Sum.inr.inj z).symm];exact Pa hn.2
theorem TH{x:Str}{l:!α}{d:D}(hn:x∉l.map f):cY (l.map λa=>(Sum.inr (f a):Key)) (Sum.inr x)=(l.map λa=>(Sum.inr (f a):Key))++[Sum.inr x]/\dh (l.map λa=>(Sum.inr (f a):Key)) (l.map h) (Sum.inr x) d=l.map h++[d]:=by
 have hb:o7 (l.map λa=>(Sum.inr (f a):Key)) (Sum.inr x)=false:=by
  cases e:o7 (l.map λa=>(Sum.inr (f a):Key)) (Sum.inr x) with
  | false=>rfl
  | true =>
   let(a,ha,ex):=Wk.mp (sk.mp e);exact absurd (by rw[<- show f a=x from Sum.inr.inj ex];exact Wr ha) hn
 unfold cY dh;rw[hb];exact#[U,U]
end
def qK:!Str:=["kinds","makers","askers"]
def oY(ks:!Kd):!(Kd×eB):=ks.flatMap λk=>k.bz.map λm=>(k,m)
def nZ(ks:!Kd):!(Kd×dE):=ks.flatMap λk=>k.bK.map λm=>(k,m)
def Qx(x:Kd×eB):D:=.tup [.str x.1.name,bW x.2.fs]
def N4(x:Kd×dE):D:=.tup [.str x.1.name,bW x.2.ps,.str x.2.res]
def Rg(ps:!PK):D:=.iI (ps.map λp=>.inr p.kd.name) (ps.map eZ)
def Bd(l:!(Kd×eB)):D:=.iI (l.map λx=>.inr x.2.name) (l.map Qx)
def CU(l:!(Kd×dE)):D:=.iI (l.map λx=>.inr x.2.name) (l.map N4)
theorem qr(ks:!Kd):(oY ks).map (λx=>x.2.name)=ks.flatMap λk=>k.bz.map eB.name:=by
 unfold oY;rw[List.map_flatMap]
 congr 1
 funext k
 rw[Wo]
 rfl
theorem qw(ks:!Kd):(nZ ks).map (λx=>x.2.name)=ks.flatMap λk=>k.bK.map dE.name:=by
 unfold nZ;rw[List.map_flatMap]
 congr 1
 funext k
 rw[Wo]
 rfl
theorem GX{ks:!Kd}{k:Kd}{m:eB}(h:k∈ks)(hm:m∈k.bz):(k,m)∈oY ks:=Xd.mpr #[k,h,Wr hm]
theorem KW{ks:!Kd}{k:Kd}{m:dE}(h:k∈ks)(hm:m∈k.bK):(k,m)∈nZ ks:=Xd.mpr #[k,h,Wr hm]
def pF:Fm->Str
 | .nm _=>"name" | .num _=>"num" | .op _=>"op" | .sU=>"zero" | .lt _=>"let" | .mk _=>"make" | .ask _=>"ask" | .j9 _ _=>"case" | .new _ _=>"new"
def qc:gp->Str
 | .term _ _=>"term" | .want _=>"want" | .tell _=>"tell" | .alike=>"alike" | .bind _ _ _=>"bind" | .iX _ _ _=>"asker" | .j9 _ _ _ _=>"case" | .row _ _ _ _ _=>"row"
theorem Fh{f:Fm}(h:pF f="name"):∃ x,f=.nm x:=by cases f<;>first | exact#[_,U] | (simp only[pF] at h;exact absurd h (by decide+kernel))
theorem Jo{f:Fm}(h:pF f="num"):∃ x,f=.num x:=by cases f<;>first | exact#[_,U] | (simp only[pF] at h;exact absurd h (by decide+kernel))
theorem Ox{f:Fm}(h:pF f="op"):∃ x,f=.op x:=by cases f<;>first | exact#[_,U] | (simp only[pF] at h;exact absurd h (by decide+kernel))
theorem Iu{f:Fm}(h:pF f="zero"):f=.sU:=by cases f<;>first | exact rfl | (simp only[pF] at h;exact absurd h (by decide+kernel))
theorem Po{f:Fm}(h:pF f="let"):∃ x,f=.lt x:=by cases f<;>first | exact#[_,U] | (simp only[pF] at h;exact absurd h (by decide+kernel))
theorem MZ{f:Fm}(h:pF f="make"):∃ x,f=.mk x:=by cases f<;>first | exact#[_,U] | (simp only[pF] at h;exact absurd h (by decide+kernel))
theorem HS{f:Fm}(h:pF f="ask"):∃ x,f=.ask x:=by cases f<;>first | exact#[_,U] | (simp only[pF] at h;exact absurd h (by decide+kernel))
theorem HL{f:Fm}(h:pF f="case"):∃ x y,f=.j9 x y:=by cases f<;>first | exact#[_,_,U] | (simp only[pF] at h;exact absurd h (by decide+kernel))
theorem GR{f:Fm}(h:pF f="new"):∃ x y,f=.new x y:=by cases f<;>first | exact#[_,_,U] | (simp only[pF] at h;exact absurd h (by decide+kernel))
theorem Fc{f:gp}(h:qc f="term"):∃ x y,f=.term x y:=by cases f<;>first | exact#[_,_,U] | (simp only[qc] at h;exact absurd h (by decide+kernel))
theorem Eo{f:gp}(h:qc f="want"):∃ x,f=.want x:=by cases f<;>first | exact#[_,U] | (simp only[qc] at h;exact absurd h (by decide+kernel))
theorem Dw{f:gp}(h:qc f="tell"):∃ x,f=.tell x:=by cases f<;>first | exact#[_,U] | (simp only[qc] at h;exact absurd h (by decide+kernel))
theorem A1{f:gp}(h:qc f="alike"):f=.alike:=by cases f<;>first | exact rfl | (simp only[qc] at h;exact absurd h (by decide+kernel))
theorem Dz{f:gp}(h:qc f="bind"):∃ x y z,f=.bind x y z:=by cases f<;>first | exact#[_,_,_,U] | (simp only[qc] at h;exact absurd h (by decide+kernel))
theorem Af{f:gp}(h:qc f="asker"):∃ x y z,f=.iX x y z:=by cases f<;>first | exact#[_,_,_,U] | (simp only[qc] at h;exact absurd h (by decide+kernel))
theorem G6{f:gp}(h:qc f="case"):∃ x y z u,f=.j9 x y z u:=by cases f<;>first | exact#[_,_,_,_,U] | (simp only[qc] at h;exact absurd h (by decide+kernel))
theorem Jk{f:gp}(h:qc f="row"):∃ x y z u v,f=.row x y z u v:=by cases f<;>first | exact#[_,_,_,_,_,U] | (simp only[qc] at h;exact absurd h (by decide+kernel))
def nx(W:bf)(g:Str)(tk:gp)(st:!gp)(dn:!Str)(oq:!gp)(Bx:!Str):Prop:=go W g oq Bx/\wL oq < wL (tk::st)/\Bx.length+wL oq<=dn.length+wL (tk::st)
theorem uS(sc:Sc):∀ (fs:!(Str×Str)) (ts:!Tm),hand sc (fs.map (·.2)) ts=(fs.zip ts).flatMap λx=>[.term x.2 sc,.want x.1.2]
 | [],ts=>rfl
 | p::fs,[]=>rfl
 | p::fs,t::ts=>by
  change gp.term t sc::.want p.2::hand sc (fs.map (·.2)) ts=_;rw[uS sc fs ts]
  rfl
theorem u4:∀ {hs:!(Str×!Str)} {ds:!D},hs.length=ds.length->(cN hs ds).length=hs.length
 | [],ds,h=>by cases ds<;>rfl
 | a::hs,[],h=>nomatch h
 | a::hs,d::ds,h=>by
  change (cN hs ds).length+1=hs.length+1;rw[u4 (Nat.succ.inj h)]
theorem u7:∀ {hs:!(Str×!Str)} {ts:!Tm} {j:Nat} {h:Str×!Str} {t:Tm},hs[j]?=some h->ts[j]?=some t->(cN hs (toDs ts))[j]?=some (sR h (toD t))
 | a::hs,b::ts,0,h,t,e1,e2=>by
  cases e1;cases e2
  rfl
 | a::hs,b::ts,j+1,h,t,e1,e2=>u7 (hs:=hs) (ts:=ts) (j:=j) e1 e2
 | [],ts,j,h,t,e1,e2=>nomatch e1
 | a::hs,[],j,h,t,e1,e2=>nomatch e2
theorem qy:∀ (hs:!(Str×!Str)) (ts:!Tm),cN hs (toDs ts)=(hs.zip ts).map λx=>sR x.1 (toD x.2)
 | [],ts=>rfl
 | a::hs,[]=>rfl
 | a::hs,t::ts=>by
  change sR a (toD t)::cN hs (toDs ts)=_;rw[qy hs ts]
  rfl
theorem uZ{sc:Sc}{x k:Str}(h:x∉sc.map (·.1)):D.iI (cY (sc.map λp=>(Sum.inr p.1:Key)) (Sum.inr x)) (dh (sc.map λp=>(Sum.inr p.1:Key)) (sc.map λp=>.str p.2) (Sum.inr x) (.str k))=qu (sc++[(x,k)]):=by
 let(h1,h2):=TH (f:=λp:Str×Str=>p.1) (h:=λp=>.str p.2) (d:=.str k) h;rw[h1,h2];unfold qu;rw[Wc,Wc]
 rfl
theorem rJ:∀ ts:!Tm,ts.length<=d9 ts
 | []=>We _
 | t::r=>by
  have:=rJ r;have:=size_pos t;change r.length+1<=t.size+d9 r;cbv
theorem eW(f:Fm)(ts:!Tm)(sc:Sc):wt (.term (.node f ts) sc)=24 * d9 ts+20:=by
 change 24 * (d9 ts+1) - 4=_;cbv
section
variable{W:bf}{g:Str}{sc:Sc}{st:!gp}{dn:!Str}{ts:!Tm}
theorem Md(w:dG W){x:Str}(h:go W g (.term (.node (.nm x) ts) sc::st) dn):∃ k,(x,k)∈sc/\mZ W sc/\nx W g (.term (.node (.nm x) ts) sc) st dn st (dn++[k]):=by
 let(k,h1,h2):=fA w h;show#[k,h1,h.1,h2,?_,?_]<;>rw[aZ,eW]<;>(try simp only[List.length_append,List.length_cons,List.length_nil])<;>cbv
theorem HE(w:dG W){x:Int}(h:go W g (.term (.node (.num x) ts) sc::st) dn):nx W g (.term (.node (.num x) ts) sc) st dn st (dn++[("number":Str)]):=by
 show#[fA w h,?_,?_]<;>rw[aZ,eW]<;>(try simp only[List.length_append,List.length_cons,List.length_nil])<;>cbv
theorem MR(w:dG W){x:Str}(h:go W g (.term (.node (.op x) ts) sc::st) dn):∃ a b,ts=[a,b]/\nx W g (.term (.node (.op x) ts) sc) st dn ([.term a sc,.want "number",.term b sc,.want "number",.tell "number"]++st) dn:=by
 let(a,b,rfl,h'):=fA w h;have e4:=size_pos a;have e5:=size_pos b;show#[a,b,U,h',?_,?_]<;>simp only[aZ,eW,List.cons_append,List.nil_append]<;>simp only[wt,d9]<;>cbv
theorem Kj(w:dG W)(h:go W g (.term (.node .sU ts) sc::st) dn):∃ a b c,ts=[a,b,c]/\nx W g (.term (.node .sU ts) sc) st dn ([.term a sc,.want "number",.term b sc,.term c sc,.alike]++st) dn:=by
 let(a,b,c,rfl,h'):=fA w h;have e4:=size_pos a;have e5:=size_pos b;have e6:=size_pos c;show#[a,b,c,U,h',?_,?_]<;>simp only[aZ,eW,List.cons_append,List.nil_append]<;>simp only[wt,d9]<;>cbv
theorem ME(w:dG W){x:Str}(h:go W g (.term (.node (.lt x) ts) sc::st) dn):∃ a b,ts=[a,b]/\nx W g (.term (.node (.lt x) ts) sc) st dn ([.term a sc,.bind x b sc]++st) dn:=by
 let(a,b,rfl,h'):=fA w h;have e4:=size_pos a;have e5:=size_pos b;show#[a,b,U,h',?_,?_]<;>simp only[aZ,eW,List.cons_append,List.nil_append]<;>simp only[wt,d9]<;>cbv
theorem ND(w:dG W){c:Str}(h:go W g (.term (.node (.mk c) ts) sc::st) dn):∃ kd m,kd∈W.kinds/\m∈kd.bz/\m.name=c/\ts.length=m.fs.length/\nx W g (.term (.node (.mk c) ts) sc) st dn (hand sc (m.fs.map (·.2)) ts++.tell kd.name::st) dn:=by
 let(kd,m,h1,h2,h3,h4,h'):=fA w h;have e1:=rQ sc (m.fs.map (·.2)) ts;have e2:=j8 (c:=1) () ts;show#[kd,m,h1,h2,h3,h4,h',?_,?_]<;>rw[tj,aZ,aZ,eW]<;>simp only[wt]<;>cbv
theorem Hu(w:dG W){f:Str}(h:go W g (.term (.node (.ask f) ts) sc::st) dn):∃ a us,ts=a::us/\nx W g (.term (.node (.ask f) ts) sc) st dn ([.term a sc,.iX f us sc]++st) dn:=by
 let(a,us,rfl,h'):=fA w h;have e2:=j8 (c:=1) () us;have e3:=j8 (c:=2) () us;have e4:=size_pos a;show#[a,us,U,h',?_,?_]<;>simp only[aZ,eW,List.cons_append,List.nil_append]<;>simp only[wt,d9]<;>cbv
theorem GV(w:dG W){k:Str}{hs:!(Str×!Str)}(h:go W g (.term (.node (.j9 k hs) ts) sc::st) dn):∃ a us,ts=a::us/\nx W g (.term (.node (.j9 k hs) ts) sc) st dn ([.term a sc,.j9 k hs us sc]++st) dn:=by
 let(a,us,rfl,h'):=fA w h;have e2:=j8 (c:=1) () us;have e3:=j8 (c:=2) () us;have e4:=size_pos a;show#[a,us,U,h',?_,?_]<;>simp only[aZ,eW,List.cons_append,List.nil_append]<;>simp only[wt,d9]<;>cbv
theorem KS(w:dG W){k:Str}{hs:!(Str×!Str)}(h:go W g (.term (.node (.new k hs) ts) sc::st) dn):∃ kd,kd∈W.kinds/\kd.asked=true/\kd.name=k/\hs.length=ts.length/\nx W g (.term (.node (.new k hs) ts) sc) st dn (kG (kd.bK.map λa=>(a.name,(a.ps,a.res))) hs ts sc (List.range hs.length)++.tell k::st) dn:=by
 let(kd,h1,h2,h3,h4,h'):=fA w h;have e2:=j8 (c:=2) () ts;show#[kd,h1,h2,h3,h4,h',?_,?_]<;>rw[tj,h4,yg,aZ,aZ,eW]<;>simp only[wt]<;>cbv
theorem Fp{k:Str}(h:go W g (.want k::st) dn):∃ d0,dn=d0++[k]/\nx W g (.want k) st dn st d0:=by
 let(d0,rfl,h):=h;show#[d0,U,h,?_,?_]<;>rw[aZ]<;>simp only[wt,List.length_append,List.length_cons,List.length_nil]<;>cbv
theorem Dt{k:Str}(h:go W g (.tell k::st) dn):nx W g (.tell k) st dn st (dn++[k]):=by
 show#[h,?_,?_]<;>rw[aZ]<;>simp only[wt,List.length_append,List.length_cons,List.length_nil]<;>cbv
theorem AO(h:go W g (.alike::st) dn):∃ d0 k,dn=d0++[k]++[k]/\nx W g .alike st dn st (d0++[k]):=by
 let(d0,k,rfl,h):=h;show#[d0,k,by rw[List.append_assoc];rfl,h,?_,?_]<;>rw[aZ]<;>simp only[wt,List.length_append,List.length_cons,List.length_nil]<;>cbv
theorem El{x:Str}{t:Tm}(h:go W g (.bind x t sc::st) dn):∃ d0 k,dn=d0++[k]/\x∉sc.map (·.1)/\mZ W sc/\nx W g (.bind x t sc) st dn ([.term t (sc++[(x,k)])]++st) d0:=by
 let(d0,k,rfl,h1,h2,h'):=Fg h;show#[d0,k,U,h1,h2,h',?_,?_]<;>simp only[aZ,List.cons_append,List.nil_append]<;>simp only[wt,List.length_append,List.length_cons,List.length_nil]<;>cbv
theorem CD(w:dG W){f:Str}(h:go W g (.iX f ts sc::st) dn):∃ d0 kd a,dn=d0++[Kd.name kd]/\kd∈W.kinds/\a∈kd.bK/\dE.name a=f/\ts.length=a.ps.length/\nx W g (.iX f ts sc) st dn (hand sc (a.ps.map (·.2)) ts++.tell a.res::st) d0:=by
 let(d0,kd,a,rfl,h1,h2,h3,h4,h'):=By w h;have e1:=rQ sc (a.ps.map (·.2)) ts;show#[d0,kd,a,U,h1,h2,h3,h4,h',?_,?_]<;>rw[tj,aZ,aZ]<;>simp only[wt,List.length_append,List.length_cons,List.length_nil]<;>cbv
theorem E9(w:dG W){k:Str}{hs:!(Str×!Str)}(h:go W g (.j9 k hs ts sc::st) dn):∃ d0 kd,dn=d0++[Kd.name kd]/\(kd∈W.kinds/\kd.asked=false)/\(k="number"\/∃ kd'∈W.kinds,kd'.name=k)/\hs.length=ts.length/\nx W g (.j9 k hs ts sc) st dn (kG (kd.bz.map λm=>(m.name,(m.fs,k))) hs ts sc (List.range hs.length)++.tell k::st) d0:=by
 let(d0,kd,rfl,h1,h2,h3,h'):=JV w h;show#[d0,kd,U,h1,h2,h3,h',?_,?_]<;>rw[tj,h3,yg,aZ,aZ]<;>simp only[wt,List.length_append,List.length_cons,List.length_nil]<;>cbv
theorem Hm{cs:yI}{hs:!(Str×!Str)}{j:Nat}(h:go W g (.row cs hs ts j sc::st) dn):∃ (hd:Str×!Str) (t:Tm) (pr:Sc) (k:Str),hs[j]?=some hd/\ts[j]?=some t/\(hd.1,(pr,k))∈cs/\(cs.map (·.1)).Nodup/\hd.1∉(hs.take j).map (·.1)/\hd.2.length=pr.length/\nJ W sc hd.2/\mZ W sc/\nx W g (.row cs hs ts j sc) st dn ([.term t (sc++hd.2.zip (pr.map (·.2))),.want k]++st) dn:=by
 let(hd,t,pr,k,h1,h2,h3,h4,h5,h6,h7,h8,h'):=Hy h;show#[hd,t,pr,k,h1,h2,h3,h4,h5,h6,h7,h8,h',?_,?_]<;>simp only[aZ,List.cons_append,List.nil_append]<;>simp only[wt,h2,Option.map_some,Option.getD_some]<;>cbv
end
def Jn(l:!Str):D:=.iI (l.map λx=>.inr x) (l.map λ_=>.bl true)
theorem Gy{x:Str}:∀ {l:!Str},x∈l->br (l.map λx=>(Sum.inr x:Key)) (l.map λ_=>D.bl true) (Sum.inr x)=some (.bl true)
 | [],h=>nomatch h
 | b::l,h=>by
  rw[Wj,Wj,br];by_cases e:b=x
  .rw[if_pos (by rw[e])]
  .rw[if_neg λz=>e (Sum.inr.inj z)];exact Gy ((Wu.mp h).resolve_left λz=>e z.symm)
theorem ue{x:Str}{l:!Str}(h:x∉l):br (l.map λx=>(Sum.inr x:Key)) (l.map λ_=>D.bl true) (Sum.inr x)=none:=Pa (f:=id) (h:=λ_=>D.bl true) (by rw[List.map_id];exact h)
theorem pG{x:Str}{l:!Str}(h:x∉l):D.iI (cY (l.map λx=>(Sum.inr x:Key)) (Sum.inr x)) (dh (l.map λx=>(Sum.inr x:Key)) (l.map λ_=>D.bl true) (Sum.inr x) (.bl true))=Jn (l++[x]):=by
 let(h1,h2):=TH (f:=id) (h:=λ_=>D.bl true) (d:=.bl true) (l:=l) (x:=x) (by rw[List.map_id];exact h);have h1:cY (l.map λx=>(Sum.inr x:Key)) (Sum.inr x)=_:=h1;have h2:dh (l.map λx=>(Sum.inr x:Key)) (l.map λ_=>D.bl true) (Sum.inr x) (.bl true)=_:=h2;rw[h1,h2];unfold Jn;rw[Wc,Wc]
 rfl
theorem gZ{α β:Type}(f g:α->!β):∀ l:!α,(l.flatMap f++l.flatMap g).Perm (l.flatMap λx=>f x++g x)
 | []=>.nil
 | a::l=>by
  rw[Wv,Wv,Wv,WB,WB];show List.Perm.append_left _ ?_;rw[<- WB];show (List.Perm.append_right _ XC).trans ?_;rw[WB];exact List.Perm.append_left _ (gZ f g l)
theorem gx{α:Type}{a b l:!α}{x:α}(h:l.Nodup)(e:l=a++x::b):x∉a:=λz=>by
 rw[e,WI] at h;exact h.2.2 x z x Wg U
def hM(p:PK):!Str:=if p.asked=true then [] else p.kd.bz.map eB.name
def hA(p:PK):!Str:=if p.asked=true then p.kd.bK.map dE.name else []
def uM(p:PK):!Str:=if p.asked=true then p.kd.bz.map eB.name else []
def uA(p:PK):!Str:=if p.asked=true then [] else p.kd.bK.map dE.name
theorem F7(p:PK):hM p++uM p=p.kd.bz.map eB.name:=by
 unfold hM uM;split
 .rfl
 .rw[Wf]
theorem FI(p:PK):hA p++uA p=p.kd.bK.map dE.name:=by
 unfold hA uA;split
 .rw[Wf]
 .rfl
theorem Ls{W:bf}(w:dG W){ps:!PK}(h:ps.map PK.kd=W.kinds):(ps.flatMap hM++ps.flatMap uM).Nodup:=by
 show ((gZ hM uM ps).nodup_iff).mpr ?_;have e:=w.mn;rw[<- h,X2] at e;rw[show (λp=>hM p++uM p)=λp:PK=>p.kd.bz.map eB.name from funext F7];exact e
theorem OR{W:bf}(w:dG W){ps:!PK}(h:ps.map PK.kd=W.kinds):(ps.flatMap hA++ps.flatMap uA).Nodup:=by
 show ((gZ hA uA ps).nodup_iff).mpr ?_;have e:=w.an;rw[<- h,X2] at e;rw[show (λp=>hA p++uA p)=λp:PK=>p.kd.bK.map dE.name from funext FI];exact e
def zI(W:bf):!Str:=("number":Str)::W.kinds.map Kd.name
theorem kj.kn{W:bf}{k:Str}(h:kj W k):k∈zI W:=by
 rcases h with rfl | ⟨kd,hk,_,rfl⟩
 .exact Wg
 .exact Wd _ (Wr hk)
def RS(W:bf)(fs:!(Str×Str)):Prop:=fs.length<=3/\(fs.map (·.1)).Nodup/\∀ p∈fs,p.2∈zI W
theorem B6.U0{W:bf}{ns:!Str}{fs:!(Str×Str)}(hn:ns.Nodup)(h:B6 W ns fs):RS W fs:=#[h.1,by rw[h.2.1];exact hn.sublist (WT _ _),λp hp=>(h.2.2 p hp).kn]
theorem dG.R4{W:bf}(w:dG W){kd:Kd}(hk:kd∈W.kinds){m:eB}(hm:m∈kd.bz):RS W m.fs:=(w.mo kd hk m hm).2.U0 ((WI.mp w.nd).1.sublist (WT _ _))
theorem dG.S4{W:bf}(w:dG W){kd:Kd}(hk:kd∈W.kinds){m:dE}(hm:m∈kd.bK):RS W m.ps/\m.res∈zI W:=#[(w.ao kd hk m hm).2.1.U0 ((WI.mp w.nd).1.sublist (List.drop_sublist _ _)),(w.ao kd hk m hm).2.2.kn]
end DL
section
local macro_rules
 | `(tactic|left)=>`(tactic|first|show#[U,?_]|show#[#[U,U],?_]|show#[#[U,U,U],?_]|show#[.inl U,?_]|show#[.inr U,?_]|show#[DL.cj,?_]|show#[DL.kq,?_]|show#[DL.lb,?_]|(apply Exists.intro;left)|(show Or.inl ?_;left)|(show Or.inr ?_;left))
local macro_rules
 | `(tactic|right)=>`(tactic|repeat (first|show DL.gA (by decide+kernel) ?_|show DL.p9 (by decide+kernel) ?_|left))
section
local macro_rules
 | `(tactic|trivial)=>`(tactic|repeat (first | show DL.gA (by decide+kernel) ?_ | show DL.p9 (by decide+kernel) ?_  | show#[_,U,?_] | show#[_,_,_,U,U,U,?_] | show#[_,_,_,U,U,DL.cj,?_] | show#[_,_,U,U,?_] | show#[#[U,U,U],?_] | show#[_,.inr U,#[U,U],?_] | show#[_,.inl U,#[U,U],?_] | show#[_,.inr U,?_] | show#[_,.inl U,?_] | show#[_,_,U,U,U,?_] | show .inl #[_,U,?_] | show .inr #[_,_,U,U,?_] | show#[_,_,_,U,U,?_] | show#[#[U,U],?_]))
namespace OY
open PySem L2 DL
abbrev aa0(P w K mg base e n t):=DL.C4 P w K mg base aR e n (DL.cQ K .no t)
abbrev aa1(P w K mg base e n t):=DL.C4 P w K mg base aR e n (DL.zG K .no t)
def top(i:Nat):Ev:=PySem.Challenge.pw_sideturn_k09_programs_let_by.main.body.getD i (.Pass #[0,0,0,0])
abbrev mT:Ev:=top 5
abbrev eY:D3:=("makers_in",mT,["kind"])
theorem sy:av ["kind"] ["kind"] (ai mT):=eF
abbrev mF:Ev:=top 6
abbrev fc:D3:=("askers_in",mF,["kind"])
theorem tU:av ["kind"] ["kind"] (ai mF):=eF
abbrev gW:Ev:=top 7
abbrev bV:D3:=("numbered_kinds",gW,["program"])
theorem cf:av ["program","numbered","row","kind"] ["program"] (ai gW):=eF
abbrev gh:Ev:=top 8
abbrev cp:D3:=("numbered_tables",gh,["program"])
theorem bC:av ["program","numbered","row","kind","number","table"] ["program"] (ai gh):=eF
abbrev iG:Ev:=top 12
abbrev cS:D3:=("maker_columns",iG,["kind","result"])
theorem lO:av ["kind","result"] ["kind","result"] (ai iG):=eF
abbrev iH:Ev:=top 13
abbrev cU:D3:=("asker_columns",iH,["kind"])
theorem lW:av ["kind"] ["kind"] (ai iH):=eF
abbrev jL:Ev:=top 14
abbrev dN:D3:=("plan_handed",jL,["look","wanted","terms","bound","kind"])
theorem dw:av ["look","wanted","terms","bound","kind","tasks","name","wish","term"] ["look","wanted","terms","bound","kind"] (ai jL):=eF
abbrev mX:Ev:=top 15
abbrev fe:D3:=("plan_rows",mX,["look","columns","rows","bound","kind"])
theorem kA:av ["look","columns","rows","bound","kind","tasks"] ["look","columns","rows","bound","kind"] (ai mX):=eF
abbrev mN:Ev:=top 16
abbrev i5:D3:=("look_name",mN,["look","term","bound"])
theorem tM:av ["look","term","bound"] ["look","term","bound"] (ai mN):=eF
abbrev n9:Ev:=top 17
abbrev j5:D3:=("look_num",n9,["look","term","bound"])
theorem vw:av ["look","term","bound"] ["look","term","bound"] (ai n9):=eF
abbrev qp:Ev:=top 18
abbrev l7:D3:=("look_op",qp,["look","term","bound"])
theorem wY:av ["look","term","bound"] ["look","term","bound"] (ai qp):=eF
abbrev mP:Ev:=top 19
abbrev iN:D3:=("look_zero",mP,["look","term","bound"])
theorem t5:av ["look","term","bound"] ["look","term","bound"] (ai mP):=eF
abbrev oJ:Ev:=top 20
abbrev jT:D3:=("look_let",oJ,["look","term","bound"])
theorem uy:av ["look","term","bound"] ["look","term","bound"] (ai oJ):=eF
abbrev mV:Ev:=top 21
abbrev je:D3:=("look_make",mV,["look","term","bound"])
theorem ix:av ["look","term","bound","kind","fields"] ["look","term","bound"] (ai mV):=eF
abbrev n8:Ev:=top 22
abbrev j1:D3:=("look_ask",n8,["look","term","bound"])
theorem ve:av ["look","term","bound"] ["look","term","bound"] (ai n8):=eF
abbrev mY:Ev:=top 23
abbrev iO:D3:=("look_case",mY,["look","term","bound"])
theorem sQ:av ["look","term","bound"] ["look","term","bound"] (ai mY):=eF
abbrev pD:Ev:=top 24
abbrev j6:D3:=("look_new",pD,["look","term","bound"])
theorem mG:av ["look","term","bound","kind"] ["look","term","bound"] (ai pD):=eF
abbrev qF:Ev:=top 26
abbrev lK:D3:=("do_term",qF,["look","task"])
theorem ir:av ["look","task","word","term","bound"] ["look","task"] (ai qF):=eF
abbrev qq:Ev:=top 27
abbrev lF:D3:=("do_want",qq,["look","task"])
theorem wA:av ["look","task"] ["look","task"] (ai qq):=eF
abbrev qD:Ev:=top 28
abbrev lZ:D3:=("do_tell",qD,["look","task"])
theorem wu:av ["look","task"] ["look","task"] (ai qD):=eF
abbrev n6:Ev:=top 29
abbrev jQ:D3:=("do_alike",n6,["look","task"])
theorem i6:av ["look","task","other","kind"] ["look","task"] (ai n6):=eF
abbrev rC:Ev:=top 30
abbrev lQ:D3:=("do_bind",rC,["look","task"])
theorem dW:av ["look","task","word","name","term","bound","kind","inside"] ["look","task"] (ai rC):=eF
abbrev om:Ev:=top 31
abbrev j3:D3:=("do_asker",om,["look","task"])
theorem cm:av ["look","task","word","asker","terms","bound","kind","owner","params","result"] ["look","task"] (ai om):=eF
abbrev rD:Ev:=top 32
abbrev lI:D3:=("do_case",rD,["look","task"])
theorem eQ:av ["look","task","word","result","rows","bound","kind"] ["look","task"] (ai rD):=eF
abbrev u1:Ev:=top 33
abbrev pE:D3:=("do_row",u1,["look","task"])
theorem bB:av ["look","task","word","columns","rows","k","bound","name","names","term","pairs","wish","inside","told","field","kind"] ["look","task"] (ai u1):=eF
abbrev hU:Ev:=top 35
abbrev dD:D3:=("looked_through",hU,["look","term","bound"])
theorem gw:av ["look","term","bound","task"] ["look","term","bound"] (ai hU):=eF
abbrev jd:Ev:=top 36
abbrev eD:D3:=("kind_of_term",jd,["heads","row","term","bound"])
theorem nj:av ["heads","row","term","bound"] ["heads","row","term","bound"] (ai jd):=eF
abbrev ll:Ev:=top 39
abbrev fz:D3:=("look_heads",ll,["program"])
theorem bU:av ["program","look_at","row","kind","head","table"] ["program"] (ai ll):=eF
abbrev kR:Ev:=top 40
abbrev fB:D3:=("look_table",kR,["heads","row","kind","table"])
theorem bJ:av ["heads","row","kind","table","columns","own","ahead","name","term","pairs","result","bound"] ["heads","row","kind","table"] (ai kR):=eF
abbrev AG:Ev:=top 41
abbrev su:D3:=("look",AG,["program"])
theorem lp:av ["program","heads","row","kind","table"] ["program"] (ai AG):=eF
abbrev oV:Ev:=top 43
abbrev iA:D3:=("_law_deal",oV,["_law_script","_law_base"])
abbrev oN:Ev:=top 44
abbrev bp:D3:=("_law_draw",oN,["_law_deal_here","_law_many"])
abbrev cg:Ev:=top 45
abbrev gd:D3:=("_law_words",cg,["_law_deal_here","_law_many"])
theorem aX:av ["_law_deal_here","_law_many","_law_letters","_law_core","_law_at","_law_turn","_law_found","_law_k","_law_own","_law_word","_law_near"] ["_law_deal_here","_law_many"] (ai cg):=eF
abbrev mR:Ev:=top 46
abbrev gf:D3:=("_law_pairs",mR,["_law_deal_here","_law_names","_law_some","_law_most"])
theorem lB:av ["_law_deal_here","_law_names","_law_some","_law_most","_law_many"] ["_law_deal_here","_law_names","_law_some","_law_most"] (ai mR):=eF
abbrev mE:Ev:=top 47
abbrev gm:D3:=("_law_heads",mE,["_law_deal_here","_law_words_here","_law_most"])
theorem aO:av ["_law_deal_here","_law_words_here","_law_most","_law_found","_law_names","_law_shift","_law_makers_left","_law_askers_left","_law_kk","_law_makers","_law_k","_law_some","_law_askers","_law_params"] ["_law_deal_here","_law_words_here","_law_most"] (ai mE):=eF
abbrev kU:Ev:=top 48
abbrev dC:D3:=("_law_things",kU,["_law_world_here"])
theorem qd:av ["_law_world_here"] ["_law_world_here"] (ai kU):=eF
abbrev mC:Ev:=top 49
abbrev d6:D3:=("_law_bound",mC,["_law_deal_here","_law_world_here","_law_scope","_law_many"])
theorem ic:av ["_law_deal_here","_law_world_here","_law_scope","_law_many","_law_some","_law_at"] ["_law_deal_here","_law_world_here","_law_scope","_law_many"] (ai mC):=eF
abbrev pS:Ev:=top 50
abbrev iB:D3:=("_law_leaf",pS,["_law_deal_here","_law_world_here","_law_scope","_law_kind"])
theorem jb:av ["_law_deal_here","_law_world_here","_law_scope","_law_kind","_law_own","_law_first"] ["_law_deal_here","_law_world_here","_law_scope","_law_kind"] (ai pS):=eF
abbrev qm:Ev:=top 51
abbrev gQ:D3:=("_law_all",qm,["_law_deal_here","_law_world_here","_law_scope","_law_some","_law_room"])
theorem wg:av ["_law_deal_here","_law_world_here","_law_scope","_law_some","_law_room"] ["_law_deal_here","_law_world_here","_law_scope","_law_some","_law_room"] (ai qm):=eF
abbrev qP:Ev:=top 52
abbrev jl:D3:=("_law_ask",qP,["_law_deal_here","_law_world_here","_law_scope","_law_kind","_law_room"])
theorem cy:av ["_law_deal_here","_law_world_here","_law_scope","_law_kind","_law_room","_law_some","_law_side","_law_kk","_law_makers","_law_askers","_law_f","_law_params","_law_terms"] ["_law_deal_here","_law_world_here","_law_scope","_law_kind","_law_room"] (ai qP):=eF
abbrev pH:Ev:=top 53
abbrev il:D3:=("_law_case",pH,["_law_deal_here","_law_world_here","_law_scope","_law_kind","_law_room"])
theorem bA:av ["_law_deal_here","_law_world_here","_law_scope","_law_kind","_law_room","_law_some","_law_side","_law_kk","_law_makers","_law_askers","_law_a","_law_found","_law_c","_law_fields","_law_names","_law_more"] ["_law_deal_here","_law_world_here","_law_scope","_law_kind","_law_room"] (ai pH):=eF
abbrev qk:Ev:=top 54
abbrev jy:D3:=("_law_new",qk,["_law_deal_here","_law_world_here","_law_scope","_law_kind","_law_room"])
theorem cP:av ["_law_deal_here","_law_world_here","_law_scope","_law_kind","_law_room","_law_some","_law_askers","_law_found","_law_f","_law_params","_law_result","_law_names","_law_more"] ["_law_deal_here","_law_world_here","_law_scope","_law_kind","_law_room"] (ai qk):=eF
abbrev pC:Ev:=top 55
abbrev d5:D3:=("_law_term",pC,["_law_deal_here","_law_world_here","_law_scope","_law_kind","_law_room"])
theorem aM:av ["_law_deal_here","_law_world_here","_law_scope","_law_kind","_law_room","_law_form","_law_found","_law_a","_law_b","_law_some","_law_other","_law_x","_law_makers","_law_c","_law_fields"] ["_law_deal_here","_law_world_here","_law_scope","_law_kind","_law_room"] (ai pC):=eF
abbrev mQ:Ev:=top 56
abbrev gu:D3:=("_law_world",mQ,["_law_deal_here","_law_most","_law_tables"])
theorem kP:av ["_law_deal_here","_law_most","_law_tables","_law_words_here"] ["_law_deal_here","_law_most","_law_tables"] (ai mQ):=eF
abbrev mB:Ev:=top 57
abbrev gk:D3:=("_law_cells",mB,["_law_deal_here","_law_world_here","_law_room"])
theorem bj:av ["_law_deal_here","_law_world_here","_law_room","_law_found","_law_side","_law_kk","_law_makers","_law_askers","_law_own","_law_c","_law_fields","_law_f","_law_params","_law_result"] ["_law_deal_here","_law_world_here","_law_room"] (ai mB):=eF
abbrev jH:Ev:=top 58
abbrev eX:D3:=("_law_program",jH,["_law_deal_here","_law_world_here","_law_room"])
theorem aG:av ["_law_deal_here","_law_world_here","_law_room","_law_found","_law_one","_law_cells_here","_law_side","_law_kk","_law_makers","_law_askers","_law_way","_law_blocks","_law_f","_law_params","_law_result","_law_rows","_law_c","_law_fields"] ["_law_deal_here","_law_world_here","_law_room"] (ai jH):=eF
abbrev kY:Ev:=top 59
theorem pz:av ["_law_script","_law_deal_here","_law_one","_law_other","_law_bare"] ["_law_script"] (ai kY):=eF
structure Txt(K:Frag)(mg:Str->Option AT):Prop where
 any:mg "any"=none
 dict:mg "dict"=none
 enumerate:mg "enumerate"=none
 int:mg "int"=none
 len:mg "len"=none
 list:mg "list"=none
 max:mg "max"=none
 min:mg "min"=none
 range:mg "range"=none
 rev:mg "reversed"=none
 tuple:mg "tuple"=none
 zip:mg "zip"=none
 str:mg "str"=none
 bool:mg "bool"=none
section
variable{P:GE}{w:Fa}{K:Frag}{mg:Str->Option AT}{base:EQ}
theorem bc{b b':Bool}{A B:Prop}(h:b=b')(q1:b'=true->A)(q2:b'=false->B):if b=true then A else B:=by
 subst h;cases b with
 | true=>exact oC (q1 U)
 | false=>exact sP (q2 U)
theorem yC{ws:!Str}:(ws.map D.str).all gJ=true:=by
 rw[List.all_map];exact Xo.mpr λ_ _=>rfl
theorem Ft{ws:!Str}:(ws.map D.str).map fv=ws.map V.str:=by
 rw[Wo]
 rfl
theorem Ez{zs:!Str}{r:Int}(h0:0<=r)(h1:r < zs.length):∃ z∈zs,jF (zs.map D.str) r=some (.str z):=by
 have hj:r.toNat < zs.length:=by cbv
 show#[zs[r.toNat],XF hj,?_];have e:(r.toNat:Int)=r:=Int.toNat_of_nonneg h0;have q:=iC (xs:=zs.map D.str) (j:=r.toNat) (v:=.str zs[r.toNat]) (by simp[hj]);rw[e] at q;exact q
theorem u2:∀ (ys:!D),(∀ y∈ys,∃ ch,(97<=ch/\ch<=122)/\y=D.str #[#v[ch]])->∃ cs:!Nat,ys=(cs.map λc=>(#[#v[c]]:Str)).map D.str/\(∀ c∈cs,97<=c/\c<=122)/\cs.length=ys.length
 | [],_=>#[[],U,λ_ h=>absurd h (by simp),U]
 | y::ys,h=>by
  let(ch,hc,e):=h y Wg;let(cs,e2,h2,h3):=u2 ys λz hz=>h z (Wd _ hz);subst e;show#[ch::cs,by rw[e2];simp,λc hm=>?_,by simp[h3]];rcases Wu.mp hm with rfl | hm
  .exact hc
  .exact h2 c hm
theorem CB{d l:AC}(fi:C4 P w K mg base aR bp 1 (cQ K (bg d l) (gK d)))(F:Own K mg gd)(T:Txt K mg):C4 P w K mg base aR gd 2 (cQ K (bg d l) (zL d)):=by
 show F.d (nos:=1) aX (λds R h=>?_) λf bh A outer s H E M hr=>?_
 .let(m,rfl,_):=h
  rfl
 have hb:aL cg=MW (aL cg) 6 (As ((aL cg).getD 6 yF)):=rfl;have ha:tY (As ((aL cg).getD 6 yF))=true:=rfl;have hz:xY (As ((aL cg).getD 6 yF))=cR.near:=rfl;have hl3:(As ((aL cg).getD 6 yF)).length=cR.near.length:=rfl;generalize As ((aL cg).getD 6 yF)=es at hb ha hz hl3;have hn:(es.length<=1000:Bool)=true:=by rw[hl3];decide
 rw[hb];show#[_,(ag (mH (gz (i:=2) aX.nd U (Or.inr U) (DE.pe ay)))
 (ag (sS 3 aX.nd (Hn ay (ae (DN.de (nC ["_law_k"] [2,0] (eE U T.range (ae (ax hr fi (ae (vd 0) (ae aj af))) af)) (λ_ _ _ _=>(gM 0 ["_law_k","_law_letters","_law_deal_here"])) (λ_ _ _ _=>cF)
 (λ_ _ _ _=>(CP xi z9 (vd 1) (ax hr fi (ae (vd 2) (ae aj af))) (λ_ _=>rfl))))) af)))
 (ag (sS 4 aX.nd (ax hr fi (ae (vd 0) (ae (cM dg ik (ju sv GQ U T.len PySem.boot_len (ae (vd 3) af)) aj) af))))
 (ag (sS 5 aX.nd (ax hr fi (ae (vd 0) (ae aj af))))
 (ag (sN 0 6 aX.nd (aP af))
 (ag (sF (eE U T.range (ae (vd 1) af)) (gN 7 aX.nd)
 (ag (sS 8 aX.nd (CP xi z9 (vd 2) (cM gC yU (cM dg ik (vd 5) (cM jV yU aj (vd 7))) aj) (λ_ _=>rfl)))
 (ag (sS 9 aX.nd (cM eK lJ (cM eK lJ (cM eK lJ (cM eK lJ (u6 (vd 3) fj (cH (vd 4))) (vd 8)) (u6 (vd 3) (cH (vd 4)) fj)) (cM nP A4 ay (cM gC yU (vd 7) aj))) (cM nP A4 ay (cM c8 yU (vd 7) aj))))
 (ag (bH (aJ lM okIn (vd 9) (aH (ae ay (ae ay (ae ay (ae ay (ae ay (ae ay (ae ay af)))))))) U)
 (au (sS 9 aX.nd (cM eK lJ (vd 9) ay)))
 aK)
 (ag (bH (aJ lM okIn (vd 9) (aH (ae ay (ae ay (ae ay (ae ay (ae ay (ae ay af))))))) U)
 (au (sS 9 aX.nd (cM eK lJ (vd 9) ay)))
 aK)
 (au (yn 6 (ae (vd 9) af))))))))
 (ag (sS 10 aX.nd (DN.de (aP (EI ha hz hl3) hn)))
 (ag (sS 9 aX.nd (ou (vd 10) (ax hr fi (ae (vd 0) (ae aj af)))))
 (ag (bH (DW.dt (jZ (aJ cw eG (ax hr fi (ae (vd 0) (ae aj af))) aj (aF _)) (iu (Jb kB (vd 9) (pv 6) U))))
 (au (E7 (Ap (DE.pe (vd 9)) (Hv (pv 6) (DE.pe (ax hr fi (ae (vd 0) (ae (vd 1) af)))) set_list))))
 aK)
 (au (bM (xM (pv 6))))))))))))),λds R h=>?_]
 .let(m,rfl,(hm0,hm1),q):=h;trivial;show#[#[by decide,by decide],λr r0 r1=>?_];show#[r,U,#[by cbv,by cbv],?_];show oW (λy=>∃ ch,(97<=ch/\ch<=122)/\y=D.str #[#v[ch]]) _ (λx hx k hk=>?_) λys hyl hyp=>?_
  .refine#[_,U,_,U,_,U,#[by decide,by decide],λa a0 a1=>?_];exact#[_,_,_,U,U,by decide+kernel,yA a0 a1,hk _ _ #[_,#[by cbv,by cbv],U] rfl]
  let(cs,e1,hcs,hcl):=u2 ys hyp;subst e1;have hcl':cs.length<=4:=by
   have:(fk 0 r.toNat).length=r.toNat:=by simp[fk]
   rw[hcl,hyl,this];cbv
  show#[cs.map λc=>(#[#v[c]]:Str),U,?_,?_]
  .rw[cR.uY,V8];change cs.length+cs.length * 0<=16777216;cbv
  have hcore:(Txt.join ("":Str) (cs.map λc=>(#[#v[c]]:Str))).length<=4:=by
   have:=cR.join_ones cs;cbv
  have hlw:Lw (Txt.join ("":Str) (cs.map λc=>(#[#v[c]]:Str))):=λc hc=>by
   rw[vg] at hc;exact hcs c hc
  generalize Txt.join ("":Str) (cs.map λc=>(#[#v[c]]:Str))=core at hcore hlw;have hsz:(1000:Nat)<=FB:=by decide
  show#[_,U,_,U,_,U,by omega,_,_,U,U,_,U,#[by omega,by omega],λat_' a0 a1=>?_];show#[_,U,_,U,#[by decide,by decide],λtn t0 t1=>?_];show#[#[U,U],_,U,m,U,#[by cbv,by cbv],?_];have h2s:=zv (x:=core) (i:=at_') a0 (by cbv);have hL1:=hlw.slice none (some at_');have hL2:=hlw.slice (some at_') none;generalize yE:Txt.slice core none (some at_')=pre at h2s hL1;generalize hpost:Txt.slice core (some at_') none=post at h2s hL2;show dH (λxs s=>∃ (ws:!Str) (a b e:Sl),(∀ (i:Nat) (x:D),xs[i]?=some x->x=D.int ((ws.length+i:Nat):Int))/\ws.length+xs.length=m.toNat/\u5 pre.cps.toList post.cps.toList tn.toNat ws/\s=#[[.dat (.bG d),.dat (.int m),.dat (.str cR.OC),.dat (.str core),.dat (.int at_'),.dat (.int tn),.own 0,a,b,e,.no],[some (.lst (ws.map D.str))]]) ?_ ?_ _ _ #[[],.no,.no,.no,?_,?_,λ_ _ h=>absurd h (by simp),U]
  .rintro s ⟨ws,a,b,e,h1,h2,h3,rfl⟩
   replace h2:ws.length=m.toNat:=h2
   trivial;show#[#[by decide,by decide],λr r0 r1=>?_];let(z,hz2,ez):=Ez (zs:=cR.near) r0 r1;have hzw:=EH z hz2;show#[_,_,_,U,U,ez,?_];show#[_,U,_,U,#[by decide,by decide],λr2 r20 r21=>?_];show#[#[U,U,U],_,U,?_];show bc U (λ_=>?_) λ_=>?_
   .refine#[_,U,0,_,U,U,#[U,yC],_,U,?_];show bc U (λhni=>?_) λ_=>?_
    .refine#[_,U,0,U,_,U,_,U,_,U,#[by cbv,by cbv],λr3 r30 r31=>?_];have hj:Ce (ws.map D.str).length r3=some r3.toNat:=by
      rw[V8];unfold Ce;rw[if_pos (by cbv),if_pos (by cbv)]
     show#[_,_,_,U,U,hj,?_];show .inr #[0,_,U,U,?_];change R (.lst ((ws.map D.str).set r3.toNat (.str z)));rw[<- List.map_set];have hnz:z∉ws:=λhm=>by
      replace hni:(not (v3 (.str z) ((ws.map D.str).map fv)))=true:=hni
      rw[Ft,fh,decide_eq_true hm] at hni;cases hni
     show q _ (by simpa using h2) (qS _ h3.nodup hnz) λy hy=>?_;rcases List.mem_or_eq_of_mem_set hy with hy | rfl
     .exact h3.nm y hy
     .exact hzw
    .exact .inr #[0,_,U,U,q ws h2 h3.nodup h3.nm]
   .exact .inr #[0,_,U,U,q ws h2 h3.nodup h3.nm]
  .rintro x xs s N ⟨ws,a,b,e,h1,h2,h3,rfl⟩ hN hE_;have hx:=h1 0 x U;subst hx
   replace h2:ws.length+(xs.length+1)=m.toNat:=h2
   have hk:ws.length < 60:=by cbv
   trivial;show#[.inl #[by decide,by decide],?_];show#[_,_,U,U,?_];show#[_,_,U,U,(show (0:Int) < 26 by decide),?_];have ea:=yA (r:=(tn+7 * ((ws.length+0:Nat):Int)) % 26) (Xt _ ()) (Xr _ ());show#[_,_,_,U,U,by decide+kernel,ea,?_];rw[show ((tn+7 * ((ws.length+0:Nat):Int)) % 26).toNat=(tn.toNat+7 * ws.length) % 26 by cbv];have xN:97<=97+(tn.toNat+7 * ws.length) % 26/\97+(tn.toNat+7 * ws.length) % 26<=122:=#[by cbv,by cbv];let(mx,ox):=yo (c:=120) (n:=((ws.length+0:Nat):Int) % 2) (Xt _ ()) (by cbv);let(my,oy):=yo (c:=121) (n:=((ws.length+0:Nat):Int) / 26) (by cbv) (by cbv);rw[show (((ws.length+0:Nat):Int) % 2).toNat=ws.length % 2 by cbv] at mx;rw[show (((ws.length+0:Nat):Int) / 26).toNat=ws.length / 26 by cbv] at my;generalize hmx:Txt.mul (#[#v[120]]:Str) (((ws.length+0:Nat):Int) % 2)=tx at mx;generalize hmy:Txt.mul (#[#v[121]]:Str) (((ws.length+0:Nat):Int) / 26)=ty at my;have lx:tx.length=ws.length % 2:=by rw[show tx.length=tx.cps.toList.length by simp[Str.length],mx,List.length_replicate]
   have ly:ty.length=ws.length / 26:=by rw[show ty.length=ty.cps.toList.length by simp[Str.length],my,List.length_replicate]
   have wx:Lw tx:=λc hc=>by rw[mx] at hc;have:=List.eq_of_mem_replicate hc;cbv
   have wy:Lw ty:=λc hc=>by rw[my] at hc;have:=List.eq_of_mem_replicate hc;cbv
   have hL:Lw (pre++(#[#v[97+(tn.toNat+7 * ws.length) % 26]]:Str)++post++tx++ty) :=
    (((hL1.app (λc hc'=>by simp at hc';subst hc';exact xN)).app hL2).app wx).app wy
   have yJ:(pre++(#[#v[97+(tn.toNat+7 * ws.length) % 26]]:Str)++post++tx++ty).length<=8/\1<=(pre++(#[#v[97+(tn.toNat+7 * ws.length) % 26]]:Str)++post++tx++ty).length:=by
    rw[cR.cB,cR.cB,cR.cB,cR.cB,cR.jf];cbv
   have hcp:(pre++(#[#v[97+(tn.toNat+7 * ws.length) % 26]]:Str)++post++tx++ty).cps.toList=wl pre.cps.toList post.cps.toList tn.toNat ws.length 0:=by
    rw[lu,lu,lu,lu,mx,my];simp[wl]
   show#[_,U,_,U,_,U,_,U,by cbv,?_];rw[yE];show#[_,U,_,_,U,U,by rw[cR.jf];cbv,?_];show#[_,U,_,U,_,U,_,U,by cbv,?_];rw[hpost];show#[_,_,U,U,by rw[cR.cB,cR.jf];cbv,?_];show#[_,U,_,_,U,U,(show (0:Int) < 2 by decide),?_];show#[_,_,U,U,ox,?_];rw[show Txt.mul (Str.ofString "x") (((ws.length+0:Nat):Int) % 2)=tx from hmx];show#[_,_,U,U,by rw[cR.cB,cR.cB,cR.jf];cbv,?_];show#[_,U,_,_,U,U,#[by decide,by decide],?_];show#[_,_,U,U,oy,?_];rw[show Txt.mul (Str.ofString "y") (((ws.length+0:Nat):Int) / 26)=ty from hmy];show#[_,_,U,U,by rw[cR.cB,cR.cB,cR.cB,cR.jf];cbv,?_];generalize pre++(#[#v[97+(tn.toNat+7 * ws.length) % 26]]:Str)++post++tx++ty=wd at hL yJ hcp;have hLq:Lw ("q":Str):=by decide+kernel
   have hq1:("q":Str).length=1:=rfl;have hcq:(wd++("q":Str)).cps.toList=wl pre.cps.toList post.cps.toList tn.toNat ws.length 1:=by
    rw[lu,hcp];simp[wl]
    rfl
   have fin:∀ (u:Str) (a b:Sl) (e:Nat),Nm u->u.cps.toList=wl pre.cps.toList post.cps.toList tn.toNat ws.length e->N.nx #[[.dat (.bG d),.dat (.int m),.dat (.str cR.OC),.dat (.str core),.dat (.int at_'),.dat (.int tn),.own 0,a,b,.dat (.str u),.no],[some (.lst (ws.map D.str++[D.str u]))]]:=λu a b e hu he=>by
    show hN _ #[ws++[u],a,b,.dat (.str u),λi z hz=>?_,?_,h3.snoc hu he,by simp]
    .have:=h1 (i+1) z hz;rw[this];simp;cbv
    .rw[Wa];simp;cbv
   have p7:(ws.map D.str).length < FB:=by
    rw[V8];cbv
   show#[_,U,?_];show#[_,.inr U,#[U,U],_,U,?_];show bc (b':=v3 (.str wd) (vo.map V.str)) U (λc1=>?_) λc1=>?_
   .rw[fh] at c1;have c1:=DJ wd (of_decide_eq_true c1);show#[_,U,_,_,U,U,by cbv,?_];show#[_,U,?_];show#[_,.inr U,#[U,U],_,U,?_];show bc (b':=v3 (.str (wd++("q":Str))) (qx.map V.str)) U (λc2=>?_) λc2=>?_
    .rw[fh] at c2;exact absurd (of_decide_eq_true c2) c1.2.1
    .have nm:Nm (wd++("q":Str)):=#[hL.app hLq,by rw[cR.cB];cbv,by rw[cR.cB];cbv,c1.1,c1.2.1];exact#[0,_,U,U,U,_,U,_,U,_,_,U,U,p7,fin _ _ _ 1 nm hcq]
   .rw[fh] at c1;have c1:=of_decide_eq_false c1;show#[_,U,?_];show#[_,.inr U,#[U,U],_,U,?_];show bc (b':=v3 (.str wd) (qx.map V.str)) U (λc2=>?_) λc2=>?_
    .rw[fh] at c2;have c2:=D9 wd (of_decide_eq_true c2);have nm:Nm (wd++("q":Str)):=#[hL.app hLq,by rw[cR.cB];cbv,by rw[cR.cB];cbv,c2.1,c2.2.1];show#[_,U,_,_,U,U,by cbv,?_];exact#[0,_,U,U,U,_,U,_,U,_,_,U,U,p7,fin _ _ _ 1 nm hcq]
    .rw[fh] at c2;exact#[0,_,U,U,U,_,U,_,U,_,_,U,U,p7,fin _ _ _ 0 #[hL,yJ.2,yJ.1,c1,of_decide_eq_false c2] hcp]
  .intro i x hx;unfold fk at hx;rw[WL] at hx;let(j,hj,rfl):=WN.mp hx;let(_,e):=Wb.mp hj;simp at e;subst e;simp
  .simp[fk]
def T5(d:AC):X9:=λds R=>∃ ns ss:!Str,ds=[.bG d,.lst (ns.map .str),.lst (ss.map .str),.int 3]/\(3<=ns.length/\0 < ss.length/\ss.length<=100)/\∀ ps,Dj ns ss ps->R (bW ps)
theorem OP{d l:AC}(fi:C4 P w K mg base aR bp 1 (cQ K (bg d l) (gK d)))(F:Own K mg gf)(T:Txt K mg):C4 P w K mg base aR gf 2 (cQ K (bg d l) (T5 d)):=by
 show F.d (nos:=0) lB (λds R h=>?_) λf bh A outer s H E M hr=>#[_,(ag (sS 4 lB.nd (ou (DN.de (aP (ae aj (ae aj (ae aj (ae aj (ae (vd 3) af))))))) (ax hr fi (ae (vd 0) (ae aj af)))))
 (au (bM (iS T.tuple (ae (DN.de (nC ["_law_k"] [1,2,0] (eE U T.range (ae (ju (yX U) QF U T.min (by decide+kernel) (ae (vd 4) (ae (vd 3) af))) af)) (λ_ _ _ _=>(gM 0 ["_law_k","_law_names","_law_some","_law_deal_here"])) (λ_ _ _ _=>cF)
 (λ_ _ _ _=>(aH (ae (ou (vd 1) (vd 0)) (ae (ou (vd 2) (ax hr fi (ae (vd 3) (ae (fE T.len (ae (vd 2) af)) af)))) af)))))) af))))),λds R h=>?_]
 .let(ns,ss,rfl,_):=h
  rfl
 .let(ns,ss,rfl,(hn,hs0,Rm),q):=h;trivial;show#[#[by decide,by decide],λr r0 r1=>?_];have hm:∃ m:Int,jF [D.int 0,D.int 1,D.int 1,D.int 2,D.int 3] r=some (.int m)/\0<=m/\m<=3:=by
   have:r=0\/r=1\/r=2\/r=3\/r=4:=by cbv
   rcases this with rfl | rfl | rfl | rfl | rfl
   .exact#[0,U,by decide,by decide]
   .exact#[1,U,by decide,by decide]
   .exact#[1,U,by decide,by decide]
   .exact#[2,U,by decide,by decide]
   .exact#[3,U,by decide,by decide]
  let(m,em,hm0,hm1):=hm;show#[_,_,_,U,U,em,?_];show#[_,U,_,U,?_];have e3:(if (3:Int) < m then 3 else m)=m:=if_neg (by cbv);show#[_,_,U,?_];rw[e3];show#[m,U,#[by cbv,by cbv],?_];rw[fX];show fJ (λi:Nat=>D.int (i:Int)) pairD (λi p=>ns[i]?=some p.1/\p.2∈ss) _ (λi hi k hk=>?_) λps hps=>?_
  .have Ca:i < 3:=by have:=Xp.mp hi;cbv
   let(x,hx,ex):=pJ (f:=D.str) (xs:=ns) (r:=(i:Int)) (by cbv) (by cbv);rw[Xh] at hx;show#[_,U,_,U,_,_,_,U,U,ex,?_];show#[_,U,_,U,_,U,_,.inl U,?_];show#[_,U,#[by rw[V8];cbv,by rw[V8];cbv],λr2 r20 r21=>?_];let(y,hy,ey):=jP (f:=D.str) (xs:=ss) r20 (by simpa using r21);show#[_,_,_,U,U,ey,?_];exact hk (x,y) _ #[hx,hy] rfl
  .refine#[_,.inl U,?_];have hl:=fT hps;rw[W8] at hl;show q ps #[by cbv,?_,λp hp=>?_]
   .exact rN (λi y h=>h.1) hps
   .let(i,_,h):=fU hps p hp;exact h.2
def Ul(d:AC):X9:=λds R=>∃ (ws:!Str) (most:Int),ds=[.bG d,.lst (ws.map .str),.int most]/\(ws.length=45/\ws.Nodup/\(∀ x∈ws,Nm x)/\1<=most/\most<=4)/\∀ ks,yt ws ks->R (.lst (ks.map kh))
theorem Pn{d l:AC}(fi:C4 P w K mg base aR bp 1 (cQ K (bg d l) (gK d)))(RK:C4 P w K mg base aR gf 2 (cQ K (bg d l) (T5 d)))(F:Own K mg gm)(T:Txt K mg):C4 P w K mg base aR gm 3 (cQ K (bg d l) (Ul d)):=by
 show F.d (nos:=5) aO (λds R h=>?_) λf bh A outer s H E M hr=>#[_,(ag (sN 0 3 aO.nd (aP af))
 (ag (mH (rm (lX (i:=4) aO.nd U U (ts:=["_law_k"]) (us:=[1]) #[U,U,U,U,U,U] rfl (eE U T.range (ae (cM dg ik aj (ax hr fi (ae (vd 0) (ae (vd 2) af)))) af)) (λ_ _ _ _=>(gM 0 ["_law_k","_law_words_here"])) (λ_ _ _ _=>cF)
 (λ_ _ _ _=>(ou (vd 1) (vd 0))))))
 (ag (sS 5 aO.nd (ou (DN.de (aP (ae aj (ae aj af)))) (ax hr fi (ae (vd 0) (ae aj af)))))
 (ag (sN 1 6 aO.nd (f7 d3 dY (DN.de (dR (vd 1) (cH aj) fj)) (DN.de (dR (vd 1) fj (cH aj)))))
 (ag (sN 2 7 aO.nd (f7 d3 dY (DN.de (dR (vd 1) (cH (cM iV ik aj (vd 5))) fj)) (DN.de (dR (vd 1) fj (cH (cM iV ik aj (vd 5)))))))
 (ag (sF (aW (vd 4)) (gN 8 aO.nd)
 (ag (sN 3 9 aO.nd (aP af))
 (ag (sF (eE U T.range (ae (cM dg ik aj (ax hr fi (ae (vd 0) (ae (ou (DN.de (aP (ae aj (ae aj af)))) (iR jo rM U T.int (by decide+kernel) (ae (kK cw eG (fE T.len (ae (vd 4) af)) aj (aF _)) af))) af)))) af)) (gN 10 aO.nd)
 (ag (sS 11 aO.nd (ou (DN.de (aP (ae (DN.de (f7 d3 dY (vd 4) (DN.de (aP (ae ay af))))) (ae (DN.de (aP (ae ay af))) af)))) (iR jo rM U T.int (by decide+kernel) (ae (kK cw eG (vd 10) aj (aF _)) af))))
 (au (yn 9 (ae (aH (ae (yB Xe Xf nW tH (pv 6) (ae aj af)) (ae (ax hr RK (ae (vd 0) (ae (DN.de (dR (vd 1) (cH aj) (cH aj))) (ae (vd 11) (ae aj af))))) af))) af)))))
 (ag (sN 4 12 aO.nd (aP af))
 (ag (sF (eE U T.range (ae (ax hr fi (ae (vd 0) (ae (ou (DN.de (aP (ae aj (ae aj af)))) (iR jo rM U T.int (by decide+kernel) (ae (kK cw eG (fE T.len (ae (vd 4) af)) aj (aF _)) af))) af))) af)) (gN 10 aO.nd)
 (ag (sS 13 aO.nd (ax hr RK (ae (vd 0) (ae (DN.de (dR (vd 1) (cH aj) (cH aj))) (ae (DN.de (f7 d3 dY (vd 4) (DN.de (aP (ae ay af))))) (ae aj af))))))
 (au (yn 12 (ae (aH (ae (yB Xe Xf nW tH (pv 7) (ae aj af)) (ae (vd 13) (ae (ou (DN.de (f7 d3 dY (vd 4) (DN.de (aP (ae ay af))))) (ax hr fi (ae (vd 0) (ae (cM dg ik (fE T.len (ae (vd 4) af)) aj) af)))) af)))) af)))))
 (au (yn 3 (ae (aH (ae (ou (DN.de (aP (ae ay (ae ay af)))) (ax hr fi (ae (vd 0) (ae aj af)))) (ae (vd 8) (ae (iS T.tuple (ae (xM (pv 9)) af)) (ae (iS T.tuple (ae (xM (pv 12)) af)) af))))) af))))))))
 (ag (bH (aJ cw eG (ax hr fi (ae (vd 0) (ae aj af))) aj (aF _))
 (ag (sN 4 12 aO.nd (aP af))
 (ag (sF (eE U T.range (ae (ax hr fi (ae (vd 0) (ae aj af))) af)) (gN 10 aO.nd)
 (au (yn 12 (ae (aH (ae (yB Xe Xf nW tH (pv 7) (ae aj af)) (ae (ax hr RK (ae (vd 0) (ae (DN.de (dR (vd 1) (cH aj) (cH aj))) (ae (DN.de (aP (ae ay af))) (ae aj af))))) (ae ay af)))) af))))
 (au (yn 3 (ae (aH (ae (ou (DN.de (aP (ae ay (ae ay af)))) (ax hr fi (ae (vd 0) (ae aj af)))) (ae (ou (vd 1) aj) (ae (aH af) (ae (iS T.tuple (ae (xM (pv 12)) af)) af))))) af)))))
 aK)
 (au (bM (xM (pv 3))))))))))),λds R h=>?_]
 .let(ns,ss,rfl,_):=h
  rfl
 .let(ws,most,rfl,(p7,QJ,hwm,hm0,hm1),q):=h;trivial;show#[#[by cbv,by cbv],λr r0 r1=>?_];show#[_,_,U,U,?_];show#[_,U,#[by cbv,by cbv],?_];rw[fX];show fJ (λi:Nat=>D.int (i:Int)) D.str (λi x=>ws[i]?=some x) _ (λi hi k hk=>?_) λns oh=>?_
  .have Ca:i < 4:=by have:=Xp.mp hi;cbv
   let(x,hx,ex):=pJ (f:=D.str) (xs:=ws) (r:=(i:Int)) (by cbv) (by cbv);rw[Xh] at hx;exact#[_,U,_,U,_,_,_,U,U,ex,hk x _ hx U]
  have hnl:ns.length=(1+r).toNat:=by have:=fT oh;rwa [W8] at this
  have Q7:ns=ws.take ns.length:=by
   have:=rN (v:=id) (ns:=ws) (λi y h=>h) oh;simpa using this
  rw[Wy];trivial;show#[#[by decide,by decide],λr2 r20 r21=>?_];have hsh:∃ m:Int,jF [D.int 0,D.int 20] r2=some (.int m)/\(m=0\/m=20):=by
   have:r2=0\/r2=1:=by cbv
   rcases this with rfl | rfl
   .exact#[0,U,.inl U]
   .exact#[20,U,.inr U]
  let(sh,esh,hsh):=hsh;show#[_,_,_,U,U,esh,?_];let(ML,eML,pML):=v7 (f:=D.str) (ws:=ws) (n:=4) () (by cbv);let(AL,eAL,pAL):=v7 (f:=D.str) (ws:=ws) (n:=20 - sh) (by cbv) (by cbv);have hsz:=aI;show#[_,U,_,U,_,U,_,U,_,U,_,U,_,_,U,U,?_,?_]
  .rw[<- Wa,eML,V8,pML.length_eq];cbv
  rw[eML];show#[#[U,U],?_];show#[_,U,_,U,_,_,U,U,_,U,_,U,_,U,_,U,_,_,U,U,_,U,_,U,_,_,U,U,?_,?_]
  .rw[<- Wa,eAL,V8,pAL.length_eq];cbv
  rw[eAL];show#[#[U,U],?_];show#[_,U,_,.inl U,?_];have e24:cutD (ws.map D.str) (some 24) (some 27)=((ws.drop 24).take 3).map D.str:=by rw[ff,p7];rfl
  have e27:cutD (ws.map D.str) (some 27) (some 30)=((ws.drop 27).take 3).map D.str:=by rw[ff,p7];rfl
  have mlL:ML.length=45:=by rw[pML.length_eq,p7]
  have alL:AL.length=45:=by rw[pAL.length_eq,p7]
  show dH (λxs s=>∃ (ks:!Kd) (x8 x9 hZ gF fZ gH:Sl),((x8.pl=true/\x9.pl=true/\hZ.pl=true)/\gF.pl=true/\fZ.pl=true/\gH.pl=true)/\ED ws ns ML AL ks/\xs=(ns.drop ks.length).map .str/\s=#[[.dat (.bG d),.dat (.lst (ws.map .str)),.dat (.int most),.own 0,.dat (.lst (ns.map .str)),.dat (.int sh),.own 1,.own 2,x8,x9,hZ,gF,fZ,gH],[some (.lst (ks.map kh)),some (.lst ((ML.drop (dZ ks).length).map .str)),some (.lst ((AL.drop (dA ks).length).map .str)),none,none]]) ?_ ?_ _ _ #[[],.no,.no,.no,.no,.no,.no,#[#[U,U,U],U,U,U],ED.nil,U,U]
  .rintro s ⟨ks,x8,x9,hZ,gF,fZ,gH,⟨⟨h8,h9,h10⟩,h11,h12,h13⟩,hI,hx,rfl⟩;have hkl:ks.length=ns.length:=by
    have:=congrArg List.length hx;simp at this;have:=hI.kl;cbv
   trivial;show#[#[by decide,by decide],λr3 r30 r31=>?_];show#[#[U,U,U],_,U,?_];show bc U (λ_=>?_) λ_=>?_
   rotate_left
   .refine .inr #[_,_,U,U,q ks #[ns,ML,AL,ks,Q7,by cbv,by cbv,pML,pAL,hkl,hI,.inl U]]
   show#[#[U,(show noRef 4 4 [x8,x9,hZ,gF,fZ,gH]=true by rw[cq h8,cq h9,cq h10,cq h11];change noRef 4 2 [gH]=true;rw[cq h13];rfl)],?_];trivial;show#[#[by decide,by decide],λr4 r40 r41=>?_];show#[_,U,#[by cbv,by cbv],?_];generalize hn4:r4.toNat=n4;have hn45:n4<=2:=by cbv
   have hAL:(dA ks).length+2 < AL.length:=by have:=hI.ab;cbv
   generalize hna:(dA ks).length=na at hAL;show dH (λxs s=>∃ (as:!dE) (BU:Sl),(BU.pl=true)/\CZ ws [] (AL.drop na) as/\zk xs as.length n4/\s=#[[.dat (.bG d),.dat (.lst (ws.map .str)),.dat (.int most),.own 0,.dat (.lst (ns.map .str)),.dat (.int sh),.own 1,.own 2,x8,x9,BU,gF,.own 4,gH],[some (.lst (ks.map kh)),some (.lst ((ML.drop (dZ ks).length).map .str)),some (.lst ((AL.drop (na+as.length)).map .str)),none,some (.lst (as.map cW))]]) ?_ ?_ _ _ #[[],hZ,h10,CZ.nil,zk.init _,U]
   .rintro s ⟨as,z10,f10,hA,hR3,rfl⟩;have hR3:=hR3.nil;trivial;show#[U,?_];show#[_,U,?_];show#[_,U,#[by decide,by decide],λr5 r50 r51=>?_];let(sd,esd):=xQ r50 r51;show#[_,_,_,U,U,esd,?_];let(x44,h44,e44):=pJ (f:=D.str) (xs:=ws) (r:=44) () (by cbv);show#[_,U,_,_,_,U,U,e44,?_];show .inr #[_,_,U,U,?_];show#[_,.inl U,?_];show#[_,U,_,_,U,U,by rw[V8];cbv,?_];show .inr #[_,_,U,U,?_];have:=q (ks++[#[sd,x44,[],as]]) #[ns,ML,AL,ks,Q7,by cbv,by cbv,pML,pAL,hkl,hI,.inr #[#[sd,x44,[],as],U,U,h44,by change as.length<=2;cbv,by rw[hna];exact hA]];rw[Wc] at this;exact this
   .rintro x xs s N3 ⟨as,z10,f10,hA,hR3,rfl⟩ hN3 hE_3;let(rfl,hj,hR4):=hR3.cons;let(nx,p1,p2,p3,p4,p5):=GY (L:=AL) (n:=na) (j:=as.length) (by cbv);show#[4,_,U,U,U,?_];show#[2,_,U,U,U,_,U,?_];show#[_,_,_,_,U,U,#[by decide,by decide],p3,p4,?_];rw[p5];show#[_,U,_,U,_,U,_,U,_,U,?_];show#[(ws.drop 27).take 3,hJ,by rw[<- e27]<;>rfl,#[by simp;cbv,by decide,by decide],λps hps=>?_];show#[_,U,_,_,U,U,by rw[V8];cbv,?_];show hN3 _ #[as++[#[nx,ps,"number"]],.dat (.int as.length),U,hA.snoc (a:=#[nx,ps,"number"]) p2 hps (Wn.mpr U),by rw[Wa];exact hR4,?_];rw[Wc,Wa]
    rfl
  .rintro x xs s N ⟨ks,x8,x9,hZ,gF,fZ,gH,⟨⟨h8,h9,h10⟩,h11,h12,h13⟩,hI,hx,rfl⟩ hN hE_;have hkl:ks.length < ns.length:=by
    have:=congrArg List.length hx;simp at this;cbv
   rw[WW hkl,Wj] at hx;injection hx with hx1 hx2;subst hx1;show#[#[U,(show noRef 3 5 [hZ,gF,fZ,gH]=true by rw[cq h10,cq h11,cq h12,cq h13];rfl)],?_];trivial;have hwide:∃ m:Int,jF [D.int 3,D.int 5] (if decide (V.int (ns.map D.str).length=V.int 1) then 1 else 0)=some (.int m)/\1<=m/\m<=5:=by
    split
    .exact#[5,U,by decide,by decide]
    .exact#[3,U,by decide,by decide]
   let(mw,emw,hmw0,hmw1):=hwide;show .inr #[_,U,?_];show#[_,_,_,U,U,emw,?_];show#[_,U,#[by cbv,by cbv],λr3 r30 r31=>?_];show#[_,_,U,U,?_];show#[_,U,#[by cbv,by cbv],?_];have hML:(dZ ks).length+5 < ML.length:=by have:=hI.mb;cbv
   have hAL:(dA ks).length+5 < AL.length:=by have:=hI.ab;cbv
   generalize hnm:(dZ ks).length=nm at hML;generalize hna:(dA ks).length=na at hAL;generalize hn3:(1+r3).toNat=n3;have hn30:1<=n3:=by cbv
   have hn35:n3<=5:=by cbv
   show dH (λxs s=>∃ (ms:!eB) (hZ gF:Sl),(hZ.pl=true/\gF.pl=true)/\GW ws ns (ML.drop nm) ms/\zk xs ms.length n3/\s=#[[.dat (.bG d),.dat (.lst (ws.map .str)),.dat (.int most),.own 0,.dat (.lst (ns.map .str)),.dat (.int sh),.own 1,.own 2,.dat (.str ns[ks.length]),.own 3,hZ,gF,fZ,gH],[some (.lst (ks.map kh)),some (.lst ((ML.drop (nm+ms.length)).map .str)),some (.lst ((AL.drop na).map .str)),some (.lst (ms.map dB)),none]]) ?_ ?_ _ _ #[[],hZ,gF,#[h10,h11],GW.nil,zk.init _,U]
   .rintro s ⟨ms,BU,y11,⟨g10,g11⟩,hM,hR,rfl⟩;have hR:=hR.nil;show#[#[U,(show noRef 4 2 [BU,y11,fZ,gH]=true by rw[cq g10,cq g11];change noRef 4 2 [gH]=true;rw[cq h13];rfl)],?_];trivial;have hwide:∃ m:Int,jF [D.int 4,D.int 6] (if decide (V.int (ns.map D.str).length=V.int 1) then 1 else 0)=some (.int m)/\1<=m/\m<=6:=by
     split
     .exact#[6,U,by decide,by decide]
     .exact#[4,U,by decide,by decide]
    let(mw2,emw2,hmw20,hmw21):=hwide;show .inr #[_,U,?_];show#[_,_,_,U,U,emw2,?_];show#[_,U,#[by cbv,by cbv],λr4 r40 r41=>?_];show#[_,U,#[by cbv,by cbv],?_];generalize hn4:r4.toNat=n4;have hn45:n4<=5:=by cbv
    show dH (λxs s=>∃ (as:!dE) (BU yQ:Sl),(BU.pl=true/\yQ.pl=true)/\CZ ws ns (AL.drop na) as/\zk xs as.length n4/\s=#[[.dat (.bG d),.dat (.lst (ws.map .str)),.dat (.int most),.own 0,.dat (.lst (ns.map .str)),.dat (.int sh),.own 1,.own 2,.dat (.str ns[ks.length]),.own 3,BU,y11,.own 4,yQ],[some (.lst (ks.map kh)),some (.lst ((ML.drop (nm+ms.length)).map .str)),some (.lst ((AL.drop (na+as.length)).map .str)),some (.lst (ms.map dB)),some (.lst (as.map cW))]]) ?_ ?_ _ _ #[[],BU,gH,#[g10,h13],CZ.nil,zk.init _,U]
    .rintro s ⟨as,z10,z13,⟨f10,f13⟩,hA,hR3,rfl⟩;have hR3:=hR3.nil;trivial;show#[U,?_];show#[_,U,?_];show#[_,U,#[by decide,by decide],λr5 r50 r51=>?_];let(sd,esd):=xQ r50 r51;show#[_,_,_,U,U,esd,?_];show#[_,U,?_];show .inr #[_,_,U,U,?_];show#[_,.inl U,?_];show .inr #[_,_,U,U,?_];show#[_,.inl U,?_];show#[_,U,_,_,U,U,by rw[V8];cbv,?_];have hkd:ED ws ns ML AL (ks++[#[sd,ns[ks.length],ms,as]]):=hI.snoc #[?_,?_,?_,hM.mp,hM.mf,hA.ap] (Wq hkl) (by rw[hnm];exact hM.nm) (by rw[hna];exact hA.nm);show hN _ #[ks++[#[sd,ns[ks.length],ms,as]],.dat (.str ns[ks.length]),.dat (.lst (ms.map dB)),(iJ 4 (.lst (as.map cW)) (iJ 3 (.lst (ms.map dB)) z10)),(iJ 4 (.lst (as.map cW)) (iJ 3 (.lst (ms.map dB)) y11)),.dat (.lst (as.map cW)),(iJ 4 (.lst (as.map cW)) (iJ 3 (.lst (ms.map dB)) z13)),#[#[U,U,b5 (b5 f10)],b5 (b5 g11),U,b5 (b5 f13)],hkd,?_,?_]
     .rw[Wa];exact hx2
     .rw[gr,gj,Wa,Wa,V8,V8,hnm,hna,Wc]
      rfl
     .intro e;have e:ms=[]:=e;rw[e] at hR;simp at hR;cbv
     .show ms.length<=5;cbv
     .show as.length<=5;cbv
    .rintro x xs s N3 ⟨as,z10,z13,⟨f10,f13⟩,hA,hR3,rfl⟩ hN3 hE_3;let(rfl,hj,hR4):=hR3.cons;trivial;show#[by simp;cbv,?_];show#[(ws.drop 27).take 3,ns++hJ,by rw[<- e27,List.map_append]<;>rfl,#[by simp;cbv,by simp,by simp;cbv],λps hps=>?_];let(nx,p1,p2,p3,p4,p5):=GY (L:=AL) (n:=na) (j:=as.length) (by cbv);show#[4,_,U,U,U,?_];show#[2,_,U,U,U,_,U,?_];show#[_,_,_,_,U,U,#[by decide,by decide],p3,p4,?_];rw[p5];show#[_,U,?_];show#[_,U,_,_,U,U,by simp;cbv,?_];show#[_,U,_,U,_,.inl U,_,_,U,U,_,U,#[by cbv,by simp;cbv],λr6 r60 r61=>?_];let(rs,hrs,ers):=jP (f:=D.str) (xs:=ns++hJ) r60 (by simpa using r61);rw[Wc] at ers;show#[_,_,_,U,U,ers,?_];show#[_,U,_,_,U,U,by rw[V8];cbv,?_];show hN3 _ #[as++[#[nx,ps,rs]],.dat (.int as.length),.dat (bW ps),#[U,U],hA.snoc p2 hps hrs,by rw[Wa];exact hR4,?_];rw[Wc,Wa]
     rfl
   .rintro x xs s N2 ⟨ms,BU,y11,⟨g10,g11⟩,hM,hR,rfl⟩ hN2 hE_2;let(rfl,hj,hR2):=hR.cons;trivial;show#[by simp;cbv,?_];show#[_,U,#[U,U,U],?_];show .inr #[_,U,?_];have hSS:∃ SS:!Str,jF [D.lst (ns.map D.str++[D.str "number"]),D.lst [D.str "number"]] (if decide (V.int (ms.length:Nat)=V.int 0) then 1 else 0)=some (.lst (SS.map D.str))/\(∀ x∈SS,x∈ns++hJ)/\(ms=[]->SS=hJ)/\0 < SS.length/\SS.length<=100:=by
     by_cases h0:ms=[]
     .subst h0;exact#[hJ,U,λx hx=>WD _ hx,λ_=>rfl,by decide,by decide]
     .have vD:¬ (V.int (ms.length:Nat)=V.int 0):=λe=>by
       injection e with e;exact h0 (Xj (by cbv))
      show#[ns++hJ,?_,λx hx=>hx,λe=>absurd e h0,by simp,by simp;cbv];rw[decide_eq_false vD,Wc]
      rfl
    let(SS,eSS,hSS1,hSS2,hSS3,hSS4):=hSS;show#[_,_,_,U,U,eSS,?_];let(nx,p1,p2,p3,p4,p5):=GY (L:=ML) (n:=nm) (j:=ms.length) (by cbv);show#[3,_,U,U,U,?_];show#[1,_,U,U,U,_,U,?_];show#[_,_,_,_,U,U,#[by decide,by decide],p3,p4,?_];rw[p5];show#[_,U,_,U,_,U,_,U,_,U,_,U,?_];show#[(ws.drop 24).take 3,SS,by rw[<- e24],#[by simp;cbv,hSS3,hSS4],λps hps=>?_];show#[_,U,_,_,U,U,by rw[V8];cbv,?_];show hN2 _ #[ms++[#[nx,ps]],.dat (.int ms.length),.dat (.lst (SS.map .str)),#[U,U],hM.snoc p2 (hps.sub hSS1) (λh p hp=>?_),by rw[Wa];exact hR2,?_]
    .have:=hps.2.2 p hp;rw[hSS2 h] at this;exact Wn.mp this
    .rw[Wc,Wa]
     rfl
def QT:X9:=λds R=>∃ W:bf,ds=[eL W]/\dG W/\R (.lst ((things W).map kh))
theorem Mf(F:Own K mg dC)(T:Txt K mg):aa0 P w K mg base dC 1 QT:=by
 show F.d (nos:=0) qd (λds R h=>?_) λf bh A outer s H E M hr=>#[_,(au (bM (DN.de (nC ["_law_one"] [] (aW (d7 (a9 (aQ hr) (DE.pe (vd 0)) (DE.pe ay) (λ_ _=>rfl)))) (λ_ _ _ _=>(gM 0 ["_law_one"])) (λ_ _ _ _=>gB (aJ (A9 (uz hr)) xE (cG (vd 0) aj) (aH af) (aF _)))
 (λ_ _ _ _=>(vd 0)))))),λds R h=>?_]
 .let(W,rfl,_):=h
  rfl
 .let(W,rfl,aT,q):=h;show#[_,U,?_];show eS #[_,U,_,.inl U,?_];show bF kh kh (λk=>(not k.bz.isEmpty)) _ (λk hk kk N h1 h2=>?_) ?_
  .refine#[_,U,_,_,_,U,U,U,#[xu aT hk,U,.inr ()],?_];show#[_,U,?_];cases hm:k.bz with
   | nil=>exact gA U (h2 (by rw[hm];rfl) _ U)
   | cons m r=>exact p9 U #[_,U,h1 (by rw[hm];rfl) _ U]
  .exact q
def Rc(d:AC):X9:=λds R=>∃ (W:bf) (sc:!(Str×Str)) (m:Nat),ds=[.bG d,eL W,.lst (sc.map pairD),.int m]/\(dG W/\jB W sc/\m<=3/\sc.length+m<=15)/\∀ ns:!Str,ns.length=m->nJ W sc ns->R (.tup (ns.map .str))
theorem NK{d l:AC}(fi:C4 P w K mg base aR bp 1 (cQ K (bg d l) (gK d)))(F:Own K mg d6)(T:Txt K mg):C4 P w K mg base aR d6 2 (cQ K (bg d l) (Rc d)):=by
 show F.d (nos:=0) ic (λds R h=>?_) λf bh A outer s H E M hr=>#[_,(ag (mH (rm (lX (i:=4) ic.nd U U (ts:=["_law_x"]) (us:=[2]) #[U,U,U,U,U,U] rfl (aW (d7 (a9 (aQ hr) (DE.pe (vd 1)) (DE.pe ay) (λ_ _=>rfl)))) (λ_ _ _ _=>(gM 0 ["_law_x","_law_scope"])) (λ_ _ _ _=>gB (aJ kB okIn (vd 0) (DN.de (nC ["_law_pair"] [] (aW (vd 1)) (λ_ _ _ _=>(gM 0 ["_law_pair"])) (λ_ _ _ _=>cF)
 (λ_ _ _ _=>(cG (vd 0) aj)))) U))
 (λ_ _ _ _=>(vd 0)))))
 (ag (bH (DW.dt (jZ (aJ cw eG (ax hr fi (ae (vd 0) (ae aj af))) aj (aF _)) (iu (aJ Ga sA (fE T.len (ae (vd 4) af)) (vd 3) (aF _)))))
 (ag (sS 5 ic.nd (ax hr fi (ae (vd 0) (ae (cM dg ik (fE T.len (ae (vd 4) af)) aj) af))))
 (au (bM (iS T.tuple (ae (DN.de (dR (DN.de (f7 d3 dY (DN.de (dR (vd 4) (cH (vd 5)) fj)) (DN.de (dR (vd 4) fj (cH (vd 5)))))) fj (cH (vd 3)))) af)))))
 aK)
 (au (bM (iS T.tuple (ae (DN.de (nC ["_law_k"] [1,2] (eE U T.range (ae (vd 3) af)) (λ_ _ _ _=>(gM 0 ["_law_k","_law_world_here","_law_scope"])) (λ_ _ _ _=>cF)
 (λ_ _ _ _=>(ou (d7 (a9 (aQ hr) (DE.pe (vd 1)) (DE.pe ay) (λ_ _=>rfl))) (cM dg ik (fE T.len (ae (vd 2) af)) (vd 0)))))) af)))))),λds R h=>?_]
 .let(W,sc,m,rfl,_):=h
  rfl
 .let(W,sc,m,rfl,(aT,sok,hm,hl),q):=h;show#[_,U,?_];show vL #[_,U,_,.inl U,?_];show bF D.str D.str (λx=>(not (decide (x∈sc.map (·.1))))) _ (λx hx kk N h1 h2=>?_) ?_
  .refine#[_,U,_,U,_,.inl U,?_];show bo pairD (λp=>D.str p.1) _ (λp hp k2 hk2=>#[_,U,_,_,_,U,U,U,hk2 _ U]) ?_;rw[Wy,show sc.map (λp=>D.str p.1)=(sc.map (·.1)).map D.str by rw[Wo];rfl];show#[_,.inl U,#[U,y4],_,U,?_];show bc (b':=(not (decide (x∈sc.map (·.1))))) (congrArg (not ·) xn) (λe=>?_) λe=>?_
   .exact#[_,U,h1 e _ U]
   .exact h2 e _ U
  .rw[Wy];have hvars:FK (kT KO (sY (pf ["_law_k"].length [1,2] (F3 (sY (K2 3) xB)) (r9 0) dI (BZ Ip (Gb (K2 1) (K1 (D.str "vars"))) (BZ (UB HAdd.hAdd) (kT Jj (sY (K2 2) xB)) (K2 0)))) xB)) { nx:=λ_=>R D.bT,rt:=R } #[[.dat (.bG d),.dat (eL W),.dat (.lst (sc.map pairD)),.dat (.int m),.dat (.lst ((W.heads.filter λx=>(not (decide (x∈sc.map (·.1))))).map D.str)),.no],[]]:=by
    show#[_,U,m,U,#[by cbv,by cbv],?_];rw[Xh,fX];show fJ (λi:Nat=>D.int (i:Int)) D.str (λk x=>W.vars[sc.length+k]?=some x) _ (λi hi k hk=>?_) λns oh=>?_
    .have Ca:=Xp.mp hi;have hv:=aT.vl;let(x,hx,ex):=pJ (f:=D.str) (xs:=W.vars) (r:=((sc.map pairD).length:Int)+(i:Int)) (by cbv) (by rw[V8];cbv);show#[_,U,?_];show zx #[_,U,?_];show#[_,U,_,.inl U,_,U,_,_,U,U,?_];show#[_,_,_,U,U,ex,hk x _ ?_ U];rw[V8] at hx
     rwa [show ((sc.length:Int)+(i:Int)).toNat=sc.length+i by cbv] at hx
    .refine#[_,.inl U,?_];exact q ns (by have:=fT oh;rwa [W8] at this) (nJ.vars aT sok oh)
   show#[_,U,_,U,#[by decide,by decide],λr r0 r1=>?_];show#[#[U,U,U],_,U,?_];show bc U (λ_=>?_) λ_=>?_
   rotate_left
   .exact hvars
   show#[_,U,_,.inl U,_,U,_,_,U,U,_,U,?_];show bc U (λhge=>?_) λ_=>?_
   rotate_left
   .exact hvars
   generalize hsm:(W.heads.filter λx=>(not (decide (x∈sc.map (·.1)))))=sm at hge;have hsl:sm.length<=6:=by
    rw[<- hsm,<- aT.hl];exact WY _ _
   have hge:m<=sm.length:=by simpa using hge
   have hsz:=aI;show#[_,U,_,U,_,.inl U,_,_,U,U,_,U,#[by cbv,by simp;cbv],λa a0 a1=>?_];let(al,eal,pal):=v7 (f:=D.str) (ws:=sm) (n:=a) a0 (by simp at a1;cbv);show#[_,U,_,U,_,U,_,U,_,U,_,U,_,U,_,U,_,_,U,U,?_,?_]
   .rw[<- Wa,eal,V8,pal.length_eq];cbv
   rw[eal];show#[_,U,_,U,_,U,_,.inl U,?_];have hal:al.length=sm.length:=pal.length_eq;have e9:cutD (al.map D.str) none (some (m:Int))=(al.take m).map D.str:=by
    rw[ff]
    congr 1
    have e1:HT.b8 al.length 0 none=0:=rfl;have e2:HT.b8 al.length al.length (some (m:Int))=m:=by
     unfold HT.b8;simp only[]
     repeat' split
     all_goals cbv
    rw[e1,e2,List.drop_zero,Nat.sub_zero]
   change R (.tup (cutD (al.map D.str) none (some (m:Int))));rw[e9];exact q _ (by rw[Xl];cbv) (nJ.heads aT (by rw[hsm];exact pal) m)
def UJ(d:AC):Nat->X9
 | 0=>λ_ _=>False
 | n+1=>λds R=>∃ (W:bf) (sc:!(Str×Str)) (k:Str),ds=[.bG d,eL W,.lst (sc.map pairD),.str k]/\(dG W/\jB W sc/\kj W k/\(n=0->k="number"))/\∀ t:Tm,Ty W sc k t->t.lf (n+1) k->R (toD t)
theorem GF{d l:AC}(fi:C4 P w K mg base aR bp 1 (cQ K (bg d l) (gK d)))(Lj:Own K mg iB)(T:Txt K mg):∀ n,C4 P w K mg base aR iB (n+1) (cQ K (bg d l) (UJ d n))
 | 0=>Lj.c λ_ _ _=>nQ
 | n+1=>by
  have Rj:=GF fi Lj T n;show Lj.c λfLe fdLe F_=>?_;show Ol (nos:=0) F_ jb (λds R h=>?_) λbh A outer s H E M hr=>#[_,(ag (mH (rm (lX (i:=4) jb.nd U U (ts:=["_law_x","_law_other"]) (us:=[3]) #[U,U,U,U,U,U] rfl (aW (vd 2)) (λ_ _ _ _=>(bb (m:=2) U (aq (gM 0 ["_law_x","_law_other","_law_kind"]) (aq (gM 1 ["_law_x","_law_other","_law_kind"]) ba)))) (λ_ _ _ _=>gB (aJ cw eG (vd 1) (vd 2) (aF _)))
 (λ_ _ _ _=>(vd 0)))))
 (ag (bH (DW.dt (jZ (aJ (A9 (uz hr)) xE (vd 4) (DN.de (aP af)) (aF _)) (iu (aJ mO sA (ax hr fi (ae (vd 0) (ae aj af))) aj (aF _)))))
 (au (bM (aH (ae ay (ae (ou (vd 4) (ju (l4 U) Gj U T.max PyProof.Rows.boot_max (ae (ax hr fi (ae (vd 0) (ae (fE T.len (ae (vd 4) af)) af))) (ae (ax hr fi (ae (vd 0) (ae (fE T.len (ae (vd 4) af)) af))) af)))) af)))))
 aK)
 (ag (bH (aJ cw eG (vd 3) ay (aF _))
 (au (bM (aH (ae ay (ae (ax hr fi (ae (vd 0) (ae (ou (DN.de (aP (ae aj (ae aj (ae aj af))))) (ax hr fi (ae (vd 0) (ae aj af)))) af))) af)))))
 aK)
 (ag (sS 5 jb.nd (ou (DN.de (nC ["_law_one"] [3] (aW (d7 (a9 (aQ hr) (DE.pe (vd 1)) (DE.pe ay) (λ_ _=>rfl)))) (λ_ _ _ _=>(gM 0 ["_law_one","_law_kind"])) (λ_ _ _ _=>gB (aJ cw eG (cG (vd 0) aj) (vd 1) (aF _)))
 (λ_ _ _ _=>(cG (cG (vd 0) aj) aj)))) aj))
 (au (bM (aH (ae ay (ae (cG (vd 5) aj) (ae (iS T.tuple (ae (DN.de (nC ["_law_field"] [0,1,2] (aW (cG (vd 5) aj)) (λ_ _ _ _=>(gM 0 ["_law_field","_law_deal_here","_law_world_here","_law_scope"])) (λ_ _ _ _=>cF)
 (λ_ _ _ _=>(ax hr Rj (ae (vd 1) (ae (vd 2) (ae (vd 3) (ae ay af)))))))) af)) af)))))))))),λds R h=>?_]
  .let(W,sc,k,rfl,_):=h
   rfl
  .let(W,sc,k,rfl,(aT,sok,hk,hk0),q):=h;show#[_,U,_,.inl U,?_];show bF pairD (λp=>D.str p.1) (λp=>decide (p.2=k)) _ (λp hp kk N h1 h2=>?_) ?_
   .refine#[_,U,U,_,_,U,_,_,U,U,?_];show#[_,U,_,U,#[U,U,U],_,U,?_];exact bc (b':=decide (p.2=k)) eu (λe=>#[_,U,h1 e _ U]) λe=>h2 e _ U
   .rw[Wy];show#[_,U,#[e8 λp hp=>?_,U,.inr ()],_,U,?_]
    .exact (sok.nm aT p ((W9.mp hp).1)).ok
    refine' jn ?iM λiM=>?main
    case main =>
     by_cases how:sc.filter (λp=>decide (p.2=k))=[]
     .exact gA (by rw[how];rfl) iM
     have hol:0 < (sc.filter λp=>decide (p.2=k)).length:=XN.mpr how;have hol2:(sc.filter λp=>decide (p.2=k)).length<=15:=Ws (WY _ _) sok.len;show p9 ?_ ?_
     .let(p0,r0,e):=Xb how;rw[e]
      rfl
     show#[_,U,_,U,#[by decide,by decide],λr r0 r1=>?_];show#[_,_,U,U,_,U,?_];show bc U (λ_=>?_) λ_=>iM;show#[_,U,?_];show#[_,U,_,U,_,.inl U,_,U,#[by rw[V8];cbv,by rw[V8];cbv],λa a0 a1=>?_];show#[_,U,_,U,_,.inl U,_,U,#[by rw[V8];cbv,by rw[V8];cbv],λb b0 b1=>?_];show#[_,_,U,?_];rw[V8] at a1 b1;let(p,hp,ep):=jP (f:=λp:Str×Str=>D.str p.1) (xs:=sc.filter λp=>decide (p.2=k)) (r:=if a < b then b else a) (by split<;>cbv) (by split<;>cbv);show#[_,_,_,U,U,ep,?_];let(hp1,hp2):=W9.mp hp;have hp2:p.2=k:=by simpa using hp2
     exact q (.node (.nm p.1) []) (Ty.mk (.nm (hp2▸hp1)) el.nil) xZ
    case iM =>
     show#[_,U,#[U,U,U],_,U,?_];show bc (b':=decide (k="number")) eu (λe=>?_) λe=>?_
     .have e:k="number":=by simpa using e
      show#[_,U,_,U,_,U,#[by decide,by decide],λr r0 r1=>?_];have h3:∃ m:Int,jF [D.int 3,D.int 10,D.int 1000000] r=some (.int m)/\1<=m/\m<=1000000:=by
       have:r=0\/r=1\/r=2:=by cbv
       rcases this with rfl | rfl | rfl
       .exact#[3,U,by decide,by decide]
       .exact#[10,U,by decide,by decide]
       .exact#[1000000,U,by decide,by decide]
      let(m,em,hm0,hm1):=h3;show#[_,_,_,U,U,em,?_];show#[_,U,#[by cbv,by cbv],λi i0 i1=>?_];exact q (.node (.num i) []) (e▸Ty.mk (.num i0 (by cbv)) el.nil) xZ
     .have e:k≠"number":=by simpa using e
      let(kd,hkd,hmk,hnm,nn,Dv):=kinds_of aT hk e;let(m0,mr,hms):=Xb hmk;show#[_,U,?_];show eS #[_,U,_,.inl U,?_];show bF kh (λk=>(k.bz.map dB).headD .bT) (λx=>decide (x.name=k)) _ (λx hx kk N h1 h2=>?_) ?_
      .refine#[_,U,_,_,_,U,U,U,_,U,#[U,U,U],_,U,?_];show bc (b':=decide (x.name=k)) eu (λe=>?_) λe=>h2 e _ U;have ex:x=kd:=tK aT hx hkd (by rw[hnm];simpa using e);subst ex;show#[_,U,_,_,_,U,U,U,?_];have h1':=h1 e;rw[hms] at h1' ⊢;exact#[_,_,_,U,U,cj,h1' _ U]
      rw[Dv,List.replicate_succ,Wj,Wy,hms];show#[_,_,_,U,U,cj,?_];obtain⟨n',rfl⟩:∃ n',n=n'+1:=#[n - 1,by have:=mt hk0 e;cbv];show#[_,U,_,_,_,U,U,U,?_];show#[_,U,_,_,_,U,U,U,_,.inr U,?_];show fJ pairD toD (λp t=>Ty W sc "number" t/\t.lf (n'+1) "number") _ (λp hp k hk=>?_) λts hts=>?_
      .exact#[_,U,_,U,_,U,W,sc,"number",U,#[aT,sok,.inl U,λ_=>rfl],λt ht hd=>hk t _ #[ht,hd] rfl]
      .refine#[_,.inl U,?_];have hm0:m0∈kd.bz:=by rw[hms];exact Wg
       have:=q (.node (.mk m0.name) ts) (hnm▸Ty.mk (.mk hkd hm0) ?_) ?_
       .rw[toD,toDs_map] at this;exact this
       .have hf:=aT.ft kd hkd m0 mr hms;show xf hts λp hp t ht=>?_;rw[hf p hp];exact ht.1
       .refine D6 e (by have:=fT hts;have:=(aT.mo kd hkd m0 hm0).2.1;cbv) λt ht=>?_;let(_,_,h):=fU hts t ht;exact h.2
def OS(d:AC):Nat->X9
 | 0=>λ_ _=>False
 | n+1=>λds R=>∃ (W:bf) (sc:!(Str×Str)) (k:Str) (room:Int),ds=[.bG d,eL W,.lst (sc.map pairD),.str k,.int room]/\(dG W/\jB W sc/\kj W k/\0<=room/\room<=n+1/\room<=16)/\∀ t:Tm,Ty W sc k t->t.rq (n+2) room.toNat->R (toD t)
def U5(d:AC):Nat->X9
 | 0=>λ_ _=>False
 | n+1=>λds R=>∃ (W:bf) (sc:!(Str×Str)) (ks:!Str) (room:Int),ds=[.bG d,eL W,.lst (sc.map pairD),.lst (ks.map .str),.int room]/\(dG W/\jB W sc/\(∀ k∈ks,kj W k)/\ks.length<=100/\0<=room/\room<=n+1/\room<=16)/\∀ ts:!Tm,el W sc (ks.map λk=>([],k)) ts->(∀ t∈ts,t.rq (n+2) (room.toNat / max 1 ts.length))->R (.tup (ts.map toD))
theorem OH{d l:AC}{n lv:Nat}(uG:C4 P w K mg base aR d5 lv (cQ K (bg d l) (OS d n)))(F:Own K mg gQ)(T:Txt K mg):C4 P w K mg base aR gQ (lv+1) (cQ K (bg d l) (U5 d n)):=by
 show F.c λf fd F=>?_;cases n with
 | zero=>exact nQ
 | succ n =>
 show Ol (nos:=0) F wg (λds R h=>?_) λbh A outer s H E M hr=>#[_,(au (bM (iS T.tuple (ae (DN.de (nC ["_law_kind"] [0,1,2,4,3] (aW (vd 3)) (λ_ _ _ _=>(gM 0 ["_law_kind","_law_deal_here","_law_world_here","_law_scope","_law_room","_law_some"])) (λ_ _ _ _=>cF)
 (λ_ _ _ _=>(ax hr uG (ae (vd 1) (ae (vd 2) (ae (vd 3) (ae (vd 0) (ae (cM c8 yU (vd 4) (ju (l4 U) Gj U T.max PyProof.Rows.boot_max (ae aj (ae (fE T.len (ae (vd 5) af)) af)))) af))))))))) af)))),λds R h=>?_]
 .let(W,sc,ks,room,rfl,_):=h
  rfl
 .let(W,sc,ks,room,rfl,(aT,sok,ur,hl,h0,h1,zD),q):=h;have em:(if ((ks.map D.str).length:Int) > 1 then ((ks.map D.str).length:Int) else 1)=((max 1 ks.length:Nat):Int):=by
   rw[V8];split<;>cbv
  have hmx:1<=max 1 ks.length/\max 1 ks.length<=100:=by cbv
  generalize hM:max 1 ks.length=m at em hmx;have hq:(room / (m:Int)).toNat=room.toNat / m:=by
   let(r,rfl):=Int.eq_ofNat_of_zero_le h0
   rfl
  have hle:=Int.ediv_le_self (m:Int) h0;show#[_,U,_,.inl U,?_];show fJ D.str toD (λk t=>Ty W sc k t/\t.rq (n+2) (room.toNat / m)) _ (λk hk kk hkk=>?_) λts hts=>?_
  .refine#[_,U,_,U,_,U,_,U,_,U,?_];show#[_,U,_,.inl U,_,_,U,?_];rw[em];show#[_,_,U,U,#[by cbv,by cbv],?_];show#[W,sc,k,room / m,U,#[aT,sok,ur k hk,X5 h0 (by cbv),by cbv,by cbv],λt ht hd=>hkk t _ #[ht,by rw[<- hq];exact hd] rfl]
  .refine#[_,.inl U,?_];show q ts (xf hts λk _ t ht=>ht.1) λt ht=>?_;rw[show ts.length=ks.length by have:=fT hts;cbv,hM];let(_,_,h):=fU hts t ht;exact h.2
def Ta(d:AC)(n:Nat):X9:=λds R=>∃ (W:bf) (sc:!(Str×Str)) (k:Str) (room:Int),ds=[.bG d,eL W,.lst (sc.map pairD),.str k,.int room]/\(dG W/\jB W sc/\kj W k/\sc.length<=12/\2<=room/\room<=n+1/\room<=16)/\R .bT/\∀ t:Tm,Ty W sc k t->t.rq (n+2) room.toNat->R (toD t)
def AB(c:Kd×dE):D:=.tup [.str c.1.name,.str c.2.name,bW c.2.ps]
theorem Ow{d l:AC}(fi:C4 P w K mg base aR bp 1 (cQ K (bg d l) (gK d))){n lv:Nat}(Ge:aa0 P w K mg base dC 1 QT)(Qb:C4 P w K mg base aR gQ lv (cQ K (bg d l) (U5 d n)))(F:Own K mg jl)(T:Txt K mg)(Q4:1<=lv):C4 P w K mg base aR jl (lv+1) (cQ K (bg d l) (Ta d n)):=by
 show F.d (nos:=1) cy (λds R h=>?_) λf bh A outer s H E M hr=>#[_,(ag (sN 0 5 cy.nd (aP af))
 (ag (sF (aW (bu hr Ge (ae (vd 1) af))) (bb (m:=4) U (aq (gN 6 cy.nd) (aq (kc (eU (i:=7) cy.nd U (Or.inr U)) ()) (aq (gN 8 cy.nd) (aq (gN 9 cy.nd) ba)))))
 (au (aU (yB XS XT l9 Cg (pv 5) (ae (DN.de (nC ["_law_f","_law_params","_law_result"] [7,3] (aW (vd 9)) (λ_ _ _ _=>(bb (m:=3) U (aq (gM 0 ["_law_f","_law_params","_law_result","_law_kk","_law_kind"]) (aq (gM 1 ["_law_f","_law_params","_law_result","_law_kk","_law_kind"]) (aq (gM 2 ["_law_f","_law_params","_law_result","_law_kk","_law_kind"]) ba))))) (λ_ _ _ _=>gB (aJ cw eG (vd 2) (vd 4) (aF _)))
 (λ_ _ _ _=>(aH (ae (vd 3) (ae (vd 0) (ae (vd 1) af))))))) af)))))
 (ag (bH (Kx (wb (uz hr)) (pv 5) (DN.de (aP af)) (aF _))
 (au (bM uI))
 aK)
 (ag (fS (n:=1000) (LD (B9 xO (pv 5) (DE.pe (ax hr fi (ae (vd 0) (ae (JF (k7 ia U T.len PySem.boot_len (fC (pv 5) l8))) af)))) (λ_ _=>rfl))) (bb (m:=3) U (aq (kc (eU (i:=7) cy.nd U (Or.inr U)) ()) (aq (gN 10 cy.nd) (aq (gN 11 cy.nd) ba)))))
 (ag (sS 12 cy.nd (ax hr Qb (ae (vd 0) (ae (vd 1) (ae (vd 2) (ae (DN.de (f7 d3 dY (DN.de (aP (ae (vd 7) af))) (DN.de (nC ["_law_param"] [] (aW (vd 11)) (λ_ _ _ _=>(gM 0 ["_law_param"])) (λ_ _ _ _=>cF)
 (λ_ _ _ _=>(cG (vd 0) aj)))))) (ae (cM iV ik (vd 4) aj) af)))))))
 (au (bM (aH (ae ay (ae (cG (vd 12) aj) (ae (vd 10) (ae (uP (vd 12) (cH aj) fj) af)))))))))))),λds R h=>?_]
 .let(W,sc,ks,room,rfl,_):=h
  rfl
 .let(W,sc,k,room,rfl,(aT,sok,hk,hsl,h0,h1,zD),qn,q):=h;obtain⟨n',rfl⟩:∃ n',n=n'+1:=#[n - 1,by cbv];have hsz:=aI;show#[#[U,U],?_];show#[_,U,W,U,aT,_,.inl U,?_];show dH (λxs s=>∃ (ks:!Kd) (cs:!(Kd×dE)) (x6 x7 x8 x9 hZ gF fZ:Sl),xs=ks.map kh/\(∀ c∈ks,c∈things W)/\(∀ c∈cs,c.1∈things W/\c.2∈c.1.bK/\c.2.res=k)/\cs.length+5 * ks.length<=25/\s=#[[.dat (.bG d),.dat (eL W),.dat (.lst (sc.map pairD)),.dat (.str k),.dat (.int room),.own 0,x6,x7,x8,x9,hZ,gF,fZ],[some (.lst (cs.map AB))]]) ?_ ?_ _ _ #[things W,[],.no,.no,.no,.no,.no,.no,.no,U,λ_ h=>h,λ_ h=>(nomatch h),?_,U]
  .rintro s ⟨ks,cs,x6,x7,x8,x9,hZ,gF,fZ,hx,_,hcs,hcl,rfl⟩;show#[0,_,U,U,_,U,#[e8 λc hc=>?_,U,.inr ()],_,U,?_]
   .let(c1,c2,c3):=hcs c hc;have c1:=(fR.mp c1).1;let(a1,a2,a3):=aT.ao c.1 c1 c.2 c2;change (Gc.strOk c.1.name&&(Gc.strOk c.2.name&&(ni (bW c.2.ps)&&true)))=true;rw[(aT.kw c.1 c1).1.ok,a1.ok,sX aT (λx hx=>aT.nm x (WQ _ (XG hx))) a2]
    rfl
   by_cases hcn:cs=[]
   .exact p9 (by rw[hcn];rfl) qn
   show gA ?_ ?_
   .let(c0,r0,e):=Xb hcn;rw[e]
    rfl
   have hc0:0 < cs.length:=XN.mpr hcn;show#[0,U,_,U,0,_,U,U,_,U,#[by rw[V8];omega,by rw[V8];omega],λr r0 r1=>?_];let(c,hc,ec):=jP (f:=AB) (xs:=cs) r0 (by simpa using r1);show#[_,_,_,U,U,ec,?_];let(c1,c2,c3):=hcs c hc;let(c1,c4):=fR.mp c1;let(a1,a2,a3):=aT.ao c.1 c1 c.2 c2;show#[_,U,U,_,_,U,_,_,U,_,_,U,U,?_];show#[_,U,_,U,_,U,_,U,_,U,_,.inr U,?_];show bo pairD (λp=>D.str p.2) _ (λp hp k2 hk2=>#[_,U,_,_,_,U,U,U,hk2 _ U]) ?_;have hps:=a2.1;show#[_,_,U,U,by simp;cbv,?_];show#[_,U,_,_,U,U,?_];show#[W,sc,c.1.name::c.2.ps.map (·.2),room - 1,?_,#[aT,sok,λx hx=>?_,by simp;cbv,by cbv,by cbv,by cbv],λts hts hd=>?_]
   .rw[Wj,Wo]
    rfl
   .rcases Wu.mp hx with rfl | hx
    .exact .inr #[c.1,c1,c4,U]
    .let(p,hp,rfl):=Wk.mp hx;exact a2.2.2 p hp
   have hl:=hts.len;let(t0,tr,rfl):=Ew (l:=ts) (by rw[hl];simp);show#[_,U,_,_,_,U,U,cj,?_];show#[_,U,_,U,_,U,_,U,?_];change R (.tup [.str "ask",toD t0,.str c.2.name,.tup (cutD (toD t0::tr.map toD) (some 1) none)]);rw[yP];have:=q (.node (.ask c.2.name) (t0::tr)) (c3▸Ty.mk (.ask c1 c4 c2) (by rw[List.map_cons,List.map_map] at hts;exact hts)) (jt (q:=(room.toNat - 1) / max 1 (t0::tr).length) (λt ht=>by have:=hd t ht;rw[show (room - 1).toNat=room.toNat - 1 by cbv] at this;exact this) (w6 (by cbv) (by cbv) (by rw[hl];simp;cbv)));rw[toD,toDs_map] at this;exact this
  .rintro x xs s N ⟨ks,cs,x6,x7,x8,x9,hZ,gF,fZ,hx,ur,hcs,hcl,rfl⟩ hN hE_;cases ks with
   | nil=>cases hx
   | cons kd ks =>
   injection hx with e1 e2;subst e1 e2;have hkd:=fR.mp (ur kd Wg);show#[_,U,U,_,_,U,_,_,U,_,_,U,_,_,U,U,?_];show#[0,_,U,U,U,?_];show#[_,U,_,.inr U,?_];show bF cW (λa=>AB (kd,a)) (λa=>decide (a.res=k)) _ (λa ha kk N2 g1 g2=>?_) ?_
   .refine#[_,U,U,_,_,U,_,_,U,_,_,U,U,?_];show#[_,U,_,U,#[U,U,U],_,U,?_];exact bc (b':=decide (a.res=k)) eu (λe=>#[_,U,_,U,_,U,g1 e _ U]) λe=>g2 e _ U
   have hal:(kd.bK.filter λa=>decide (a.res=k)).length<=5:=Ws (WY _ _) (aT.kw kd hkd.1).2.2;rw[Wy];have hcl2:cs.length+5 * (ks.length+1)<=25:=hcl;show#[_,U,_,_,U,U,by rw[V8,V8];cbv,?_];show hN _ #[ks,cs++(kd.bK.filter λa=>decide (a.res=k)).map λa=>(kd,a),.dat (.str (c9 kd.asked)),.dat (.str kd.name),.dat (.tup (kd.bz.map dB)),.dat (.tup (kd.bK.map cW)),hZ,gF,fZ,U,λc hc=>ur c (Wd _ hc),λc hc=>?_,by rw[Wa,V8];cbv,?_]
   .rcases WA.mp hc with hc | hc
    .exact hcs c hc
    .let(a,ha,rfl):=Wk.mp hc;let(ha1,ha2):=W9.mp ha;exact#[ur kd List.mem_cons_self,ha1,by simpa using ha2]
   .rw[Wc,Wo]
    rfl
  .have h2:(things W).length<=W.kinds.length:=WY _ _;have:=aT.kl;simp;cbv
theorem Gq{room:Int}{c:Nat}(h0:2<=room):((room - 1) / (1+(c:Int))).toNat=(room.toNat - 1) / (1+c):=by
 obtain⟨r,rfl⟩:∃ r:Nat,room=r+1:=#[(room - 1).toNat,by cbv];have e0:((r:Int)+1 - 1) / (1+(c:Int))=((r / (1+c):Nat):Int):=by
  rw[Int.add_sub_cancel]
  rfl
 rw[e0,Xh]
 rfl
theorem Ay{f:Fm}{ta:Tm}{ts:!Tm}{n c:Nat}{room:Int}(hl:ts.length<=c)(hc:c<=5)(h0:2<=room)(zD:room<=16)(h1:ta.rq n (room / 3).toNat)(h:∀ t∈ts,t.rq n ((room - 1) / (1+(c:Int))).toNat):(Tm.node f (ta::ts)).rq (n+1) room.toNat:=by
 rw[show (room / 3).toNat=room.toNat / 3 by cbv] at h1;exact G7 h1 (λt ht=>by have:=h t ht;rw[Gq h0] at this;exact this) hl hc (by cbv) (by cbv)
theorem D4{f:Fm}{ts:!Tm}{n c:Nat}{room:Int}(hl:ts.length<=c)(hc:c<=5)(h0:2<=room)(zD:room<=16)(h:∀ t∈ts,t.rq n ((room - 1) / (1+(c:Int))).toNat):(Tm.node f ts).rq (n+1) room.toNat :=
 Io (λt ht=>by have:=h t ht;rw[Gq h0] at this;exact this) hl hc (by cbv) (by cbv)
def VY(W:bf)(sc:!(Str×Str))(k:Str)(n q:Nat)(ms:!eB)(sub:!(eB×!Str))(ts:!Tm):Prop :=
 (sub.map (·.1)).Sublist ms/\(∀ p∈sub,p.2.length=p.1.fs.length/\nJ W sc p.2)/\el W sc (sub.map λp=>(p.2.zip (p.1.fs.map (·.2)),k)) ts/\∀ t∈ts,t.rq (n+2) q
theorem rb{ns:!Str}:∀ {ps:!(Str×Str)},j7 (ns.map D.str) (ps.map λp=>D.str p.2)=(ns.zip (ps.map (·.2))).map pairD:=by
 induction ns with
 | nil=>intro ps;rfl
 | cons x xs ih =>
  intro ps;cases ps with
  | nil=>rfl
  | cons p ps =>
   have:=ih (ps:=ps);unfold j7 at this ⊢;rw[Wj,Wj,List.zipWith_cons_cons,this]
   rfl
theorem jW:∀ (hs:!(Str×!Str)) (ts:!D) (h:Str×!Str) (k:D),hs.length=ts.length->cN (hs++[h]) (ts++[k])=cN hs ts++[sR h k]
 | [],[],h,k,_=>rfl
 | [],_::_,h,k,e=>by simp at e
 | _::_,[],h,k,e=>by simp at e
 | a::hs,t::ts,h,k,e=>by
  rw[List.cons_append,List.cons_append,cN,jW hs ts h k (by simpa using e)]
  rfl
theorem l3:∀ (hs:!(Str×!Str)) (l:!D),(cN hs l).length<=l.length
 | [],[]=>by simp[cN]
 | [],_::_=>by simp[cN]
 | _::_,[]=>by simp[cN]
 | _::hs,_::l=>by simpa [cN] using l3 hs l
theorem Nn{d l:AC}(fi:C4 P w K mg base aR bp 1 (cQ K (bg d l) (gK d))){n lv:Nat}(Ge:aa0 P w K mg base dC 1 QT)(uG:C4 P w K mg base aR d5 lv (cQ K (bg d l) (OS d n)))(FQ:C4 P w K mg base aR d6 2 (cQ K (bg d l) (Rc d)))(F:Own K mg il)(T:Txt K mg)(Q4:2<=lv):C4 P w K mg base aR il (lv+1) (cQ K (bg d l) (Ta d n)):=by
 show F.d (nos:=1) bA (λds R h=>?_) λf bh A outer s H E M hr=>#[_,(ag (mH (rm (lX (i:=5) bA.nd U U (ts:=["_law_one"]) (us:=[]) #[U,U,U,U,U,U] rfl (aW (bu hr Ge (ae (vd 1) af))) (λ_ _ _ _=>(gM 0 ["_law_one"])) (λ_ _ _ _=>gB (aJ cw eG (cG (vd 0) aj) ay (aF _)))
 (λ_ _ _ _=>(vd 0)))))
 (ag (bH (aJ (wb (uz hr)) xE (vd 5) (DN.de (aP af)) (aF _))
 (au (bM uI))
 aK)
 (ag (fS (n:=1000) (ou (vd 5) (ax hr fi (ae (vd 0) (ae (fE T.len (ae (vd 5) af)) af)))) (bb (m:=4) U (aq (gN 6 bA.nd) (aq (gN 7 bA.nd) (aq (gN 8 bA.nd) (aq (gN 9 bA.nd) ba))))))
 (ag (sS 10 bA.nd (ax hr uG (ae (vd 0) (ae (vd 1) (ae (vd 2) (ae (vd 7) (ae (cM c8 yU (vd 4) aj) af)))))))
 (ag (sN 0 11 bA.nd (aP af))
 (ag (sF (aW (vd 8)) (bb (m:=2) U (aq (gN 12 bA.nd) (aq (gN 13 bA.nd) ba)))
 (ag (sS 14 bA.nd (ax hr FQ (ae (vd 0) (ae (vd 1) (ae (vd 2) (ae (fE T.len (ae (vd 13) af)) af))))))
 (ag (sS 15 bA.nd (DN.de (f7 d3 dY (vd 2) (DN.de (rE U U T.list U T.zip (ae (vd 14) (ae (DN.de (nC ["_law_field"] [] (aW (vd 13)) (λ_ _ _ _=>(gM 0 ["_law_field"])) (λ_ _ _ _=>cF)
 (λ_ _ _ _=>(cG (vd 0) aj)))) af)))))))
 (au (bH (aJ mO sA (ax hr fi (ae (vd 0) (ae aj af))) aj (aF _))
 (au (yn 11 (ae (aH (ae (vd 12) (ae (vd 14) (ae (ax hr uG (ae (vd 0) (ae (vd 1) (ae (vd 15) (ae (vd 3) (ae (cM c8 yU (cM iV ik (vd 4) aj) (cM dg ik aj (fE T.len (ae (vd 8) af)))) af)))))) af)))) af)))
 aK)))))
 (au (bM (aH (ae ay (ae (vd 10) (ae (vd 3) (ae (iS T.tuple (ae (xM (pv 11)) af)) af))))))))))))),λds R h=>?_]
 .let(W,sc,ks,room,rfl,_):=h
  rfl
 .let(W,sc,k,room,rfl,(aT,sok,hk,hsl,h0,h1,zD),qn,q):=h;obtain⟨n',rfl⟩:∃ n',n=n'+1:=#[n - 1,by cbv];have hsz:=aI;show#[_,U,W,U,aT,_,.inl U,?_];show bF kh kh (λx=>decide (c9 x.asked="made")) _ (λx hx kk N g1 g2=>?_) ?_
  .refine#[_,U,_,_,_,U,U,U,#[U,U,U],_,U,?_];exact bc (b':=decide (c9 x.asked="made")) eu (λe=>#[_,U,g1 e _ U]) λe=>g2 e _ U
  rw[Wy];generalize hsm:(things W).filter (λx=>decide (c9 x.asked="made"))=sm;have hmem:∀ x∈sm,x∈W.kinds/\x.bz≠[]/\x.asked=false:=λx hx=>by
   rw[<- hsm] at hx;let(a,b):=W9.mp hx;let(c1,c2):=fR.mp a;show#[c1,c2,?_];cases e:x.asked with
   | false=>rfl
   | true=>rw[e] at b;revert b;decide+kernel
  have hsml:sm.length<=5:=by
   rw[<- hsm];show Ws (WY _ _) (Ws (WY _ _) aT.kl)
  have hpk:ni (.lst (sm.map kh))=true:=e8 λx hx=>Au aT (hmem x hx).1;show#[_,U,#[hpk,U,.inr ()],_,U,?_];by_cases hsn:sm=[]
  .exact p9 (by rw[hsn];rfl) qn
  show gA ?_ ?_
  .let(c0,r0,e):=Xb hsn;rw[e]
   rfl
  have hs0:0 < sm.length:=XN.mpr hsn;show#[_,U,_,U,_,U,_,.inl U,_,U,#[by rw[V8];omega,by rw[V8];omega],λr r0 r1=>?_];let(kd,hkd,ekd):=jP (f:=kh) (xs:=sm) r0 (by simpa using r1);let(k1,k2,k3):=hmem kd hkd;show#[_,_,_,U,U,ekd,?_];show#[_,U,U,_,_,U,_,_,U,_,_,U,_,_,U,U,?_];show#[_,U,_,U,_,U,_,U,_,U,_,_,U,U,#[by decide,by decide],?_];show#[W,sc,kd.name,room / 3,U,#[aT,sok,.inr #[kd,k1,k2,U],by cbv,by cbv,by cbv],λta hta hda=>?_];show#[#[U,U],?_];show#[_,U,_,.inr U,?_];have pY:=(aT.kw kd k1).2.1;show dH (λxs s=>∃ (dn td:!eB) (sub:!(eB×!Str)) (ts:!Tm) (fZ gH vE vF:Sl),kd.bz=dn++td/\xs=td.map dB/\VY W sc k n' ((room - 1) / (1+((kd.bz.map dB).length:Int))).toNat dn sub ts/\s=#[[.dat (.bG d),.dat (eL W),.dat (.lst (sc.map pairD)),.dat (.str k),.dat (.int room),.dat (.lst (sm.map kh)),.dat (.str (c9 kd.asked)),.dat (.str kd.name),.dat (.tup (kd.bz.map dB)),.dat (.tup (kd.bK.map cW)),.dat (toD ta),.own 0,fZ,gH,vE,vF],[some (.lst (cN (sub.map λp=>(p.1.name,p.2)) (ts.map toD)))]]) ?_ ?_ _ _ #[[],kd.bz,[],[],.no,.no,.no,.no,U,U,#[Xi _,λ_ h=>(nomatch h),el.nil,λ_ h=>(nomatch h)],U]
  .rintro s ⟨dn,td,sub,ts,fZ,gH,vE,vF,hdt,hx,⟨i1,i2,i3,i4⟩,rfl⟩;have htd:td=[]:=by
    cases td with
    | nil=>rfl
    | cons a b=>cases hx
   rw[htd,Wf] at hdt;show#[_,U,_,U,?_];show .inr #[_,_,U,U,?_];show#[_,.inl U,?_];have:=q (.node (.j9 k (sub.map λp=>(p.1.name,p.2))) (ta::ts)) (Ty.mk (.j9 k1 k2 k3 (hdt▸i1) i2) (el.rG hta i3)) ?_
   .rw[toD,toDs_map] at this;exact this
   .have e1:ts.length=sub.length:=by rw[i3.len,V8]
    have e2:=i1.length_le;rw[V8] at e2;have e3:=congrArg List.length hdt;exact Ay (Ws (XQ e1) (Ws e2 (XQ e3.symm))) pY h0 zD hda (by rw[V8] at i4;exact i4)
  .rintro x xs s N ⟨dn,td,sub,ts,fZ,gH,vE,vF,hdt,hx,⟨i1,i2,i3,i4⟩,rfl⟩ hN hE_;cases td with
   | nil=>cases hx
   | cons m td =>
   injection hx with e1 e2;subst e1 e2;have hm:m∈kd.bz:=by rw[hdt];simp
   let(m1,m2,m3,m4):=aT.mo kd k1 m hm;show#[_,U,U,_,_,U,_,_,U,U,?_];show#[_,U,_,U,_,U,_,U,_,.inr U,?_];show#[W,sc,m.fs.length,by rw[V8],#[aT,sok,m2,by cbv],λns oh hb=>?_];show#[_,U,_,U,_,U,_,.inr U,?_];show bo pairD (λp=>D.str p.2) _ (λp hp k2 hk2=>#[_,U,_,_,_,U,U,U,hk2 _ U]) ?_;rw[Wy];show#[_,_,_,_,U,#[U,U],?_];rw[rb];show#[_,_,U,U,by simp;cbv,?_];rw[<- Wc];show#[_,U,_,U,#[by decide,by decide],λr2 r20 r21=>?_];show#[_,_,U,U,_,U,?_];show bc U (λ_=>?_) λ_=>?_
   rotate_left
   .exact hN _ #[dn++[m],td,sub,ts,.dat (.str m.name),.dat (bW m.fs),.dat (.tup (ns.map D.str)),_,by rw[hdt];simp,U,#[i1.trans (List.sublist_append_left _ _),i2,i3,i4],U]
   show#[0,_,U,U,U,?_];show#[_,U,_,U,?_];show#[_,U,_,U,_,U,_,U,?_];show#[_,U,_,_,U,U,?_];show#[_,U,_,.inr U,_,_,U,U,?_];show#[_,_,U,U,#[by rw[V8];cbv,by rw[V8];cbv],?_];have hdl:0<=(room - 1) / (1+((kd.bz.map dB).length:Int))/\(room - 1) / (1+((kd.bz.map dB).length:Int))<=room - 1:=#[X5 (by cbv) (by cbv),Int.ediv_le_self _ (by cbv)];show#[W,sc++ns.zip (m.fs.map (·.2)),k,_,U,#[aT,sok.more hb (by rw[oh,V8]) (λx hx=>?_) (by cbv),hk,hdl.1,by have:=hdl.2;cbv,by have:=hdl.2;cbv],λt ht hd=>?_]
   .let(p,hp,rfl):=Wk.mp hx;exact m4 p hp
   have htl:ts.length=sub.length:=by rw[i3.len,V8]
   have hsub:=i1.length_le;have hdl2:=congrArg List.length hdt;rw[Wa] at hdl2;rw[V8] at hsub;show#[_,U,_,_,U,U,?_,?_]
   .have:=l3 (sub.map λp=>(p.1.name,p.2)) (ts.map toD);rw[V8] at this;cbv
   show hN _ #[dn++[m],td,sub++[(m,ns)],ts++[t],.dat (.str m.name),.dat (bW m.fs),.dat (.tup (ns.map D.str)),.dat (.lst ((sc++ns.zip (m.fs.map (·.2))).map pairD)),by rw[hdt];simp,U,#[?_,λp hp=>?_,?_,λu hu=>?_],?_]
   rotate_right
   .have e:cN ((sub++[(m,ns)]).map λp=>(p.1.name,p.2)) ((ts++[t]).map toD)=cN (sub.map λp=>(p.1.name,p.2)) (ts.map toD)++[sR (m.name,ns) (toD t)]:=by
     rw[Wc,Wc];exact jW _ _ _ _ (by rw[V8,V8];exact htl.symm)
    rw[e]
    rfl
   .rw[Wc];exact XM i1 (Xi _)
   .rcases WA.mp hp with hp | hp
    .exact i2 p hp
    .rw[Wn.mp hp];exact#[oh,hb]
   .rw[Wc];exact el.app i3 (el.cons ht el.nil)
   .rcases WA.mp hu with hu | hu
    .exact i4 u hu
    .rw[Wn.mp hu];exact hd
def VT(W:bf)(sc:!(Str×Str))(n q:Nat)(ms:!dE)(sub:!(dE×!Str))(ts:!Tm):Prop :=
 (sub.map (·.1)).Sublist ms/\(∀ p∈sub,p.2.length=p.1.ps.length/\nJ W sc p.2)/\el W sc (sub.map λp=>(p.2.zip (p.1.ps.map (·.2)),p.1.res)) ts/\∀ t∈ts,t.rq (n+2) q
theorem Nv{d l:AC}(fi:C4 P w K mg base aR bp 1 (cQ K (bg d l) (gK d))){n lv:Nat}(uG:C4 P w K mg base aR d5 lv (cQ K (bg d l) (OS d n)))(FQ:C4 P w K mg base aR d6 2 (cQ K (bg d l) (Rc d)))(F:Own K mg jy)(T:Txt K mg)(Q4:2<=lv):C4 P w K mg base aR jy (lv+1) (cQ K (bg d l) (Ta d n)):=by
 show F.d (nos:=1) cP (λds R h=>?_) λf bh A outer s H E M hr=>#[_,(ag (mH (rm (lX (i:=5) cP.nd U U (ts:=["_law_one"]) (us:=[3]) #[U,U,U,U,U,U] rfl (aW (d7 (a9 (aQ hr) (DE.pe (vd 1)) (DE.pe ay) (λ_ _=>rfl)))) (λ_ _ _ _=>(gM 0 ["_law_one","_law_kind"])) (λ_ _ _ _=>gB (DW.dt (jZ (aJ cw eG (cG (vd 0) aj) ay (aF _)) (iu (aJ cw eG (cG (vd 0) aj) (vd 1) (aF _))))))
 (λ_ _ _ _=>(vd 0)))))
 (ag (bH (aJ (wb (uz hr)) xE (vd 5) (DN.de (aP af)) (aF _))
 (au (bM uI))
 aK)
 (ag (sS 6 cP.nd (cG (ou (vd 5) aj) aj))
 (ag (sN 0 7 cP.nd (aP af))
 (ag (sF (aW (vd 6)) (bb (m:=3) U (aq (gN 8 cP.nd) (aq (gN 9 cP.nd) (aq (gN 10 cP.nd) ba))))
 (ag (sS 11 cP.nd (ax hr FQ (ae (vd 0) (ae (vd 1) (ae (vd 2) (ae (fE T.len (ae (vd 9) af)) af))))))
 (ag (sS 12 cP.nd (DN.de (f7 d3 dY (vd 2) (DN.de (rE U U T.list U T.zip (ae (vd 11) (ae (DN.de (nC ["_law_param"] [] (aW (vd 9)) (λ_ _ _ _=>(gM 0 ["_law_param"])) (λ_ _ _ _=>cF)
 (λ_ _ _ _=>(cG (vd 0) aj)))) af)))))))
 (au (bH (aJ mO sA (ax hr fi (ae (vd 0) (ae aj af))) aj (aF _))
 (au (yn 7 (ae (aH (ae (vd 8) (ae (vd 11) (ae (ax hr uG (ae (vd 0) (ae (vd 1) (ae (vd 12) (ae (vd 10) (ae (cM c8 yU (cM iV ik (vd 4) aj) (cM dg ik aj (fE T.len (ae (vd 6) af)))) af)))))) af)))) af)))
 aK)))))
 (au (bM (aH (ae ay (ae (vd 3) (ae (iS T.tuple (ae (xM (pv 7)) af)) af))))))))))),λds R h=>?_]
 .let(W,sc,ks,room,rfl,_):=h
  rfl
 .let(W,sc,k,room,rfl,(aT,sok,hk,hsl,h0,h1,zD),qn,q):=h;obtain⟨n',rfl⟩:∃ n',n=n'+1:=#[n - 1,by cbv];have hsz:=aI;show#[_,U,?_];show eS #[_,U,_,.inl U,?_];show bF kh kh (λx=>decide (c9 x.asked="asked")&&decide (x.name=k)) _ (λx hx kk N g1 g2=>?_) ?_
  .refine#[_,U,_,_,_,U,U,U,#[U,U,U],_,U,?_];show bc (b':=decide (c9 x.asked="asked")) eu (λe=>?_) λe=>g2 (by rw[e];rfl) _ U;show#[_,U,_,_,_,U,U,U,_,U,#[U,U,U],_,U,?_];exact bc (b':=decide (x.name=k)) eu (λe2=>#[_,U,g1 (by rw[e,e2];rfl) _ U]) λe2=>g2 (by rw[e,e2];rfl) _ U
  rw[Wy];generalize hsm:W.kinds.filter (λx=>decide (c9 x.asked="asked")&&decide (x.name=k))=sm;have hmem:∀ x∈sm,x∈W.kinds/\x.asked=true/\x.name=k:=λx hx=>by
   rw[<- hsm] at hx;let(a,b):=W9.mp hx;rw[WU] at b;show#[a,?_,by simpa using b.2];have b:=b.1;cases e:x.asked with
   | true=>rfl
   | false=>rw[e] at b;revert b;decide+kernel
  have hpk:ni (.lst (sm.map kh))=true:=e8 λx hx=>Au aT (hmem x hx).1;show#[_,U,#[hpk,U,.inr ()],_,U,?_];by_cases hsn:sm=[]
  .exact p9 (by rw[hsn];rfl) qn
  let(kd,sr,rfl):=Xb hsn;show gA U ?_;let(k1,k3,k4):=hmem kd Wg;have k2:=Bs aT hk k1 k4;show#[_,U,_,_,_,U,U,cj,_,_,_,U,U,U,?_];show#[#[U,U],?_];show#[_,U,_,.inr U,?_];have pY:=(aT.kw kd k1).2.2;show dH (λxs s=>∃ (dn td:!dE) (sub:!(dE×!Str)) (ts:!Tm) (x8 x9 hZ gF fZ:Sl),kd.bK=dn++td/\xs=td.map cW/\VT W sc n' ((room - 1) / (1+((kd.bK.map cW).length:Int))).toNat dn sub ts/\s=#[[.dat (.bG d),.dat (eL W),.dat (.lst (sc.map pairD)),.dat (.str k),.dat (.int room),.dat (.lst ((kd::sr).map kh)),.dat (.tup (kd.bK.map cW)),.own 0,x8,x9,hZ,gF,fZ],[some (.lst (cN (sub.map λp=>(p.1.name,p.2)) (ts.map toD)))]]) ?_ ?_ _ _ #[[],kd.bK,[],[],.no,.no,.no,.no,.no,U,U,#[Xi _,λ_ h=>(nomatch h),el.nil,λ_ h=>(nomatch h)],U]
  .rintro s ⟨dn,td,sub,ts,x8,x9,hZ,gF,fZ,hdt,hx,⟨i1,i2,i3,i4⟩,rfl⟩;have htd:td=[]:=by
    cases td with
    | nil=>rfl
    | cons a b=>cases hx
   rw[htd,Wf] at hdt;show#[_,U,?_];show .inr #[_,_,U,U,?_];show#[_,.inl U,?_];have:=q (.node (.new kd.name (sub.map λp=>(p.1.name,p.2))) ts) (k4▸Ty.mk (.new k1 k2 k3 (hdt▸i1) i2) i3) (by
    have e1:ts.length=sub.length:=by rw[i3.len,V8]
    have e2:=i1.length_le;rw[V8] at e2;have e3:=congrArg List.length hdt;rw[V8] at i4;exact D4 (Ws (XQ e1) (Ws e2 (XQ e3.symm))) pY h0 zD i4)
   rw[toD,toDs_map] at this;rw[<- k4];exact this
  .rintro x xs s N ⟨dn,td,sub,ts,x8,x9,hZ,gF,fZ,hdt,hx,⟨i1,i2,i3,i4⟩,rfl⟩ hN hE_;cases td with
   | nil=>cases hx
   | cons m td =>
   injection hx with e1 e2;subst e1 e2;have hm:m∈kd.bK:=by rw[hdt];simp
   let(m1,(m2,m3,m4),m5):=aT.ao kd k1 m hm;show#[_,U,U,_,_,U,_,_,U,_,_,U,U,?_];show#[_,U,_,U,_,U,_,U,_,.inr U,?_];show#[W,sc,m.ps.length,by rw[V8],#[aT,sok,m2,by cbv],λns oh hb=>?_];show#[_,U,_,U,_,U,_,.inr U,?_];show bo pairD (λp=>D.str p.2) _ (λp hp k2 hk2=>#[_,U,_,_,_,U,U,U,hk2 _ U]) ?_;rw[Wy];show#[_,_,_,_,U,#[U,U],?_];rw[rb];show#[_,_,U,U,by simp;cbv,?_];rw[<- Wc];show#[_,U,_,U,#[by decide,by decide],λr2 r20 r21=>?_];show#[_,_,U,U,_,U,?_];show bc U (λ_=>?_) λ_=>?_
   rotate_left
   .exact hN _ #[dn++[m],td,sub,ts,.dat (.str m.name),.dat (bW m.ps),.dat (.str m.res),.dat (.tup (ns.map D.str)),_,by rw[hdt];simp,U,#[i1.trans (List.sublist_append_left _ _),i2,i3,i4],U]
   show#[0,_,U,U,U,?_];show#[_,U,_,U,?_];show#[_,U,_,U,_,U,_,U,?_];show#[_,U,_,_,U,U,?_];show#[_,U,_,.inr U,_,_,U,U,?_];show#[_,_,U,U,#[by rw[V8];cbv,by rw[V8];cbv],?_];have hdl:0<=(room - 1) / (1+((kd.bK.map cW).length:Int))/\(room - 1) / (1+((kd.bK.map cW).length:Int))<=room - 1:=#[X5 (by cbv) (by cbv),Int.ediv_le_self _ (by cbv)];show#[W,sc++ns.zip (m.ps.map (·.2)),m.res,_,U,#[aT,sok.more hb (by rw[oh,V8]) (λx hx=>?_) (by cbv),m5,hdl.1,by have:=hdl.2;cbv,by have:=hdl.2;cbv],λt ht hd=>?_]
   .let(p,hp,rfl):=Wk.mp hx;exact m4 p hp
   have htl:ts.length=sub.length:=by rw[i3.len,V8]
   have hsub:=i1.length_le;have hdl2:=congrArg List.length hdt;rw[Wa] at hdl2;rw[V8] at hsub;show#[_,U,_,_,U,U,?_,?_]
   .have:=l3 (sub.map λp=>(p.1.name,p.2)) (ts.map toD);rw[V8] at this;cbv
   show hN _ #[dn++[m],td,sub++[(m,ns)],ts++[t],.dat (.str m.name),.dat (bW m.ps),.dat (.str m.res),.dat (.tup (ns.map D.str)),.dat (.lst ((sc++ns.zip (m.ps.map (·.2))).map pairD)),by rw[hdt];simp,U,#[?_,λp hp=>?_,?_,λu hu=>?_],?_]
   rotate_right
   .have e:cN ((sub++[(m,ns)]).map λp=>(p.1.name,p.2)) ((ts++[t]).map toD)=cN (sub.map λp=>(p.1.name,p.2)) (ts.map toD)++[sR (m.name,ns) (toD t)]:=by
     rw[Wc,Wc];exact jW _ _ _ _ (by rw[V8,V8];exact htl.symm)
    rw[e]
    rfl
   .rw[Wc];exact XM i1 (Xi _)
   .rcases WA.mp hp with hp | hp
    .exact i2 p hp
    .rw[Wn.mp hp];exact#[oh,hb]
   .rw[Wc];exact el.app i3 (el.cons ht el.nil)
   .rcases WA.mp hu with hu | hu
    .exact i4 u hu
    .rw[Wn.mp hu];exact hd
theorem Fi{r:Int}(h0:0<=r)(h1:r < 3):∃ ch,jF ("+-*":Str).cps.toList r=some ch/\(#[#v[ch]]:Str)∈(["+","-","*"]:!Str):=by
 have:r=0\/r=1\/r=2:=by cbv
 rcases this with rfl | rfl | rfl
 .exact#[43,U,by decide+kernel]
 .exact#[45,U,by decide+kernel]
 .exact#[42,U,by decide+kernel]
theorem GA{d l:AC}(fi:C4 P w K mg base aR bp 1 (cQ K (bg d l) (gK d)))(Ge:aa0 P w K mg base dC 1 QT)(FQ:C4 P w K mg base aR d6 2 (cQ K (bg d l) (Rc d)))(Rj:C4 P w K mg base aR iB 3 (cQ K (bg d l) (UJ d 2)))(P5:Own K mg gQ)(Mg:Own K mg jl)(P4:Own K mg il)(My:Own K mg jy)(K7:Own K mg d5)(T:Txt K mg):∀ n,C4 P w K mg base aR d5 (3 * n+2) (cQ K (bg d l) (OS d n))
 | 0=>K7.c λ_ _ _=>nQ
 | n+1=>by
  have uG:=GA fi Ge FQ Rj P5 Mg P4 My K7 T n;have Qb:=OH uG P5 T;have GAs:=Ow fi Ge Qb Mg T (by cbv);have GCa:=Nn fi Ge uG FQ P4 T (by cbv);have GNe:=Nv fi uG FQ My T (by cbv);show K7.c λfTe fdTe F_=>?_;show Ol (nos:=0) F_ aM (λds R h=>?_) λbh A outer s H E M hr=>#[_,(ag (sS 5 aM.nd (ax hr fi (ae (vd 0) (ae aj af))))
 (ag (sS 6 aM.nd uI)
 (ag (bH (DW.dt (Bv (aJ FV sA (vd 4) aj (aF _)) (Bv (aJ cw eG (vd 5) aj (aF _)) (Cp (aJ mO sA (fE T.len (ae (vd 2) af)) aj (aF _))))))
 (au (bM (ax hr Rj (ae (vd 0) (ae (vd 1) (ae (vd 2) (ae (vd 3) af)))))))
 aK)
 (ag (bH (aJ FV sA (vd 5) aj (aF _))
 (au (sS 6 aM.nd (ax hr GAs (ae (vd 0) (ae (vd 1) (ae (vd 2) (ae (vd 3) (ae (vd 4) af))))))))
 (au (bH (DW.dt (jZ (aJ cw eG (vd 5) aj (aF _)) (iu (j2 (d7 (a9 (aQ hr) (DE.pe (vd 1)) (DE.pe ay) (λ_ _=>rfl)))))))
 (au (sS 6 aM.nd (ax hr GCa (ae (vd 0) (ae (vd 1) (ae (vd 2) (ae (vd 3) (ae (vd 4) af))))))))
 (au (bH (DW.dt (jZ (aJ cw eG (vd 5) aj (aF _)) (iu (j2 (d7 (a9 (aQ hr) (DE.pe (vd 1)) (DE.pe ay) (λ_ _=>rfl)))))))
 (au (sS 6 aM.nd (ax hr GNe (ae (vd 0) (ae (vd 1) (ae (vd 2) (ae (vd 3) (ae (vd 4) af))))))))
 (au (bH (aJ cw eG (vd 5) aj (aF _))
 (ag (sS 7 aM.nd (ax hr uG (ae (vd 0) (ae (vd 1) (ae (vd 2) (ae ay (ae (cM c8 yU (vd 4) aj) af)))))))
 (ag (sS 8 aM.nd (ax hr uG (ae (vd 0) (ae (vd 1) (ae (vd 2) (ae (vd 3) (ae (cM c8 yU (vd 4) aj) af)))))))
 (au (sS 6 aM.nd (aH (ae ay (ae (vd 7) (ae (vd 8) (ae (ax hr uG (ae (vd 0) (ae (vd 1) (ae (vd 2) (ae (vd 3) (ae (cM c8 yU (vd 4) aj) af)))))) af)))))))))
 (au (bH (aJ cw eG (vd 5) aj (aF _))
 (ag (sS 9 aM.nd (DN.de (f7 d3 dY (DN.de (nC ["_law_one"] [] (aW (bu hr Ge (ae (vd 1) af))) (λ_ _ _ _=>(gM 0 ["_law_one"])) (λ_ _ _ _=>cF)
 (λ_ _ _ _=>(cG (vd 0) aj)))) (DN.de (aP (ae ay af))))))
 (ag (sS 10 aM.nd (ou (vd 9) (ax hr fi (ae (vd 0) (ae (fE T.len (ae (vd 9) af)) af)))))
 (ag (sS 11 aM.nd (cG (ax hr FQ (ae (vd 0) (ae (vd 1) (ae (vd 2) (ae aj af))))) aj))
 (ag (sS 7 aM.nd (ax hr uG (ae (vd 0) (ae (vd 1) (ae (vd 2) (ae (vd 10) (ae (cM c8 yU (vd 4) aj) af)))))))
 (au (sS 6 aM.nd (aH (ae ay (ae (vd 11) (ae (vd 7) (ae (ax hr uG (ae (vd 0) (ae (vd 1) (ae (DN.de (f7 d3 dY (vd 2) (DN.de (aP (ae (aH (ae (vd 11) (ae (vd 10) af))) af))))) (ae (vd 3) (ae (cM c8 yU (vd 4) aj) af)))))) af)))))))))))
 aK)))))))))
 (ag (bH (aJ Fz JD (vd 6) uI (aF _))
 (au (bM (vd 6)))
 aK)
 (ag (bH (aJ cw eG (vd 3) ay (aF _))
 (ag (fS (n:=1000) (ax hr Qb (ae (vd 0) (ae (vd 1) (ae (vd 2) (ae (DN.de (aP (ae ay (ae ay af)))) (ae (cM iV ik (vd 4) aj) af)))))) (bb (m:=2) U (aq (gN 7 aM.nd) (aq (gN 8 aM.nd) ba))))
 (au (bM (aH (ae ay (ae (CP xi z9 ay (ax hr fi (ae (vd 0) (ae aj af))) (λ_ _=>rfl)) (ae (vd 7) (ae (vd 8) af))))))))
 aK)
 (ag (sS 12 aM.nd (ou (DN.de (nC ["_law_one"] [3] (aW (d7 (a9 (aQ hr) (DE.pe (vd 1)) (DE.pe ay) (λ_ _=>rfl)))) (λ_ _ _ _=>(gM 0 ["_law_one","_law_kind"])) (λ_ _ _ _=>gB (aJ cw eG (cG (vd 0) aj) (vd 1) (aF _)))
 (λ_ _ _ _=>(cG (vd 0) aj)))) aj))
 (ag (fS (n:=1000) (cG (vd 12) (ax hr fi (ae (vd 0) (ae (fE T.len (ae (vd 12) af)) af)))) (bb (m:=2) U (aq (gN 13 aM.nd) (aq (gN 14 aM.nd) ba))))
 (au (bM (aH (ae ay (ae (vd 13) (ae (ax hr Qb (ae (vd 0) (ae (vd 1) (ae (vd 2) (ae (DN.de (nC ["_law_field"] [] (aW (vd 14)) (λ_ _ _ _=>(gM 0 ["_law_field"])) (λ_ _ _ _=>cF)
 (λ_ _ _ _=>(cG (vd 0) aj)))) (ae (cM iV ik (vd 4) aj) af)))))) af)))))))))))))),λds R h=>?_]
  .let(W,sc,k,room,rfl,_):=h
   rfl
  .let(W,sc,k,room,rfl,(aT,sok,hk,h0,h1,zD),q):=h;show#[_,U,_,U,#[by decide,by decide],λfm f0 f1=>?_];refine' jn ?hleaf λhleaf=>?main
   case main =>
    show#[_,U,_,_,U,U,_,U,?_];show bc U (λ_=>oC hleaf) λc1=>?_;show#[_,U,#[U,U,U],_,U,?_];show bc U (λ_=>oC hleaf) λc2=>?_;show#[_,U,_,.inl U,_,_,U,U,_,U,?_];show bc U (λ_=>hleaf) λc3=>?_;have c1:¬ room < 2:=by simpa using c1
    have c3:¬ (12:Int) < sc.length:=by simpa using c3
    obtain⟨n',rfl⟩:∃ n',n=n'+1:=#[n - 1,by cbv];refine' jn ?hnone λhnone=>?main2
    case main2 =>
     show#[_,U,_,_,U,U,_,U,?_];show bc U (λ_=>?_) λ_=>?_
     .refine#[_,U,_,U,_,U,_,U,_,U,W,sc,k,room,U,#[aT,sok,hk,by cbv,by cbv,by cbv,by cbv],hnone,λt ht hd=>?_];exact#[_,U,U,_,U,p9 (Aq t) #[_,U,q t ht hd]]
     show#[_,U,#[U,U,U],_,U,?_];refine' jn ?h5 λh5=>?main3
     case main3 =>
      show bc U (λ_=>?_) λ_=>h5;show#[_,U,?_];show oB #[_,U,_,U,?_];show bc U (λ_=>?_) λ_=>h5;show#[_,U,_,U,_,U,_,U,_,U,W,sc,k,room,U,#[aT,sok,hk,by cbv,by cbv,by cbv,by cbv],hnone,λt ht hd=>?_];exact#[_,U,U,_,U,p9 (Aq t) #[_,U,q t ht hd]]
     case h5 =>
      show#[_,U,#[U,U,U],_,U,?_];refine' jn ?h6 λh6=>?main4
      case main4 =>
       show bc U (λ_=>?_) λ_=>h6;show#[_,U,?_];show oB #[_,U,_,U,?_];show bc U (λ_=>?_) λ_=>h6;show#[_,U,_,U,_,U,_,U,_,U,W,sc,k,room,U,#[aT,sok,hk,by cbv,by cbv,by cbv,by cbv],hnone,λt ht hd=>?_];exact#[_,U,U,_,U,p9 (Aq t) #[_,U,q t ht hd]]
      case h6 =>
       show#[_,U,#[U,U,U],_,U,?_];show bc U (λ_=>?_) λ_=>?_
       .refine#[_,U,_,U,_,U,_,U,_,_,U,U,#[by decide,by decide],W,sc,"number",room / 3,U,#[aT,sok,.inl U,by cbv,by cbv,by cbv],λta hta hda=>?_];show#[_,U,_,U,_,U,_,U,_,U,_,_,U,U,#[by decide,by decide],W,sc,k,room / 3,U,#[aT,sok,hk,by cbv,by cbv,by cbv],λtb htb ig=>?_];show#[_,U,_,U,?_];show#[_,U,_,U,_,U,_,U,_,U,_,_,U,U,#[by decide,by decide],W,sc,k,room / 3,U,#[aT,sok,hk,by cbv,by cbv,by cbv],λtc htc hdc=>?_];show#[_,U,U,_,U,p9 U #[_,U,?_]];exact q (.node .sU [ta,tb,tc]) (Ty.mk .sU (.rG hta (.rG htb (.rG htc .nil)))) (jt (q:=room.toNat / 3) (λt ht=>by
         rw[show (room / 3).toNat=room.toNat / 3 by cbv] at hda ig hdc;simp at ht;rcases ht with rfl | rfl | rfl<;>assumption) (Hl (by cbv) (by cbv)))
       show#[_,U,#[U,U,U],_,U,?_];show bc U (λ_=>?_) λ_=>hnone;show#[_,U,W,U,aT,_,.inl U,?_];show bo kh (λk=>D.str k.name) _ (λk hk k2 hk2=>#[_,U,_,_,_,U,U,U,hk2 _ U]) ?_;have hsz:=aI;have htl:(things W).length<=5:=Ws (WY _ _) aT.kl;have enm:(things W).map (λk=>D.str k.name)++[D.str "number"]=((things W).map Kd.name++hJ).map D.str:=by
        rw[Wc,Wo]
        rfl
       rw[Wy];show#[_,_,U,U,by simp;cbv,?_];rw[enm];show#[_,U,_,U,_,U,_,.inl U,_,U,#[by simp,by simp;cbv],λr2 r20 r21=>?_];let(ot,hot,eot):=jP (f:=D.str) (xs:=(things W).map Kd.name++hJ) r20 (by simpa using r21);show#[_,_,_,U,U,eot,?_];have bx:kj W ot:=by
        rcases WA.mp hot with h | h
        .let(kd,hkd,rfl):=Wk.mp h;let(a,b):=fR.mp hkd;exact .inr #[kd,a,b,U]
        .exact .inl (Wn.mp h)
       show#[_,U,_,U,_,U,W,sc,1,U,#[aT,sok,by decide,by cbv],λns oh hb=>?_];obtain⟨x,rfl⟩:∃ x,ns=[x]:=by
        let(x,r,rfl):=Ew (l:=ns) (by cbv);cases r with
        | nil=>exact#[x,U]
        | cons y r=>simp at oh
       show#[_,_,_,U,U,cj,?_];show#[_,U,_,U,_,U,_,U,_,U,_,_,U,U,#[by decide,by decide],W,sc,ot,room / 2,U,#[aT,sok,bx,by cbv,by cbv,by cbv],λta hta hda=>?_];show#[_,U,_,U,?_];show#[_,U,_,U,_,U,_,U,_,U,_,_,U,U,by simp;cbv,?_];show#[_,U,_,U,_,_,U,U,#[by decide,by decide],?_];show#[W,sc++[(x,ot)],k,room / 2,by rw[List.map_append]<;>rfl,#[aT,sok.more (ns:=[x]) (ks:=[ot]) hb U (λy hy=>List.mem_singleton.mp hy▸bx) (by simp;cbv),hk,by cbv,by cbv,by cbv],λtb htb ig=>?_];show#[_,U,U,_,U,p9 U #[_,U,?_]];exact q (.node (.lt x) [ta,tb]) (Ty.mk (.lt hb bx) (.rG hta (.cons htb .nil))) (jt (q:=room.toNat / 2) (λt ht=>by
        rw[show (room / 2).toNat=room.toNat / 2 by cbv] at hda ig;simp at ht;rcases ht with rfl | rfl<;>assumption) (Kk (by cbv) (by cbv)))
    case hnone =>
     show#[_,U,U,_,U,gA U ?_];show#[_,U,#[U,U,U],_,U,?_];show bc (b':=decide (k="number")) eu (λe=>?_) λe=>?_
     .have e:k="number":=by simpa using e
      show#[_,U,_,U,_,U,_,U,_,_,U,U,?_];show#[W,sc,["number","number"],room - 1,U,#[aT,sok,λx hx=>?_,by decide,by cbv,by cbv,by cbv],λts hts hd=>?_]
      .simp at hx;exact .inl hx
      have hl:=hts.len;let(ta,tb,rfl):=Ti (l:=ts) hl;show#[_,U,U,_,_,U,_,_,U,U,?_];show#[_,U,_,U,#[by decide,by decide],λr2 r20 r21=>?_];let(ch,ech,xN):=Fi r20 r21;show#[_,_,_,U,U,by decide+kernel,ech,?_];show#[_,U,_,U,?_];exact q (.node (.op #[#v[ch]]) [ta,tb]) (e▸Ty.mk (.op xN) hts) (jt (q:=(room.toNat - 1) / max 1 2) (λt ht=>by have:=hd t ht;rw[show (room - 1).toNat=room.toNat - 1 by cbv] at this;exact this) (w6 (n:=2) (by cbv) (by cbv) ()))
     .have e:k≠"number":=by simpa using e
      let(kd,hkd,hmk,hnm,nn,Dv):=kinds_of aT hk e;show#[_,U,?_];show eS #[_,U,_,.inl U,?_];show bF kh (λk=>D.tup (k.bz.map dB)) (λx=>decide (x.name=k)) _ (λx hx kk N g1 g2=>?_) ?_
      .refine#[_,U,_,_,_,U,U,U,_,U,#[U,U,U],_,U,?_];exact bc (b':=decide (x.name=k)) eu (λe=>#[_,U,_,_,_,U,U,U,g1 e _ U]) λe=>g2 e _ U
      rw[Dv,List.replicate_succ,Wj,Wy];show#[_,_,_,U,U,cj,?_];have hm0:0 < kd.bz.length:=XN.mpr hmk;have hm5:=(aT.kw kd hkd).2.1;show#[_,U,_,U,_,U,_,.inr U,_,U,#[by rw[V8];cbv,by rw[V8];cbv],λr2 r20 r21=>?_];let(m,hm,em):=jP (f:=dB) (xs:=kd.bz) r20 (by simpa using r21);let(m1,m2,m3,m4):=aT.mo kd hkd m hm;show#[_,_,_,U,U,em,?_];show#[_,U,U,_,_,U,_,_,U,U,?_];show#[_,U,_,U,_,U,_,U,_,U,_,.inr U,?_];show bo pairD (λp=>D.str p.2) _ (λp hp k2 hk2=>#[_,U,_,_,_,U,U,U,hk2 _ U]) ?_;rw[Wy];show#[_,U,_,_,U,U,?_];show#[W,sc,m.fs.map (·.2),room - 1,by rw[Wo]<;>rfl,#[aT,sok,λx hx=>?_,by rw[V8];cbv,by cbv,by cbv,by cbv],λts hts hd=>?_]
      .let(p,hp,rfl):=Wk.mp hx;exact m4 p hp
      have:=q (.node (.mk m.name) ts) (hnm▸Ty.mk (.mk hkd hm) (by rw[Wo] at hts;exact hts)) (jt (q:=(room.toNat - 1) / max 1 ts.length) (λt ht=>by have:=hd t ht;rw[show (room - 1).toNat=room.toNat - 1 by cbv] at this;exact this) (w6 (by cbv) (by cbv) (by have:=hts.len;rw[V8,V8] at this;cbv)));rw[toD,toDs_map] at this;exact this
   case hleaf =>
    exact#[_,U,_,U,_,U,_,U,W,sc,k,U,#[aT,sok,hk,λe=>absurd e ()],λt ht hd=>q t ht (Tm.lf.rq (n:=2) hd (by cbv) (by cbv))]
def Ud(d:AC):X9:=λds R=>∃ (most:Int) (b:Bool),ds=[.bG d,.int most,.bl b]/\(1<=most/\most<=4)/\∀ (ws:!Str) (ks:!Kd),ws.length=45->ws.Nodup->(∀ x∈ws,Nm x)->yt ws ks->R (eL (oP ws ks b))
theorem PU{d l:AC}(VC:C4 P w K mg base aR gd 2 (cQ K (bg d l) (zL d)))(Vj:C4 P w K mg base aR gm 3 (cQ K (bg d l) (Ul d)))(F:Own K mg gu)(T:Txt K mg):C4 P w K mg base aR gu 4 (cQ K (bg d l) (Ud d)):=by
 show F.d (nos:=0) kP (λds R h=>?_) λf bh A outer s H E M hr=>#[_,(ag (sS 3 kP.nd (ax hr VC (ae (vd 0) (ae aj af))))
 (au (bM (DN.de (Dd (g7 (ax hr Vj (ae (vd 0) (ae (vd 3) (ae (vd 1) af)))) (g7 (DN.de (dR (vd 3) (cH aj) fj)) (g7 (DN.de (dR (vd 3) (cH aj) (cH aj))) (g7 (vd 2) (g7 (vd 3) xx))))) (show List.Nodup [(Sum.inr ("kinds":Str):Key),(Sum.inr ("vars":Str):Key),(Sum.inr ("heads":Str):Key),(Sum.inr ("inner":Str):Key),(Sum.inr ("words":Str):Key)] by decide+kernel)))))),λds R h=>?_]
 .let(most,b,rfl,_):=h
  rfl
 .let(most,b,rfl,(h1,h3),q):=h;show#[_,U,45,U,#[by decide,by decide],λws p7 QJ hwm=>?_];have p7:ws.length=45:=p7;show#[_,U,_,U,_,U,ws,most,U,#[p7,QJ,hwm,h1,h3],λks ur=>?_];have e30:cutD (ws.map D.str) (some 30) none=(ws.drop 30).map D.str:=by
   rw[ff,p7,show HT.b8 45 0 (some 30)=30 from U,show HT.b8 45 45 none=45 from U,List.take_of_length_le (by simp[p7])]
  have e24:cutD (ws.map D.str) (some 24) (some 30)=((ws.drop 24).take 6).map D.str:=by rw[ff,p7];rfl
  show#[_,U,_,U,_,U,?_];show#[_,U,_,U,_,U,_,U,?_];show#[_,U,_,U,?_];rw[e30,e24];exact q ws ks p7 QJ hwm ur
end
end OY
namespace DL
open PySem PySem.Spec L2
def Tm.tq(n:Nat)(t:Tm):Prop:=t.dep<=n/\t.size<=207/\t.FF<=63/\t.gt
theorem Tm.rq.tq{n r:Nat}{t:Tm}(h:t.rq n r)(hr:r<=16)(hg:t.gt):t.tq n:=#[h.1,Ws h.2.1 (nI hr (We _)).1,Ws h.2.2 (nI hr (We _)).2,hg]
end DL
namespace OY
open PySem L2 DL
structure fP(W:bf)(n:Nat)(p:PK):Prop where
 tl:p.tabs.length=if p.asked=true then p.kd.bz.length else p.kd.bK.length
 tm:∀ e∈ents p,e.2.wf=true/\e.2.Gs=true/\e.2.tq n
 nd:((ents p).map (·.1)).Nodup
 nm:∀ e∈ents p,∃ m∈p.kd.bz,∃ a∈p.kd.bK,e.1=(m.name,a.name)/\Ty W (m.fs++a.ps) a.res e.2
 ln:(ents p).length<=1000
structure zF(W:bf)(n:Nat)(ps:!PK):Prop where
 aT:dG W
 kd:ps.map PK.kd=W.kinds
 ok:∀ p∈ps,fP W n p
theorem zF.mem{W:bf}{n:Nat}{ps:!PK}(h:zF W n ps){p:PK}(hp:p∈ps):p.kd∈W.kinds:=h.kd▸Wr hp
def lR(W:bf)(kd:Kd)(n:Nat)(ks:!(!Key))(vs:!D):Prop:=ks.length=vs.length/\∀ q x,br ks vs q=some x->∃ m∈kd.bz,∃ a∈kd.bK,∃ t:Tm,q=[.inr m.name,.inr a.name]/\x=toD t/\Ty W (m.fs++a.ps) a.res t/\t.tq n
theorem lR.nil{W:bf}{kd:Kd}{n:Nat}:lR W kd n [] []:=#[U,λq x h=>by cases h]
theorem lR.put{W:bf}{kd:Kd}{n:Nat}{ks:!(!Key)}{vs:!D}(h:lR W kd n ks vs){m:eB}(hm:m∈kd.bz){a:dE}(ha:a∈kd.bK){t:Tm}(ht:Ty W (m.fs++a.ps) a.res t)(hd:t.tq n):lR W kd n (cY ks [.inr m.name,.inr a.name]) (dh ks vs [.inr m.name,.inr a.name] (toD t)):=by
 show#[(xW h.1).1,λq x hx=>?_];rw[CV q h.1] at hx;by_cases e:q=[.inr m.name,.inr a.name]
 .rw[if_pos e] at hx;cases hx;exact#[m,hm,a,ha,t,e,U,ht,hd]
 .rw[if_neg e] at hx;exact h.2 q x hx
def FA(W:bf)(kd:Kd)(n:Nat)(a:dE)(c:Str)(t:Tm):Prop:=∃ m∈kd.bz,eB.name m=c/\(Ty W (m.fs++a.ps) a.res t/\t.tq n)
def FM(W:bf)(kd:Kd)(n:Nat)(m:eB)(c:Str)(t:Tm):Prop:=∃ a∈kd.bK,dE.name a=c/\(Ty W (m.fs++a.ps) a.res t/\t.tq n)
structure oS(other:Str->Tm->Prop)(n:Nat)(rs:!(Str×Tm)):Prop where
 ln:rs.length<=5
 nd:(rs.map (·.1)).Nodup
 ok:∀ r∈rs,other r.1 r.2/\r.2.wf=true/\r.2.Gs=true/\r.2.tq n
theorem oS.perm{other:Str->Tm->Prop}{n:Nat}{rs qs:!(Str×Tm)}(h:oS other n rs)(p:qs.Perm rs):oS other n qs :=
 #[by rw[p.length_eq];exact h.ln,(p.map _).nodup_iff.mpr h.nd,λr hr=>h.ok r (p.mem_iff.mp hr)]
theorem fP.Uw{W:bf}{kd:Kd}{n:Nat}{b:Bool}{ts:!(!(Str×Tm))}{ns:!Str}{other:Str->Str->Tm->Prop}(hn:ns.Nodup)(hl:ns.length=ts.length)(h5:ns.length<=5)(eb:uw #[b,kd,ts]=ns.zip ts)(hr:∀ x∈ns.zip ts,oS (other x.1) n x.2) :
  (∀ e∈ents #[b,kd,ts],∃ x∈ns.zip ts,∃ r∈x.2,e=(if b=true then (x.1,r.1) else (r.1,x.1),r.2)/\other x.1 r.1 r.2/\r.2.wf=true/\r.2.Gs=true/\r.2.tq n)/\((ents #[b,kd,ts]).map (·.1)).Nodup/\(ents #[b,kd,ts]).length<=1000:=by
 show#[λe he=>?_,?_,?_]
 .have he:e∈(uw #[b,kd,ts]).flatMap (gU b):=he;rw[eb] at he;let(x,hx,hx2):=Xd.mp he;let(r,hr2,rfl):=Wk.mp hx2;exact#[x,hx,r,hr2,U,(hr x hx).ok r hr2]
 .show (((uw #[b,kd,ts]).flatMap (gU b)).map (·.1)).Nodup;rw[eb];show qU ?_ λx hx=>(hr x hx).nd;rw[Xc (by cbv)];exact hn
 .show ((uw #[b,kd,ts]).flatMap (gU b)).length<=1000;rw[eb];have:=yk (b:=b) (bs:=ns.zip ts) λx hx=>(hr x hx).ln;rw[WZ] at this;cbv
theorem fP.VA{W:bf}(w:dG W){kd:Kd}(hk:kd∈W.kinds){n:Nat}{ts:!(!(Str×Tm))}(hl:ts.length=kd.bK.length)(hr:∀ x∈kd.bK.zip ts,oS (FA W kd n x.1) n x.2):fP W n #[false,kd,ts]:=by
 let(_,k5,a5):=w.kw kd hk;let(g0,g1,g2):=fP.Uw (W:=W) (b:=false) (kd:=kd) (ts:=ts) (n:=n) (ns:=kd.bK.map dE.name) (other:=λf c t=>∃ a∈kd.bK,a.name=f/\FA W kd n a c t) (jz w hk) (by rw[V8];exact hl.symm) (by rw[V8];exact a5) U λx hx=>by
  rw[XY] at hx;let(y,hy,rfl):=Wk.mp hx;have:=hr y hy;exact#[this.ln,this.nd,λr hr=>#[#[y.1,(WO (a:=y.1) (b:=y.2) hy).1,U,(this.ok r hr).1],(this.ok r hr).2]]
 show#[hl,λe he=>?_,g1,λe he=>?_,g2]
 .let(x,hx,r,hr2,rfl,_,h):=g0 e he;exact h
 .let(x,hx,r,hr2,rfl,(a,ha,e1,m,hm,e2,h),_):=g0 e he;exact#[m,hm,a,ha,by rw[e1,e2];rfl,h.1]
theorem fP.ofM{W:bf}(w:dG W){kd:Kd}(hk:kd∈W.kinds){n:Nat}{ts:!(!(Str×Tm))}(hl:ts.length=kd.bz.length)(hr:∀ x∈kd.bz.zip ts,oS (FM W kd n x.1) n x.2):fP W n #[true,kd,ts]:=by
 let(_,k5,a5):=w.kw kd hk;let(g0,g1,g2):=fP.Uw (W:=W) (b:=true) (kd:=kd) (ts:=ts) (n:=n) (ns:=kd.bz.map eB.name) (other:=λf c t=>∃ a∈kd.bz,a.name=f/\FM W kd n a c t) (jq w hk) (by rw[V8];exact hl.symm) (by rw[V8];exact k5) U λx hx=>by
  rw[XY] at hx;let(y,hy,rfl):=Wk.mp hx;have:=hr y hy;exact#[this.ln,this.nd,λr hr=>#[#[y.1,(WO (a:=y.1) (b:=y.2) hy).1,U,(this.ok r hr).1],(this.ok r hr).2]]
 show#[hl,λe he=>?_,g1,λe he=>?_,g2]
 .let(x,hx,r,hr2,rfl,_,h):=g0 e he;exact h
 .let(x,hx,r,hr2,rfl,(a,ha,e1,m,hm,e2,h),_):=g0 e he;exact#[a,ha,m,hm,by rw[e1,e2];rfl,h.1]
theorem lR.at{W:bf}(w:dG W){kd:Kd}(hk:kd∈W.kinds){n:Nat}{ks:!(!Key)}{vs:!D}(h:lR W kd n ks vs){m:eB}(hm:m∈kd.bz){a:dE}(ha:a∈kd.bK){x:D}(e:br ks vs [.inr m.name,.inr a.name]=some x):∃ t:Tm,x=toD t/\Ty W (m.fs++a.ps) a.res t/\t.tq n:=by
 let(m',hm',a',ha',t,e1,e2,e3,e4):=h.2 _ _ e;injection e1 with e5 e6;injection e5 with e5;injection e6 with e6 _;injection e6 with e6;have:=map_one (jq w hk) hm hm' e5;subst this;have:=map_one (jz w hk) ha ha' e6;subst this;exact#[t,e2,e3,e4]
theorem xw{α:Type}{nm:α->Str}{l sub:!α}{rs:!(Str×Tm)}{F:α->Tm->Prop}{n:Nat}(hn:(l.map nm).Nodup)(h5:l.length<=5)(hs:sub.Sublist l)(hp:Paired (λm (r:Str×Tm)=>r.1=nm m/\F m r.2) sub rs)(hg:∀ m∈l,∀ t,F m t->t.wf=true/\t.Gs=true/\t.tq n):oS (λc t=>∃ m∈l,nm m=c/\F m t) n rs:=by
 have e:rs.map (·.1)=sub.map nm:=BF (λx y h=>h.1) hp;show#[?_,?_,λr hr=>?_]
 .rw[fT hp];exact Ws hs.length_le h5
 .rw[e];exact hn.sublist (hs.map nm)
 .let(m,hm,h1,h2):=fU hp r hr;exact#[#[m,hs.subset hm,h1.symm,h2],hg m (hs.subset hm) r.2 h2]
section
variable{P:GE}{w:Fa}{K:Frag}{mg:Str->Option AT}{base:EQ}
def Fj(c:!(!Key)×!D):D:=.nz c.1 c.2
def UD(d:AC)(n:Nat):X9:=λds R=>∃ (W:bf) (room:Int),ds=[.bG d,eL W,.int room]/\(dG W/\0<=room/\room<=n+1/\room<=16)/\∀ vH:!(!(!Key)×!D),Paired (λkd c=>lR W kd (n+2) c.1 c.2) W.kinds vH->R (.lst (vH.map Fj))
theorem Pf{d l:AC}(fi:C4 P w K mg base aR bp 1 (cQ K (bg d l) (gK d))){n lv:Nat}(uG:C4 P w K mg base aR d5 lv (cQ K (bg d l) (OS d (n+1))))(F:Own K mg gk)(T:Txt K mg)(Q4:2<=lv):C4 P w K mg base aR gk (lv+1) (cQ K (bg d l) (UD d n)):=by
 show F.d (nos:=2) bj (λds R h=>?_) λf bh A outer s H E M hr=>#[_,(ag (sN 0 3 bj.nd (aP af))
 (ag (sF (aW (d7 (a9 (aQ hr) (DE.pe (vd 1)) (DE.pe ay) (λ_ _=>rfl)))) (bb (m:=4) U (aq (gN 4 bj.nd) (aq (gN 5 bj.nd) (aq (gN 6 bj.nd) (aq (gN 7 bj.nd) ba)))))
 (ag (sN 1 8 bj.nd EU)
 (ag (sF (aW (vd 6)) (bb (m:=2) U (aq (gN 9 bj.nd) (aq (gN 10 bj.nd) ba)))
 (au (sF (aW (vd 7)) (bb (m:=3) U (aq (gN 11 bj.nd) (aq (gN 12 bj.nd) (aq (gN 13 bj.nd) ba))))
 (au (bH (aJ mO sA (ax hr fi (ae (vd 0) (ae aj af))) aj (aF _))
 (au (kF (c7 (aQ hr) (pv 8) (DE.pe (aH (ae (vd 9) (ae (vd 11) af)))) (DE.pe (ax hr uG (ae (vd 0) (ae (vd 1) (ae (DN.de (f7 d3 dY (DN.de (dP fD kH U T.list (by decide+kernel) (ae (vd 10) af))) (DN.de (dP fD kH U T.list (by decide+kernel) (ae (vd 12) af))))) (ae (vd 13) (ae (vd 2) af))))))) U)))
 aK)))))
 (au (yn 3 (ae (xM (pv 8)) af))))))
 (au (bM (xM (pv 3)))))),λds R h=>?_]
 .let(W,room,rfl,_):=h
  rfl
 .let(W,room,rfl,(aT,h0,h1,zD),q):=h;have hsz:=aI;show#[#[U,U],?_];show#[_,U,?_];show eS #[_,U,_,.inl U,?_];show dH (λxs s=>∃ (dn td:!Kd) (vH:!(!(!Key)×!D)) (x4 x5 x6 x7 x8 x9 hZ gF fZ gH:Sl),W.kinds=dn++td/\xs=td.map kh/\Paired (λkd c=>lR W kd (n+2) c.1 c.2) dn vH/\(x9.pl=true/\hZ.pl=true/\gF.pl=true/\fZ.pl=true/\gH.pl=true)/\s=#[[.dat (.bG d),.dat (eL W),.dat (.int room),.own 0,x4,x5,x6,x7,x8,x9,hZ,gF,fZ,gH],[some (.lst (vH.map Fj)),none]]) ?_ ?_ _ _ #[[],W.kinds,[],.no,.no,.no,.no,.no,.no,.no,.no,.no,.no,U,U,.nil,#[U,U,U,U,U],U]
  .rintro s ⟨dn,td,vH,x4,x5,x6,x7,x8,x9,hZ,gF,fZ,gH,hdt,hx,hP,_,rfl⟩;have htd:td=[]:=by
    cases td with
    | nil=>rfl
    | cons a b=>cases hx
   rw[htd,Wf] at hdt;exact .inr #[_,_,U,U,q vH (hdt▸hP)]
  .rintro x xs s N ⟨dn,td,vH,x4,x5,x6,x7,x8,x9,hZ,gF,fZ,gH,hdt,hx,hP,⟨h9,h10,h11,h12,h13⟩,rfl⟩ hN hE_;cases td with
   | nil=>cases hx
   | cons kd td =>
   injection hx with e1 e2;subst e1 e2;have hkd:kd∈W.kinds:=by rw[hdt];simp
   have hkw:=aT.kw kd hkd;show#[_,U,U,_,_,U,_,_,U,_,_,U,_,_,U,U,?_];show#[#[U,(show noRef 1 6 [x9,hZ,gF,fZ,gH]=true by rw[cq h9,cq h10,cq h11,cq h12,cq h13];rfl)],?_];show#[_,U,_,.inr U,?_];show dH (λxs s=>∃ (ms:!eB) (ks:!(!Key)) (vs:!D) (x9 hZ gF fZ gH:Sl),xs=ms.map dB/\(∀ m∈ms,m∈kd.bz)/\lR W kd (n+2) ks vs/\ks.length+5 * ms.length<=25/\(x9.pl=true/\hZ.pl=true/\gF.pl=true/\fZ.pl=true/\gH.pl=true)/\s=#[[.dat (.bG d),.dat (eL W),.dat (.int room),.own 0,.dat (.str (c9 kd.asked)),.dat (.str kd.name),.dat (.tup (kd.bz.map dB)),.dat (.tup (kd.bK.map cW)),.own 1,x9,hZ,gF,fZ,gH],[some (.lst (vH.map Fj)),some (.nz ks vs)]]) ?_ ?_ _ _ #[kd.bz,[],[],x9,hZ,gF,fZ,gH,U,λ_ h=>h,lR.nil,by simp;cbv,#[h9,h10,h11,h12,h13],U]
   .rintro s ⟨ms,ks,vs,y9,BU,y11,y12,yQ,hx,_,hC,_,⟨g9,g10,g11,g12,g13⟩,rfl⟩;show#[0,_,U,U,U,?_];show .inr #[_,_,U,U,?_];have hcl:vH.length=dn.length:=fT hP;have hdl:=congrArg List.length hdt;rw[Wa] at hdl;have hkl:=aT.kl;show#[_,U,_,_,U,U,by rw[V8];cbv,?_];show hN _ #[dn++[kd],td,vH++[(ks,vs)],_,_,_,_,.dat (.nz ks vs),_,_,_,_,_,by rw[hdt];simp,U,xl hP hC,#[b5 (k:=1) (d:=.nz ks vs) g9,b5 (k:=1) (d:=.nz ks vs) g10,b5 (k:=1) (d:=.nz ks vs) g11,b5 (k:=1) (d:=.nz ks vs) g12,b5 (k:=1) (d:=.nz ks vs) g13],by rw[List.map_append];rfl]
   .rintro x xs s N2 ⟨ms,ks,vs,y9,BU,y11,y12,yQ,hx,hms,hC,hcl,⟨g9,g10,g11,g12,g13⟩,rfl⟩ hN2 hE_2;cases ms with
    | nil=>cases hx
    | cons m ms =>
    injection hx with e1 e2;subst e1 e2;have hm:=hms m Wg;have hcl:ks.length+5 * (ms.length+1)<=25:=hcl;show#[_,U,U,_,_,U,_,_,U,U,?_];show#[_,U,_,.inr U,?_];show dH (λxs s=>∃ (as:!dE) (ks:!(!Key)) (vs:!D) (gF fZ gH:Sl),xs=as.map cW/\(∀ a∈as,a∈kd.bK)/\lR W kd (n+2) ks vs/\ks.length+as.length+5 * ms.length<=25/\(gF.pl=true/\fZ.pl=true/\gH.pl=true)/\s=#[[.dat (.bG d),.dat (eL W),.dat (.int room),.own 0,.dat (.str (c9 kd.asked)),.dat (.str kd.name),.dat (.tup (kd.bz.map dB)),.dat (.tup (kd.bK.map cW)),.own 1,.dat (.str m.name),.dat (bW m.fs),gF,fZ,gH],[some (.lst (vH.map Fj)),some (.nz ks vs)]]) ?_ ?_ _ _ #[kd.bK,ks,vs,y11,y12,yQ,U,λ_ h=>h,hC,by cbv,#[g11,g12,g13],U]
    .rintro s ⟨as,ks,vs,z11,z12,z13,hx,_,hC,hcl,⟨f11,f12,f13⟩,rfl⟩;exact hN2 _ #[ms,ks,vs,_,_,z11,z12,z13,U,λa ha=>hms a (Wd _ ha),hC,by cbv,#[U,U,f11,f12,f13],U]
    .rintro x xs s N3 ⟨as,ks,vs,z11,z12,z13,hx,has,hC,hcl,⟨f11,f12,f13⟩,rfl⟩ hN3 hE_3;cases as with
     | nil=>cases hx
     | cons a as =>
     injection hx with e1 e2;subst e1 e2;have ha:=has a Wg;have hcl:ks.length+(as.length+1)+5 * ms.length<=25:=hcl;show#[_,U,U,_,_,U,_,_,U,_,_,U,U,?_];show#[_,U,_,U,#[by decide,by decide],λr r0 r1=>?_];show#[_,_,U,U,_,U,?_];show bc U (λ_=>?_) λ_=>?_
     rotate_left
     .exact hN3 _ #[as,ks,vs,_,_,_,U,λb hb=>has b (Wd _ hb),hC,by cbv,#[U,U,U],U]
     let(_,m2,_):=aT.mo kd hkd m hm;let(_,(a2,_),ar):=aT.ao kd hkd a ha;have hm3:=m2;show#[_,U,_,U,?_];show#[_,U,?_];show#[_,.inr U,?_];show#[_,U,_,.inr U,?_];show#[_,_,U,U,by rw[V8,V8];cbv,?_];show#[_,U,_,U,?_];show#[W,m.fs++a.ps,a.res,room,by rw[Wc],#[aT,DL.lA aT hkd hm ha,ar,h0,h1,zD],λt ht hd=>?_];have hd:=hd.tq (by cbv) (Ty.Py aT t _ _ (jB.VO aT (DL.lA aT hkd hm ha)) (ar.O5 aT) ht);show#[1,U,_,U,_,U,_,U,?_];show .inr #[_,_,_,[.inr m.name,.inr a.name],U,U,U,by cbv,?_];have hp:=xW (x:=toD t) (q:=[.inr m.name,.inr a.name]) hC.1;exact hN3 _ #[as,_,_,_,_,_,U,λb hb=>has b (Wd _ hb),hC.put hm ha ht hd,by cbv,#[U,U,U],U]
def U3(d:AC)(n:Nat):X9:=λds R=>∃ (W:bf) (room:Int),ds=[.bG d,eL W,.int room]/\(dG W/\0<=room/\room<=n+1/\room<=16)/\∀ ps:!PK,zF W (n+2) ps->(∀ p∈ps,p.asked=p.kd.asked)->R (.tup (ps.map eZ))
theorem Az{α β:Type}{F:α->β->Prop}{f:α->D}{h:β->D}:∀ {l₁:!α} {l₂:!β},Paired F l₁ l₂->j7 (l₁.map f) (l₂.map h)=(l₁.zip l₂).map λx=>D.tup [f x.1,h x.2]
 | _,_,.nil=>rfl
 | _,_,.cons r t=>by
  have:=Az (f:=f) (h:=h) t;unfold j7 at this ⊢;rw[Wj,Wj,List.zipWith_cons_cons,this]
  rfl
theorem Cz{α β:Type}{F:α->β->Prop}:∀ {l₁:!α} {l₂:!β},Paired F l₁ l₂->∀ x∈l₁.zip l₂,F x.1 x.2
 | _,_,.nil,x,h=>by cases h
 | _,_,.cons r t,x,h=>by
  rcases Wu.mp h with rfl | h
  .exact r
  .exact Cz t x h
theorem Ku{r:Int}(h0:0<=r)(h1:r < 2):∃ w:Int,jF [D.int 1,D.int (-1)] r=some (.int w)/\(w=1\/w=-1):=by
 have:r=0\/r=1:=by cbv
 rcases this with rfl | rfl
 .exact#[1,U,.inl U]
 .exact#[-1,U,.inr U]
theorem O2{d l:AC}(fi:C4 P w K mg base aR bp 1 (cQ K (bg d l) (gK d))){n lv:Nat}(VZ:C4 P w K mg base aR gk lv (cQ K (bg d l) (UD d n)))(F:Own K mg eX)(T:Txt K mg)(Q4:2<=lv):C4 P w K mg base aR eX (lv+1) (cQ K (bg d l) (U3 d n)):=by
 show F.d (nos:=2) aG (λds R h=>?_) λf bh A outer s H E M hr=>#[_,(ag (sN 0 3 aG.nd (aP af))
 (ag (sF (CG U T.zip (ae (d7 (a9 (aQ hr) (DE.pe (vd 1)) (DE.pe ay) (λ_ _=>rfl))) (ae (ax hr VZ (ae (vd 0) (ae (vd 1) (ae (vd 2) af)))) af))) (bb (m:=2) U (aq (gN 4 aG.nd) (aq (kc (eU (i:=5) aG.nd U (Or.inr U)) ()) ba)))
 (ag (fS (n:=1000) (vd 4) (bb (m:=4) U (aq (gN 6 aG.nd) (aq (gN 7 aG.nd) (aq (gN 8 aG.nd) (aq (gN 9 aG.nd) ba))))))
 (ag (sS 10 aG.nd (ou (DN.de (aP (ae aj (ae (dc (d:=.int (-1)) tQ U) af)))) (ax hr fi (ae (vd 0) (ae aj af)))))
 (ag (sN 1 11 aG.nd (aP af))
 (ag (sF (aW (vd 9)) (bb (m:=3) U (aq (kc (eU (i:=12) aG.nd U (Or.inr U)) ()) (aq (gN 13 aG.nd) (aq (gN 14 aG.nd) ba))))
 (ag (sS 15 aG.nd (DN.de (GB (DN.de (nC ["_law_c","_law_fields"] [5,12] (aW (vd 8)) (λ_ _ _ _=>(bb (m:=2) U (aq (gM 0 ["_law_c","_law_fields","_law_cells_here","_law_f"]) (aq (gM 1 ["_law_c","_law_fields","_law_cells_here","_law_f"]) ba)))) (λ_ _ _ _=>gB (wI (aQ hr) (aH (ae (vd 0) (ae (vd 3) af))) (vd 2)))
 (λ_ _ _ _=>(aH (ae (vd 0) (ae (d7 (a9 (aQ hr) (DE.pe (vd 2)) (DE.pe (aH (ae (vd 0) (ae (vd 3) af)))) (λ_ _=>rfl))) af)))))) (vd 10))))
 (au (yn 11 (ae (aH (ae (vd 12) (ae (vd 13) (ae (vd 14) (ae (iS T.tuple (ae (vd 15) af)) af))))) af)))))
 (ag (bH (aJ cw eG (vd 6) ay (aF _))
 (ag (sN 1 11 aG.nd (aP af))
 (au (sF (aW (vd 8)) (bb (m:=2) U (aq (kc (eU (i:=16) aG.nd U (Or.inr U)) ()) (aq (gN 17 aG.nd) ba)))
 (ag (sS 15 aG.nd (DN.de (GB (DN.de (nC ["_law_f","_law_params","_law_result"] [5,16] (aW (vd 9)) (λ_ _ _ _=>(bb (m:=3) U (aq (gM 0 ["_law_f","_law_params","_law_result","_law_cells_here","_law_c"]) (aq (gM 1 ["_law_f","_law_params","_law_result","_law_cells_here","_law_c"]) (aq (gM 2 ["_law_f","_law_params","_law_result","_law_cells_here","_law_c"]) ba))))) (λ_ _ _ _=>gB (wI (aQ hr) (aH (ae (vd 4) (ae (vd 0) af))) (vd 3)))
 (λ_ _ _ _=>(aH (ae (vd 0) (ae (d7 (a9 (aQ hr) (DE.pe (vd 3)) (DE.pe (aH (ae (vd 4) (ae (vd 0) af)))) (λ_ _=>rfl))) af)))))) (vd 10))))
 (au (yn 11 (ae (aH (ae (vd 16) (ae (vd 17) (ae (iS T.tuple (ae (vd 15) af)) af)))) af)))))))
 aK)
 (au (yn 3 (ae (aH (ae (vd 6) (ae (vd 7) (ae (ou (DN.de (aP (ae (vd 8) (ae (vd 9) af)))) (iR jo rM U T.int (by decide+kernel) (ae (kK cw eG (vd 6) ay (aF _)) af))) (ae (iS T.tuple (ae (xM (pv 11)) af)) af))))) af)))))))))
 (au (bM (iS T.tuple (ae (xM (pv 3)) af)))))),λds R h=>?_]
 .let(W,room,rfl,_):=h
  rfl
 .let(W,room,rfl,(aT,h0,h1,zD),q):=h;have hsz:=aI;show#[#[U,U],?_];show#[_,U,?_];show eS #[_,U,?_];show#[_,U,_,U,_,U,W,room,U,#[aT,h0,h1,zD],λvH sW=>?_];show#[_,_,_,_,U,#[U,U],?_];rw[Az sW];have hzl:(W.kinds.zip vH).map (·.1)=W.kinds:=Xc (by rw[fT sW];exact We _);have hzp:=Cz sW;have hzk:∀ x∈W.kinds.zip vH,x.1∈W.kinds:=λx hx=>(WO (a:=x.1) (b:=x.2) hx).1;generalize W.kinds.zip vH=zs0 at hzl hzp hzk;show dH (λxs s=>∃ (td:!(Kd×(!(!Key)×!D))) (ps:!PK) (x4 x5 x6 x7 x8 x9 hZ gF fZ gH vE vF zH zE:Sl),xs=td.map (λx=>D.tup [kh x.1,Fj x.2])/\(∀ x∈td,x∈zs0)/\ps.map PK.kd++td.map (·.1)=W.kinds/\(∀ p∈ps,fP W (n+2) p/\p.asked=p.kd.asked)/\(fZ.pl=true/\gH.pl=true/\vE.pl=true/\vF.pl=true/\zH.pl=true/\zE.pl=true)/\s=#[[.dat (.bG d),.dat (eL W),.dat (.int room),.own 0,x4,x5,x6,x7,x8,x9,hZ,gF,fZ,gH,vE,vF,zH,zE],[some (.lst (ps.map eZ)),none]]) ?_ ?_ _ _ #[zs0,[],.no,.no,.no,.no,.no,.no,.no,.no,.no,.no,.no,.no,.no,.no,U,λ_ h=>h,hzl,λ_ h=>(nomatch h),#[U,U,U,U,U,U],U]
  .rintro s ⟨td,ps,x4,x5,x6,x7,x8,x9,hZ,gF,fZ,gH,vE,vF,zH,zE,hx,_,hps,bx,_,rfl⟩;have htd:td=[]:=by
    cases td with
    | nil=>rfl
    | cons a b=>cases hx
   rw[htd,WR,Wf] at hps;show .inr #[_,_,U,U,_,.inl U,?_];exact q ps #[aT,hps,λp hp=>(bx p hp).1] λp hp=>(bx p hp).2
  .rintro x xs s N ⟨td,ps,x4,x5,x6,x7,x8,x9,hZ,gF,fZ,gH,vE,vF,zH,zE,hx,htd,hps,bx,⟨g12,g13,g14,g15,g16,g17⟩,rfl⟩ hN hE_;cases td with
   | nil=>cases hx
   | cons z td =>
   injection hx with e1 e2;subst e1 e2;let(kd,ks,vs):=z;have hz0:=htd _ Wg;have hkd:kd∈W.kinds:=hzk _ hz0;have hC:lR W kd (n+2) ks vs:=hzp _ hz0;show#[_,U,U,_,_,U,_,_,U,U,?_];show#[_,U,?_];show#[_,U,U,_,_,U,_,_,U,_,_,U,_,_,U,U,?_];show#[_,U,_,U,#[by decide,by decide],λr r0 r1=>?_];let(wy,ewy,hwy):=Ku r0 r1;show#[_,_,_,U,U,ewy,?_];show#[#[U,(show noRef 1 7 [fZ,gH,vE,vF,zH,zE]=true by rw[cq g12,cq g13,cq g14,cq g15,cq g16,cq g17];rfl)],?_];show#[_,U,_,.inr U,?_];let(_,k5,a5):=aT.kw kd hkd;show dH (λxs s=>∃ (dn td:!dE) (tabs:!(!(Str×Tm))) (fZ gH vE vF zH zE:Sl),kd.bK=dn++td/\xs=td.map cW/\tabs.length=dn.length/\(∀ x∈dn.zip tabs,oS (FA W kd (n+2) x.1) (n+2) x.2)/\(fZ.pl=true/\gH.pl=true/\vE.pl=true/\vF.pl=true/\zH.pl=true/\zE.pl=true)/\s=#[[.dat (.bG d),.dat (eL W),.dat (.int room),.own 0,.dat (kh kd),.dat (Fj (ks,vs)),.dat (.str (c9 kd.asked)),.dat (.str kd.name),.dat (.tup (kd.bz.map dB)),.dat (.tup (kd.bK.map cW)),.dat (.int wy),.own 1,fZ,gH,vE,vF,zH,zE],[some (.lst (ps.map eZ)),some (.lst ((dn.zip tabs).map fV))]]) ?_ ?_ _ _ #[[],kd.bK,[],fZ,gH,vE,vF,zH,zE,U,U,U,λ_ h=>(nomatch h),#[g12,g13,g14,g15,g16,g17],U]
   rotate_left
   .rintro x xs s N2 ⟨dn,td,tabs,y12,yQ,y14,y15,y16,y17,hdt,hx,htl,hro,⟨p12,p13,p14,p15,p16,p17⟩,rfl⟩ hN2 hE_2;cases td with
    | nil=>cases hx
    | cons b0 td =>
    injection hx with e1 e2;subst e1 e2;have hb0:b0∈kd.bK:=by rw[hdt];simp
    show#[_,U,U,_,_,U,_,_,U,_,_,U,U,?_];show#[_,U,_,.inr U,?_];show ie dB qJ (λr0 (r:Str×Tm)=>r.1=r0.name/\(λt=>Ty W (r0.fs++b0.ps) b0.res t/\t.tq (n+2)) r.2) _ (λr0 hr0 k N0 g1 g2=>?_) λsub rs hsub hprs=>?_
    .refine#[_,U,U,_,_,U,_,_,U,U,?_];show#[_,U,_,U,_,U,U,.inr #[_,_,_,[.inr r0.name,.inr b0.name],U,U,U,?_]];cases hl:br ks vs [.inr r0.name,.inr b0.name] with
     | none=>exact#[_,U,gA U (g2 _ U)]
     | some v =>
      let(t,rfl,ht1,ht2):=hC.at aT hkd hr0 hb0 hl;exact#[_,U,p9 U #[_,U,_,U,_,U,_,U,U,.inr #[_,_,_,[.inr r0.name,.inr b0.name],U,U,U,_,hl,g1 (r0.name,t) _ #[U,ht1,ht2] rfl]]]
    have hrw:oS (FA W kd (n+2) b0) (n+2) rs:=xw (F:=λ(r0:eB) t=>Ty W (r0.fs++b0.ps) b0.res t/\t.tq (n+2)) (jq aT hkd) k5 hsub hprs λr0 hr0 t ht=>#[(ji aT hkd hr0 hb0 ht.1).1,(ji aT hkd hr0 hb0 ht.1).2,ht.2];have hrw2:=hrw.perm (qY wy rs);rw[Wy];show#[_,U,_,wy,U,U,hwy,?_];rw[uK];have hdl:=congrArg List.length hdt;rw[Wa] at hdl;show#[1,_,U,U,U,?_];show#[_,U,_,U,_,U,_,U,_,.inl U,?_];show#[_,U,_,_,U,U,?_,?_]
    .rw[V8,WZ];cbv
    show hN2 _ #[dn++[b0],td,tabs++[k9 wy rs],.dat (.str b0.name),.dat (bW b0.ps),.dat (.str b0.res),.dat (.lst ((k9 wy rs).map qJ)),y16,y17,by rw[hdt];simp,U,by rw[List.length_append,List.length_append,htl];rfl,λq hq=>?_,#[U,U,U,U,p16,p17],?_]
    .rw[lz htl] at hq;rcases WA.mp hq with hq | hq
     .exact hro q hq
     .rw[Wn.mp hq];exact hrw2
    .rw[lz htl,Wc]
     rfl
   .rintro s ⟨dn,td2,tabs,z12,z13,z14,z15,z16,z17,hdt,hx,htl,hro,⟨f12,f13,f14,f15,f16,f17⟩,rfl⟩;have htd2:td2=[]:=by
     cases td2 with
     | nil=>rfl
     | cons a b=>cases hx
    rw[htd2,Wf] at hdt;subst hdt;show#[_,U,#[U,U,U],_,U,?_];show bc (b':=kd.asked) (fW _) (λhask=>?_) λhask=>?_
    rotate_left
    .refine#[0,_,U,U,U,?_];show#[_,U,_,U,?_];show#[_,U,_,U,_,U,#[U,U,U],?_];show .inr #[_,U,?_];rw[fW,hask];show#[_,_,_,U,U,U,?_];show .inr #[_,_,U,U,?_];show#[_,.inl U,?_];show#[_,U,_,_,U,U,?_,?_]
     .have:=congrArg List.length hps;rw[Wa,V8] at this;have:=aT.kl;rw[V8];cbv
     have hpk:fP W (n+2) #[false,kd,tabs]:=fP.VA aT hkd htl hro;show hN _ #[td,ps++[#[false,kd,tabs]],.dat (kh kd),.dat (Fj (ks,vs)),.dat (.str (c9 kd.asked)),.dat (.str kd.name),.dat (.tup (kd.bz.map dB)),.dat (.tup (kd.bK.map cW)),.dat (.int wy),.dat (D.lst ((kd.bK.zip tabs).map fV)),(iJ 1 (D.lst ((kd.bK.zip tabs).map fV)) z12),(iJ 1 (D.lst ((kd.bK.zip tabs).map fV)) z13),(iJ 1 (D.lst ((kd.bK.zip tabs).map fV)) z14),(iJ 1 (D.lst ((kd.bK.zip tabs).map fV)) z15),(iJ 1 (D.lst ((kd.bK.zip tabs).map fV)) z16),(iJ 1 (D.lst ((kd.bK.zip tabs).map fV)) z17),U,λx hx=>htd x (List.mem_cons_of_mem _ hx),by rw[<- hps];simp,λp hp=>?_,#[b5 f12,b5 f13,b5 f14,b5 f15,b5 f16,b5 f17],?_]
     .rcases WA.mp hp with hp | hp
      .exact bx p hp
      .rw[Wn.mp hp];exact#[hpk,hask.symm]
     .rw[Wc];change _=DS.mk _ [some (D.lst (ps.map eZ++[D.tup [D.str (c9 false),D.str kd.name,LV #[false,kd,tabs],D.tup (dq #[false,kd,tabs])]])),none];rw[hask]
      rfl
    show#[#[U,(show noRef 1 7 [z12,z13,z14,z15,z16,z17]=true by rw[cq f12,cq f13,cq f14,cq f15,cq f16,cq f17];rfl)],?_];show#[_,U,_,.inr U,?_];show dH (λxs s=>∃ (dn td:!eB) (tabs:!(!(Str×Tm))) (fZ gH vE vF zH zE:Sl),kd.bz=dn++td/\xs=td.map dB/\tabs.length=dn.length/\(∀ x∈dn.zip tabs,oS (FM W kd (n+2) x.1) (n+2) x.2)/\(fZ.pl=true/\gH.pl=true/\vE.pl=true/\vF.pl=true/\zH.pl=true/\zE.pl=true)/\s=#[[.dat (.bG d),.dat (eL W),.dat (.int room),.own 0,.dat (kh kd),.dat (Fj (ks,vs)),.dat (.str (c9 kd.asked)),.dat (.str kd.name),.dat (.tup (kd.bz.map dB)),.dat (.tup (kd.bK.map cW)),.dat (.int wy),.own 1,fZ,gH,vE,vF,zH,zE],[some (.lst (ps.map eZ)),some (.lst ((dn.zip tabs).map f9))]]) ?_ ?_ _ _ #[[],kd.bz,[],z12,z13,z14,z15,z16,z17,U,U,U,λ_ h=>(nomatch h),#[f12,f13,f14,f15,f16,f17],U]
    rotate_left
    .rintro x xs s N2 ⟨dn,td,tabs,y12,yQ,y14,y15,y16,y17,hdt,hx,htl,hro,⟨p12,p13,p14,p15,p16,p17⟩,rfl⟩ hN2 hE_2;cases td with
     | nil=>cases hx
     | cons b0 td =>
     injection hx with e1 e2;subst e1 e2;have hb0:b0∈kd.bz:=by rw[hdt];simp
     show#[_,U,U,_,_,U,_,_,U,U,?_];show#[_,U,_,.inr U,?_];show ie cW qJ (λr0 (r:Str×Tm)=>r.1=r0.name/\(λt=>Ty W (b0.fs++r0.ps) r0.res t/\t.tq (n+2)) r.2) _ (λr0 hr0 k N0 g1 g2=>?_) λsub rs hsub hprs=>?_
     .refine#[_,U,U,_,_,U,_,_,U,_,_,U,U,?_];show#[_,U,_,U,_,U,U,.inr #[_,_,_,[.inr b0.name,.inr r0.name],U,U,U,?_]];cases hl:br ks vs [.inr b0.name,.inr r0.name] with
      | none=>exact#[_,U,gA U (g2 _ U)]
      | some v =>
       let(t,rfl,ht1,ht2):=hC.at aT hkd hb0 hr0 hl;exact#[_,U,p9 U #[_,U,_,U,_,U,_,U,U,.inr #[_,_,_,[.inr b0.name,.inr r0.name],U,U,U,_,hl,g1 (r0.name,t) _ #[U,ht1,ht2] rfl]]]
     have hrw:oS (FM W kd (n+2) b0) (n+2) rs:=xw (F:=λ(r0:dE) t=>Ty W (b0.fs++r0.ps) r0.res t/\t.tq (n+2)) (jz aT hkd) a5 hsub hprs λr0 hr0 t ht=>#[(ji aT hkd hb0 hr0 ht.1).1,(ji aT hkd hb0 hr0 ht.1).2,ht.2];have hrw2:=hrw.perm (qY wy rs);rw[Wy];show#[_,U,_,wy,U,U,hwy,?_];rw[uK];have hdl:=congrArg List.length hdt;rw[Wa] at hdl;show#[1,_,U,U,U,?_];show#[_,U,_,U,_,U,_,.inl U,?_];show#[_,U,_,_,U,U,?_,?_]
     .rw[V8,WZ];cbv
     show hN2 _ #[dn++[b0],td,tabs++[k9 wy rs],y12,yQ,y14,.dat (.lst ((k9 wy rs).map qJ)),.dat (.str b0.name),.dat (bW b0.fs),by rw[hdt];simp,U,by rw[List.length_append,List.length_append,htl];rfl,λq hq=>?_,#[p12,p13,p14,U,U,U],?_]
     .rw[lz htl] at hq;rcases WA.mp hq with hq | hq
      .exact hro q hq
      .rw[Wn.mp hq];exact hrw2
     .rw[lz htl,Wc]
      rfl
    .rintro s ⟨dn,td3,tabs,z12,z13,z14,z15,z16,z17,hdt,hx,htl,hro,⟨f12,f13,f14,f15,f16,f17⟩,rfl⟩;have htd3:td3=[]:=by
      cases td3 with
      | nil=>rfl
      | cons a b=>cases hx
     rw[htd3,Wf] at hdt;subst hdt;show#[0,_,U,U,U,?_];show#[_,U,_,U,?_];show#[_,U,_,U,_,U,#[U,U,U],?_];show .inr #[_,U,?_];rw[fW,hask];show#[_,_,_,U,U,U,?_];show .inr #[_,_,U,U,?_];show#[_,.inl U,?_];show#[_,U,_,_,U,U,?_,?_]
     .have:=congrArg List.length hps;rw[Wa,V8] at this;have:=aT.kl;rw[V8];cbv
     have hpk:fP W (n+2) #[true,kd,tabs]:=fP.ofM aT hkd htl hro;show hN _ #[td,ps++[#[true,kd,tabs]],.dat (kh kd),.dat (Fj (ks,vs)),.dat (.str (c9 kd.asked)),.dat (.str kd.name),.dat (.tup (kd.bz.map dB)),.dat (.tup (kd.bK.map cW)),.dat (.int wy),.dat (D.lst ((kd.bz.zip tabs).map f9)),(iJ 1 (D.lst ((kd.bz.zip tabs).map f9)) z12),(iJ 1 (D.lst ((kd.bz.zip tabs).map f9)) z13),(iJ 1 (D.lst ((kd.bz.zip tabs).map f9)) z14),(iJ 1 (D.lst ((kd.bz.zip tabs).map f9)) z15),(iJ 1 (D.lst ((kd.bz.zip tabs).map f9)) z16),(iJ 1 (D.lst ((kd.bz.zip tabs).map f9)) z17),U,λx hx=>htd x (List.mem_cons_of_mem _ hx),by rw[<- hps];simp,λp hp=>?_,#[b5 f12,b5 f13,b5 f14,b5 f15,b5 f16,b5 f17],?_]
     .rcases WA.mp hp with hp | hp
      .exact bx p hp
      .rw[Wn.mp hp];exact#[hpk,hask.symm]
     .rw[Wc];change _=DS.mk _ [some (D.lst (ps.map eZ++[D.tup [D.str (c9 true),D.str kd.name,LV #[true,kd,tabs],D.tup (dq #[true,kd,tabs])]])),none];rw[hask]
      rfl
def SQ:X9:=λds R=>∃ (W:bf) (n:Nat) (p:PK),ds=[eZ p]/\fP W n p/\R (.tup (p.kd.bz.map dB))
theorem PY(F:Own K mg eY)(T:Txt K mg):aa0 P w K mg base eY 1 SQ:=by
 show F.d (nos:=0) sy (λds R h=>?_) λf bh A outer s H E M hr=>#[_,(ag (bH (aJ cw eG (cG (vd 0) aj) ay (aF _))
 (au (bM (cG (vd 0) aj)))
 aK)
 (au (bM (iS T.tuple (ae (DN.de (nC ["table"] [] (aW (cG (vd 0) aj)) (λ_ _ _ _=>(gM 0 ["table"])) (λ_ _ _ _=>cF)
 (λ_ _ _ _=>(aH (ae (cG (vd 0) aj) (ae (cG (vd 0) aj) af)))))) af))))),λds R h=>?_]
 .let(W,n,p,rfl,_):=h
  rfl
 .let(W,n,(b,kd,ts),rfl,ok,q):=h;have tl:=ok.tl;show#[_,U,_,_,_,U,U,U,#[U,U,U],_,U,?_];cases b with
  | false=>exact p9 (eg false) #[_,U,_,_,_,U,U,U,q]
  | true =>
   show gA (eg true) ?_;show#[_,U,_,_,_,U,U,U,_,.inr U,?_];show bo f9 (λx=>dB x.1) _ (λx hx k hk=>#[_,U,_,_,_,U,U,U,_,U,_,_,_,U,U,U,hk _ U]) ?_;show#[_,.inl U,?_];rw[Wy,uv tl];exact q
theorem pI{l:!dE}{ts:!(!(Str×Tm))}(h:ts.length=l.length):(l.zip ts).map (λx=>cW x.1)=l.map cW:=by
 rw[show (λx:dE×!(Str×Tm)=>cW x.1)=cW∘Prod.fst from U,<- Wo,Xc (by cbv)]
def TR:X9:=λds R=>∃ (W:bf) (n:Nat) (p:PK),ds=[eZ p]/\fP W n p/\R (.tup (p.kd.bK.map cW))
theorem Pj(F:Own K mg fc)(T:Txt K mg):aa0 P w K mg base fc 1 TR:=by
 show F.d (nos:=0) tU (λds R h=>?_) λf bh A outer s H E M hr=>#[_,(ag (bH (aJ cw eG (cG (vd 0) aj) ay (aF _))
 (au (bM (cG (vd 0) aj)))
 aK)
 (au (bM (iS T.tuple (ae (DN.de (nC ["function"] [] (aW (cG (vd 0) aj)) (λ_ _ _ _=>(gM 0 ["function"])) (λ_ _ _ _=>cF)
 (λ_ _ _ _=>(aH (ae (cG (vd 0) aj) (ae (cG (vd 0) aj) (ae (cG (vd 0) aj) af))))))) af))))),λds R h=>?_]
 .let(W,n,p,rfl,_):=h
  rfl
 .let(W,n,(b,kd,ts),rfl,ok,q):=h;have tl:=ok.tl;show#[_,U,_,_,_,U,U,U,#[U,U,U],_,U,?_];cases b with
  | true=>exact p9 (fW true) #[_,U,_,_,_,U,U,U,q]
  | false =>
   show gA (fW false) ?_;show#[_,U,_,_,_,U,U,U,_,.inr U,?_];show bo fV (λx=>cW x.1) _ (λx hx k hk=>#[_,U,_,_,_,U,U,U,_,U,_,_,_,U,U,U,_,U,_,_,_,U,U,U,hk _ U]) ?_;show#[_,.inl U,?_];rw[Wy,pI tl];exact q
def l0:Nat->!PK->!(Nat×PK)
 | _,[]=>[]
 | r,k::ps=>(r,k)::l0 (r+1+(dq k).length) ps
def qL(ps:!PK):Nat:=(ps.map λk=>1+(dq k).length).sum
theorem vp:∀ (a:!PK) (k:PK) (r:Nat),l0 r (a++[k])=l0 r a++[(r+qL a,k)]
 | [],k,r=>by simp[l0,qL]
 | b::a,k,r=>by
  rw[List.cons_append,l0,vp a k,l0,List.cons_append,show qL (b::a)=1+(dq b).length+qL a by simp[qL],show r+1+(dq b).length+qL a=r+(1+(dq b).length+qL a) by cbv]
theorem rV(r:Nat)(ps:!PK):(l0 r ps).length=ps.length:=by
 induction ps generalizing r with
 | nil=>rfl
 | cons k ps ih=>rw[l0,Wi,ih,Wi]
theorem nN{r:Nat}{ps:!PK}{x:Nat×PK}(h:x∈l0 r ps):x.2∈ps:=by
 induction ps generalizing r with
 | nil=>cases h
 | cons k ps ih =>
  rcases Wu.mp h with rfl | h
  .exact Wg
  .exact Wd _ (ih h)
theorem A5(a:!PK)(k:PK):qL (a++[k])=qL a+1+(dq k).length:=by simp[qL];cbv
def P8(p:Nat×PK):D:=.tup [.int (p.1:Nat),eZ p.2]
def Rf:X9:=λds R=>∃ (W:bf) (n:Nat) (ps:!PK),ds=[.tup (ps.map eZ)]/\zF W n ps/\R (.lst ((l0 0 ps).map P8))
theorem zF.len{W:bf}{n:Nat}{ps:!PK}(h:zF W n ps):ps.length<=5:=by
 have:=h.aT.kl;rw[<- h.kd,V8] at this;exact this
theorem zF.bl{W:bf}{n:Nat}{ps:!PK}(h:zF W n ps){p:PK}(hp:p∈ps):(dq p).length<=5:=by
 let(_,k5,a5):=h.aT.kw p.kd (h.mem hp);unfold dq;split
 .rw[V8,WZ];cbv
 .rw[V8,WZ];cbv
theorem Nq(F:Own K mg bV)(T:Txt K mg):aa1 P w K mg base bV 1 Rf:=by
 show F.n (nos:=1) cf (λds R h=>?_) λf bh A outer s H E M hr=>#[_,(ag (sN 0 1 cf.nd (aP af))
 (ag (sS 2 cf.nd aj)
 (ag (sF (aW (vd 0)) (gN 3 cf.nd)
 (ag (yn 1 (ae (aH (ae (vd 2) (ae (vd 3) af))) af))
 (au (sS 2 cf.nd (cM dg ik (cM dg ik (vd 2) aj) (fE T.len (ae (cG (vd 3) aj) af)))))))
 (au (BM (pv 1)))))),λds R h=>?_]
 .let(W,n,ps,rfl,_):=h
  rfl
 .let(W,n,ps,rfl,hps,q):=h;have hsz:=aI;right;show dM eZ (λdn s=>∃ x3:Sl,x3.pl=true/\s=#[[.dat (.tup (ps.map eZ)),.own 0,.dat (.int (qL dn:Nat)),x3],[some (.lst ((l0 0 dn).map P8))]]) ?_ ?_ _ #[.no,U,U]
  .rintro s ⟨x3,hp,rfl⟩;right;exact q
  .rintro dn k td s E e ⟨x3,hp,rfl⟩ hN hE;have hle:=congrArg List.length e;rw[Wa,Wi] at hle;have:=hps.len;right;show#[by rw[V8,rV];cbv,?_];right;show hN _ #[.dat (eZ k),U,?_];rw[vp,A5,Wc,Nat.zero_add]
   rfl
theorem yS{α:Type}(f:α->D)(n:Nat)(l:!α):og n (l.map f)=(l.zipIdx n).map λq=>.tup [.int (q.2:Nat),f q.1]:=by
 show List.ext_getElem? λi=>?_;unfold og;rw[X3,WL,WL,List.getElem?_zipIdx,V8];by_cases h:i < l.length
 .rw[List.getElem?_range h,Wq h]
  rfl
 .rw[XB (by rw[W8];cbv),XB (Nat.le_of_not_lt h)]
  rfl
theorem zR{r:Nat}{ps:!PK}{x:Nat×PK}(h:x∈l0 r ps):x.1<=r+qL ps:=by
 induction ps generalizing r with
 | nil=>cases h
 | cons k ps ih =>
  have e:qL (k::ps)=1+(dq k).length+qL ps:=by simp[qL]
  rcases Wu.mp h with rfl | h
  .exact X1 _ _
  .have:=ih h;cbv
theorem fG{α β:Type}{f:α->!β}{m:Nat}:∀ {l:!α} {n:Nat},l.length<=n->(∀ x∈l,(f x).length<=m)->(l.flatMap f).length<=n * m
 | [],n,h,_=>WH _
 | x::l,n,h,hx=>by
  obtain⟨n',rfl⟩:∃ n',n=n'+1:=#[n - 1,by rw[Wi] at h;cbv];have h1:=fG (l:=l) (n:=n') (by rw[Wi] at h;cbv) λy hy=>hx y (Wd _ hy);have h2:=hx x Wg;rw[Wv,Wa,Nat.succ_mul];cbv
theorem BE{W:bf}{n:Nat}{ps:!PK}(h:zF W n ps):qL ps<=30:=by
 have h1:∀ l:!PK,(∀ k∈l,(dq k).length<=5)->qL l<=l.length * 6:=λl=>by
  induction l with
  | nil=>exact λ_=>We _
  | cons k l ih =>
   intro hl;have e:qL (k::l)=1+(dq k).length+qL l:=by simp[qL]
   have:=ih λx hx=>hl x (Wd _ hx);have:=hl k Wg;rw[e,Wi,Nat.succ_mul];cbv
 have:=h1 ps λp hp=>h.bl hp;have:=h.len;cbv
def tu(p:Nat×PK):!(Nat×PK×D):=((dq p.2).zipIdx (p.1+1)).map λq=>(q.2,p.2,q.1)
def Na(x:Nat×PK×D):D:=.tup [.int (x.1:Nat),eZ x.2.1,x.2.2]
def Sy:X9:=λds R=>∃ (W:bf) (n:Nat) (ps:!PK),ds=[.tup (ps.map eZ)]/\zF W n ps/\R (.lst (((l0 0 ps).flatMap tu).map Na))
theorem Ms(NR:aa1 P w K mg base bV 1 Rf)(F:Own K mg cp)(T:Txt K mg):aa1 P w K mg base cp 2 Sy:=by
 show F.n (nos:=1) bC (λds R h=>?_) λf bh A outer s H E M hr=>#[_,(ag (sN 0 1 bC.nd (aP af))
 (ag (sF (aW (DN.de (iY hr NR (ae (vd 0) af)))) (bb (m:=2) U (aq (gN 2 bC.nd) (aq (gN 3 bC.nd) ba)))
 (au (sF (Mj U T.enumerate (ae (cG (vd 3) aj) af) (cM dg ik (vd 2) aj)) (bb (m:=2) U (aq (gN 4 bC.nd) (aq (gN 5 bC.nd) ba)))
 (au (yn 1 (ae (aH (ae (vd 4) (ae (vd 3) (ae (vd 5) af)))) af))))))
 (au (BM (pv 1))))),λds R h=>?_]
 .let(W,n,ps,rfl,_):=h
  rfl
 .let(W,n,ps,rfl,hps,q):=h;have hsz:=aI;have h30:=BE hps;right;show#[hps,?_];right;show dM P8 (λdn s=>∃ x2 x3 x4 x5:Sl,(x2.pl=true/\x3.pl=true/\x4.pl=true/\x5.pl=true)/\s=#[[.dat (.tup (ps.map eZ)),.own 0,x2,x3,x4,x5],[some (.lst ((dn.flatMap tu).map Na))]]) ?_ ?_ _ #[.no,.no,.no,.no,#[U,U,U,U],U]
  .rintro s ⟨x2,x3,x4,x5,hp,rfl⟩;right;exact q
  .rintro dn p td s E e ⟨x2,x3,x4,x5,⟨h2,h3,h4,h5⟩,rfl⟩ hN hE;let(r,k):=p;have hm:(r,k)∈l0 0 ps:=by rw[e];simp
   have hr:=zR hm;have hkl:(dq k).length<=5:=hps.bl (nN hm);have hdn:(dn.flatMap tu).length<=5 * 5:=fG (by have:=congrArg List.length e;rw[rV,Wa,Wi] at this;have:=hps.len;cbv) λx hx=>by
    change (((dq x.2).zipIdx _).map _).length<=5;rw[V8,List.length_zipIdx];exact hps.bl (nN (show x∈l0 0 ps by rw[e];simp[hx]))
   right;show#[by change ((r+1:Nat):Int) < 2 ^ 63;cbv,?_];rw[show dq k=(dq k).map id from (List.map_id _).symm,yS];show dM (λq:D×Nat=>D.tup [.int (q.2:Nat),q.1]) (λdn2 s=>∃ x4 x5:Sl,(x4.pl=true/\x5.pl=true)/\s=#[[.dat (.tup (ps.map eZ)),.own 0,.dat (.int (r:Nat)),.dat (eZ k),x4,x5],[some (.lst ((dn.flatMap tu++dn2.map λq=>(q.2,k,q.1)).map Na))]]) ?_ ?_ _ #[x4,x5,#[h4,h5],by rw[WR,Wf];rfl]
   .rintro s ⟨x4,x5,hp,rfl⟩;show hN _ #[.dat (.int (r:Nat)),.dat (eZ k),x4,x5,#[U,U,hp.1,hp.2],?_];rw[WE,Wv,WV,Wf]
    rfl
   .rintro dn2 t td2 s E2 e2 ⟨x4,x5,⟨g4,g5⟩,rfl⟩ hN2 hE2;have Ex:=congrArg List.length e2;rw[List.length_zipIdx,Wa,Wi] at Ex;have Ex:(dq k).length=dn2.length+(td2.length+1):=Ex;right;show#[by rw[V8,Wa,V8];cbv,?_];show hN2 _ #[.dat (.int (t.2:Nat)),.dat t.1,#[U,U],?_];rw[Wc (l₁:=dn2),<- WB,Wc (l₂:=[t].map _)]
    rfl
abbrev fO:Ev:=inClass (top 11) 0
theorem wX:av ["self","heads","row","tables_let"] ["self","heads","row","tables_let"] (ai fO):=eF
abbrev fN:Ev:=inClass (top 11) 2
abbrev bX:D3:=("plan",fN,["self","tasks"])
theorem wO:av ["self","tasks"] ["self","tasks"] (ai fN):=eF
abbrev cE:Ev:=inClass (top 11) 3
abbrev bw:D3:=("take_kind",cE,["self"])
theorem m9:av ["self"] ["self"] (ai cE):=eF
abbrev cL:Ev:=inClass (top 11) 4
abbrev bZ:D3:=("tell_kind",cL,["self","kind"])
theorem nA:av ["self","kind"] ["self","kind"] (ai cL):=eF
abbrev fK:Ev:=inClass (top 10) 0
theorem d4:av ["self","program","kind","maker","fields","asker","params","result"] ["self","program"] (ai fK):=eF
abbrev cc:Ev:=inClass (top 10) 1
abbrev cT:D3:=("is_told_by",cc,["self","side","kind"])
theorem lS:av ["self","side","kind"] ["self","side","kind"] (ai cc):=eF
abbrev fH:Ev:=inClass (top 38) 0
theorem jS:av ["self","program","row","kind"] ["self","program"] (ai fH):=eF
abbrev cK:Ev:=inClass (top 38) 1
abbrev du:D3:=("look_kind",cK,["self","row","kind"])
theorem nB:av ["self","row","kind"] ["self","row","kind"] (ai cK):=eF
abbrev bY:Ev:=inClass (top 38) 2
abbrev cJ:D3:=("look_fields",bY,["self","row","fields"])
theorem cZ:av ["self","row","fields","ahead","name","kind"] ["self","row","fields"] (ai bY):=eF
abbrev cb:Ev:=inClass (top 38) 3
abbrev dU:D3:=("look_maker",cb,["self","row","maker"])
theorem lH:av ["self","row","maker"] ["self","row","maker"] (ai cb):=eF
abbrev b9:Ev:=inClass (top 38) 4
abbrev dS:D3:=("look_asker",b9,["self","row","asker"])
theorem lP:av ["self","row","asker"] ["self","row","asker"] (ai b9):=eF
abbrev gG:!Str:=["heads","text_row","tables_let","ahead","done"]
abbrev vG:!Str:=["known","makers_ahead","askers_ahead"]
structure nv(K:Frag)(C:AC):Prop where
 cls:sZ K C
 n0:cz K C "heads"
 n1:cz K C "text_row"
 n2:cz K C "tables_let"
 n3:cz K C "ahead"
 n4:cz K C "done"
structure qO(K:Frag)(C:AC):Prop where
 cls:sZ K C
 n0:cz K C "kinds"
 n1:cz K C "makers"
 n2:cz K C "askers"
structure JE(K:Frag)(C:AC):Prop where
 cls:sZ K C
 n0:cz K C "known"
 n1:cz K C "makers_ahead"
 n2:cz K C "askers_ahead"
def Lk(W:bf)(ps:!PK):Prop:=(∃ n,zF W n ps)/\∀ p∈ps,p.asked=p.kd.asked
def kW(B:AC)(W:bf)(ps:!PK):D:=.ob B qK [Rg ps,Bd (oY W.kinds),CU (nZ W.kinds)]
def qi(C:AC)(hd:D)(r:Int)(a b:AC)(st:!gp)(dn:!Str):!D:=[.ob C gG [hd,.int r,.bl true,.bG a,.bG b],.lst (st.reverse.map zC),.lst (dn.map .str)]
def AQ(C:AC):pU:=λrs ds cs R=>∃ (x a b:AC) (hd:D) (r:Int) (ts ah dn:!D),rs=[x,a,b]/\ds=[.bG x,.lst ts]/\cs=[.ob C gG [hd,.int r,.bl true,.bG a,.bG b],.lst ah,.lst dn]/\ts.length+ah.length<=100000/\R .bT [.ob C gG [hd,.int r,.bl true,.bG a,.bG b],.lst (ah++ts.reverse),.lst dn]
theorem et(C:AC)(hd:D)(r:Int)(a b:AC)(st ts:!gp)(dn:!Str):qi C hd r a b (ts++st) dn=[.ob C gG [hd,.int r,.bl true,.bG a,.bG b],.lst (st.reverse.map zC++(ts.map zC).reverse),.lst (dn.map .str)]:=by
 unfold qi;rw[List.reverse_append,Wc,List.map_reverse (l:=ts)]
theorem Np{C:AC}(F:gP K C "TermLook.plan" bX)(V:nv K C)(T:Txt K mg):gY P w K mg base C bX 1 (df K (AQ C)):=by
 show F.o (nos:=0) (n:=3) wO (λrs ds cs R h=>?_) λf bh A outer s H E M rs hr hrs=>#[_,(au (aU (GC 1 XS XT l9 Cg (bE 0 gG 3 V.cls V.n3 (vd 0)) (ae (DN.de (O7 (vd 1) tQ)) af)))),λds cs R h=>?_]
 .let(x,a,b,hd,r,ts,ah,dn,rfl,rfl,_):=h;exact#[U,U]
 .let(x,a,b,hd,r,ts,ah,dn,rfl,rfl,rfl,hl,q):=h;have hsz:=aI;right;show#[by rw[List.length_reverse];cbv,?_];exact#[_,U,q]
def IX(C:AC):pU:=λrs ds cs R=>∃ (x a b:AC) (hd:D) (r:Int) (st:!gp) (dn:!Str) (k:Str),rs=[x,a,b]/\ds=[.bG x]/\cs=qi C hd r a b st (dn++[k])/\R (.str k) (qi C hd r a b st dn)
theorem Nw{C:AC}(F:gP K C "TermLook.take_kind" bw)(V:nv K C)(T:Txt K mg):gY P w K mg base C bw 1 (df K (IX C)):=by
 show F.o (nos:=0) (n:=3) m9 (λrs ds cs R h=>?_) λf bh A outer s H E M rs hr hrs=>#[_,(au (AJ (AY 2 Xe Xf vX GH (bE 0 gG 4 V.cls V.n4 (vd 0))))),λds cs R h=>?_]
 .let(x,a,b,hd,r,st,dn,k,rfl,rfl,_):=h;exact#[U,U]
 .let(x,a,b,hd,r,st,dn,k,rfl,rfl,rfl,q):=h;show#[_,U,x,_,_,U,U,U,U,b,_,U,U,U,U,_,U,dn.map .str,.str k,by rw[Wc];rfl,U,?_];exact#[_,U,q]
def Lp(C:AC):pU:=λrs ds cs R=>∃ (x a b:AC) (hd:D) (r:Int) (st:!gp) (dn:!Str) (k:Str),rs=[x,a,b]/\ds=[.bG x,.str k]/\cs=qi C hd r a b st dn/\dn.length<=100000/\R .bT (qi C hd r a b st (dn++[k]))
theorem MV{C:AC}(F:gP K C "TermLook.tell_kind" bZ)(V:nv K C)(T:Txt K mg):gY P w K mg base C bZ 1 (df K (Lp C)):=by
 show F.o (nos:=0) (n:=3) nA (λrs ds cs R h=>?_) λf bh A outer s H E M rs hr hrs=>#[_,(au (aU (GC 2 PySem.F.slot_list_append PySem.F.type_list_append l5 GJ (bE 0 gG 4 V.cls V.n4 (vd 0)) (ae (vd 1) af)))),λds cs R h=>?_]
 .let(x,a,b,hd,r,st,dn,k,rfl,rfl,_):=h;exact#[U,U]
 .let(x,a,b,hd,r,st,dn,k,rfl,rfl,rfl,hl,q):=h;have hsz:=aI;right;show#[by rw[V8];cbv,?_];unfold qi at q;rw[Wc] at q;exact#[_,U,q]
theorem Lk.nd{W:bf}{ps:!PK}(h:Lk W ps):(ps.map λp=>p.kd.name).Nodup:=by
 let((n,h),_):=h;have:=h.aT.kn;rw[<- h.kd,Wo] at this;exact this
theorem Lk.aT{W:bf}{ps:!PK}(h:Lk W ps):dG W:=by
 let((n,h),_):=h;exact h.aT
theorem Lk.at{W:bf}{ps:!PK}(h:Lk W ps){kd:Kd}(hk:kd∈W.kinds):∃ p∈ps,p.kd=kd/\p.asked=kd.asked/\br (ps.map λp=>(Sum.inr p.kd.name:Key)) (ps.map eZ) (Sum.inr kd.name)=some (eZ p):=by
 let((n,h0),hs):=id h;rw[<- h0.kd] at hk;let(p,hp,rfl):=Wk.mp hk;exact#[p,hp,U,hs p hp,Hi (f:=λp:PK=>p.kd.name) h.nd p hp]
theorem Lk.mk{W:bf}{ps:!PK}(h:Lk W ps){kd:Kd}(hk:kd∈W.kinds){m:eB}(hm:m∈kd.bz):br ((oY W.kinds).map λx=>(Sum.inr x.2.name:Key)) ((oY W.kinds).map Qx) (Sum.inr m.name)=some (Qx (kd,m)):=Hi (f:=λx:Kd×eB=>x.2.name) (by rw[qr];exact h.aT.mn) (kd,m) (GX hk hm)
theorem Lk.ak{W:bf}{ps:!PK}(h:Lk W ps){kd:Kd}(hk:kd∈W.kinds){m:dE}(hm:m∈kd.bK):br ((nZ W.kinds).map λx=>(Sum.inr x.2.name:Key)) ((nZ W.kinds).map N4) (Sum.inr m.name)=some (N4 (kd,m)):=Hi (f:=λx:Kd×dE=>x.2.name) (by rw[qw];exact h.aT.an) (kd,m) (KW hk hm)
def Sa(B:AC):X9:=λds R=>∃ (W:bf) (ps:!PK) (kd:Kd),ds=[kW B W ps,.str (c9 kd.asked),.str kd.name]/\(Lk W ps/\kd∈W.kinds)/\R (.bl true)
theorem PH{B:AC}(F:gP K B "Heads.is_told_by" cT)(Uh:qO K B)(T:Txt K mg):gY P w K mg base B cT 1 (cQ K .no (Sa B)):=by
 show F.d (nos:=0) lS (λds R h=>?_) λf bh A outer s H E M hr=>#[_,(au (bM (CW (Bk (aQ hr) (vd 2) (gD qK 0 Uh.cls Uh.n0 (vd 0))) (Gn (kK cw eG (cG (d7 (a9 (aQ hr) (DE.pe (gD qK 0 Uh.cls Uh.n0 (vd 0))) (DE.pe (vd 2)) (λ_ _=>rfl))) aj) (vd 1) (aF _)))))),λds R h=>?_]
 .let(W,ps,kd,rfl,_):=h
  rfl
 .let(W,ps,kd,rfl,(lk,hk),q):=h;let(p,hp,e1,e2,hl):=lk.at hk;right;rw[hl];simp only[Option.isSome_some,↓reduceIte,Bool.false_eq_true];right;show#[_,hl,?_];right;rw[e2,decide_eq_true U];exact q
def Ho(kd:Kd)(r:Str):yI:=kd.bz.map λm=>(m.name,(m.fs,r))
def Hh(kd:Kd):yI:=kd.bK.map λa=>(a.name,(a.ps,a.res))
def Rv:X9:=λds R=>∃ (W:bf) (n:Nat) (p:PK) (r:Str),ds=[eZ p,.str r]/\(fP W n p/\dG W/\p.kd∈W.kinds)/\R (qf (Ho p.kd r))
theorem Oq(GMI:aa0 P w K mg base eY 1 SQ)(F:Own K mg cS)(T:Txt K mg):aa0 P w K mg base cS 2 Rv:=by
 show F.d (nos:=0) lO (λds R h=>?_) λf bh A outer s H E M hr=>#[_,(au (bM (DN.de (dP (jR U) n5 U T.dict (by decide+kernel) (ae (DN.de (nC ["maker","fields"] [1] (aW (bu hr GMI (ae (vd 0) af))) (λ_ _ _ _=>(bb (m:=2) U (aq (gM 0 ["maker","fields","result"]) (aq (gM 1 ["maker","fields","result"]) ba)))) (λ_ _ _ _=>cF)
 (λ_ _ _ _=>(aH (ae (vd 0) (ae (aH (ae (vd 1) (ae (vd 2) af))) af)))))) af))))),λds R h=>?_]
 .let(W,n,p,r,rfl,_):=h
  rfl
 .let(W,n,p,r,rfl,(ok,aT,hk),q):=h;have hsz:=aI;let(_,k5,a5):=aT.kw p.kd hk;show#[_,U,W,n,p,U,ok,_,.inr U,?_];show bo dB (λm=>D.tup [.str m.name,.tup [bW m.fs,.str r]]) _ (λm hm k hk=>?_) ?_
  .right;exact hk _ U
  rw[Wy];show#[p.kd.bz.map λm=>(m.name,.tup [bW m.fs,.str r]),by rw[Wo];rfl,by rw[Wo];exact jq aT hk,by rw[V8];cbv,?_];rw[show qf (Ho p.kd r)=.iI ((p.kd.bz.map λm=>(m.name,D.tup [bW m.fs,.str r])).map λq=>Sum.inr q.1) ((p.kd.bz.map λm=>(m.name,D.tup [bW m.fs,.str r])).map (·.2)) by unfold qf Ho;simp only[List.map_map];rfl] at q;exact q
def Rt:X9:=λds R=>∃ (W:bf) (n:Nat) (p:PK),ds=[eZ p]/\(fP W n p/\dG W/\p.kd∈W.kinds)/\R (qf (Hh p.kd))
theorem Pu(SI:aa0 P w K mg base fc 1 TR)(F:Own K mg cU)(T:Txt K mg):aa0 P w K mg base cU 2 Rt:=by
 show F.d (nos:=0) lW (λds R h=>?_) λf bh A outer s H E M hr=>#[_,(au (bM (DN.de (dP (jR U) n5 U T.dict (by decide+kernel) (ae (DN.de (nC ["asker","params","result"] [] (aW (bu hr SI (ae (vd 0) af))) (λ_ _ _ _=>(bb (m:=3) U (aq (gM 0 ["asker","params","result"]) (aq (gM 1 ["asker","params","result"]) (aq (gM 2 ["asker","params","result"]) ba))))) (λ_ _ _ _=>cF)
 (λ_ _ _ _=>(aH (ae (vd 0) (ae (aH (ae (vd 1) (ae (vd 2) af))) af)))))) af))))),λds R h=>?_]
 .let(W,n,p,rfl,_):=h
  rfl
 .let(W,n,p,rfl,(ok,aT,hk),q):=h;have hsz:=aI;let(_,k5,a5):=aT.kw p.kd hk;show#[_,U,W,n,p,U,ok,_,.inr U,?_];show bo cW (λm=>D.tup [.str m.name,.tup [bW m.ps,.str m.res]]) _ (λm hm k hk=>?_) ?_
  .right;exact hk _ U
  rw[Wy];show#[p.kd.bK.map λm=>(m.name,.tup [bW m.ps,.str m.res]),by rw[Wo];rfl,by rw[Wo];exact jz aT hk,by rw[V8];cbv,?_];rw[show qf (Hh p.kd)=.iI ((p.kd.bK.map λm=>(m.name,D.tup [bW m.ps,.str m.res])).map λq=>Sum.inr q.1) ((p.kd.bK.map λm=>(m.name,D.tup [bW m.ps,.str m.res])).map (·.2)) by unfold qf Hh;simp only[List.map_map];rfl] at q;exact q
def Tn(C:AC):pU:=λrs ds cs R=>∃ (x a b:AC) (hd:D) (r:Int) (st:!gp) (dn:!Str) (fs:!(Str×Str)) (ts:!Tm) (sc:Sc) (k:Str),rs=[x,a,b]/\ds=[.bG x,bW fs,.tup (toDs ts),qu sc,.str k]/\cs=qi C hd r a b st dn/\(ts.length=fs.length/\fs.length<=1000/\st.length<=10000)/\R .bT (qi C hd r a b (hand sc (fs.map (·.2)) ts++.tell k::st) dn)
theorem Iy(fs:!(Str×Str))(ts:!Tm):j7 (fs.map pairD) (toDs ts)=(fs.zip ts).map λx=>D.tup [pairD x.1,toD x.2]:=by
 unfold j7;rw[toDs_map,List.zip_eq_zipWith,List.map_zipWith,List.zipWith_map]
theorem Aj{α β:Type}{f:α->!β}(h:∀ x,(f x).length=2):∀ l:!α,(l.flatMap f).length=2 * l.length
 | []=>rfl
 | x::l=>by rw[Wv,Wa,h,Aj h l,Wi];cbv
def Ri(sc:Sc)(x:(Str×Str)×Tm):!gp:=[.term x.2 sc,.want x.1.2]
theorem LN{C:AC}(tF:gY P w K mg base C bX 1 (df K (AQ C)))(F:Own K mg dN)(V:nv K C)(T:Txt K mg):C4 P w K mg base aR dN 2 (df K (Tn C)):=by
 show F.o (nos:=1) (n:=3) dw (λrs ds cs R h=>?_) λf bh A outer s H E M rs hr hrs=>#[_,(ag (bH (aJ oF vJ (fE T.len (ae (vd 2) af)) (fE T.len (ae (vd 1) af)) (aF _))
 aN
 aK)
 (ag (sL (k:=3) (by cbv) 5 dw.nd (aP af))
 (ag (sF (CG U T.zip (ae (vd 1) (ae (vd 2) af))) (bb (m:=2) U (aq (bb (m:=2) U (aq (gN 6 dw.nd) (aq (gN 7 dw.nd) ba))) (aq (gN 8 dw.nd) ba)))
 (au (aU (yB XS XT l9 Cg (pv 5) (ae (DN.de (aP (ae (aH (ae ay (ae (vd 8) (ae (vd 3) af)))) (ae (aH (ae ay (ae (vd 7) af))) af)))) af)))))
 (au (aU (b7 0 gG V.cls hr tF (vd 0) (ae (DN.de (f7 d3 dY (xM (pv 5)) (DN.de (aP (ae (aH (ae ay (ae (vd 4) af))) af))))) af))))))),λds cs R h=>?_]
 .let(x,a,b,hd,r,st,dn,fs,ts,sc,k,rfl,rfl,_):=h;exact#[U,U]
 .let(x,a,b,hd,r,st,dn,fs,ts,sc,k,rfl,rfl,rfl,(hl,hf,gn),q):=h;have hsz:=aI;have e1:(toDs ts).length=(fs.map pairD).length:=by rw[toDs_len,V8];exact hl
  right;show gA (by rw[e1];simp) ?_;right;rw[Iy];show dM (λx:(Str×Str)×Tm=>D.tup [pairD x.1,toD x.2]) (λdz s=>∃ y6 y7 y8:Sl,(y6.pl=true/\y7.pl=true/\y8.pl=true)/\s=#[[.dat (.bG x),.dat (bW fs),.dat (.tup (toDs ts)),.dat (qu sc),.dat (.str k),.own 3,y6,y7,y8],(qi C hd r a b st dn).map some++[some (.lst ((dz.flatMap (Ri sc)).map zC))]]) ?_ ?_ _ #[.no,.no,.no,#[U,U,U],U]
  .rintro s ⟨y6,y7,y8,hy,rfl⟩;have h2:=Aj (f:=Ri sc) (λ_=>rfl) (fs.zip ts);rw[WZ,hl,Nat.min_self] at h2;have e3:hand sc (fs.map (·.2)) ts++.tell k::st=((fs.zip ts).flatMap (Ri sc)++[.tell k])++st:=by rw[uS,WB];rfl
   rw[e3] at q;show#[_,U,x,_,U,U,U,.inr #[3,_,U,U,?_]];right;show#[by rw[V8,h2];change _+1<=_;cbv,?_];show#[_,U,x,a,b,hd,r,_,_,_,U,U,U,by rw[Wa,V8,V8,h2,List.length_reverse];change _+1+_<=_;cbv,?_];rw[et,Wc] at q;exact#[_,U,q]
  .rintro dz z td s E e ⟨y6,y7,y8,hy,rfl⟩ hN hE;have hdz:=Aj (f:=Ri sc) (λ_=>rfl) dz;have hle:=congrArg List.length e;rw[WZ,hl,Nat.min_self,Wa,Wi] at hle;right;show#[by rw[V8,hdz];change _+2<=_;cbv,?_];show hN _ #[.dat (.str z.1.1),.dat (.str z.1.2),.dat (toD z.2),#[U,U,U],?_];rw[WE,Wc]
   rfl
def TF(C:AC):pU:=λrs ds cs R=>∃ (x a b:AC) (hd:D) (r:Int) (st:!gp) (dn:!Str) (cl:yI) (hs:!(Str×!Str)) (ts:!Tm) (sc:Sc) (k:Str),rs=[x,a,b]/\ds=[.bG x,qf cl,.tup (cN hs (toDs ts)),qu sc,.str k]/\cs=qi C hd r a b st dn/\(hs.length=ts.length/\hs.length<=10000/\st.length<=10000)/\R .bT (qi C hd r a b (kG cl hs ts sc (List.range hs.length)++.tell k::st) dn)
theorem Nt{C:AC}(tF:gY P w K mg base C bX 1 (df K (AQ C)))(F:Own K mg fe)(V:nv K C)(T:Txt K mg):C4 P w K mg base aR fe 2 (df K (TF C)):=by
 show F.o (nos:=0) (n:=3) kA (λrs ds cs R h=>?_) λf bh A outer s H E M rs hr hrs=>#[_,(ag (mH (rm (lX (i:=5) kA.nd U U (ts:=["k"]) (us:=[1,2,3]) #[U,U,U,U,U,U] rfl (eE U T.range (ae (fE T.len (ae (vd 2) af)) af)) (λ_ _ _ _=>(gM 0 ["k","columns","rows","bound"])) (λ_ _ _ _=>cF)
 (λ_ _ _ _=>(aH (ae ay (ae (vd 1) (ae (vd 2) (ae (vd 0) (ae (vd 3) af))))))))))
 (au (aU (b7 0 gG V.cls hr tF (vd 0) (ae (DN.de (f7 d3 dY (vd 5) (DN.de (aP (ae (aH (ae ay (ae (vd 4) af))) af))))) af))))),λds cs R h=>?_]
 .let(x,a,b,hd,r,st,dn,cl,hs,ts,sc,k,rfl,rfl,_):=h;exact#[U,U]
 .let(x,a,b,hd,r,st,dn,cl,hs,ts,sc,k,rfl,rfl,rfl,(hl,hh,gn),q):=h;have hsz:=aI;have e1:(cN hs (toDs ts)).length=hs.length:=u4 (by rw[toDs_len];exact hl);right;show#[by rw[e1];cbv,?_];rw[fX,e1,Xh];show bo (λi:Nat=>D.int i) (λj=>zC (.row cl hs ts j sc)) _ (λj hj k hk=>?_) ?_
  .right;exact hk _ U
  rw[List.append_cons] at q;right;show#[by rw[Wy,V8,W8];change _+1<=_;cbv,?_];show#[_,U,x,a,b,hd,r,_,_,_,U,U,U,by rw[Wa,Wy,V8,W8,V8,List.length_reverse];change _+1+_<=_;cbv,?_];rw[et,Wc,kG,Wo] at q;exact#[_,U,q]
def Co(C B:AC)(i:Str):pU:=λrs ds cs R=>∃ (x a b:AC) (W:bf) (ps:!PK) (r:Int) (g:Str) (f:Fm) (ts:!Tm) (sc:Sc) (st:!gp) (dn:!Str),rs=[x,a,b]/\ds=[.bG x,toD (.node f ts),qu sc]/\cs=qi C (kW B W ps) r a b st dn/\(pF f=i/\Lk W ps/\go W g (.term (.node f ts) sc::st) dn/\dn.length+wL (.term (.node f ts) sc::st)<=10000)/\∀ oq Bx,nx W g (.term (.node f ts) sc) st dn oq Bx->R .bT (qi C (kW B W ps) r a b oq Bx)
theorem k6{f:Fm}{ts:!Tm}{sc:Sc}{st:!gp}{n:Nat}(h:n+wL (.term (.node f ts) sc::st)<=10000):n<=10000/\st.length<=10000/\24 * d9 ts<=10000:=by
 have:=vY st;rw[aZ,eW] at h;cbv
theorem Pb{C B:AC}(Ik:gY P w K mg base C bZ 1 (df K (Lp C)))(F:Own K mg i5)(V:nv K C)(Uh:qO K B)(T:Txt K mg):C4 P w K mg base aR i5 3 (df K (Co C B "name")):=by
 show F.o (nos:=0) (n:=3) tM (λrs ds cs R h=>?_) λf bh A outer s H E M rs hr hrs=>#[_,(ag (bH (iw (aQ hr) (cG (vd 1) aj) (vd 2))
 aN
 aK)
 (au (aU (b7 0 gG V.cls hr Ik (vd 0) (ae (d7 (a9 (aQ hr) (DE.pe (vd 2)) (DE.pe (cG (vd 1) aj)) (λ_ _=>rfl))) af))))),λds cs R h=>?_]
 .let(x,a,b,W,ps,r,g,f,ts,sc,st,dn,rfl,rfl,_):=h;exact#[U,U]
 .let(x,a,b,W,ps,r,g,f,ts,sc,st,dn,rfl,rfl,rfl,(hi,lk,hgo,hw),q):=h;let(y,rfl):=Fh hi;have hsz:=aI;let(hdn,gn,hsz2):=k6 hw;let(k,hk,hn,hx):=Md lk.aT hgo;have hl:br (sc.map λp=>(Sum.inr p.1:Key)) (sc.map λp=>D.str p.2) (Sum.inr y)=some (.str k):=Hi (f:=λp:Str×Str=>p.1) (h:=λp=>.str p.2) hn.1 (y,k) hk;right;rw[hl];show gA U ?_;right;show#[_,hl,?_];right;show#[by cbv,_,U,q _ _ hx]
theorem MH{C B:AC}(Ik:gY P w K mg base C bZ 1 (df K (Lp C)))(F:Own K mg j5)(V:nv K C)(Uh:qO K B)(T:Txt K mg):C4 P w K mg base aR j5 3 (df K (Co C B "num")):=by
 show F.o (nos:=0) (n:=3) vw (λrs ds cs R h=>?_) λf bh A outer s H E M rs hr hrs=>#[_,(au (aU (b7 0 gG V.cls hr Ik (vd 0) (ae ay af)))),λds cs R h=>?_]
 .let(x,a,b,W,ps,r,g,f,ts,sc,st,dn,rfl,rfl,_):=h;exact#[U,U]
 .let(x,a,b,W,ps,r,g,f,ts,sc,st,dn,rfl,rfl,rfl,(hi,lk,hgo,hw),q):=h;let(y,rfl):=Jo hi;have hsz:=aI;let(hdn,gn,hsz2):=k6 hw;have hx:=HE lk.aT hgo;right;show#[by cbv,_,U,q _ _ hx]
theorem O8{C B:AC}(tF:gY P w K mg base C bX 1 (df K (AQ C)))(F:Own K mg l7)(V:nv K C)(Uh:qO K B)(T:Txt K mg):C4 P w K mg base aR l7 3 (df K (Co C B "op")):=by
 show F.o (nos:=0) (n:=3) wY (λrs ds cs R h=>?_) λf bh A outer s H E M rs hr hrs=>#[_,(au (aU (b7 0 gG V.cls hr tF (vd 0) (ae (DN.de (aP (ae (aH (ae ay (ae (cG (vd 1) aj) (ae (vd 2) af)))) (ae (aH (ae ay (ae ay af))) (ae (aH (ae ay (ae (cG (vd 1) aj) (ae (vd 2) af)))) (ae (aH (ae ay (ae ay af))) (ae (aH (ae ay (ae ay af))) af))))))) af)))),λds cs R h=>?_]
 .let(x,a,b,W,ps,r,g,f,ts,sc,st,dn,rfl,rfl,_):=h;exact#[U,U]
 .let(x,a,b,W,ps,r,g,f,ts,sc,st,dn,rfl,rfl,rfl,(hi,lk,hgo,hw),q):=h;let(y,rfl):=Ox hi;have hsz:=aI;let(hdn,gn,hsz2):=k6 hw;let(t1,t2,rfl,hx):=MR lk.aT hgo;right;show#[by rw[List.length_map,List.length_reverse];simp only[List.length_cons,List.length_nil];cbv,_,U,?_];have q:=q _ _ hx;rw[et] at q;exact q
theorem MU{C B:AC}(tF:gY P w K mg base C bX 1 (df K (AQ C)))(F:Own K mg iN)(V:nv K C)(Uh:qO K B)(T:Txt K mg):C4 P w K mg base aR iN 3 (df K (Co C B "zero")):=by
 show F.o (nos:=0) (n:=3) t5 (λrs ds cs R h=>?_) λf bh A outer s H E M rs hr hrs=>#[_,(au (aU (b7 0 gG V.cls hr tF (vd 0) (ae (DN.de (aP (ae (aH (ae ay (ae (cG (vd 1) aj) (ae (vd 2) af)))) (ae (aH (ae ay (ae ay af))) (ae (aH (ae ay (ae (cG (vd 1) aj) (ae (vd 2) af)))) (ae (aH (ae ay (ae (cG (vd 1) aj) (ae (vd 2) af)))) (ae (aH (ae ay af)) af))))))) af)))),λds cs R h=>?_]
 .let(x,a,b,W,ps,r,g,f,ts,sc,st,dn,rfl,rfl,_):=h;exact#[U,U]
 .let(x,a,b,W,ps,r,g,f,ts,sc,st,dn,rfl,rfl,rfl,(hi,lk,hgo,hw),q):=h;obtain rfl:=Iu hi;have hsz:=aI;let(hdn,gn,hsz2):=k6 hw;let(t1,t2,t3,rfl,hx):=Kj lk.aT hgo;right;show#[by rw[List.length_map,List.length_reverse];simp only[List.length_cons,List.length_nil];cbv,_,U,?_];have q:=q _ _ hx;rw[et] at q;exact q
theorem Nk{C B:AC}(tF:gY P w K mg base C bX 1 (df K (AQ C)))(F:Own K mg jT)(V:nv K C)(Uh:qO K B)(T:Txt K mg):C4 P w K mg base aR jT 3 (df K (Co C B "let")):=by
 show F.o (nos:=0) (n:=3) uy (λrs ds cs R h=>?_) λf bh A outer s H E M rs hr hrs=>#[_,(au (aU (b7 0 gG V.cls hr tF (vd 0) (ae (DN.de (aP (ae (aH (ae ay (ae (cG (vd 1) aj) (ae (vd 2) af)))) (ae (aH (ae ay (ae (cG (vd 1) aj) (ae (cG (vd 1) aj) (ae (vd 2) af))))) af)))) af)))),λds cs R h=>?_]
 .let(x,a,b,W,ps,r,g,f,ts,sc,st,dn,rfl,rfl,_):=h;exact#[U,U]
 .let(x,a,b,W,ps,r,g,f,ts,sc,st,dn,rfl,rfl,rfl,(hi,lk,hgo,hw),q):=h;let(y,rfl):=Po hi;have hsz:=aI;let(hdn,gn,hsz2):=k6 hw;let(t1,t2,rfl,hx):=ME lk.aT hgo;right;show#[by rw[List.length_map,List.length_reverse];simp only[List.length_cons,List.length_nil];cbv,_,U,?_];have q:=q _ _ hx;rw[et] at q;exact q
theorem J8{C B:AC}(tF:gY P w K mg base C bX 1 (df K (AQ C)))(F:Own K mg j1)(V:nv K C)(Uh:qO K B)(T:Txt K mg):C4 P w K mg base aR j1 3 (df K (Co C B "ask")):=by
 show F.o (nos:=0) (n:=3) ve (λrs ds cs R h=>?_) λf bh A outer s H E M rs hr hrs=>#[_,(au (aU (b7 0 gG V.cls hr tF (vd 0) (ae (DN.de (aP (ae (aH (ae ay (ae (cG (vd 1) aj) (ae (vd 2) af)))) (ae (aH (ae ay (ae (cG (vd 1) aj) (ae (cG (vd 1) aj) (ae (vd 2) af))))) af)))) af)))),λds cs R h=>?_]
 .let(x,a,b,W,ps,r,g,f,ts,sc,st,dn,rfl,rfl,_):=h;exact#[U,U]
 .let(x,a,b,W,ps,r,g,f,ts,sc,st,dn,rfl,rfl,rfl,(hi,lk,hgo,hw),q):=h;let(y,rfl):=HS hi;have hsz:=aI;let(hdn,gn,hsz2):=k6 hw;let(t1,us,rfl,hx):=Hu lk.aT hgo;right;show#[by rw[List.length_map,List.length_reverse];simp only[List.length_cons,List.length_nil];cbv,_,U,?_];have q:=q _ _ hx;rw[et] at q;exact q
theorem Ih{C B:AC}(tF:gY P w K mg base C bX 1 (df K (AQ C)))(F:Own K mg iO)(V:nv K C)(Uh:qO K B)(T:Txt K mg):C4 P w K mg base aR iO 3 (df K (Co C B "case")):=by
 show F.o (nos:=0) (n:=3) sQ (λrs ds cs R h=>?_) λf bh A outer s H E M rs hr hrs=>#[_,(ag (bH (sJ (j2 (bE 0 gG 2 V.cls V.n2 (vd 0))))
 aN
 aK)
 (au (aU (b7 0 gG V.cls hr tF (vd 0) (ae (DN.de (aP (ae (aH (ae ay (ae (cG (vd 1) aj) (ae (vd 2) af)))) (ae (aH (ae ay (ae (cG (vd 1) aj) (ae (cG (vd 1) aj) (ae (vd 2) af))))) af)))) af))))),λds cs R h=>?_]
 .let(x,a,b,W,ps,r,g,f,ts,sc,st,dn,rfl,rfl,_):=h;exact#[U,U]
 .let(x,a,b,W,ps,r,g,f,ts,sc,st,dn,rfl,rfl,rfl,(hi,lk,hgo,hw),q):=h;let(y,hs,rfl):=HL hi;have hsz:=aI;let(hdn,gn,hsz2):=k6 hw;let(t1,us,rfl,hx):=GV lk.aT hgo;right;show#[by rw[List.length_map,List.length_reverse];simp only[List.length_cons,List.length_nil];cbv,_,U,?_];have q:=q _ _ hx;rw[et] at q;exact q
theorem KD{C B:AC}(Sv:C4 P w K mg base aR dN 2 (df K (Tn C)))(F:Own K mg je)(V:nv K C)(Uh:qO K B)(T:Txt K mg):C4 P w K mg base aR je 3 (df K (Co C B "make")):=by
 show F.o (nos:=0) (n:=3) ix (λrs ds cs R h=>?_) λf bh A outer s H E M rs hr hrs=>#[_,(ag (bH (iw (aQ hr) (cG (vd 1) aj) (gD qK 1 Uh.cls Uh.n1 (bE 0 gG 0 V.cls V.n0 (vd 0))))
 aN
 aK)
 (ag (fS (n:=1000) (d7 (a9 (aQ hr) (DE.pe (gD qK 1 Uh.cls Uh.n1 (bE 0 gG 0 V.cls V.n0 (vd 0)))) (DE.pe (cG (vd 1) aj)) (λ_ _=>rfl))) (bb (m:=2) U (aq (gN 3 ix.nd) (aq (gN 4 ix.nd) ba))))
 (au (aU (kX hr Sv (ae (vd 0) (ae (vd 4) (ae (cG (vd 1) aj) (ae (vd 2) (ae (vd 3) af)))))))))),λds cs R h=>?_]
 .let(x,a,b,W,ps,r,g,f,ts,sc,st,dn,rfl,rfl,_):=h;exact#[U,U]
 .let(x,a,b,W,ps,r,g,f,ts,sc,st,dn,rfl,rfl,rfl,(hi,lk,hgo,hw),q):=h;let(y,rfl):=MZ hi;have hsz:=aI;let(hdn,gn,hsz2):=k6 hw;let(kd,m,hk,hm,rfl,hl,hx):=ND lk.aT hgo;have hlk:=lk.mk hk hm;have hf:=(lk.aT.mo kd hk m hm).2.1;right;rw[hlk];show gA U ?_;right;show#[_,hlk,?_];right;exact#[#[hl,Ws hf (),gn],_,U,q _ _ hx]
theorem OT{C B:AC}(RO:C4 P w K mg base aR fe 2 (df K (TF C)))(S5:aa0 P w K mg base cU 2 Rt)(S9:gY P w K mg base B cT 1 (cQ K .no (Sa B)))(F:Own K mg j6)(V:nv K C)(Uh:qO K B)(T:Txt K mg):C4 P w K mg base aR j6 3 (df K (Co C B "new")):=by
 show F.o (nos:=0) (n:=3) mG (λrs ds cs R h=>?_) λf bh A outer s H E M rs hr hrs=>#[_,(ag (bH (sJ (j2 (bE 0 gG 2 V.cls V.n2 (vd 0))))
 aN
 aK)
 (ag (sS 3 mG.nd (cG (vd 1) aj))
 (ag (bH (iw (aQ hr) (vd 3) (gD qK 0 Uh.cls Uh.n0 (bE 0 gG 0 V.cls V.n0 (vd 0))))
 aN
 aK)
 (ag (bH (sJ (j2 (yc qK Uh.cls hr S9 (bE 0 gG 0 V.cls V.n0 (vd 0)) (ae ay (ae (vd 3) af)))))
 aN
 aK)
 (au (aU (kX hr RO (ae (vd 0) (ae (bu hr S5 (ae (d7 (a9 (aQ hr) (DE.pe (gD qK 0 Uh.cls Uh.n0 (bE 0 gG 0 V.cls V.n0 (vd 0)))) (DE.pe (vd 3)) (λ_ _=>rfl))) af)) (ae (cG (vd 1) aj) (ae (vd 2) (ae (vd 3) af)))))))))))),λds cs R h=>?_]
 .let(x,a,b,W,ps,r,g,f,ts,sc,st,dn,rfl,rfl,_):=h;exact#[U,U]
 .let(x,a,b,W,ps,r,g,f,ts,sc,st,dn,rfl,rfl,rfl,(hi,lk,hgo,hw),q):=h;let(y,hs,rfl):=GR hi;have hsz:=aI;let(hdn,gn,hsz2):=k6 hw;let(kd,hk,hask,rfl,hl,hx):=KS lk.aT hgo;let(p,hp,rfl,hpa,hlk):=lk.at hk;let((n,i9),_):=id lk;right;rw[hlk];show gA U ?_;right;show#[W,ps,p.kd,by rw[hask];rfl,#[lk,hk],?_];right;show#[_,hlk,?_];right;show#[#[i9.ok p hp,lk.aT,hk],?_];have hls:=rJ ts;right;exact#[#[hl,by cbv,gn],_,U,q _ _ hx]
theorem IC{α:Type}{f:α->D}{l:!α}{i:Int}(h0:0<=i)(h1:i<=l.length):cutD (l.map f) none (some i)=(l.take i.toNat).map f:=by
 rw[ff];have e2:HT.b8 l.length l.length (some i)=i.toNat:=by
  unfold HT.b8;simp only[]
  repeat' split
  all_goals cbv
 rw[show HT.b8 l.length 0 none=0 from U,e2,List.drop_zero,Nat.sub_zero]
def Dl(C B:AC)(i:Str):pU:=λrs ds cs R=>∃ (x a b:AC) (W:bf) (ps:!PK) (r:Int) (g:Str) (tk:gp) (st:!gp) (dn:!Str),rs=[x,a,b]/\ds=[.bG x,zC tk]/\cs=qi C (kW B W ps) r a b st dn/\(qc tk=i/\Lk W ps/\go W g (tk::st) dn/\dn.length+wL (tk::st)<=10000)/\∀ oq Bx,nx W g tk st dn oq Bx->R .bT (qi C (kW B W ps) r a b oq Bx)
theorem mJ{tk:gp}{st:!gp}{n:Nat}(h:n+wL (tk::st)<=10000):n<=10000/\st.length<=10000:=by
 have:=vY st;rw[aZ] at h;cbv
theorem KN{C B:AC}{dm:AC}{SA:!(Str×AT)}(Vh:Gr P w K dm SA)(VR:mg "TERMS"=some (.ref dm))(Tv:∀ i f,valueAt SA i=some (.ref f)->∃ fd ps,bP P w K mg base aR 3 f fd ps (df K (Co C B i))/\keepIn K (.ref f)=true/\Binds K fd ps [])(hIn:∀ f,∃ a,valueAt SA (pF f)=some (.ref a))(F:Own K mg lK)(V:nv K C)(Uh:qO K B)(T:Txt K mg):C4 P w K mg base aR lK 4 (df K (Dl C B "term")):=by
 show F.o (nos:=0) (n:=3) ir (λrs ds cs R h=>?_) λf bh A outer s H E M rs hr hrs=>#[_,(ag (fS (n:=1000) (vd 1) (bb (m:=3) U (aq (gN 2 ir.nd) (aq (gN 3 ir.nd) (aq (gN 4 ir.nd) ba)))))
 (au (aU (vb hr Vh VR Tv (cG (vd 3) aj) (ae (vd 0) (ae (vd 3) (ae (vd 4) af))))))),λds cs R h=>?_]
 .let(x,a,b,W,ps,r,g,tk,st,dn,rfl,rfl,_):=h;exact#[U,U]
 .let(x,a,b,W,ps,r,g,tk,st,dn,rfl,rfl,rfl,(hi,lk,hgo,hw),q):=h;let(t,sc,rfl):=Fc hi;have hsz:=aI;let(hdn,gn):=mJ hw;let(f,ts):=t;show#[_,U,_,U,U,_,_,U,_,_,U,_,_,U,U,?_];have e0:∃ ds,toD (.node f ts)=.tup (.str (pF f)::ds):=by cases f<;>exact#[_,U]
  let(ds,e0):=e0;show#[_,U,_,_,_,e0,U,cj,_,U,hIn f,?_];show#[_,U,_,U,_,U,_,U,x,a,b,W,ps,r,g,f,ts,sc,st,dn,U,U,U,#[U,lk,hgo,hw],λoq Bx hx=>?_];exact#[_,U,q _ _ hx]
theorem Jz{C B:AC}(zB:gY P w K mg base C bw 1 (df K (IX C)))(F:Own K mg lF)(V:nv K C)(Uh:qO K B)(T:Txt K mg):C4 P w K mg base aR lF 4 (df K (Dl C B "want")):=by
 show F.o (nos:=0) (n:=3) wA (λrs ds cs R h=>?_) λf bh A outer s H E M rs hr hrs=>#[_,(au (bH (aJ oF vJ (iy 0 gG V.cls hr zB (vd 0)) (cG (vd 1) aj) (aF _))
 aN
 aK)),λds cs R h=>?_]
 .let(x,a,b,W,ps,r,g,tk,st,dn,rfl,rfl,_):=h;exact#[U,U]
 .let(x,a,b,W,ps,r,g,tk,st,dn,rfl,rfl,rfl,(hi,lk,hgo,hw),q):=h;let(k,rfl):=Eo hi;have hsz:=aI;let(hdn,gn):=mJ hw;let(d0,rfl,hx):=Fp hgo;show#[_,U,x,_,U,U,U,_,U,x,a,b,_,r,st,d0,k,U,U,U,?_];right;show gA (by rw[decide_eq_true U];rfl) ?_;exact#[_,U,q _ _ hx]
theorem Ju{C B:AC}(Ik:gY P w K mg base C bZ 1 (df K (Lp C)))(F:Own K mg lZ)(V:nv K C)(Uh:qO K B)(T:Txt K mg):C4 P w K mg base aR lZ 4 (df K (Dl C B "tell")):=by
 show F.o (nos:=0) (n:=3) wu (λrs ds cs R h=>?_) λf bh A outer s H E M rs hr hrs=>#[_,(au (aU (b7 0 gG V.cls hr Ik (vd 0) (ae (cG (vd 1) aj) af)))),λds cs R h=>?_]
 .let(x,a,b,W,ps,r,g,tk,st,dn,rfl,rfl,_):=h;exact#[U,U]
 .let(x,a,b,W,ps,r,g,tk,st,dn,rfl,rfl,rfl,(hi,lk,hgo,hw),q):=h;let(k,rfl):=Dw hi;have hsz:=aI;let(hdn,gn):=mJ hw;have hx:=Dt hgo;right;show#[by cbv,_,U,q _ _ hx]
theorem Hr{C B:AC}(zB:gY P w K mg base C bw 1 (df K (IX C)))(Ik:gY P w K mg base C bZ 1 (df K (Lp C)))(F:Own K mg jQ)(V:nv K C)(Uh:qO K B)(T:Txt K mg):C4 P w K mg base aR jQ 4 (df K (Dl C B "alike")):=by
 show F.o (nos:=0) (n:=3) i6 (λrs ds cs R h=>?_) λf bh A outer s H E M rs hr hrs=>#[_,(ag (sS 2 i6.nd (iy 0 gG V.cls hr zB (vd 0)))
 (ag (sS 3 i6.nd (iy 0 gG V.cls hr zB (vd 0)))
 (ag (bH (aJ oF vJ (vd 2) (vd 3) (aF _))
 aN
 aK)
 (au (aU (b7 0 gG V.cls hr Ik (vd 0) (ae (vd 3) af))))))),λds cs R h=>?_]
 .let(x,a,b,W,ps,r,g,tk,st,dn,rfl,rfl,_):=h;exact#[U,U]
 .let(x,a,b,W,ps,r,g,tk,st,dn,rfl,rfl,rfl,(hi,lk,hgo,hw),q):=h;obtain rfl:=A1 hi;have hsz:=aI;let(hdn,gn):=mJ hw;let(d0,k,rfl,hx):=AO hgo;have hl:(d0++[k]).length<=10000:=by rw[Wa] at hdn;cbv
  rw[Wa] at hl;show#[_,U,x,_,U,U,U,_,U,x,a,b,_,r,st,d0++[k],k,U,U,U,?_];show#[_,U,x,_,U,U,U,_,U,x,a,b,_,r,st,d0,k,U,U,U,?_];right;show gA (by rw[decide_eq_true U];rfl) ?_;right;show#[by cbv,_,U,q _ _ hx]
theorem IE{C B:AC}(zB:gY P w K mg base C bw 1 (df K (IX C)))(tF:gY P w K mg base C bX 1 (df K (AQ C)))(F:Own K mg lQ)(V:nv K C)(Uh:qO K B)(T:Txt K mg):C4 P w K mg base aR lQ 4 (df K (Dl C B "bind")):=by
 show F.o (nos:=1) (n:=3) dW (λrs ds cs R h=>?_) λf bh A outer s H E M rs hr hrs=>#[_,(ag (fS (n:=1000) (vd 1) (bb (m:=4) U (aq (gN 2 dW.nd) (aq (gN 3 dW.nd) (aq (gN 4 dW.nd) (aq (gN 5 dW.nd) ba))))))
 (ag (sS 6 dW.nd (iy 0 gG V.cls hr zB (vd 0)))
 (ag (bH (wI (aQ hr) (vd 3) (vd 5))
 aN
 aK)
 (ag (sL (k:=3) (by cbv) 7 dW.nd (dP o8 uq U T.dict (by decide+kernel) (ae (vd 5) af)))
 (ag (kF (c7 (aQ hr) (pv 7) (DE.pe (vd 3)) (DE.pe (vd 6)) U))
 (au (aU (b7 0 gG V.cls hr tF (vd 0) (ae (DN.de (aP (ae (aH (ae ay (ae (vd 4) (ae (xM (pv 7)) af)))) af))) af))))))))),λds cs R h=>?_]
 .let(x,a,b,W,ps,r,g,tk,st,dn,rfl,rfl,_):=h;exact#[U,U]
 .let(x,a,b,W,ps,r,g,tk,st,dn,rfl,rfl,rfl,(hi,lk,hgo,hw),q):=h;let(y,t,sc,rfl):=Dz hi;have hsz:=aI;let(hdn,gn):=mJ hw;let(d0,k,rfl,hn,ky,hx):=El hgo;have h21:=ky.len lk.aT;show#[_,U,_,U,U,_,_,U,_,_,U,_,_,U,_,_,U,U,?_];show#[_,U,x,_,U,U,U,_,U,x,a,b,_,r,st,d0,k,U,U,U,?_];have hl:br (sc.map λp=>(Sum.inr p.1:Key)) (sc.map λp=>D.str p.2) (Sum.inr y)=none:=Pa (f:=λp:Str×Str=>p.1) (h:=λp=>.str p.2) hn;right;rw[hl];show gA U ?_;right;show#[by rw[V8];cbv,?_];rw[uZ hn];right;show#[by rw[List.length_map,List.length_reverse];simp only[List.length_cons,List.length_nil];cbv,_,U,?_];have q:=q _ _ hx;rw[et] at q;exact q
theorem Ie{C B:AC}(zB:gY P w K mg base C bw 1 (df K (IX C)))(Sv:C4 P w K mg base aR dN 2 (df K (Tn C)))(F:Own K mg j3)(V:nv K C)(Uh:qO K B)(T:Txt K mg):C4 P w K mg base aR j3 4 (df K (Dl C B "asker")):=by
 show F.o (nos:=0) (n:=3) cm (λrs ds cs R h=>?_) λf bh A outer s H E M rs hr hrs=>#[_,(ag (fS (n:=1000) (vd 1) (bb (m:=4) U (aq (gN 2 cm.nd) (aq (gN 3 cm.nd) (aq (gN 4 cm.nd) (aq (gN 5 cm.nd) ba))))))
 (ag (sS 6 cm.nd (iy 0 gG V.cls hr zB (vd 0)))
 (ag (bH (iw (aQ hr) (vd 3) (gD qK 2 Uh.cls Uh.n2 (bE 0 gG 0 V.cls V.n0 (vd 0))))
 aN
 aK)
 (ag (fS (n:=1000) (d7 (a9 (aQ hr) (DE.pe (gD qK 2 Uh.cls Uh.n2 (bE 0 gG 0 V.cls V.n0 (vd 0)))) (DE.pe (vd 3)) (λ_ _=>rfl))) (bb (m:=3) U (aq (gN 7 cm.nd) (aq (gN 8 cm.nd) (aq (gN 9 cm.nd) ba)))))
 (ag (bH (aJ oF vJ (vd 7) (vd 6) (aF _))
 aN
 aK)
 (au (aU (kX hr Sv (ae (vd 0) (ae (vd 8) (ae (vd 4) (ae (vd 5) (ae (vd 9) af))))))))))))),λds cs R h=>?_]
 .let(x,a,b,W,ps,r,g,tk,st,dn,rfl,rfl,_):=h;exact#[U,U]
 .let(x,a,b,W,ps,r,g,tk,st,dn,rfl,rfl,rfl,(hi,lk,hgo,hw),q):=h;let(y,ts,sc,rfl):=Af hi;have hsz:=aI;let(hdn,gn):=mJ hw;let(d0,kd,m,rfl,hk,hm,rfl,hl,hx):=CD lk.aT hgo;have hlk:=lk.ak hk hm;have hf:=(lk.aT.ao kd hk m hm).2.1.1;show#[_,U,_,U,U,_,_,U,_,_,U,_,_,U,_,_,U,U,?_];show#[_,U,x,_,U,U,U,_,U,x,a,b,_,r,st,d0,kd.name,U,U,U,?_];right;rw[hlk];show gA U ?_;right;show#[_,hlk,?_];right;show gA (by rw[decide_eq_true U];rfl) ?_;right;exact#[#[hl,Ws hf (),gn],_,U,q _ _ hx]
theorem Ic{C B:AC}(zB:gY P w K mg base C bw 1 (df K (IX C)))(RO:C4 P w K mg base aR fe 2 (df K (TF C)))(S6:aa0 P w K mg base cS 2 Rv)(S9:gY P w K mg base B cT 1 (cQ K .no (Sa B)))(F:Own K mg lI)(V:nv K C)(Uh:qO K B)(T:Txt K mg):C4 P w K mg base aR lI 4 (df K (Dl C B "case")):=by
 show F.o (nos:=0) (n:=3) eQ (λrs ds cs R h=>?_) λf bh A outer s H E M rs hr hrs=>#[_,(ag (fS (n:=1000) (vd 1) (bb (m:=4) U (aq (gN 2 eQ.nd) (aq (gN 3 eQ.nd) (aq (gN 4 eQ.nd) (aq (gN 5 eQ.nd) ba))))))
 (ag (sS 6 eQ.nd (iy 0 gG V.cls hr zB (vd 0)))
 (ag (bH (sJ (j2 (yc qK Uh.cls hr S9 (bE 0 gG 0 V.cls V.n0 (vd 0)) (ae ay (ae (vd 6) af)))))
 aN
 aK)
 (ag (bH (DW.dt (jZ (aJ oF vJ (vd 3) ay (aF _)) (iu (iw (aQ hr) (vd 3) (gD qK 0 Uh.cls Uh.n0 (bE 0 gG 0 V.cls V.n0 (vd 0)))))))
 aN
 aK)
 (au (aU (kX hr RO (ae (vd 0) (ae (bu hr S6 (ae (d7 (a9 (aQ hr) (DE.pe (gD qK 0 Uh.cls Uh.n0 (bE 0 gG 0 V.cls V.n0 (vd 0)))) (DE.pe (vd 6)) (λ_ _=>rfl))) (ae (vd 3) af))) (ae (vd 4) (ae (vd 5) (ae (vd 3) af)))))))))))),λds cs R h=>?_]
 .let(x,a,b,W,ps,r,g,tk,st,dn,rfl,rfl,_):=h;exact#[U,U]
 .let(x,a,b,W,ps,r,g,tk,st,dn,rfl,rfl,rfl,(hi,lk,hgo,hw),q):=h;let(y,hs,ts,sc,rfl):=G6 hi;have hsz:=aI;let(hdn,gn):=mJ hw;let(d0,kd,rfl,(hk,hask),hy,hl,hx):=E9 lk.aT hgo;let(p,hp,rfl,hpa,hlk):=lk.at hk;let((n,i9),_):=id lk;show#[_,U,_,U,U,_,_,U,_,_,U,_,_,U,_,_,U,U,?_];show#[_,U,x,_,U,U,U,_,U,x,a,b,_,r,st,d0,p.kd.name,U,U,U,?_];right;show#[W,ps,p.kd,by rw[hask];rfl,#[lk,hk],?_];have hls:ts.length<=1000+9000:=by
   have:=yj ts;rw[aZ] at hw;simp only[wt] at hw;cbv
  have hb:(not (decide (fv (D.str y)=fv (D.str "number"))))=true->∃ kd'∈W.kinds,kd'.name=y:=λhb=>by
   rcases hy with rfl | h
   .exact absurd hb (by decide+kernel)
   .exact h
  right;generalize (not (decide (fv (D.str y)=fv (D.str "number"))))=b0 at hb;cases b0
  case' false=>show gA U (gA U ?_)
  case' true =>
   let(kd',CK,e'):=hb U;let(p',_,_,_,hlk'):=lk.at CK;rw[e'] at hlk';show p9 U ?_;right;rw[hlk'];show gA U ?_
  all_goals
   right;show#[_,hlk,?_];right;show#[#[i9.ok p hp,lk.aT,hk],?_];right;exact#[#[hl,by cbv,gn],_,U,q _ _ hx]
theorem Kl{C B:AC}(tF:gY P w K mg base C bX 1 (df K (AQ C)))(F:Own K mg pE)(V:nv K C)(Uh:qO K B)(T:Txt K mg):C4 P w K mg base aR pE 4 (df K (Dl C B "row")):=by
 show F.o (nos:=1) (n:=3) bB (λrs ds cs R h=>?_) λf bh A outer s H E M rs hr hrs=>#[_,(ag (fS (n:=1000) (vd 1) (bb (m:=5) U (aq (gN 2 bB.nd) (aq (gN 3 bB.nd) (aq (gN 4 bB.nd) (aq (gN 5 bB.nd) (aq (gN 6 bB.nd) ba)))))))
 (ag (fS (n:=1000) (cG (vd 4) (vd 5)) (bb (m:=3) U (aq (gN 7 bB.nd) (aq (gN 8 bB.nd) (aq (gN 9 bB.nd) ba)))))
 (ag (bH (iw (aQ hr) (vd 7) (vd 3))
 aN
 aK)
 (ag (bH (aJ lM okIn (vd 7) (DN.de (nC ["row"] [] (aW (uP (vd 4) fj (cH (vd 5)))) (λ_ _ _ _=>(gM 0 ["row"])) (λ_ _ _ _=>cF)
 (λ_ _ _ _=>(cG (vd 0) aj)))) U)
 aN
 aK)
 (ag (fS (n:=1000) (d7 (a9 (aQ hr) (DE.pe (vd 3)) (DE.pe (vd 7)) (λ_ _=>rfl))) (bb (m:=2) U (aq (gN 10 bB.nd) (aq (gN 11 bB.nd) ba))))
 (ag (bH (aJ oF vJ (fE T.len (ae (vd 8) af)) (fE T.len (ae (vd 10) af)) (aF _))
 aN
 aK)
 (ag (sL (k:=3) (by cbv) 12 bB.nd (dP o8 uq U T.dict (by decide+kernel) (ae (vd 6) af)))
 (ag (sF (CG U T.zip (ae (vd 8) (ae (vd 10) af))) (bb (m:=2) U (aq (gN 13 bB.nd) (aq (bb (m:=2) U (aq (gN 14 bB.nd) (aq (gN 15 bB.nd) ba))) ba)))
 (ag (bH (tZ (aQ hr) (vd 13) (pv 12))
 aN
 aK)
 (au (kF (c7 (aQ hr) (pv 12) (DE.pe (vd 13)) (DE.pe (vd 15)) U)))))
 (au (aU (b7 0 gG V.cls hr tF (vd 0) (ae (DN.de (aP (ae (aH (ae ay (ae (vd 9) (ae (xM (pv 12)) af)))) (ae (aH (ae ay (ae (vd 11) af))) af)))) af)))))))))))),λds cs R h=>?_]
 .let(x,a,b,W,ps,r,g,tk,st,dn,rfl,rfl,_):=h;exact#[U,U]
 .let(x,a,b,W,ps,r,g,tk,st,dn,rfl,rfl,rfl,(hi,lk,hgo,hw),q):=h;let(cl,hs,ts,j,sc,rfl):=Jk hi;have hsz:=aI;let(hdn,gn):=mJ hw;let(hd,t,pr,k,h1,h2,h3,hcn,h4,h5,hb,ky,hx):=Hm hgo;have h21:=ky.len lk.aT;have hlc:br (cl.map λc=>(Sum.inr c.1:Key)) (cl.map λc=>D.tup [bW c.2.1,.str c.2.2]) (Sum.inr hd.1)=some (.tup [bW pr,.str k]):=Hi (f:=λc:Str×(Sc×Str)=>c.1) (h:=λc=>D.tup [bW c.2.1,.str c.2.2]) hcn _ h3;show#[_,U,_,U,U,_,_,U,_,_,U,_,_,U,_,_,U,_,_,U,U,?_];right;show#[iC (u7 h1 h2),?_];right;rw[hlc];show gA U ?_;right;have hj1:=(Wb.mp h1).1;have hj2:=(Wb.mp h2).1;rw[qy,IC (by cbv) (by rw[WZ];cbv),Xh];show bo (λx:(Str×!Str)×Tm=>sR x.1 (toD x.2)) (λx=>.str x.1.1) _ (λx hx k hk=>?_) ?_
  .right;exact hk _ U
  rw[Wy];show#[_,.inl U,#[U,by rw[List.all_map];exact Xo.mpr λ_ _=>rfl],?_];have hni:v3 (fv (D.str hd.1)) ((((hs.zip ts).take j).map λx=>D.str x.1.1).map fv)=false:=by
   have:=xn (x:=hd.1) (ws:=((hs.zip ts).take j).map λx=>x.1.1);rw[Wo (l:=(hs.zip ts).take j)] at this;show (show v3 (fv (D.str hd.1)) ((((hs.zip ts).take j).map λx=>D.str x.1.1).map fv)=decide _ from this).trans (decide_eq_false λz=>h4 ?_);rw[List.zip_eq_zipWith,List.take_zipWith,<- List.zip_eq_zipWith] at z;let(y,hy,e):=Wk.mp z;rw[<- e];exact Wr (WO (a:=y.1) (b:=y.2) hy).1
  rw[if_neg (),hni];show#[_,U,gA U ?_];have e5:(qN hd.2).length=(pr.map pairD).length:=by unfold qN;rw[List.length_map,List.length_map];exact h5
  right;show#[_,hlc,?_];right;show gA (by rw[e5,decide_eq_true U];rfl) ?_;right;rw[show j7 (qN hd.2) (pr.map pairD)=(hd.2.zip pr).map λx=>D.tup [.str x.1,pairD x.2] by unfold j7 qN;rw[List.zip_eq_zipWith,List.map_zipWith,List.zipWith_map]];have QU:(hd.2.zip pr).map (·.1)=hd.2:=Xc (by cbv);show dM (λx:Str×(Str×Str)=>D.tup [.str x.1,pairD x.2]) (λdz s=>∃ yQ y14 y15:Sl,(yQ.pl=true/\y14.pl=true/\y15.pl=true)/\s=#[[.dat (.bG x),.dat (zC (.row cl hs ts j sc)),.dat (.str "row"),.dat (qf cl),.dat (.tup ((hs.zip ts).map λx=>sR x.1 (toD x.2))),.dat (.int j),.dat (qu sc),.dat (.str hd.1),.dat (.tup (qN hd.2)),.dat (toD t),.dat (bW pr),.dat (.str k),.own 3,yQ,y14,y15],(qi C (kW B W ps) r a b st dn).map some++[some (qu (sc++dz.map λx=>(x.1,x.2.2)))]]) ?_ ?_ _ #[.no,.no,.no,#[U,U,U],by rw[WR,Wf];rfl]
  .rintro s ⟨yQ,y14,y15,hy,rfl⟩;have e6:(hd.2.zip pr).map (λx=>(x.1,x.2.2))=hd.2.zip (pr.map (·.2)):=by rw[List.zip_map_right];rfl
   rw[e6];show#[_,U,x,_,U,U,U,_,U,.inr #[3,_,U,U,?_]];right;show#[by rw[List.length_map,List.length_reverse];simp only[List.length_cons,List.length_nil];cbv,_,U,?_];have q:=q _ _ hx;rw[et] at q;exact q
  .rintro dz z td s E e ⟨yQ,y14,y15,hy,rfl⟩ hN hE;have hzn:z.1∉(sc++dz.map λx=>(x.1,x.2.2)).map (·.1):=by
    have e7:hd.2=dz.map (·.1)++z.1::td.map (·.1):=by rw[<- QU,e,Wc];rfl
    rw[Wc,Wo,WA,not_or];show#[hb.2.1 z.1 (by rw[e7];simp),λhin=>?_];have bG:=hb.1;rw[e7,WI] at bG;exact bG.2.2 z.1 hin z.1 Wg U
   have hln:br ((sc++dz.map λx=>(x.1,x.2.2)).map λp=>(Sum.inr p.1:Key)) ((sc++dz.map λx=>(x.1,x.2.2)).map λp=>D.str p.2) (Sum.inr z.1)=none:=Pa (f:=λp:Str×Str=>p.1) (h:=λp=>.str p.2) hzn;have hle:=congrArg List.length e;rw[WZ,Wa,Wi] at hle;have h22:=(ky.more (ks:=pr.map (·.2)) hb (by rw[V8];exact h5)).len lk.aT;rw[Wa,WZ,V8] at h22;right;rw[hln];show gA U ?_;right;show#[by rw[V8,Wa,V8];cbv,?_];rw[uZ hzn];show hN _ #[.dat (.str z.1),.dat (.str z.2.1),.dat (.str z.2.2),#[U,U,U],?_];rw[Wc (l₁:=dz),<- WB]
   rfl
def UO(C B:AC):pU:=λrs ds cs R=>∃ (x a b:AC) (W:bf) (ps:!PK) (r:Int) (g:Str) (t:Tm) (sc:Sc),rs=[x,a,b]/\ds=[.bG x,toD t,qu sc]/\cs=qi C (kW B W ps) r a b [] []/\(Lk W ps/\mZ W sc/\kj W g/\Ty W sc g t/\t.size<=400)/\R (.str g) (qi C (kW B W ps) r a b [] [])
theorem Lv{C B:AC}(tF:gY P w K mg base C bX 1 (df K (AQ C)))(zB:gY P w K mg base C bw 1 (df K (IX C))){dk:AC}{Q5:!(Str×AT)}(VI:Gr P w K dk Q5)(VU:mg "TASKS"=some (.ref dk))(R6:∀ i f,valueAt Q5 i=some (.ref f)->∃ fd ps,bP P w K mg base aR 4 f fd ps (df K (Dl C B i))/\keepIn K (.ref f)=true/\Binds K fd ps [])(Tp:∀ tk,∃ a,valueAt Q5 (qc tk)=some (.ref a))(F:Own K mg dD)(V:nv K C)(T:Txt K mg):C4 P w K mg base aR dD 5 (df K (UO C B)):=by
 show F.o (nos:=0) (n:=3) gw (λrs ds cs R h=>?_) λf bh A outer s H E M rs hr hrs=>#[_,(ag (aU (b7 0 gG V.cls hr tF (vd 0) (ae (DN.de (aP (ae (aH (ae ay (ae (vd 1) (ae (vd 2) af)))) af))) af)))
 (ag (Ed PassesOwn.never (Et 1 (bE 0 gG 3 V.cls V.n3 (vd 0)))
 (ag (sS 3 gw.nd (AY 1 Xe Xf vX GH (bE 0 gG 3 V.cls V.n3 (vd 0))))
 (au (aU (vb hr VI VU R6 (cG (vd 3) aj) (ae (vd 0) (ae (vd 3) af)))))))
 (au (AJ (iy 0 gG V.cls hr zB (vd 0)))))),λds cs R h=>?_]
 .let(x,a,b,W,ps,r,g,t,sc,rfl,rfl,_):=h;exact#[U,U]
 .let(x,a,b,W,ps,r,g,t,sc,rfl,rfl,rfl,(lk,ky,hk,yK,hsz4),q):=h;have hsz:=aI;right;show#[show 1+0<=100000 by decide,?_];show#[λm s=>∃ (st:!gp) (dn:!Str) (x3:Sl),s=#[[.dat (.bG x),.dat (toD t),.dat (qu sc),x3],(qi C (kW B W ps) r a b st dn).map some]/\m=wL st/\go W g st dn/\dn.length+wL st<=10000,#[_,[.term t sc],[],.no,U,U,#[ky,g,hk,yK,U],?_],?_]
  .rw[aZ];change 0+(24 * t.size - 4+0)<=10000;cbv
  rintro m s ⟨st,dn,x3,rfl,rfl,hgo,hw⟩;show#[_,U,x,_,_,U,U,U,U,a,_,U,U,U,?_];cases st with
  | nil =>
   show gA U ?_;have hgo:dn=[g]:=hgo;subst hgo;show#[_,U,x,_,U,U,U,_,U,x,a,b,_,r,[],[],g,U,U,U,?_];exact#[_,U,q]
  | cons tk st =>
   have ed:(tk::st).reverse.map zC=st.reverse.map zC++[zC tk]:=by rw[Xz,Wc];rfl
   show p9 (by rw[ed];simp) ?_;show#[_,U,x,_,_,U,U,U,U,a,_,U,U,U,U,_,U,_,_,congrArg D.lst ed,U,?_];have e0:∃ ds,zC tk=.tup (.str (qc tk)::ds):=by cases tk<;>exact#[_,U]
   let(ds,e0):=e0;show#[_,U,_,_,_,e0,U,cj,_,U,Tp tk,?_];show#[_,U,_,U,_,U,x,a,b,W,ps,r,g,tk,st,dn,U,U,U,#[U,lk,hgo,hw],λoq Bx hx=>?_];exact#[_,hx.2.1,oq,Bx,.dat (zC tk),U,U,hx.1,Ws hx.2.2 hw]
def Sd(C:AC):EC:=λds R=>∃ (hd:D) (r:Int),ds=[hd,.int r,.bl true]/\∀ x a b,R [x,a,b] (qi C hd r a b [] [])
def Lf(P:GE)(w:Fa)(K:Frag)(mg:Str->Option AT)(base:EQ)(nm:Str)(ps:!Str)(C:AC)(k:Nat)(sp:Sp):Prop:=∃ f fd,bP P w K mg base aR k f fd ps sp/\L2.Mk K C f/\Binds K fd ps []/\mg nm=some (.ref C)
theorem OO{C f:AC}{fd:Go}(F:tL K "__init__" "TermLook.__init__" fO f fd)(V:nv K C):bP P w K mg base aR 1 f fd ["self","heads","row","tables_let"] (yW K C (Sd C)):=by
 show Sr (nos:=2) F wX (λds R h=>?_) λbh A outer s H E M x hr=>#[_,(oI (xc 0 [] V.cls V.n0 (vd 0) (vd 1)) (oI (xc 0 ["heads"] V.cls V.n1 (vd 0) (vd 2)) (oI (xc 0 ["heads","text_row"] V.cls V.n2 (vd 0) (vd 3)) (mi 0 ["heads","text_row","tables_let"] V.cls V.n3 (pv 0) (aP af) λ_=>mi 0 ["heads","text_row","tables_let","ahead"] V.cls V.n4 (pv 0) (aP af) λ_=>Bb)))),λds R h=>?_]
 .let(hd,r,rfl,_):=h
  rfl
 .let(hd,r,rfl,q):=h;right;intro a;right;intro b;exact#[U,_,U,q x a b]
def Uv(B:AC):X9:=λds R=>∃ (W:bf) (ps:!PK) (r:Int) (g:Str) (t:Tm) (sc:Sc),ds=[kW B W ps,.int r,toD t,qu sc]/\(Lk W ps/\mZ W sc/\kj W g/\Ty W sc g t/\t.size<=400)/\R (.str g)
theorem Nh{C B:AC}(GI:Lf P w K mg base "TermLook" ["self","heads","row","tables_let"] C 1 (yW K C (Sd C)))(Vk:C4 P w K mg base aR dD 5 (df K (UO C B)))(F:Own K mg eD)(T:Txt K mg):aa0 P w K mg base eD 6 (Uv B):=by
 let(fI,fdI,JI,MI,bI,mI):=GI;show F.d (nos:=0) nj (λds R h=>?_) λf bh A outer s H E M hr=>#[_,(au (bM (Bl MI JI hr mI bI (ae (vd 0) (ae (vd 1) (ae jY af))) Vk (ae (vd 2) (ae (vd 3) af))))),λds R h=>?_]
 .let(W,ps,r,g,t,sc,rfl,_):=h
  rfl
 .let(W,ps,r,g,t,sc,rfl,hh,q):=h;show#[_,U,_,U,U,_,_,U,λx a b z hz=>?_];have hz:x=z:=WC hz;subst hz;exact#[_,U,_,U,U,x,a,b,W,ps,r,g,t,sc,U,U,U,hh,q]
theorem nF(r:Nat)(ps:!PK):(l0 r ps).map (·.2)=ps:=by
 induction ps generalizing r with
 | nil=>rfl
 | cons k ps ih=>rw[l0,Wj,ih]
def vc(C k m a:AC)(ks ms as:!Str):!D:=[.ob C vG [.bG k,.bG m,.bG a],Jn ks,Jn ms,Jn as]
theorem IW{W:bf}(w:dG W):(zI W).Nodup:=by
 show W3.mpr #[λh=>?_,w.kn];let(kd,hk,e):=Wk.mp h;have:=(w.kw kd hk).1.2.2.2.1;rw[e] at this;exact this (by decide+kernel)
def RY(C:AC):EC:=λds R=>∃ (W:bf) (ps:!PK),ds=[.tup (ps.map eZ)]/\Lk W ps/\∀ x k m a,R [x,k,m,a] (vc C k m a (zI W) [] [])
theorem Pt{C f:AC}{fd:Go}(NR:aa1 P w K mg base bV 1 Rf)(F:tL K "__init__" "HeadLook.__init__" fH f fd)(Z:JE K C)(T:Txt K mg):bP P w K mg base aR 2 f fd ["self","program"] (yW K C (RY C)):=by
 show Sr (nos:=3) F jS (λds R h=>?_) λbh A outer s H E M x hr=>#[_,(mi 0 [] Z.cls Z.n0 (pv 0) (Dd (g7 jY xx) (show List.Nodup [(Sum.inr ("number":Str):Key)] by decide+kernel)) λ_=>mi 0 ["known"] Z.cls Z.n1 (pv 0) iE λ_=>mi 0 ["known","makers_ahead"] Z.cls Z.n2 (pv 0) iE λ_=>oI (sF (aW (DN.de (iY hr NR (ae (vd 1) af)))) (bb (m:=2) U (aq (gN 2 jS.nd) (aq (gN 3 jS.nd) ba)))
 (ag (bH (rY 1 (aQ hr) (cG (vd 3) aj) (bE 0 vG 0 Z.cls Z.n0 (vd 0)))
 aN
 aK)
 (au (jh 1 (c7 (aQ hr) (DE.pe (bE 0 vG 0 Z.cls Z.n0 (vd 0))) (DE.pe (cG (vd 3) aj)) (DE.pe jY) U))))) Bb),λds R h=>?_]
 .let(W,ps,rfl,_):=h
  rfl
 .let(W,ps,rfl,lk,q):=h;have hsz:=aI;let((n,i9),_):=id lk;have hkn:=IW lk.aT;have h5:=i9.len;have e1:W.kinds.map Kd.name=(l0 0 ps).map λp=>p.2.kd.name:=by rw[<- i9.kd,Wo,<- nF 0 ps,Wo,nF 0 ps];rfl
  right;intro k;right;intro m;right;intro a;right;show#[i9,?_];right;show dM P8 (λdn s=>∃ x2 x3:Sl,(x2.pl=true/\x3.pl=true)/\s=#[[.dat (.bG x),.dat (.tup (ps.map eZ)),x2,x3],(vc C k m a (("number":Str)::dn.map λp=>p.2.kd.name) [] []).map some]) ?_ ?_ _ #[.no,.no,#[U,U],U]
  .rintro s ⟨x2,x3,hp,rfl⟩;rw[<- e1];exact#[U,_,U,q x k m a]
  .rintro dn p td s E e ⟨x2,x3,hp,rfl⟩ hN hE;have hpn:p.2.kd.name∉(("number":Str)::dn.map λp=>p.2.kd.name):=gx hkn (b:=td.map λp=>p.2.kd.name) (by rw[zI,e1,e,Wc];rfl);have hle:=congrArg List.length e;rw[rV,Wa,Wi] at hle;have hno:=ue hpn;have hpt:=pG hpn;right;rw[hno];show gA U ?_;right;show#[by rw[V8,Wi,V8];cbv,?_];rw[hpt];show hN _ #[.dat (.int (p.1:Nat)),.dat (eZ p.2),#[U,U],?_];rw[Wc]
   rfl
def Tx(C:AC):pU:=λrs ds cs R=>∃ (x k m a:AC) (r:Int) (y:Str) (ks ms as:!Str),rs=[x,k,m,a]/\ds=[.bG x,.int r,.str y]/\cs=vc C k m a ks ms as/\y∈ks/\R .bT (vc C k m a ks ms as)
theorem Me{C:AC}(F:gP K C "HeadLook.look_kind" du)(Z:JE K C)(T:Txt K mg):gY P w K mg base C du 1 (df K (Tx C)):=by
 show F.o (nos:=0) (n:=4) nB (λrs ds cs R h=>?_) λf bh A outer s H E M rs hr hrs=>#[_,(au (bH (BH 1 (aQ hr) (vd 2) (bE 0 vG 0 Z.cls Z.n0 (vd 0)))
 aN
 aK)),λds cs R h=>?_]
 .let(x,k,m,a,r,y,ks,ms,as,rfl,rfl,_):=h;exact#[U,U]
 .let(x,k,m,a,r,y,ks,ms,as,rfl,rfl,rfl,hy,q):=h;have hin:=Gy hy;right;rw[hin];exact gA U #[_,U,q]
def TQ(C:AC):pU:=λrs ds cs R=>∃ (x k m a:AC) (r:Int) (fs:!(Str×Str)) (ks ms as:!Str),rs=[x,k,m,a]/\ds=[.bG x,.int r,bW fs]/\cs=vc C k m a ks ms as/\(fs.length<=3/\(fs.map (·.1)).Nodup/\∀ p∈fs,p.2∈ks)/\R .bT (vc C k m a ks ms as)
theorem PB{C:AC}(TU:gY P w K mg base C du 1 (df K (Tx C)))(F:gP K C "HeadLook.look_fields" cJ)(Z:JE K C)(T:Txt K mg):gY P w K mg base C cJ 2 (df K (TQ C)):=by
 show F.o (nos:=1) (n:=4) cZ (λrs ds cs R h=>?_) λf bh A outer s H E M rs hr hrs=>#[_,(ag (sL (k:=4) (by cbv) 3 cZ.nd iE)
 (au (sF (aW (vd 2)) (bb (m:=2) U (aq (gN 4 cZ.nd) (aq (gN 5 cZ.nd) ba)))
 (ag (bH (tZ (aQ hr) (vd 4) (pv 3))
 aN
 aK)
 (ag (kF (c7 (aQ hr) (pv 3) (DE.pe (vd 4)) (DE.pe jY) U))
 (au (aU (b7 0 vG Z.cls hr TU (vd 0) (ae (vd 1) (ae (vd 5) af)))))))))),λds cs R h=>?_]
 .let(x,k,m,a,r,fs,ks,ms,as,rfl,rfl,_):=h;exact#[U,U]
 .let(x,k,m,a,r,fs,ks,ms,as,rfl,rfl,rfl,(h3,hn,hk),q):=h;have hsz:=aI;right;show dM pairD (λdn s=>∃ x4 x5:Sl,(x4.pl=true/\x5.pl=true)/\s=#[[.dat (.bG x),.dat (.int r),.dat (bW fs),.own 4,x4,x5],(vc C k m a ks ms as).map some++[some (Jn (dn.map (·.1)))]]) ?_ ?_ _ #[.no,.no,#[U,U],U]
  .rintro s ⟨x4,x5,hp,rfl⟩;exact#[_,U,q]
  .rintro dn p td s E e ⟨x4,x5,hp,rfl⟩ hN hE;have hpn:p.1∉dn.map (·.1):=gx hn (b:=td.map (·.1)) (by rw[e,Wc];rfl);have hle:=congrArg List.length e;rw[Wa,Wi] at hle;have hno:=ue hpn;have hpt:=pG hpn;have hpk:=hk p (by rw[e];simp);right;rw[hno];show gA U ?_;right;show#[by rw[V8,V8];cbv,?_];rw[hpt];show#[_,U,x,_,U,U,U,_,U,_,U,_,U,x,k,m,a,r,p.2,ks,ms,as,U,U,U,hpk,?_];show hN _ #[.dat (.str p.1),.dat (.str p.2),#[U,U],?_];rw[Wc]
   rfl
def UY(C:AC):pU:=λrs ds cs R=>∃ (x k m a:AC) (r:Int) (c:Str) (fs:!(Str×Str)) (rest:!D) (ks ms as:!Str),rs=[x,k,m,a]/\ds=[.bG x,.int r,.tup (.str c::bW fs::rest)]/\cs=vc C k m a ks ms as/\(c∉ms/\ms.length<=1000/\fs.length<=3/\(fs.map (·.1)).Nodup/\∀ p∈fs,p.2∈ks)/\R .bT (vc C k m a ks (ms++[c]) as)
theorem Pk{C:AC}(SW:gY P w K mg base C cJ 2 (df K (TQ C)))(F:gP K C "HeadLook.look_maker" dU)(Z:JE K C)(T:Txt K mg):gY P w K mg base C dU 3 (df K (UY C)):=by
 show F.o (nos:=0) (n:=4) lH (λrs ds cs R h=>?_) λf bh A outer s H E M rs hr hrs=>#[_,(ag (bH (rY 2 (aQ hr) (cG (vd 2) aj) (bE 0 vG 1 Z.cls Z.n1 (vd 0)))
 aN
 aK)
 (ag (jh 2 (c7 (aQ hr) (DE.pe (bE 0 vG 1 Z.cls Z.n1 (vd 0))) (DE.pe (cG (vd 2) aj)) (DE.pe jY) U))
 (au (aU (b7 0 vG Z.cls hr SW (vd 0) (ae (vd 1) (ae (cG (vd 2) aj) af))))))),λds cs R h=>?_]
 .let(x,k,m,a,r,c,fs,rest,ks,ms,as,rfl,rfl,_):=h;exact#[U,U]
 .let(x,k,m,a,r,c,fs,rest,ks,ms,as,rfl,rfl,rfl,(hc,pY,hf),q):=h;have hsz:=aI;have hno:=ue hc;have hpt:=pG hc;right;rw[hno];show gA U ?_;right;show#[by rw[V8];cbv,?_];rw[hpt];show#[_,U,x,_,U,U,U,_,U,_,U,_,_,_,U,U,kq,_,U,x,k,m,a,r,fs,ks,ms++[c],as,U,U,U,hf,?_];exact#[_,U,q]
def Uj(C:AC):pU:=λrs ds cs R=>∃ (x k m a:AC) (r:Int) (c:Str) (fs:!(Str×Str)) (res:Str) (rest:!D) (ks ms as:!Str),rs=[x,k,m,a]/\ds=[.bG x,.int r,.tup (.str c::bW fs::.str res::rest)]/\cs=vc C k m a ks ms as/\(c∉as/\as.length<=1000/\(fs.length<=3/\(fs.map (·.1)).Nodup/\∀ p∈fs,p.2∈ks)/\res∈ks)/\R .bT (vc C k m a ks ms (as++[c]))
theorem LH{C:AC}(SW:gY P w K mg base C cJ 2 (df K (TQ C)))(TU:gY P w K mg base C du 1 (df K (Tx C)))(F:gP K C "HeadLook.look_asker" dS)(Z:JE K C)(T:Txt K mg):gY P w K mg base C dS 3 (df K (Uj C)):=by
 show F.o (nos:=0) (n:=4) lP (λrs ds cs R h=>?_) λf bh A outer s H E M rs hr hrs=>#[_,(ag (bH (rY 3 (aQ hr) (cG (vd 2) aj) (bE 0 vG 2 Z.cls Z.n2 (vd 0)))
 aN
 aK)
 (ag (jh 3 (c7 (aQ hr) (DE.pe (bE 0 vG 2 Z.cls Z.n2 (vd 0))) (DE.pe (cG (vd 2) aj)) (DE.pe jY) U))
 (ag (aU (b7 0 vG Z.cls hr SW (vd 0) (ae (vd 1) (ae (cG (vd 2) aj) af))))
 (au (aU (b7 0 vG Z.cls hr TU (vd 0) (ae (vd 1) (ae (cG (vd 2) aj) af)))))))),λds cs R h=>?_]
 .let(x,k,m,a,r,c,fs,res,rest,ks,ms,as,rfl,rfl,_):=h;exact#[U,U]
 .let(x,k,m,a,r,c,fs,res,rest,ks,ms,as,rfl,rfl,rfl,(hc,pY,hf,hr2),q):=h;have hsz:=aI;have hno:=ue hc;have hpt:=pG hc;right;rw[hno];show gA U ?_;right;show#[by rw[V8];cbv,?_];rw[hpt];show#[_,U,x,_,U,U,U,_,U,_,U,_,_,_,U,U,kq,_,U,x,k,m,a,r,fs,ks,ms,as++[c],U,U,U,hf,?_];show#[_,U,x,_,U,U,U,_,U,_,U,_,_,_,U,U,lb,_,U,x,k,m,a,r,res,ks,ms,as++[c],U,U,U,hr2,?_];exact#[_,U,q]
def U6:D->Str
 | .tup (.str c::_)=>c
 | _=>""
def oM(x:Nat×PK×D):!Str:=if x.2.1.asked=true then [U6 x.2.2] else []
def oA(x:Nat×PK×D):!Str:=if x.2.1.asked=true then [] else [U6 x.2.2]
theorem wc{α:Type}{f:α->D}{o:Nat×PK×D->!Str}{p:PK}{h:α->Str}(H:∀ r a,o (r,p,f a)=[h a]):∀ (l:!α) (r:Nat),(((l.map f).zipIdx r).map λq=>(q.2,p,q.1)).flatMap o=l.map h
 | [],r=>rfl
 | a::l,r=>by
  rw[Wj,List.zipIdx_cons,Wj,Wv,wc H l (r+1),H]
  rfl
theorem xP{o:Nat×PK×D->!Str}{p:PK}(H:∀ r d,o (r,p,d)=[])(l:!(D×Nat)):(l.map λq=>(q.2,p,q.1)).flatMap o=[]:=XX.mpr λx hx=>by
 let(q,_,rfl):=Wk.mp hx;exact H _ _
theorem Dp{W:bf}{n:Nat}{r:Nat}{p:PK}(ok:fP W n p):(tu (r,p)).flatMap oM=uM p/\(tu (r,p)).flatMap oA=uA p:=by
 let(b,kd,tabs):=p;have tl:=ok.tl;cases b with
 | true=>exact#[(wc (f:=f9) (h:=λx=>x.1.name) (λ_ _=>rfl) (kd.bz.zip tabs) _).trans (uv tl eB.name),xP (λ_ _=>rfl) _]
 | false=>exact#[xP (λ_ _=>rfl) _,(wc (f:=fV) (h:=λx=>x.1.name) (λ_ _=>rfl) (kd.bK.zip tabs) _).trans (DL.pI tl dE.name)]
theorem Bh{W:bf}{n:Nat}:∀ {ps:!PK},(∀ p∈ps,fP W n p)->∀ r,((l0 r ps).flatMap tu).flatMap oM=ps.flatMap uM/\((l0 r ps).flatMap tu).flatMap oA=ps.flatMap uA
 | [],_,r=>#[U,U]
 | p::ps,h,r=>by
  let(h1,h2):=Bh (ps:=ps) (λq hq=>h q (Wd _ hq)) (r+1+(dq p).length);let(h3,h4):=Dp (r:=r) (h p Wg);rw[l0,Wv,WE,WE,Wv,Wv,h1,h2,h3,h4];exact#[U,U]
theorem C5{W:bf}{n:Nat}{ps:!PK}(i9:zF W n ps){x:Nat×PK×D}(h:x∈(l0 0 ps).flatMap tu):x.1<=60/\x.2.1∈ps/\x.2.1.kd∈W.kinds/\((x.2.1.asked=true/\∃ y∈x.2.1.kd.bz.zip x.2.1.tabs,x.2.2=f9 y)\/(x.2.1.asked=false/\∃ y∈x.2.1.kd.bK.zip x.2.1.tabs,x.2.2=fV y)):=by
 let(p,hp,hx):=Xd.mp h;let(q,hq,rfl):=Wk.mp hx;have hps:=nN hp;have hr:=zR hp;have h30:=BE i9;have hbl:=i9.bl hps;have hqm:=List.mem_zipIdx hq;show#[by have:=hqm.2.1;change q.2<=60;cbv,hps,i9.mem hps,?_];have hb:q.1∈dq p.2:=by
  rw[hqm.2.2];exact XF _
 unfold dq at hb;split at hb
 .rename_i hask
  let(y,hy,e):=Wk.mp hb;exact .inl #[hask,y,hy,e.symm]
 .rename_i hask
  let(y,hy,e):=Wk.mp hb;exact .inr #[by simpa using hask,y,hy,e.symm]
def Vc:X9:=λds R=>∃ (W:bf) (ps:!PK),ds=[.tup (ps.map eZ)]/\Lk W ps/\R .bT
theorem OB{C:AC}(VH:Lf P w K mg base "HeadLook" ["self","program"] C 2 (yW K C (RY C)))(Vd:gY P w K mg base C dU 3 (df K (UY C)))(T6:gY P w K mg base C dS 3 (df K (Uj C)))(NR:aa1 P w K mg base bV 1 Rf)(Sw:aa1 P w K mg base cp 2 Sy)(F:Own K mg fz)(Z:JE K C)(T:Txt K mg):aa0 P w K mg base fz 4 Vc:=by
 let(fI,fdI,JI,MI,bI,mI):=VH;show F.d (nos:=0) bU (λds R h=>?_) λf bh A outer s H E M hr=>#[_,(DU (i:=1) 0 MI JI (hr.mono ()) mI bI bU.nd (ae (vd 0) af) λ_=>(ag (sF (aW (DN.de (iY hr NR (ae (vd 0) af)))) (bb (m:=2) U (aq (gN 2 bU.nd) (aq (gN 3 bU.nd) ba)))
 (au (sF (aW (cG (vd 3) aj)) (gN 4 bU.nd)
 (au (bH (aJ cw eG (cG (vd 3) aj) ay (aF _))
 (au (aU (b7 0 vG Z.cls hr Vd (vd 1) (ae (vd 2) (ae (vd 4) af)))))
 (au (aU (b7 0 vG Z.cls hr T6 (vd 1) (ae (vd 2) (ae (vd 4) af))))))))))
 (au (sF (aW (DN.de (iY hr Sw (ae (vd 0) af)))) (bb (m:=3) U (aq (gN 2 bU.nd) (aq (gN 3 bU.nd) (aq (gN 5 bU.nd) ba))))
 (au (bH (aJ cw eG (cG (vd 3) aj) ay (aF _))
 (au (aU (b7 0 vG Z.cls hr T6 (vd 1) (ae (vd 2) (ae (vd 5) af)))))
 (au (aU (b7 0 vG Z.cls hr Vd (vd 1) (ae (vd 2) (ae (vd 5) af))))))))))),λds R h=>?_]
 .let(W,ps,rfl,_):=h
  rfl
 .let(W,ps,rfl,lk,q):=h;have hsz:=aI;have aT:=lk.aT;let((n,i9),_):=id lk;have h5:=i9.len;have hmn:=Ls aT i9.kd;have han:=OR aT i9.kd;show#[_,U,U,W,ps,U,lk,λx k m a z hz=>?_];have hz:x=z:=WC hz;subst hz;have e1:ps.flatMap hM=(l0 0 ps).flatMap λq=>hM q.2:=by rw[show ps.flatMap hM=((l0 0 ps).map (·.2)).flatMap hM by rw[nF],X2]
  have e2:ps.flatMap hA=(l0 0 ps).flatMap λq=>hA q.2:=by rw[show ps.flatMap hA=((l0 0 ps).map (·.2)).flatMap hA by rw[nF],X2]
  have pY:(ps.flatMap hM++ps.flatMap uM).length<=5 * 5:=by
   rw[(gZ hM uM ps).length_eq];exact fG h5 λp hp=>by rw[F7,V8];exact (aT.kw p.kd (i9.mem hp)).2.1
  have hal:(ps.flatMap hA++ps.flatMap uA).length<=5 * 5:=by
   rw[(gZ hA uA ps).length_eq];exact fG h5 λp hp=>by rw[FI,V8];exact (aT.kw p.kd (i9.mem hp)).2.2
  show#[_,U,W,n,ps,U,i9,_,.inl U,?_];show dM P8 (λdn s=>∃ x2 x3 x4 x5:Sl,s=#[[.dat (.tup (ps.map eZ)),.dat (.bG x),x2,x3,x4,x5],(vc C k m a (zI W) (dn.flatMap λq=>hM q.2) (dn.flatMap λq=>hA q.2)).map some]) ?_ ?_ _ #[.no,.no,.no,.no,U]
  .rintro s ⟨x2,x3,x4,x5,rfl⟩;rw[<- e1,<- e2];let(o1,o2):=Bh i9.ok 0;rw[<- o1] at hmn pY;rw[<- o2] at han hal;show#[_,U,W,n,ps,U,i9,_,.inl U,?_];show dM Na (λdn s=>∃ x2 x3 x4 x5:Sl,s=#[[.dat (.tup (ps.map eZ)),.dat (.bG x),x2,x3,x4,x5],(vc C k m a (zI W) (ps.flatMap hM++dn.flatMap oM) (ps.flatMap hA++dn.flatMap oA)).map some]) ?_ ?_ _ #[x2,x3,x4,x5,by rw[WV,WV,Wf,Wf]]
   .rintro s ⟨x2,x3,x4,x5,rfl⟩;exact q
   .rintro dn y td s E e ⟨x2,x3,x4,x5,rfl⟩ hN hE;let(hr6,hyp,hyk,hyc):=C5 i9 (x:=y) (by rw[e];simp);rw[e,WE,Wv] at hmn pY han hal;let(yr,yp,yd):=y;show#[_,U,U,_,_,U,_,_,U,_,_,U,U,?_];show#[_,U,_,_,_,U,U,cj,#[U,U,U],_,U,?_];rcases hyc with ⟨hask,⟨mm,rows⟩,hy,rfl⟩ | ⟨hask,⟨aa,rows⟩,hy,rfl⟩
    .have hm:=(WO hy).1;have f3:=aT.R4 hyk hm;have eo:oM (yr,yp,f9 (mm,rows))=[mm.name]:=by unfold oM;rw[if_pos hask];rfl
     have ea:oA (yr,yp,f9 (mm,rows))=[]:=by unfold oA;rw[if_pos hask]
     rw[eo] at hmn pY;show gA (by rw[eg,hask];rfl) ?_;show#[_,U,x,_,U,U,U,_,U,_,U,_,U,x,k,m,a,_,mm.name,mm.fs,_,_,_,_,U,U,U,#[gx hmn (b:=td.flatMap oM) (by simp),by simp at pY ⊢;cbv,f3],?_];show hN _ #[.dat (.int (yr:Nat)),.dat (eZ yp),x4,.dat (f9 (mm,rows)),?_];rw[WE,WE,Wv,Wv,WV,WV,eo,ea,Wf,Wf,Wf,WB]
     rfl
    .have hm:=(WO hy).1;have f3:=aT.S4 hyk hm;have eo:oA (yr,yp,fV (aa,rows))=[aa.name]:=by unfold oA;rw[if_neg (by rw[hask];decide)];rfl
     have ea:oM (yr,yp,fV (aa,rows))=[]:=by unfold oM;rw[if_neg (by rw[hask];decide)]
     rw[eo] at han hal;show p9 (by rw[eg,hask];rfl) ?_;show#[_,U,x,_,U,U,U,_,U,_,U,_,U,x,k,m,a,_,aa.name,aa.ps,aa.res,_,_,_,_,U,U,U,#[gx han (b:=td.flatMap oA) (by simp),by simp at hal ⊢;cbv,f3],?_];show hN _ #[.dat (.int (yr:Nat)),.dat (eZ yp),x4,.dat (fV (aa,rows)),?_];rw[WE,WE,Wv,Wv,WV,WV,eo,ea,Wf,Wf,Wf,WB]
     rfl
  .rintro dn p td s E e ⟨x2,x3,x4,x5,rfl⟩ hN hE;let(r,b,kd,tabs):=p;have hpk:kd∈W.kinds:=i9.mem (nN (show (r,(#[b,kd,tabs]:PK))∈l0 0 ps by rw[e];simp));rw[e1,e,WE,Wv] at hmn pY;rw[e2,e,WE,Wv] at han hal;show#[_,U,U,_,_,U,_,_,U,U,?_];cases b with
   | false =>
    show#[_,U,_,_,_,U,U,lb,_,.inr U,?_];show dM dB (λd2 s=>∃ x4:Sl,s=#[[.dat (.tup (ps.map eZ)),.dat (.bG x),.dat (.int (r:Nat)),.dat (eZ #[false,kd,tabs]),x4,x5],(vc C k m a (zI W) ((dn.flatMap λq=>hM q.2)++d2.map eB.name) (dn.flatMap λq=>hA q.2)).map some]) ?_ ?_ _ #[x4,by rw[WR,Wf];rfl]
    .rintro s ⟨x4,rfl⟩;show hN _ #[.dat (.int (r:Nat)),.dat (eZ #[false,kd,tabs]),x4,x5,?_];rw[WE,WE,Wv,Wv,WV,WV,Wf,Wf];change _=DS.mk _ (List.map some (vc C k m a (zI W) ((dn.flatMap λq=>hM q.2)++kd.bz.map eB.name) ((dn.flatMap λq=>hA q.2)++[])));rw[Wf]
    .rintro d2 mm t2 s E2 e3 ⟨x4,rfl⟩ hN2 hE2;have e3:kd.bz=d2++mm::t2:=e3;have hm:mm∈kd.bz:=by rw[e3];simp
     have f3:=aT.R4 hpk hm;have eh:hM (#[false,kd,tabs]:PK)=d2.map eB.name++mm.name::t2.map eB.name:=by
      change kd.bz.map eB.name=_;rw[e3,Wc]
      rfl
     rw[eh] at hmn pY;show#[_,U,_,_,_,U,U,cj,#[U,U,U],_,U,?_];show p9 (eg false) ?_;show#[_,U,x,_,U,U,U,_,U,_,U,_,U,x,k,m,a,_,mm.name,mm.fs,_,_,_,_,U,U,U,#[gx hmn (b:=t2.map eB.name++(td.flatMap λq=>hM q.2)++ps.flatMap uM) (by simp),by simp at pY ⊢;cbv,f3],?_];show hN2 _ #[.dat (dB mm),?_];rw[Wc (l₁:=d2),<- WB]
     rfl
   | true =>
    show#[_,U,_,_,_,U,U,lb,_,.inr U,?_];show dM cW (λd2 s=>∃ x4:Sl,s=#[[.dat (.tup (ps.map eZ)),.dat (.bG x),.dat (.int (r:Nat)),.dat (eZ #[true,kd,tabs]),x4,x5],(vc C k m a (zI W) (dn.flatMap λq=>hM q.2) ((dn.flatMap λq=>hA q.2)++d2.map dE.name)).map some]) ?_ ?_ _ #[x4,by rw[WR,Wf];rfl]
    .rintro s ⟨x4,rfl⟩;show hN _ #[.dat (.int (r:Nat)),.dat (eZ #[true,kd,tabs]),x4,x5,?_];rw[WE,WE,Wv,Wv,WV,WV,Wf,Wf];change _=DS.mk _ (List.map some (vc C k m a (zI W) ((dn.flatMap λq=>hM q.2)++[]) ((dn.flatMap λq=>hA q.2)++kd.bK.map dE.name)));rw[Wf]
    .rintro d2 mm t2 s E2 e3 ⟨x4,rfl⟩ hN2 hE2;have e3:kd.bK=d2++mm::t2:=e3;have hm:mm∈kd.bK:=by rw[e3];simp
     have f3:=aT.S4 hpk hm;have eh:hA (#[true,kd,tabs]:PK)=d2.map dE.name++mm.name::t2.map dE.name:=by
      change kd.bK.map dE.name=_;rw[e3,Wc]
      rfl
     rw[eh] at han hal;show#[_,U,_,_,_,U,U,cj,#[U,U,U],_,U,?_];show gA (eg true) ?_;show#[_,U,x,_,U,U,U,_,U,_,U,_,U,x,k,m,a,_,mm.name,mm.ps,mm.res,_,_,_,_,U,U,U,#[gx han (b:=t2.map dE.name++(td.flatMap λq=>hA q.2)++ps.flatMap uA) (by simp),by simp at hal ⊢;cbv,f3],?_];show hN2 _ #[.dat (cW mm),?_];rw[Wc (l₁:=d2),<- WB]
     rfl
def UH(B k m a:AC)(ps:!PK):!D:=[.ob B qK [.bG k,.bG m,.bG a],Rg ps,Bd (oY (ps.map PK.kd)),CU (nZ (ps.map PK.kd))]
theorem sT{α:Type}{f:α->Str}{h:α->D}{l:!α}{x:α}(hn:f x∉l.map f):D.iI (cY (l.map λa=>(Sum.inr (f a):Key)) (Sum.inr (f x))) (dh (l.map λa=>(Sum.inr (f a):Key)) (l.map h) (Sum.inr (f x)) (h x))=.iI ((l++[x]).map λa=>Sum.inr (f a)) ((l++[x]).map h):=by
 let(h1,h2):=TH (h:=h) (d:=h x) hn;rw[h1,h2,Wc,Wc]
 rfl
def RM(B:AC):EC:=λds R=>∃ (W:bf) (ps:!PK),ds=[.tup (ps.map eZ)]/\Lk W ps/\∀ x k m a,R [x,k,m,a] (UH B k m a ps)
theorem Oa{B f:AC}{fd:Go}(GMI:aa0 P w K mg base eY 1 SQ)(SI:aa0 P w K mg base fc 1 TR)(F:tL K "__init__" "Heads.__init__" fK f fd)(Uh:qO K B)(T:Txt K mg):bP P w K mg base aR 2 f fd ["self","program"] (yW K B (RM B)):=by
 show Sr (nos:=3) F d4 (λds R h=>?_) λbh A outer s H E M x hr=>#[_,(mi 0 [] Uh.cls Uh.n0 (pv 0) iE λ_=>mi 0 ["kinds"] Uh.cls Uh.n1 (pv 0) iE λ_=>mi 0 ["kinds","makers"] Uh.cls Uh.n2 (pv 0) iE λ_=>oI (sF (aW (vd 1)) (gN 2 d4.nd)
 (ag (jh 1 (c7 (aQ hr) (DE.pe (bE 0 qK 0 Uh.cls Uh.n0 (vd 0))) (DE.pe (cG (vd 2) aj)) (DE.pe (vd 2)) U))
 (ag (sF (aW (bu hr GMI (ae (vd 2) af))) (bb (m:=2) U (aq (gN 3 d4.nd) (aq (gN 4 d4.nd) ba)))
 (au (jh 2 (c7 (aQ hr) (DE.pe (bE 0 qK 1 Uh.cls Uh.n1 (vd 0))) (DE.pe (vd 3)) (DE.pe (aH (ae (cG (vd 2) aj) (ae (vd 4) af)))) U))))
 (au (sF (aW (bu hr SI (ae (vd 2) af))) (bb (m:=3) U (aq (gN 5 d4.nd) (aq (gN 6 d4.nd) (aq (gN 7 d4.nd) ba))))
 (au (jh 3 (c7 (aQ hr) (DE.pe (bE 0 qK 2 Uh.cls Uh.n2 (vd 0))) (DE.pe (vd 5)) (DE.pe (aH (ae (cG (vd 2) aj) (ae (vd 6) (ae (vd 7) af))))) U)))))))) Bb),λds R h=>?_]
 .let(W,ps,rfl,_):=h
  rfl
 .let(W,ps,rfl,lk,q):=h;have hsz:=aI;have aT:=lk.aT;let((n,i9),_):=id lk;have hkn:=lk.nd;have h5:=i9.len;have hmn:=aT.mn;have han:=aT.an;rw[<- i9.kd,<- qr] at hmn;rw[<- i9.kd,<- qw] at han;have pY:(oY (ps.map PK.kd)).length<=5 * 5:=fG (by rw[V8];exact h5) λkd hk=>by rw[V8];exact (aT.kw kd (i9.kd▸hk)).2.1
  have hal:(nZ (ps.map PK.kd)).length<=5 * 5:=fG (by rw[V8];exact h5) λkd hk=>by rw[V8];exact (aT.kw kd (i9.kd▸hk)).2.2
  right;intro k;right;intro m;right;intro a;right;show dM eZ (λdn s=>∃ x2 x3 x4 x5 x6 x7:Sl,s=#[[.dat (.bG x),.dat (.tup (ps.map eZ)),x2,x3,x4,x5,x6,x7],(UH B k m a dn).map some]) ?_ ?_ _ #[.no,.no,.no,.no,.no,.no,U]
  .rintro s ⟨x2,x3,x4,x5,x6,x7,rfl⟩;exact#[U,_,U,q x k m a]
  .rintro dn p td s E e ⟨x2,x3,x4,x5,x6,x7,rfl⟩ hN hE;have hp:p∈ps:=by rw[e];simp
   have hpn:p.kd.name∉dn.map λp=>p.kd.name:=gx hkn (b:=td.map λp=>p.kd.name) (by rw[e,Wc];rfl);have hle:=congrArg List.length e;rw[Wa,Wi] at hle;have eM:oY (ps.map PK.kd)=oY (dn.map PK.kd)++(p.kd.bz.map λm=>(p.kd,m))++oY (td.map PK.kd):=by unfold oY;rw[e,List.map_append,List.flatMap_append,List.map_cons,List.flatMap_cons,List.append_assoc]
   have eA:nZ (ps.map PK.kd)=nZ (dn.map PK.kd)++(p.kd.bK.map λm=>(p.kd,m))++nZ (td.map PK.kd):=by unfold nZ;rw[e,List.map_append,List.flatMap_append,List.map_cons,List.flatMap_cons,List.append_assoc]
   have eM1:oY ((dn++[p]).map PK.kd)=oY (dn.map PK.kd)++(p.kd.bz.map λm=>(p.kd,m)):=by unfold oY;rw[List.map_append,List.flatMap_append];simp
   have eA1:nZ ((dn++[p]).map PK.kd)=nZ (dn.map PK.kd)++(p.kd.bK.map λm=>(p.kd,m)):=by unfold nZ;rw[List.map_append,List.flatMap_append];simp
   have hpt:=sT (f:=λp:PK=>p.kd.name) (h:=eZ) hpn;right;show#[by rw[V8];cbv,?_];rw[hpt];show#[_,U,W,n,p,U,i9.ok p hp,_,.inr U,?_];show dM dB (λd2 s=>∃ x3 x4:Sl,s=#[[.dat (.bG x),.dat (.tup (ps.map eZ)),.dat (eZ p),x3,x4,x5,x6,x7],[some (.ob B qK [.bG k,.bG m,.bG a]),some (Rg (dn++[p])),some (Bd (oY (dn.map PK.kd)++d2.map λm=>(p.kd,m))),some (CU (nZ (dn.map PK.kd)))]]) ?_ ?_ _ #[x3,x4,by rw[WR,Wf];rfl]
   .rintro s ⟨x3,x4,rfl⟩;rw[<- eM1];show#[_,U,W,n,p,U,i9.ok p hp,_,.inr U,?_];show dM cW (λd2 s=>∃ x5 x6 x7:Sl,s=#[[.dat (.bG x),.dat (.tup (ps.map eZ)),.dat (eZ p),x3,x4,x5,x6,x7],[some (.ob B qK [.bG k,.bG m,.bG a]),some (Rg (dn++[p])),some (Bd (oY ((dn++[p]).map PK.kd))),some (CU (nZ (dn.map PK.kd)++d2.map λm=>(p.kd,m)))]]) ?_ ?_ _ #[x5,x6,x7,by rw[WR,Wf]]
    .rintro s ⟨x5,x6,x7,rfl⟩;rw[<- eA1];exact hN _ #[.dat (eZ p),x3,x4,x5,x6,x7,U]
    .rintro d2 aa t2 s E2 e3 ⟨x5,x6,x7,rfl⟩ hN2 hE2;rw[eA,e3] at han hal;have hcn:aa.name∉(nZ (dn.map PK.kd)++d2.map λm=>(p.kd,m)).map λx=>x.2.name:=gx han (b:=(t2.map λm=>(p.kd,m)).map (λx=>x.2.name)++(nZ (td.map PK.kd)).map λx=>x.2.name) (by simp);have hcp:D.iI (cY ((nZ (dn.map PK.kd)++d2.map λm=>(p.kd,m)).map λx=>(Sum.inr x.2.name:Key)) (Sum.inr aa.name)) (dh ((nZ (dn.map PK.kd)++d2.map λm=>(p.kd,m)).map λx=>(Sum.inr x.2.name:Key)) ((nZ (dn.map PK.kd)++d2.map λm=>(p.kd,m)).map N4) (Sum.inr aa.name) (.tup [.str p.kd.name,bW aa.ps,.str aa.res]))=CU (nZ (dn.map PK.kd)++d2.map (λm=>(p.kd,m))++[(p.kd,aa)]):=sT (f:=λx:Kd×dE=>x.2.name) (h:=N4) (x:=(p.kd,aa)) hcn;right;show#[by simp at hal ⊢;cbv,?_];rw[hcp];show hN2 _ #[.dat (.str aa.name),.dat (bW aa.ps),.dat (.str aa.res),?_];rw[Wc (l₁:=d2),<- WB]
     rfl
   .rintro d2 mm t2 s E2 e3 ⟨x3,x4,rfl⟩ hN2 hE2;rw[eM,e3] at hmn pY;have hcn:mm.name∉(oY (dn.map PK.kd)++d2.map λm=>(p.kd,m)).map λx=>x.2.name:=gx hmn (b:=(t2.map λm=>(p.kd,m)).map (λx=>x.2.name)++(oY (td.map PK.kd)).map λx=>x.2.name) (by simp);have hcp:D.iI (cY ((oY (dn.map PK.kd)++d2.map λm=>(p.kd,m)).map λx=>(Sum.inr x.2.name:Key)) (Sum.inr mm.name)) (dh ((oY (dn.map PK.kd)++d2.map λm=>(p.kd,m)).map λx=>(Sum.inr x.2.name:Key)) ((oY (dn.map PK.kd)++d2.map λm=>(p.kd,m)).map Qx) (Sum.inr mm.name) (.tup [.str p.kd.name,bW mm.fs]))=Bd (oY (dn.map PK.kd)++d2.map (λm=>(p.kd,m))++[(p.kd,mm)]):=sT (f:=λx:Kd×eB=>x.2.name) (h:=Qx) (x:=(p.kd,mm)) hcn;right;show#[by simp at pY ⊢;cbv,?_];rw[hcp];show hN2 _ #[.dat (.str mm.name),.dat (bW mm.fs),?_];rw[Wc (l₁:=d2),<- WB]
    rfl
structure S0(W:bf)(fs:Sc)(rows:!(Str×Tm))(col:yI):Prop where
 cn:(col.map (·.1)).Nodup
 fl:fs.length<=3
 rn:(rows.map (·.1)).Nodup
 rl:rows.length<=1000
 fn:(fs.map (·.1)).Nodup
 ok:∀ r∈rows,∃ pr k,(r.1,(pr,k))∈col/\mZ W (fs++pr)/\kj W k/\Ty W (fs++pr) k r.2/\r.2.size<=400
def UC(B:AC):X9:=λds R=>∃ (W:bf) (n:Nat) (ps:!PK) (p:PK) (l:!D) (fs:Sc) (rows:!(Str×Tm)) (col:yI) (r:Int),ds=[kW B W ps,.int r,eZ p,.tup l]/\((Lk W ps/\fP W n p/\p.kd∈W.kinds)/\((p.asked=false/\∃ res,jF l 2=some (.str res)/\col=Ho p.kd res)\/(p.asked=true/\col=Hh p.kd))/\jF l 1=some (bW fs)/\jF l (-1)=some (J7 rows)/\S0 W fs rows col)/\R .bT
theorem F2(sc:Sc):D.iI ((sc.map λp=>(p.1,D.str p.2)).map λq=>Sum.inr q.1) ((sc.map λp=>(p.1,D.str p.2)).map (·.2))=qu sc:=by
 unfold qu;rw[Wo,Wo]
 rfl
theorem P7{B:AC}(S6:aa0 P w K mg base cS 2 Rv)(S5:aa0 P w K mg base cU 2 Rt)(Vs:aa0 P w K mg base eD 6 (Uv B))(F:Own K mg fB)(T:Txt K mg):aa0 P w K mg base fB 7 (UC B):=by
 show F.d (nos:=1) bJ (λds R h=>?_) λf bh A outer s H E M hr=>#[_,(ag (sS 4 bJ.nd (Er (aJ cw eG (cG (vd 2) aj) ay (aF _)) (bu hr S6 (ae (vd 2) (ae (cG (vd 3) aj) af))) (bu hr S5 (ae (vd 2) af))))
 (ag (sS 5 bJ.nd (DN.de (dP (vT U) zP U T.dict (by decide+kernel) (ae (cG (vd 3) aj) af))) (hx:=Or.inr U))
 (ag (sN 0 6 bJ.nd iE)
 (au (sF (aW (cG (vd 3) (dc (d:=.int (-1)) tQ U))) (bb (m:=2) U (aq (gN 7 bJ.nd) (aq (gN 8 bJ.nd) ba)))
 (ag (bH (iw (aQ hr) (vd 7) (vd 4))
 aN
 aK)
 (ag (bH (tZ (aQ hr) (vd 7) (pv 6))
 aN
 aK)
 (ag (kF (c7 (aQ hr) (pv 6) (DE.pe (vd 7)) (DE.pe jY) U))
 (ag (fS (n:=1000) (d7 (a9 (aQ hr) (DE.pe (vd 4)) (DE.pe (vd 7)) (λ_ _=>rfl))) (bb (m:=2) U (aq (gN 9 bJ.nd) (aq (gN 10 bJ.nd) ba))))
 (ag (bH (j2 (ju (pK U) MC U T.any (by decide+kernel) (ae (DN.de (nC ["field","field_kind"] [5] (aW (vd 9)) (λ_ _ _ _=>(bb (m:=2) U (aq (gM 0 ["field","field_kind","own"]) (aq (gM 1 ["field","field_kind","own"]) ba)))) (λ_ _ _ _=>cF)
 (λ_ _ _ _=>(Bk (aQ hr) (vd 0) (vd 2))))) af)))
 aN
 aK)
 (ag (sS 11 bJ.nd (DN.de (dP (jR U) n5 U T.dict (by decide+kernel) (ae (DN.de (f7 d3 dY (DN.de (dP fD kH U T.list (by decide+kernel) (ae (cG (vd 3) aj) af))) (DN.de (dP fD kH U T.list (by decide+kernel) (ae (vd 9) af))))) af))))
 (au (bH (aJ oF vJ (bu hr Vs (ae (vd 0) (ae (vd 1) (ae (vd 8) (ae (vd 11) af))))) (vd 10) (aF _))
 aN
 aK))))))))))))),λds R h=>?_]
 .let(W,n,ps,p,l,fs,rows,col,r,rfl,_):=h
  rfl
 .let(W,n,ps,p,l,fs,rows,col,r,rfl,((lk,ok,hk),hcol,h1,h2,tb),q):=h;have hsz:=aI;have aT:=lk.aT;have Dv:=tb.fl;refine' jn ?iM λiM=>?main
  case main =>
   show#[_,U,_,_,_,U,U,cj,#[U,U,U],_,U,?_];rcases hcol with ⟨hask,res,h3,e⟩ | ⟨hask,e⟩
   .refine p9 (by rw[eg,hask];rfl) ?_;show#[_,U,_,U,_,_,_,U,U,h3,W,n,p,res,U,#[ok,aT,hk],?_];rw[<- e];exact iM
   .refine gA (by rw[eg,hask];rfl) ?_;show#[_,U,W,n,p,U,#[ok,aT,hk],?_];rw[<- e];exact iM
  case iM =>
   show#[_,U,_,_,_,U,U,h1,fs.map λp=>(p.1,.str p.2),by rw[Wo];rfl,by rw[Wo];exact tb.fn,by rw[V8];cbv,?_];rw[F2];right;show#[h2,?_];right;show dM qJ (λdn s=>∃ x7 x8 x9 hZ gF:Sl,(x7.pl=true/\x8.pl=true/\x9.pl=true/\hZ.pl=true/\gF.pl=true)/\s=#[[.dat (kW B W ps),.dat (.int r),.dat (eZ p),.dat (.tup l),.dat (qf col),.dat (qu fs),.own 0,x7,x8,x9,hZ,gF],[some (Jn (dn.map (·.1)))]]) ?_ ?_ _ #[.no,.no,.no,.no,.no,#[U,U,U,U,U],U]
   .rintro s ⟨x7,x8,x9,hZ,gF,hp,rfl⟩;exact q
   .rintro dn x td s E e ⟨x7,x8,x9,hZ,gF,hp,rfl⟩ hN hE;let(pr,k,hc,ky,hko,yK,hs4):=tb.ok x (by rw[e];simp);have hxn:x.1∉dn.map (·.1):=gx tb.rn (b:=td.map (·.1)) (by rw[e,Wc];rfl);have hlc:br (col.map λc=>(Sum.inr c.1:Key)) (col.map λc=>D.tup [bW c.2.1,.str c.2.2]) (Sum.inr x.1)=some (.tup [bW pr,.str k]):=Hi (f:=λc:Str×(Sc×Str)=>c.1) (h:=λc=>D.tup [bW c.2.1,.str c.2.2]) tb.cn _ hc;have hno:=ue hxn;have hpt:=pG hxn;have hle:=congrArg List.length e;rw[Wa,Wi] at hle;have hrl:=tb.rl;have h21:=ky.len aT;rw[Wa] at h21;right;rw[hlc];show gA U ?_;right;rw[hno];show gA U ?_;right;show#[by rw[V8,V8];cbv,?_];rw[hpt];right;show#[_,hlc,?_];right;show bo pairD (λ_=>D.bl false) _ (λy hy k hk=>?_) ?_
    .have hyn:y.1∉fs.map (·.1):=λz=>by
      have:=ky.1;rw[Wc,WI] at this;exact this.2.2 _ z _ (Wr hy) U
     have hln:br (fs.map λp=>(Sum.inr p.1:Key)) (fs.map λp=>D.str p.2) (Sum.inr y.1)=none:=Pa (f:=λp:Str×Str=>p.1) (h:=λp=>.str p.2) hyn;right;rw[hln];exact hk _ U
    show#[pr.map λ_=>false,by rw[Wy,Wo];rfl,_,U,gA ?_ ?_]
    .rw[List.any_map];exact List.any_eq_false.mpr λ_ _=>Wm
    show#[_,U,_,_,_,U,U,h1,_,.inr U,_,U,_,.inr U,?_];show#[_,_,U,U,by rw[V8,V8];cbv,(fs++pr).map λp=>(p.1,.str p.2),by rw[Wo,Wc];rfl,by rw[Wo];exact ky.1,by rw[V8,Wa];cbv,?_];rw[F2];show#[_,U,_,U,_,U,_,U,W,ps,r,k,x.2,fs++pr,U,#[lk,ky,hko,yK,hs4],?_];right;show gA (by rw[decide_eq_true U];rfl) ?_;show hN _ #[.dat (.str x.1),.dat (toD x.2),.dat (bW pr),.dat (.str k),.dat (qu (fs++pr)),#[U,U,U,U,U],?_];rw[Wc]
    rfl
theorem lh{α β:Type}{f:α->!β}:∀ {l:!α} {a:α},a∈l->(f a).length<=(l.flatMap f).length
 | b::l,a,h=>by
  rw[Wv,Wa];rcases Wu.mp h with rfl | h
  .cbv
  .have:=lh (f:=f) h;cbv
theorem GD{W:bf}{sc:Sc}(h:jB W sc):mZ W sc:=#[h.nd,λp hp=>by
 rcases (h.ok p hp).2 with z | ⟨j,_,z⟩
 .exact WQ _ z
 .exact WD _ (WJ z)]
theorem mZ.perm{W:bf}{sc uk:Sc}(h:mZ W sc)(p:sc.Perm uk):mZ W uk:=#[(p.map _).nodup_iff.mp h.1,λx hx=>h.2 x (p.mem_iff.mpr hx)]
theorem uH{W:bf}{n:Nat}{p:PK}(ok:fP W n p){c:Str}{rows:!(Str×Tm)}(hb:(c,rows)∈uw p):(rows.map (·.1)).Nodup/\rows.length<=1000/\∀ r∈rows,(∃ m∈p.kd.bz,∃ a∈p.kd.bK,(if p.asked=true then (c,r.1) else (r.1,c))=(m.name,a.name)/\Ty W (m.fs++a.ps) a.res r.2)/\r.2.size<=400:=by
 have hm:∀ r∈rows,((if p.asked=true then (c,r.1) else (r.1,c)),r.2)∈ents p:=λr hr=>Xd.mpr #[_,hb,Wk.mpr #[r,hr,U]];show#[?_,?_,λr hr=>#[ok.nm _ (hm r hr),Ws (ok.tm _ (hm r hr)).2.2.2.1 ()]]
 .have h:=ok.nd;unfold ents at h;rw[List.map_flatMap] at h;have h:=(XD.mp h).1 _ hb;unfold gU at h;rw[Wo] at h;exact List.pairwise_map.mpr ((List.pairwise_map.mp h).imp λ{a b} hab e=>hab (by change (if p.asked=true then (c,a.1) else (a.1,c))=(if p.asked=true then (c,b.1) else (b.1,c));rw[show a.1=b.1 from e]))
 .have h:=lh (f:=gU p.asked) hb;have h2:=ok.ln;unfold ents at h2;unfold gU at h h2;rw[V8] at h;have h:rows.length<=_:=h;cbv
theorem S3{W:bf}{n:Nat}(w:dG W){kd:Kd}{tabs:!(!(Str×Tm))}(hk:kd∈W.kinds)(ok:fP W n #[true,kd,tabs]){y:eB×!(Str×Tm)}(hy:y∈kd.bz.zip tabs):S0 W y.1.fs y.2 (Hh kd):=by
 let(h1,h2,h3):=uH ok (c:=y.1.name) (rows:=y.2) (by rw[G9];exact Wk.mpr #[y,hy,U]);have hm:=(WO (a:=y.1) (b:=y.2) hy).1;have f3:=w.R4 hk hm;show#[by unfold Hh;rw[List.map_map];exact jz w hk,f3.1,h1,h2,f3.2.1,λr hr=>?_];let((m,hm',a,ha,e,ht),hs):=h3 r hr;injection e with e1 e2;have:=map_one (jq w hk) hm hm' e1;subst this;exact#[a.ps,a.res,by rw[e2];exact Wk.mpr #[a,ha,U],GD (lA w hk hm ha),(w.ao kd hk a ha).2.2,ht,hs]
theorem Tc{W:bf}{n:Nat}(w:dG W){kd:Kd}{tabs:!(!(Str×Tm))}(hk:kd∈W.kinds)(ok:fP W n #[false,kd,tabs]){y:dE×!(Str×Tm)}(hy:y∈kd.bK.zip tabs):S0 W y.1.ps y.2 (Ho kd y.1.res):=by
 let(h1,h2,h3):=uH ok (c:=y.1.name) (rows:=y.2) (by rw[Kv];exact Wk.mpr #[y,hy,U]);have ha:=(WO (a:=y.1) (b:=y.2) hy).1;have f3:=(w.S4 hk ha).1;show#[by unfold Ho;rw[List.map_map];exact jq w hk,f3.1,h1,h2,f3.2.1,λr hr=>?_];let((m,hm,a,ha',e,ht),hs):=h3 r hr;injection e with e1 e2;have:=map_one (jz w hk) ha ha' e2;subst this;exact#[m.fs,y.1.res,by rw[e1];exact Wk.mpr #[m,hm,U],mZ.perm (GD (lA w hk hm ha)) XC,(w.ao kd hk _ ha).2.2,Ty.perm _ XC ht,hs]
def Ur:X9:=λds R=>∃ (W:bf) (ps:!PK),ds=[.tup (ps.map eZ)]/\Lk W ps/\R (.bl true)
theorem Jx{B:AC}(Vl:Lf P w K mg base "Heads" ["self","program"] B 2 (yW K B (RM B)))(VG:aa0 P w K mg base fz 4 Vc)(Ss:aa0 P w K mg base fB 7 (UC B))(Sw:aa1 P w K mg base cp 2 Sy)(F:Own K mg su)(T:Txt K mg):aa0 P w K mg base su 8 Ur:=by
 let(fI,fdI,JI,MI,bI,mI):=Vl;show F.d (nos:=0) lp (λds R h=>?_) λf bh A outer s H E M hr=>#[_,(ag (aU (bu hr VG (ae (vd 0) af)))
 (ag (sS 1 lp.nd (DP qK MI JI (hr.mono ()) mI bI (ae (vd 0) af)))
 (ag (sF (aW (DN.de (iY hr Sw (ae (vd 0) af)))) (bb (m:=3) U (aq (gN 2 lp.nd) (aq (gN 3 lp.nd) (aq (gN 4 lp.nd) ba))))
 (au (aU (bu hr Ss (ae (vd 1) (ae (vd 2) (ae (vd 3) (ae (vd 4) af))))))))
 (au (bM jY))))),λds R h=>?_]
 .let(W,ps,rfl,_):=h
  rfl
 .let(W,ps,rfl,lk,q):=h;have hsz:=aI;have aT:=lk.aT;let((n,i9),_):=id lk;show#[_,U,W,ps,U,lk,?_];show#[_,U,W,ps,U,lk,λx k m a=>#[x,[k,m,a],_,U,U,?_]];show#[_,U,W,n,ps,U,i9,_,.inl U,?_];show dM Na (λdn s=>∃ x2 x3 x4:Sl,s=#[[.dat (.tup (ps.map eZ)),.dat (kW B W ps),x2,x3,x4],[]]) ?_ ?_ _ #[.no,.no,.no,by rw[kW,<- i9.kd];rfl]
  .rintro s ⟨x2,x3,x4,rfl⟩;exact q
  .rintro dn y td s E e ⟨x2,x3,x4,rfl⟩ hN hE;let(hr6,hyp,hyk,hyc):=C5 i9 (x:=y) (by rw[e];simp);let(yr,(b,kd,tabs),yd):=y;have ok:=i9.ok _ hyp;show#[_,U,U,_,_,U,_,_,U,_,_,U,U,?_];rcases hyc with ⟨hask,y,hy,rfl⟩ | ⟨hask,y,hy,rfl⟩
   .have hask:b=true:=hask;subst hask;show#[_,U,_,U,_,U,_,U,W,n,ps,_,_,y.1.fs,y.2,Hh kd,_,U,#[#[lk,ok,hyk],.inr #[U,U],kq,U,S3 aT hyk ok hy],?_];exact hN _ #[_,_,_,U]
   .have hask:b=false:=hask;subst hask;show#[_,U,_,U,_,U,_,U,W,n,ps,_,_,y.1.ps,y.2,Ho kd y.1.res,_,U,#[#[lk,ok,hyk],.inl #[U,y.1.res,lb,U],kq,U,Tc aT hyk ok hy],?_];exact hN _ #[_,_,_,U]
theorem sI:av ["_law_deal_here","_law_many","_law_number","_law_one","_law_other"] ["_law_deal_here","_law_many"] (ai oN):=eF
theorem Jv(F:Own K mg bp)(T:Txt K mg):C4 P w K mg base aR bp 1 cR.wH:=by
 show F.c λf fd F=>?_;show cR.En F sI λbh A outer s H E hu=>?_;exact b4 (vv PassesOwn.never (PW.pt (pw_and (hW cw (a9 hu (pv 0) dJ (λ_ _=>rfl)) bQ (aF _)) (pw_and1 (hW mO (k7 ia U T.len PySem.boot_len (fC (a9 hu (pv 0) dJ (λ_ _=>rfl)) l8)) bQ (aF _)))))
   (jk (c7 hu (pv 0) dJ (BA Xx Xe Xf vX (a9 hu (pv 0) dJ (λ_ _=>rfl))) U)))
  (b4 (gz (i:=2) sI.nd U (Or.inl U) (a9 hu (pv 0) dJ (λ_ _=>rfl)))
  (b4 (FR (hW mO (pv 2) bQ (aF _)) (b4 (c7 hu (pv 0) dJ (c5 c8 (pv 2) (pv 1)) U) (jk (me (c5 gC (pv 2) (pv 1))))) t9)
  (b4 (gz (i:=3) sI.nd U (Or.inl U) (c5 gC (c5 dg (c5 jV (a9 hu (pv 0) dJ (λ_ _=>rfl)) bQ) bQ) bQ))
  (b4 (c7 hu (pv 0) dJ (c5 gC (c5 dg (c5 jV (pv 3) bQ) bQ) bQ) U)
  (b4 (gz (i:=4) sI.nd U (Or.inl U) (c5 gC (c5 jV (a9 hu (pv 0) dJ (λ_ _=>rfl)) (a9 hu (pv 0) dJ (λ_ _=>rfl))) bQ))
  (jk (me (c5 gC (c5 dg (c5 jV (c5 gC (c5 jV (pv 3) (pv 3)) bQ) bQ) (pv 4)) (pv 1)))))))))
theorem oU:av ["_law_script","_law_base","_law_some","_law_number","_law_one"] ["_law_script","_law_base"] (ai oV):=eF
theorem UW:(["_law_one"]:!Str).Nodup:=by decide+kernel
theorem JP(F:Own K mg iA)(T:Txt K mg):C4 P w K mg base aR iA 1 (cR.xk K):=by
 show F.c λf fd F=>?_;show cR.Fl F oU λbh A outer s H E=>?_;exact b4 (xo (ts:=["_law_one"]) (us:=[]) (i:=2) oU.nd U U #[U,U,U,U,U,U] rfl (rL (lr xq (pv 0) (tV (pv 1)) (tV bQ))) (λ_ _ _ _=>eU (i:=0) UW U (Or.inl U)) (λ_ _ _ _=>ye)
   (λ_ _ _ _=>k7 (l4 U) U T.max PyProof.Rows.boot_max (fC (pv 0) (fC (c5 iV bQ (pv 0)) l8))))
  (b4 (gz (i:=3) oU.nd U (Or.inl U) (c5 dg bQ (pv 1)))
  (b4 (B5 PassesOwn.never U (rL (pv 2)) (eU (i:=4) oU.nd U (Or.inl U)) (jk (gz (i:=3) oU.nd U (Or.inl U) (c5 gC (c5 dg (c5 jV (pv 3) bQ) (c5 gC (pv 4) bQ)) bQ))))
  (jk (me (xp (lj dJ (pv 3) (lj dJ bQ (lj dJ (wk U U T.list U T.rev
   (yu (ts:=["_law_one"]) (us:=[]) #[U,U,U,U,U,U] rfl (rL (pv 2)) (λ_ _ _ _=>eU (i:=0) UW U (Or.inl U)) (λ_ _ _ _=>xS (hW Ga (pv 0) (c5 Jh bQ bQ) (aF _))) (λ_ _ _ _=>pv 0))) xF))) U U (by simp) ())))))
theorem Am{W:bf}(w:dG W){ks:!Kd}{ps:!PK}(hp:ps.map PK.kd=ks)(hs:(ks.map Kd.name).Sublist (W.kinds.map Kd.name))(h0:∀ p∈ps,p.asked=true/\p.kd.asked=true/\p.kd.bz=[]/\p.kd.bK=[]/\p.tabs=[]):Lk { W with kinds:=ks } ps:=by
 have hk:∀ k∈ks,k.bz=[]/\k.bK=[]:=λk h=>by
  rw[<- hp] at h;let(p,h',rfl):=Wk.mp h;exact#[(h0 p h').2.2.1,(h0 p h').2.2.2.1]
 have hnm:∀ k∈ks,Nm k.name:=λk h=>by
  let(k',h',e):=Wk.mp (hs.subset (Wr h));rw[<- e];exact (w.kw k' h').1
 have hln:=hs.length_le;rw[V8,V8] at hln;show#[#[0,#[Ws hln w.kl,w.kn.sublist hs,λk h=>#[hnm k h,by rw[(hk k h).1];decide,by rw[(hk k h).2];decide],?_,?_,λk h m hm=>(by rw[(hk k h).1] at hm;cases hm),λk h m hm=>(by rw[(hk k h).2] at hm;cases hm),λk h m r e=>(by rw[(hk k h).1] at e;cases e),w.hl,w.vl,w.nd,w.nm],hp,λp h=>?_],λp h=>by rw[(h0 p h).1,(h0 p h).2.1]]
 .rw[XX.mpr λk h=>by rw[(hk k h).1];rfl];exact XU
 .rw[XX.mpr λk h=>by rw[(hk k h).2];rfl];exact XU
 .let(a1,a2,a3,a4,a5):=h0 p h;let(b,(kb,kn,km,ka),ts):=p;have a1:b=true:=a1;have a3:km=[]:=a3;have a4:ka=[]:=a4;have a5:ts=[]:=a5;subst a1 a3 a4 a5;exact#[U,λe he=>(nomatch he),XU,λe he=>(nomatch he),WH _]
def yi(p:PK):PK:=#[true,#[true,p.kd.name,[],[]],[]]
theorem EX{W:bf}{ps:!PK}(h:Lk W ps):Lk { W with kinds:=(ps.map yi).map PK.kd } (ps.map yi):=Am h.aT U (by
 let((n,h),_):=h;rw[<- h.kd,Wo,Wo,Wo];exact Xi _) λp hp=>by
 let(q,_,rfl):=Wk.mp hp;exact#[U,U,U,U,U]
theorem JA{W:bf}{ps:!PK}(h:Lk W ps):Lk { W with kinds:=[] } []:=Am h.aT U (List.nil_sublist _) λp hp=>(nomatch hp)
theorem KG(fi:∀ d l,C4 P w K mg base aR bp 1 (cQ K (bg d l) (gK d)))(Us:∀ d l,C4 P w K mg base aR gu 4 (cQ K (bg d l) (Ud d)))(Ua:∀ d l,C4 P w K mg base aR eX 31 (cQ K (bg d l) (U3 d 8)))(A7:aa0 P w K mg base su 8 Ur)(GL:C4 P w K mg base aR iA 1 (cR.xk K)){f:AC}{fd:Go}(F:tL K "law" "law" kY f fd)(T:Txt K mg):bP P w K mg base aR 62 f fd ["_law_script"] (yb K):=by
 let(fL,fdL,GL,FL,mL,bL):=GL;show F.ok pz (λvs H Q E h=>?_) (λbh A outer s H vs Q E hr h=>?_)
 .let(a,ns,rfl,_):=h
  rfl
 .let(a,ns,rfl,hS,hlen,k):=h;have hrL:bO 1 _:=hr.mono ();show#[_,(b4 (gz (i:=1) pz.nd U (Or.inl U) (jw GL hrL U mL FL.kp bL .nil hV (fC (pv 0) (fC bQ l8)))) (Ee λd l M0 H0=>(ag (sS 2 pz.nd (ax hr (Ua d l) (ae (vd 1) (ae (ax hr (Us d l) (ae (vd 1) (ae aj (ae (kK mO sA (ax hr (fi d l) (ae (vd 1) (ae aj af))) aj (aF _)) af)))) (ae aj af)))))
 (ag (sS 3 pz.nd (ax hr (Ua d l) (ae (vd 1) (ae (ax hr (Us d l) (ae (vd 1) (ae aj (ae jY af)))) (ae aj af)))))
 (ag (sS 4 pz.nd (iS T.tuple (ae (DN.de (nC ["_law_kind"] [] (aW (vd 2)) (λ_ _ _ _=>(gM 0 ["_law_kind"])) (λ_ _ _ _=>cF)
 (λ_ _ _ _=>(aH (ae ay (ae (cG (vd 0) aj) (ae (aH af) (ae (aH af) af)))))))) af)))
 (ag (bH (DW.dt (Bv (aJ B8 Gp (bu hr A7 (ae (aH af) af)) jY (aF _)) (Cp (aJ B8 Gp (bu hr A7 (ae (vd 4) af)) jY (aF _)))))
 (au (bM jY))
 aK)
 (au (bM (CW (kK we BV (bu hr A7 (ae (vd 2) af)) jY (aF _)) (CW (kK we BV (bu hr A7 (ae (vd 3) af)) jY (aF _)) (Gn (kK we BV (bu hr A7 (ae (vd 2) af)) jY (aF _))))))))))))),?_]
  show#[_,U,a,ns,0,U,hS,hlen,by decide,by decide,λd l H1 hd hl D1 s1=>?_];show Ka (n:=3) (nos:=0) D1 U U ?_ k;have hsz:=aI;right;show#[#[by decide,by decide],λr r0 r1=>?_];right;show#[#[by decide,by decide],λws ks p7 QJ hwm ur=>?_];have aT:=ur.aT (decide (0 < r)) p7 QJ hwm;right;show#[#[aT,by decide,by decide,by decide],λps hps has=>?_];have lk1:Lk _ ps:=#[#[_,hps],has];right;show#[#[by decide,by decide],λws2 ks2 hwl2 hwn2 hwm2 hks2=>?_];have wok2:=hks2.aT true hwl2 hwn2 hwm2;right;show#[#[wok2,by decide,by decide,by decide],λqs hqs haq=>?_];have lk2:Lk _ qs:=#[#[_,hqs],haq];show#[_,U,_,.inr U,?_];show bo eZ (λp=>eZ (yi p)) _ (λp hp k hk=>?_) ?_
  .right;exact hk _ U
  rw[Wy];show#[_,.inl U,?_];show#[_,[],U,JA lk1,?_];show#[_,U,U,_,U,gA U ?_];show#[_,U,_,ps.map yi,by rw[Wo];rfl,EX lk1,?_];show#[_,U,U,_,U,gA U ?_];show#[_,U,_,ps,U,lk1,_,U,U,_,U,?_];simp only[↓reduceIte,Bool.false_eq_true];show#[_,U,_,qs,U,lk2,_,U,U,_,U,?_];simp only[↓reduceIte,Bool.false_eq_true];exact#[_,U,_,ps,U,lk1,_,U,U,U]
end
inductive j0(w:Fa):!SZ->!(Str×AT)->Prop
 | nil:j0 w [] []
 | cons {e:SZ} {k:Str} {v:AT} {es:!SZ} {kvs:!(Str×AT)}:(∃ t,e.key=.str k t)->e.hash=hashStr w k->e.val=v->j0 w es kvs->j0 w (e::es) ((k,v)::kvs)
theorem j0.dict{P:GE}{w:Fa}{es:Array SZ}{ep:Nat}{kvs:!(Str×AT)}(h:j0 w es.toList kvs)(nd:(kvs.map (·.1)).Nodup):Obj.IsDictOf (strKind P w) #[.type "dict",none,.dict es ep,#v[]] kvs:=by
 show#[es,ep,#[U,U,U],U,λe he=>?_,?_,nd]
 .have he:e∈es.toList:=Array.mem_toList_iff.mpr he;clear nd
  revert he
  generalize es.toList=l at h
  induction h with
  | nil=>exact λz=>nomatch z
  | cons hk hh hv _ ih =>
   intro he;rcases Wu.mp he with rfl | he
   .let(t,ht):=hk;exact#[_,by rw[ht];exact PySem.strKind_is P w _ t,hh]
   .exact ih he
 .clear nd;generalize es.toList=l at h
  induction h with
  | nil=>exact .nil
  | cons hk hh hv _ ih =>
   let(t,ht):=hk;exact .cons (by rw[ht];exact PySem.strKind_is P w _ t) hv ih
theorem FU{kvs:!(Str×AT)}{Q:Str->AC->Prop}(h:∀ p∈kvs,∃ f,p.2=.ref f/\Q p.1 f)(i:Str)(f:AC)(e:valueAt kvs i=some (.ref f)):Q i f:=by
 let(p,hp,e2):=WN.mp e;let(f',e3,q):=h p (List.mem_of_find?_eq_some hp);have e1:p.1=i:=by simpa using List.find?_some hp
 rw[e3] at e2;cases e2;rw[<- e1];exact q
theorem GG{kvs:!(Str×AT)}(hv:∀ p∈kvs,∃ f,p.2=AT.ref f){i:Str}(h:i∈kvs.map (·.1)):∃ a,valueAt kvs i=some (.ref a):=by
 let(p,hp,e):=Wk.mp h;cases q:kvs.find? λkv=>kv.1=i with
 | none=>exact absurd (List.find?_eq_none.mp q p hp) (by simp[e])
 | some p' =>
  let(f,e3):=hv p' (List.mem_of_find?_eq_some q);exact#[f,by unfold valueAt;rw[q,<- e3];rfl]
theorem O4(f:Fm):pF f∈(["name","num","op","zero","let","make","ask","case","new"]:!Str):=by cases f<;>(simp only[pF];decide+kernel)
theorem Nx(f:gp):qc f∈(["term","want","tell","alike","bind","asker","case","row"]:!Str):=by cases f<;>(simp only[qc];decide+kernel)
theorem all_mk{l:PySem.W.OpenLaw}{w:Fa}{K:Frag}{h:EQ}{mg:Str->Option AT}{fa C B Y Q0 Q2 Tz EF DD Dr EA Eu EW D8 Eh Ff Ds DC Ob P6 Mu Ov QL AA Dg AE MQ BI Bj Ci Dc zZ Ag Cf Bw:AC}{VN V0:Nat}{Va UZ:Array SZ}(X:K.In h)(G:h.Ns GM mg)(Vx:mg "law"=some (.ref fa)){Sz NP LU Lo NV MA OZ PM QB PV LO Pp NC Nr OV Pe Mq OM Mw LI QO NN Nz Qt:Option AC}{Ru LJ LZ NO O9 MM Mn Ml Nc O0 NX PQ:Array (Option AT)}{RC OJ OQ OG HY Qd Qm Lq PF N5 FY OU Of OF NU QH FE Pz Og N1 Oj NB GN Oi Om Mp Mx Qi F9 Qg PZ Od PN Ni FH LP Mr NH LL Mi Gg LQ Px P0 Oo Lu Gu MF QK O1 Qn MJ Gw Pg QE LB Ln LS F4 Pm O3 L7 NW M9 Gd QC QN Qp Nf LX FN NZ:AT}(US:Own K mg eY)(UQ:Own K mg fc)(UU:Own K mg bV)(Up:Own K mg cp)(U7:Own K mg cS)(Ui:Own K mg cU)(U8:Own K mg dN)(UP:Own K mg fe)(UG:Own K mg i5)(Uu:Own K mg j5)(T7:Own K mg l7)(Ux:Own K mg iN)(Um:Own K mg jT)(Qz:Own K mg je)(Mm:Own K mg j1)(Qr:Own K mg iO)(Uz:Own K mg j6)(Nl:Own K mg lK)(Mc:Own K mg lF)(Oc:Own K mg lZ)(LR:Own K mg jQ)(N7:Own K mg lQ)(OD:Own K mg j3)(LK:Own K mg lI)(PX:Own K mg pE)(T8:Own K mg dD)(UL:Own K mg eD)(T3:Own K mg fz)(Ug:Own K mg fB)(Oz:Own K mg su)(UE:Own K mg iA)(Uy:Own K mg bp)(Ub:Own K mg gd)(UR:Own K mg gf)(T2:Own K mg gm)(T4:Own K mg dC)(Uo:Own K mg d6)(Lj:Own K mg iB)(P5:Own K mg gQ)(Mg:Own K mg jl)(P4:Own K mg il)(My:Own K mg jy)(K7:Own K mg d5)(Uq:Own K mg gu)(U2:Own K mg gk)(UM:Own K mg eX)(TL:nsIn K GM "law"=some (some (.ref Tz)))(RQ:K.lookup Tz=some #[RC,Sz,.func (fnOf "law" "law" (bR kY) (aL kY) (ai kY) .none OJ OQ OG NP HY Qd),Ru])(Tg:codeIn K HY "law"=true)(Ro:keepIn K (.ref Tz)=true)(aC:nsIn K GM "TermLook"=some (some (.ref C)))(C8:findIn K (.ref C) "__init__"=some (some (.ref EF)))(JZ:K.lookup EF=some #[Qm,LU,.func (fnOf "__init__" "TermLook.__init__" (bR fO) (aL fO) (ai fO) .none Lq PF N5 Lo FY OU),LJ])(KZ:codeIn K FY "TermLook.__init__"=true)(He:keepIn K (.ref EF)=true)(Ac:PySem.W.isFn K (.ref EF)=true)(Cw:findIn K (.ref C) "plan"=some (some (.ref DD)))(Kt:K.lookup DD=some #[Of,NV,.func (fnOf "plan" "TermLook.plan" (bR fN) (aL fN) (ai fN) .none OF NU QH MA FE Pz),LZ])(HV:codeIn K FE "TermLook.plan"=true)(EJ:keepIn K (.ref DD)=true)(Be:PySem.W.isFn K (.ref DD)=true)(Bp:findIn K (.ref C) "take_kind"=some (some (.ref Dr)))(JK:K.lookup Dr=some #[Og,OZ,.func (fnOf "take_kind" "TermLook.take_kind" (bR cE) (aL cE) (ai cE) .none N1 Oj NB PM GN Oi),NO])(HB:codeIn K GN "TermLook.take_kind"=true)(Ey:keepIn K (.ref Dr)=true)(C9:PySem.W.isFn K (.ref Dr)=true)(zT:findIn K (.ref C) "tell_kind"=some (some (.ref EA)))(JM:K.lookup EA=some #[Om,QB,.func (fnOf "tell_kind" "TermLook.tell_kind" (bR cL) (aL cL) (ai cL) .none Mp Mx Qi PV F9 Qg),O9])(Kp:codeIn K F9 "TermLook.tell_kind"=true)(DY:keepIn K (.ref EA)=true)(BQ:PySem.W.isFn K (.ref EA)=true)(C1:PySem.W.plainGet K C Str.empty=true)(C2:PySem.W.hasDictIn K C=true)(C3:PySem.W.plainOver K C=true)(Tq:findIn K (.ref C) "__setattr__"=some (some (.builtin "object.__setattr__")))(Ki:findIn K (.ref C) "heads"=some none)(IV:findIn K (.ref C) "text_row"=some none)(Kz:findIn K (.ref C) "tables_let"=some none)(Js:findIn K (.ref C) "ahead"=some none)(IU:findIn K (.ref C) "done"=some none)(To:PySem.W.makesIn K C=true)(SE:keepIn K (.ref C)=true)(aB:nsIn K GM "Heads"=some (some (.ref B)))(BC:findIn K (.ref B) "__init__"=some (some (.ref Eu)))(KI:K.lookup Eu=some #[PZ,LO,.func (fnOf "__init__" "Heads.__init__" (bR fK) (aL fK) (ai fK) .none Od PN Ni Pp FH LP),MM])(GS:codeIn K FH "Heads.__init__"=true)(JR:keepIn K (.ref Eu)=true)(Dh:PySem.W.isFn K (.ref Eu)=true)(z6:findIn K (.ref B) "is_told_by"=some (some (.ref EW)))(Ij:K.lookup EW=some #[Mr,NC,.func (fnOf "is_told_by" "Heads.is_told_by" (bR cc) (aL cc) (ai cc) .none NH LL Mi Nr Gg LQ),Mn])(Hz:codeIn K Gg "Heads.is_told_by"=true)(EL:keepIn K (.ref EW)=true)(AD:PySem.W.isFn K (.ref EW)=true)(B1:PySem.W.plainGet K B Str.empty=true)(B2:PySem.W.hasDictIn K B=true)(B3:PySem.W.plainOver K B=true)(Rn:findIn K (.ref B) "__setattr__"=some (some (.builtin "object.__setattr__")))(Kr:findIn K (.ref B) "kinds"=some none)(HD:findIn K (.ref B) "makers"=some none)(J9:findIn K (.ref B) "askers"=some none)(Se:PySem.W.makesIn K B=true)(SU:keepIn K (.ref B)=true)(aY:nsIn K GM "HeadLook"=some (some (.ref Y)))(zS:findIn K (.ref Y) "__init__"=some (some (.ref D8)))(Ko:K.lookup D8=some #[Px,OV,.func (fnOf "__init__" "HeadLook.__init__" (bR fH) (aL fH) (ai fH) .none P0 Oo Lu Pe Gu MF),Ml])(Hd:codeIn K Gu "HeadLook.__init__"=true)(JO:keepIn K (.ref D8)=true)(C0:PySem.W.isFn K (.ref D8)=true)(Av:findIn K (.ref Y) "look_kind"=some (some (.ref Eh)))(K0:K.lookup Eh=some #[QK,Mq,.func (fnOf "look_kind" "HeadLook.look_kind" (bR cK) (aL cK) (ai cK) .none O1 Qn MJ OM Gw Pg),Nc])(G5:codeIn K Gw "HeadLook.look_kind"=true)(D0:keepIn K (.ref Eh)=true)(A2:PySem.W.isFn K (.ref Eh)=true)(C7:findIn K (.ref Y) "look_fields"=some (some (.ref Ff)))(GZ:K.lookup Ff=some #[QE,Mw,.func (fnOf "look_fields" "HeadLook.look_fields" (bR bY) (aL bY) (ai bY) .none LB Ln LS LI F4 Pm),O0])(KA:codeIn K F4 "HeadLook.look_fields"=true)(Fu:keepIn K (.ref Ff)=true)(BW:PySem.W.isFn K (.ref Ff)=true)(BR:findIn K (.ref Y) "look_maker"=some (some (.ref Ds)))(Ht:K.lookup Ds=some #[O3,QO,.func (fnOf "look_maker" "HeadLook.look_maker" (bR cb) (aL cb) (ai cb) .none L7 NW M9 NN Gd QC),NX])(JX:codeIn K Gd "HeadLook.look_maker"=true)(EY:keepIn K (.ref Ds)=true)(AX:PySem.W.isFn K (.ref Ds)=true)(zV:findIn K (.ref Y) "look_asker"=some (some (.ref DC)))(Jr:K.lookup DC=some #[QN,Nz,.func (fnOf "look_asker" "HeadLook.look_asker" (bR b9) (aL b9) (ai b9) .none Qp Nf LX Qt FN NZ),PQ])(HF:codeIn K FN "HeadLook.look_asker"=true)(EV:keepIn K (.ref DC)=true)(Ad:PySem.W.isFn K (.ref DC)=true)(Y1:PySem.W.plainGet K Y Str.empty=true)(Y2:PySem.W.hasDictIn K Y=true)(Y3:PySem.W.plainOver K Y=true)(Rq:findIn K (.ref Y) "__setattr__"=some (some (.builtin "object.__setattr__")))(IK:findIn K (.ref Y) "known"=some none)(Jf:findIn K (.ref Y) "makers_ahead"=some none)(KJ:findIn K (.ref Y) "askers_ahead"=some none)(Rw:PySem.W.makesIn K Y=true)(RV:keepIn K (.ref Y)=true)(Rx:nsIn K GM "look_name"=some (some (.ref Ob)))(RH:nsIn K GM "look_num"=some (some (.ref P6)))(RE:nsIn K GM "look_op"=some (some (.ref Mu)))(Tw:nsIn K GM "look_zero"=some (some (.ref Ov)))(R5:nsIn K GM "look_let"=some (some (.ref QL)))(JY:nsIn K GM "look_make"=some (some (.ref AA)))(HA:nsIn K GM "look_ask"=some (some (.ref Dg)))(IM:nsIn K GM "look_case"=some (some (.ref AE)))(TY:nsIn K GM "look_new"=some (some (.ref MQ)))(Jm:nsIn K GM "do_term"=some (some (.ref BI)))(HQ:nsIn K GM "do_want"=some (some (.ref Bj)))(IQ:nsIn K GM "do_tell"=some (some (.ref Ci)))(KH:nsIn K GM "do_alike"=some (some (.ref Dc)))(Ky:nsIn K GM "do_bind"=some (some (.ref zZ)))(G8:nsIn K GM "do_asker"=some (some (.ref Ag)))(Hk:nsIn K GM "do_case"=some (some (.ref Cf)))(HR:nsIn K GM "do_row"=some (some (.ref Bw)))(Cj:nsIn K GM "any"=some none)(wQ:nsIn K GM "dict"=some none)(iZ:nsIn K GM "enumerate"=some none)(Cd:nsIn K GM "int"=some none)(Cr:nsIn K GM "len"=some none)(vS:nsIn K GM "list"=some none)(AS:nsIn K GM "max"=some none)(zO:nsIn K GM "min"=some none)(t7:nsIn K GM "range"=some none)(kg:nsIn K GM "reversed"=some none)(so:nsIn K GM "tuple"=some none)(Ar:nsIn K GM "zip"=some none)(CI:nsIn K GM "str"=some none)(wz:nsIn K GM "bool"=some none)(Tb:nsIn K GM "TERMS"=some (some (.ref Q0)))(SR:K.lookup Q0=some #[.type "dict",none,.dict Va VN,#v[]])(Sk:(Q0 == Ps)=false)(RL:j0 w Va.toList [("name",.ref Ob),("num",.ref P6),("op",.ref Mu),("zero",.ref Ov),("let",.ref QL),("make",.ref AA),("ask",.ref Dg),("case",.ref AE),("new",.ref MQ)])(Sm:nsIn K GM "TASKS"=some (some (.ref Q2)))(Rp:K.lookup Q2=some #[.type "dict",none,.dict UZ V0,#v[]])(Sx:(Q2 == Ps)=false)(Tt:j0 w UZ.toList [("term",.ref BI),("want",.ref Bj),("tell",.ref Ci),("alike",.ref Dc),("bind",.ref zZ),("asker",.ref Ag),("case",.ref Cf),("row",.ref Bw)]) :
  ∃ fd:Go,(∀ (s:Da) (v:AT),BindsTo s fd #[[v],[]] [("_law_script",v)])/\∀ base:EQ,K.In base->base.Ns GM mg->bP l.prog w K mg base aR 62 fa fd ["_law_script"] (yb K):=by
 have e:=Vx.symm.trans (WG X G TL);cases e;have T:Txt K mg:=#[WM X G Cj,WM X G wQ,WM X G iZ,WM X G Cd,WM X G Cr,WM X G vS,WM X G AS,WM X G zO,WM X G t7,WM X G kg,WM X G so,WM X G Ar,WM X G CI,WM X G wz];have V:nv K C:=#[#[C1,C2,C3,Tq],Ki,IV,Kz,Js,IU];have Uh:qO K B:=#[#[B1,B2,B3,Rn],Kr,HD,J9];have Z:JE K Y:=#[#[Y1,Y2,Y3,Rq],IK,Jf,KJ];have FLa:=eC (st:=kY) RQ Tg Ro;have FvtI:=eC (st:=fO) JZ KZ He;have BvtI:=FvtI.binds (ps:=["self","heads","row","tables_let"]) λ_ _ _ _ _ _ us hl=>match us,hl with | [_,_,_,_],_=>rfl
 have FvtP:=eC (st:=fN) Kt HV EJ;have BvtP:=FvtP.binds (ps:=["self","tasks"]) λ_ _ _ _ _ _ us hl=>match us,hl with | [_,_],_=>rfl
 have OtP:gP K C "TermLook.plan" bX:=#[_,_,FvtP,#[Cw,Be,EJ],BvtP];have FvtK:=eC (st:=cE) JK HB Ey;have BvtK:=FvtK.binds (ps:=["self"]) λ_ _ _ _ _ _ us hl=>match us,hl with | [_],_=>rfl
 have OtK:gP K C "TermLook.take_kind" bw:=#[_,_,FvtK,#[Bp,C9,Ey],BvtK];have FvtD:=eC (st:=cL) JM Kp DY;have BvtD:=FvtD.binds (ps:=["self","kind"]) λ_ _ _ _ _ _ us hl=>match us,hl with | [_,_],_=>rfl
 have OtD:gP K C "TermLook.tell_kind" bZ:=#[_,_,FvtD,#[zT,BQ,DY],BvtD];have FvhI:=eC (st:=fK) KI GS JR;have BvhI:=FvhI.binds (ps:=["self","program"]) λ_ _ _ _ _ _ us hl=>match us,hl with | [_,_],_=>rfl
 have FvhT:=eC (st:=cc) Ij Hz EL;have BvhT:=FvhT.binds (ps:=["self","side","kind"]) λ_ _ _ _ _ _ us hl=>match us,hl with | [_,_,_],_=>rfl
 have OhT:gP K B "Heads.is_told_by" cT:=#[_,_,FvhT,#[z6,AD,EL],BvhT];have FvlI:=eC (st:=fH) Ko Hd JO;have BvlI:=FvlI.binds (ps:=["self","program"]) λ_ _ _ _ _ _ us hl=>match us,hl with | [_,_],_=>rfl
 have FvlK:=eC (st:=cK) K0 G5 D0;have BvlK:=FvlK.binds (ps:=["self","row","kind"]) λ_ _ _ _ _ _ us hl=>match us,hl with | [_,_,_],_=>rfl
 have OlK:gP K Y "HeadLook.look_kind" du:=#[_,_,FvlK,#[Av,A2,D0],BvlK];have FvlF:=eC (st:=bY) GZ KA Fu;have BvlF:=FvlF.binds (ps:=["self","row","fields"]) λ_ _ _ _ _ _ us hl=>match us,hl with | [_,_,_],_=>rfl
 have OlF:gP K Y "HeadLook.look_fields" cJ:=#[_,_,FvlF,#[C7,BW,Fu],BvlF];have FvlM:=eC (st:=cb) Ht JX EY;have BvlM:=FvlM.binds (ps:=["self","row","maker"]) λ_ _ _ _ _ _ us hl=>match us,hl with | [_,_,_],_=>rfl
 have OlM:gP K Y "HeadLook.look_maker" dU:=#[_,_,FvlM,#[BR,AX,EY],BvlM];have FvlA:=eC (st:=b9) Jr HF EV;have BvlA:=FvlA.binds (ps:=["self","row","asker"]) λ_ _ _ _ _ _ us hl=>match us,hl with | [_,_,_],_=>rfl
 have OlA:gP K Y "HeadLook.look_asker" dS:=#[_,_,FvlA,#[zV,Ad,EV],BvlA];have DM:Gr l.prog w K Q0 [("name",.ref Ob),("num",.ref P6),("op",.ref Mu),("zero",.ref Ov),("let",.ref QL),("make",.ref AA),("ask",.ref Dg),("case",.ref AE),("new",.ref MQ)]:=#[#[_,SR,RL.dict (by change List.Nodup (["name","num","op","zero","let","make","ask","case","new"]:!Str);decide+kernel)],Sk];have mM:=WG X G Tb;have DK:Gr l.prog w K Q2 [("term",.ref BI),("want",.ref Bj),("tell",.ref Ci),("alike",.ref Dc),("bind",.ref zZ),("asker",.ref Ag),("case",.ref Cf),("row",.ref Bw)]:=#[#[_,Rp,Tt.dict (by change List.Nodup (["term","want","tell","alike","bind","asker","case","row"]:!Str);decide+kernel)],Sx];have mK:=WG X G Sm;show#[fnOf "law" "law" (bR kY) (aL kY) (ai kY) .none OJ OQ OG NP HY Qd,λs v=>.of_eq U,λbase _ _=>?_];have gTh:=Mf (P:=l.prog) (w:=w) (base:=base) T4 T;have gDr:=λd l'=>(Jv (P:=l.prog) (w:=w) (base:=base) Uy T).imp λ_ _=>Ec (d:=d) (l:=l');have gWo:=λd l'=>CB (gDr d l') Ub T;have gPa:=λd l'=>OP (gDr d l') UR T;have gHe:=λd l'=>Pn (gDr d l') (gPa d l') T2 T;have gWd:=λd l'=>PU (gWo d l') (gHe d l') Uq T;have gBo:=λd l'=>NK (gDr d l') Uo T;have gLe:=λd l'=>GF (gDr d l') Lj T 2;have gTe:=λd l'=>GA (gDr d l') gTh (gBo d l') (gLe d l') P5 Mg P4 My K7 T 9;have gCs:=λd l'=>Pf (gDr d l') (gTe d l') U2 T ();have gPr:=λd l'=>O2 (gDr d l') (gCs d l') UM T ();have gMI:=PY (P:=l.prog) (w:=w) (base:=base) US T;have gAI:=Pj (P:=l.prog) (w:=w) (base:=base) UQ T;have gNK:=Nq (P:=l.prog) (w:=w) (base:=base) UU T;have gNT:=Ms gNK Up T;have gMC:=Oq gMI U7 T;have gAC:=Pu gAI Ui T;have gPL:=Np (P:=l.prog) (w:=w) (base:=base) (mg:=mg) OtP V T;have gTK:=Nw (P:=l.prog) (w:=w) (base:=base) (mg:=mg) OtK V T;have gTD:=MV (P:=l.prog) (w:=w) (base:=base) (mg:=mg) OtD V T;have gIT:=PH (P:=l.prog) (w:=w) (base:=base) (mg:=mg) OhT Uh T;have gPH:=LN gPL U8 V T;have gPR:=Nt gPL UP V T;have gLN:=Pb gTD UG V Uh T;have gLU:=MH gTD Uu V Uh T;have gLO:=O8 gPL T7 V Uh T;have gLZ:=MU gPL Ux V Uh T;have gLL:=Nk gPL Um V Uh T;have gLMK:=KD gPH Qz V Uh T;have gLSK:=J8 gPL Mm V Uh T;have gLCS:=Ih gPL Qr V Uh T;have gLW:=OT gPR gAC gIT Uz V Uh T;have Tv:=(FU (kvs:=[("name",.ref Ob),("num",.ref P6),("op",.ref Mu),("zero",.ref Ov),("let",.ref QL),("make",.ref AA),("ask",.ref Dg),("case",.ref AE),("new",.ref MQ)]) (Q:=λi f=>∃ fd ps,bP l.prog w K mg base aR 3 f fd ps (df K (Co C B i))/\keepIn K (.ref f)=true/\Binds K fd ps []) λp hp=>by
  simp only[List.mem_cons,List.not_mem_nil,or_false] at hp;rcases hp with rfl | rfl | rfl | rfl | rfl | rfl | rfl | rfl | rfl
  .exact#[_,U,gLN.uJ (WG X G Rx) ()]
  .exact#[_,U,gLU.uJ (WG X G RH) ()]
  .exact#[_,U,gLO.uJ (WG X G RE) ()]
  .exact#[_,U,gLZ.uJ (WG X G Tw) ()]
  .exact#[_,U,gLL.uJ (WG X G R5) ()]
  .exact#[_,U,gLMK.uJ (WG X G JY) ()]
  .exact#[_,U,gLSK.uJ (WG X G HA) ()]
  .exact#[_,U,gLCS.uJ (WG X G IM) ()]
  .exact#[_,U,gLW.uJ (WG X G TY) ()])
 have hIm:=λf=>GG (kvs:=[("name",.ref Ob),("num",.ref P6),("op",.ref Mu),("zero",.ref Ov),("let",.ref QL),("make",.ref AA),("ask",.ref Dg),("case",.ref AE),("new",.ref MQ)]) (λp hp=>by
  simp only[List.mem_cons,List.not_mem_nil,or_false] at hp;rcases hp with rfl | rfl | rfl | rfl | rfl | rfl | rfl | rfl | rfl<;>exact#[_,rfl]) (O4 f)
 have gDTM:=KN DM mM Tv hIm Nl V Uh T;have gDWA:=Jz gTK Mc V Uh T;have gDTE:=Ju gTD Oc V Uh T;have gDAL:=Hr gTK gTD LR V Uh T;have gDBI:=IE gTK gPL N7 V Uh T;have gDAS:=Ie gTK gPH OD V Uh T;have gDCA:=Ic gTK gPR gMC gIT LK V Uh T;have gDRO:=Kl gPL PX V Uh T;have R6:=(FU (kvs:=[("term",.ref BI),("want",.ref Bj),("tell",.ref Ci),("alike",.ref Dc),("bind",.ref zZ),("asker",.ref Ag),("case",.ref Cf),("row",.ref Bw)]) (Q:=λi f=>∃ fd ps,bP l.prog w K mg base aR 4 f fd ps (df K (Dl C B i))/\keepIn K (.ref f)=true/\Binds K fd ps []) λp hp=>by
  simp only[List.mem_cons,List.not_mem_nil,or_false] at hp;rcases hp with rfl | rfl | rfl | rfl | rfl | rfl | rfl | rfl
  .exact#[_,U,gDTM.uJ (WG X G Jm) ()]
  .exact#[_,U,gDWA.uJ (WG X G HQ) ()]
  .exact#[_,U,gDTE.uJ (WG X G IQ) ()]
  .exact#[_,U,gDAL.uJ (WG X G KH) ()]
  .exact#[_,U,gDBI.uJ (WG X G Ky) ()]
  .exact#[_,U,gDAS.uJ (WG X G G8) ()]
  .exact#[_,U,gDCA.uJ (WG X G Hk) ()]
  .exact#[_,U,gDRO.uJ (WG X G HR) ()])
 have Tp:=λf=>GG (kvs:=[("term",.ref BI),("want",.ref Bj),("tell",.ref Ci),("alike",.ref Dc),("bind",.ref zZ),("asker",.ref Ag),("case",.ref Cf),("row",.ref Bw)]) (λp hp=>by
  simp only[List.mem_cons,List.not_mem_nil,or_false] at hp;rcases hp with rfl | rfl | rfl | rfl | rfl | rfl | rfl | rfl<;>exact#[_,rfl]) (Nx f)
 have gLT:=Lv gPL gTK DK mK R6 Tp T8 V T;have gI:Lf l.prog w K mg base "TermLook" ["self","heads","row","tables_let"] C 1 (yW K C (Sd C)):=#[_,_,OO FvtI V,#[To,C8,Ac,SE],BvtI,WG X G aC];have gKT:=Nh gI gLT UL T;have gHI:Lf l.prog w K mg base "HeadLook" ["self","program"] Y 2 (yW K Y (RY Y)):=#[_,_,Pt gNK FvlI Z T,#[Rw,zS,C0,RV],BvlI,WG X G aY];have gLK:=Me (P:=l.prog) (w:=w) (base:=base) (mg:=mg) OlK Z T;have gLF:=PB gLK OlF Z T;have gLM:=Pk gLF OlM Z T;have gLA:=LH gLF gLK OlA Z T;have gLH:=OB gHI gLM gLA gNK gNT T3 Z T;have gHD:Lf l.prog w K mg base "Heads" ["self","program"] B 2 (yW K B (RM B)):=#[_,_,Oa gMI gAI FvhI Uh T,#[Se,BC,Dh,SU],BvhI,WG X G aB];have gTB:=P7 gMC gAC gKT Ug T;have gLOK:=Jx gHD gLH gTB gNT Oz T;exact KG gDr gWd gPr gLOK (JP (P:=l.prog) (w:=w) (base:=base) UE T) FLa T
theorem walk{l:PySem.W.OpenLaw}{q:GE}{loose:!Str}{XP:(Str->Option AT)->EQ->Prop}{YP:Fa->EQ->Prop}{d:DefRec}{K:TD->Frag}(hn:l.most=some 63)(Mv:d.params.defaults=[])(hY:∀ (w:Fa) (h:EQ),YP w h->(K w.params).In h)(F:∀ (w:Fa) (mg:Str->Option AT) (fa:AC) (h:EQ),(K w.params).In h->h.Ns GM mg->mg d.name=some (.ref fa) ->
   ∃ fd:Go,(∀ (s:Da) (u:AT),BindsTo s fd #[[u],[]] [("_law_script",u)])/\∀ base:EQ,(K w.params).In base->base.Ns GM mg->bP l.prog w (K w.params) mg base aR 62 fa fd ["_law_script"] (yb (K w.params))) :
  PySem.W.WalkO q loose XP YP l.row.toRowW d [] (λf vs=>PySem.call f vs) :=
 L2.ER (n:=63) (k:=62) (x:="_law_script") (CX:=λ_=>aR) (sp:=λw=>yb (K w.params)) hn () Mv #[U,by decide,by decide] hY F (λ_ _ a ns hl _ hS=>#[a,ns,U,hS,hl,λ_=>rfl]) λ_ _ _ _ _ z=>z
end OY
end
end
end
section
local macro_rules
 | `(#check [$n,*])=>do return Lean.mkNullNode (<-n.getElems.mapM fun x=>`(command|theorem $(Lean.mkIdent (.mkSimple s!"tw{x.raw.isNatLit?.get!}")):ident :True:=trivial))
namespace PySem.W.Fast
#check [9227747341182548920,17862355530214767202,6835279453154920519,14568297518500330678,2982692583422762732,7254065915208538391,9956411557291915565,2298064232433735942,1103163088917645946,3674002143954922716,13494234620971395390,12266744089716646443,17707917230694706132,11009002151911520761,35749180414954923,12509031792911789035,6463157556659436540,6969451035995164473,9973241785512601851,16490269908751624657,1338991007042033409,6891735385488251239,10077669792955341799,13607672940326031454,4686379904453470922,4604791060358858463,14640176995568001614,7320464492862263306,10120012467713305671,13345262552958881325,6837218754897379253,8707217717360843604,10162643298176490694,3104544157784861853,16128684338975172725,3697816790044594516,8997906777132791415,5601635498091296718,3026901690709724806,10926242849965237331,17558072649855728431,14097063081613141669,1648398087626043872,7921251938962389224,7637742828217464318,12510360691990944215,8192844367668695644,12700207145953669027,5401262273635130489,15545407294281893271,1605615723448671456,3658897646041753010,8112538480531424673,16857581417563740134,5646336106748688641,12518137381241988658,8392665176828340117,15637656101976008188,14279874711220008597,13390517424401706770,10604925868775202808,7864840753397275912,35746991991834642,6769517061451579216,11223590479133317214,8531990795944552461,18028285495485827779,3559097163523834697,4077792071342816240,10533328265994346455,5748847829053652576,4685312482229186141,2854766709972178800,2482300849423391975,3879830513539685826,7629068440167876029,12284431227734625797,2245921922727637582,16252948882236033219,9281526543748282764,18364127901042579209,9794404792608640785,180099691040818628,18278506475443185077,13729953116123835799,7575824346296857515,14852199875754747127,4737676111813676632,14452329085308434438,10417559321691675898,16037893186279614951,12542410294936842798,8752329185416490224,6937183259723298943,126842330660741058,1647465419649418643,11988993565746985592,5222472262996356592,5779224771164427240,14515542312271342196,8055047001207968088,9338256347485201329,1234426359946357062,8881959490051353217,7685962173443996684,16586515055065003528,4314003055028135490,746383109553373883,8422911427713194263,16903262407525760788,11705028259978148442,7648634034891503061,1891769995169861934,4598188998977434303,4533400930260624102,12763176668929263414,17097651563911607741,7335605060254010389,10342522147055804742,17164409130489020374,5866071097584728335,7037827575710403366,12786094259339861291,14209664680716632499,10373314683343674080,18170833397344484438,6825033502318850526,11870180436926570495,2441547026088635857,14906309859208933668,5810743394233889311,1566811741948291056,14961934464478309507,11700899924310962400,2715290412653393164,3628422516133759710,11721115533474338513,10940430197140156301,7004048996242911883,10655709747265733224,15478195332826889864,1601700790698200810,16642367973806819411,14900201490179424407,13354368931774439163,17433267221690184091,13307560055028717773,16868110378673626188,2067089888734519151,7678267978546460104,12197435365143826319,17884311022628572197,639433270556835241,11977170372657436836,9087658534687918,9975592172446804189,8431605087906284634,886167426796397546,16879595205477919377,10296772924872667362,7584270045100572960,2067915258581362731,7162878680815561799,2428085875581846118,7488027537193438203,14600963011112650763,4492444680581047115,9373169226644363943,13725319939084191984,17748273203614837149,3881411784916843745,13780086562808456273,17909121544299170357,3859231050465964325,16965029371375413462,13722595806071637542,17868798983810962574,15355256294941524560,5789299232564034966,9319815242428729017,2609379055359046626,428445565545012656,2408694364511112962,4236814187624844095,10209635844664309228,8243593840340469549,2235600911265368001,12444291869785422386,9292358448635828961,5024553960243828148,15019038732402014254,8601578684739837578,17918201875931622577,4326914613139561501,13642423785315201536,2218976045746881699,3150878948380583082,4701801657799406582,9972569813504567361,13416165040149420165,9228330780875983854,16706173025627932000,11322575805614727684,13677810592721192335,650064078574988055,15411167624210098738,407278749229481391,11978373166720299809,16863716974195590736,3035547538811110325,3407851556223839791,8804457853372195520,14582333333163166162,4426173304088630943,12344368394268177574,14063957966475954164,3354365226285164974,15609971462306032094,5656039877162677079,13332318032879542876,6257025029791885835,18349167078121133600,5313166418484525856,16391893040551674440,16513599704464869740,10109541785893498846,2729909518657885276,5001322796802021700,9694598076683277732,11419610210113082166,11849733949547850787,17720221465922448033,11359307787251137361,2506084455096952323,12942848299147793029,14485386735645506020,17082723272462234657,14723135757897804615,12644474565473135819,5357211891987026066,9261563323306364113,3370301096803871991,2582378666698847486,5140142988376837916,17474763587311965276,8637640798859179169,7115320804332382671,8990992656705558678,12981910216075349458,6260628185966960407,1362699332080115863,667868005655447910,5511133693043243593,1054032903245811094,7351540360354831506,14972166297235843061,10950928985445511405,18332949460821661992,4636592064060727127,2433311980981852243,2763329499843761610,12510784880432904849,1694821445991001077,10895571207560485936,14356312499182932223,3159180495790415788,4329571069351665135,8492026657268902047,8576852445796302967,17405251907562640762,5729762863704040304,7610622608900589966,11574033445339990180,2076222632203123838,580132522170511252,5606801050976873291,8282733233284440695,16386978307560763019,16853854706025527863,9210450474391785552,9361473967435820599,3515149604793571506,9042969384454101788,1910177817990864554,5888003553501191466,14858059190361106058,14666161260441844387,4024235583884594151,8510314221715521881,14532234543614520149,4850405464969796423,3711677554154597562,1807726737072848913,1863148086559914062,15229206486431448875,3794882280194524651,7326096516595515768,16958535972396013408,12261714424848252348,1625082849463443300,1507293004422630374,16044950952228201789,12445111484918820652,4311890184794721719,14628135248183658594,11640632404477898135,3910564698774067992,11294516704863075129,15790974998451559990,15331219022715687556,17565561446151996750,7452046388646682511,17865179951698456803,3989277173035616657,9598866882131621491,18036328407812476471,6200027137504153818,12932010414395713794,10908633500741450302,2025153002763306092,7412716409708574178,16421499171635992671,10298516611412998990,11960122869765043028,17411119841327909039,4098279023439528308,12163126128662847199,11133213721044382530,17178370242919928181,4879281496030058697,1633114913634962345,17657937987971407251,9537300033518222323,9614192560003344075,15489523811931177211,12734436139069726431,1868790128592900607,4648533604916505753,18925701579034294,12572380175984758562,18029572054787467725,1293388943322701874,14883719584840078308,13573423481745202856,14114139543358798167,14246148091791913084,10936862545201491170,627804972177807001,14992913599810681441,11179579751463658390,1073760345906126185,12452103767029225525,851775304821742690,1750626912416697800,3216114774504075596,41791376881771453,9338859806430216981,17430602267926950611,11488344498055318694,6768372331461161580,5857128650727208791,6759143406017577440,17468922092433110150,16189123177179269782,11280579449199496666,4020185370908648874,7011307265290128081,17584371615321294073,14448180621916411680,3881934332481482969,13705703129378201521,17788481648699578623,15403715648309184124,689697334304005653,8738240734449876499,1757609090538439732,4035552385716367522,7105374839404671186,3243065290269643020,16827095115652086128,16276829658364537479,16870637926907052965,18441525905990936854,1028278568848431081,14638988641006052841,11943672028473236802,9142045431322829160,7272459750047428911,5371991849816525609,3171015165044509842,12601135854540156433,7328767162462793612,13270209777099883247,529363130118632090,4285296646370477479,15611972730882507340,10959022574160631022,5506754898109744130,1096703379059807838,9562460882872763330]
end PySem.W.Fast
end
open PySem PySem.W PyProof.Rows
set_option maxRecDepth 100000 in
set_option maxHeartbeats 0 in
theorem PySem.Challenge.cw_sideturn_k09_programs_let_by_holds : PySem.Challenge.rw_sideturn_k09_programs_let_by.Holds := by
 w_on;o_law;k_head;(case hw=>w_witness2)
 k_fill
 refine OY.walk (l:=PySem.Challenge.rw_sideturn_k09_programs_let_by) U U (λw h Y=>PySem.W.kIn_of Y) ?F
 case F =>
  intro w mg fa h KX G hmg
  refine' OY.all_mk KX G hmg ?US ?UQ ?UU ?Up ?U7 ?Ui ?U8 ?UP ?UG ?Uu ?T7 ?Ux ?Um ?Qz ?Mm ?Qr ?Uz ?Nl ?Mc ?Oc ?LR ?N7 ?OD ?LK ?PX ?T8 ?UL ?T3 ?Ug ?Oz ?UE ?Uy ?Ub ?UR ?T2 ?T4 ?Uo ?Lj ?P5 ?Mg ?P4 ?My ?K7 ?Uq ?U2 ?UM ?TL ?RQ ?Tg ?Ro ?aC ?C8 ?JZ ?KZ ?He ?Ac ?Cw ?Kt ?HV ?EJ ?Be ?Bp ?JK ?HB ?Ey ?C9 ?zT ?JM ?Kp ?DY ?BQ ?C1 ?C2 ?C3 ?Tq ?Ki ?IV ?Kz ?Js ?IU ?To ?SE ?aB ?BC ?KI ?GS ?JR ?Dh ?z6 ?Ij ?Hz ?EL ?AD ?B1 ?B2 ?B3 ?Rn ?Kr ?HD ?J9 ?Se ?SU ?aY ?zS ?Ko ?Hd ?JO ?C0 ?Av ?K0 ?G5 ?D0 ?A2 ?C7 ?GZ ?KA ?Fu ?BW ?BR ?Ht ?JX ?EY ?AX ?zV ?Jr ?HF ?EV ?Ad ?Y1 ?Y2 ?Y3 ?Rq ?IK ?Jf ?KJ ?Rw ?RV ?Rx ?RH ?RE ?Tw ?R5 ?JY ?HA ?IM ?TY ?Jm ?HQ ?IQ ?KH ?Ky ?G8 ?Hk ?HR ?Cj ?wQ ?iZ ?Cd ?Cr ?vS ?AS ?zO ?t7 ?kg ?so ?Ar ?CI ?wz ?Tb ?SR ?Sk ?RL ?Sm ?Rp ?Sx ?Tt
  all_goals try (refine' DL.Jq KX G ?a ?l ?c ?k ?b;(case a=>k_is);(case l=>k_is);(case c=>k_is);(case k=>k_is);(case b=>intro _ _ _ _ _ _ us hl;rcases us with _ | ⟨_,_ | ⟨_,_ | ⟨_,_ | ⟨_,_ | ⟨_,_ | ⟨_,_⟩⟩⟩⟩⟩⟩<;>first | rfl | cases hl))
  (case TL=>k_is)
  (case RQ=>k_is)
  (case Tg=>k_is)
  (case Ro=>k_is)
  (case aC=>k_is)
  (case C8=>k_is)
  (case JZ=>k_is)
  (case KZ=>k_is)
  (case He=>k_is)
  (case Ac=>k_is)
  (case Cw=>k_is)
  (case Kt=>k_is)
  (case HV=>k_is)
  (case EJ=>k_is)
  (case Be=>k_is)
  (case Bp=>k_is)
  (case JK=>k_is)
  (case HB=>k_is)
  (case Ey=>k_is)
  (case C9=>k_is)
  (case zT=>k_is)
  (case JM=>k_is)
  (case Kp=>k_is)
  (case DY=>k_is)
  (case BQ=>k_is)
  (case C1=>k_is)
  (case C2=>k_is)
  (case C3=>k_is)
  (case Tq=>k_is)
  (case Ki=>k_is)
  (case IV=>k_is)
  (case Kz=>k_is)
  (case Js=>k_is)
  (case IU=>k_is)
  (case To=>k_is)
  (case SE=>k_is)
  (case aB=>k_is)
  (case BC=>k_is)
  (case KI=>k_is)
  (case GS=>k_is)
  (case JR=>k_is)
  (case Dh=>k_is)
  (case z6=>k_is)
  (case Ij=>k_is)
  (case Hz=>k_is)
  (case EL=>k_is)
  (case AD=>k_is)
  (case B1=>k_is)
  (case B2=>k_is)
  (case B3=>k_is)
  (case Rn=>k_is)
  (case Kr=>k_is)
  (case HD=>k_is)
  (case J9=>k_is)
  (case Se=>k_is)
  (case SU=>k_is)
  (case aY=>k_is)
  (case zS=>k_is)
  (case Ko=>k_is)
  (case Hd=>k_is)
  (case JO=>k_is)
  (case C0=>k_is)
  (case Av=>k_is)
  (case K0=>k_is)
  (case G5=>k_is)
  (case D0=>k_is)
  (case A2=>k_is)
  (case C7=>k_is)
  (case GZ=>k_is)
  (case KA=>k_is)
  (case Fu=>k_is)
  (case BW=>k_is)
  (case BR=>k_is)
  (case Ht=>k_is)
  (case JX=>k_is)
  (case EY=>k_is)
  (case AX=>k_is)
  (case zV=>k_is)
  (case Jr=>k_is)
  (case HF=>k_is)
  (case EV=>k_is)
  (case Ad=>k_is)
  (case Y1=>k_is)
  (case Y2=>k_is)
  (case Y3=>k_is)
  (case Rq=>k_is)
  (case IK=>k_is)
  (case Jf=>k_is)
  (case KJ=>k_is)
  (case Rw=>k_is)
  (case RV=>k_is)
  (case Rx=>k_is)
  (case RH=>k_is)
  (case RE=>k_is)
  (case Tw=>k_is)
  (case R5=>k_is)
  (case JY=>k_is)
  (case HA=>k_is)
  (case IM=>k_is)
  (case TY=>k_is)
  (case Jm=>k_is)
  (case HQ=>k_is)
  (case IQ=>k_is)
  (case KH=>k_is)
  (case Ky=>k_is)
  (case G8=>k_is)
  (case Hk=>k_is)
  (case HR=>k_is)
  (case Cj=>k_is)
  (case wQ=>k_is)
  (case iZ=>k_is)
  (case Cd=>k_is)
  (case Cr=>k_is)
  (case vS=>k_is)
  (case AS=>k_is)
  (case zO=>k_is)
  (case t7=>k_is)
  (case kg=>k_is)
  (case so=>k_is)
  (case Ar=>k_is)
  (case CI=>k_is)
  (case wz=>k_is)
  (case Tb=>k_is)
  (case SR=>k_is)
  (case Sk=>rfl)
  (case RL=>(repeat (first | exact .nil | refine .cons ⟨_,U⟩ rfl U ?_)))
  (case Sm=>k_is)
  (case Rp=>k_is)
  (case Sx=>rfl)
  (case Tt=>(repeat (first | exact .nil | refine .cons ⟨_,U⟩ rfl U ?_)))
