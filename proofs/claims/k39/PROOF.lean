import PyProof.Rows.All
import Wide.All
import OpenK.AllK
import Wide.FinOn
import Lean
import PyProof.EqAt
import PyProof.EqKinds
import PyProof.TupleCall
import PyProof.ZipIter
import PyProof.NeData
import PyProof.Draws
import PyProof.EnumMake
import PyProof.IsiHeapPairs
import PyProof.IsiNone
import PyProof.ConsumeWalk
import PyProof.TupleOfStr
import PyProof.DictWalks
import KE.KDictSum
import KE.KDictOf
import PyProof.IsiH_list
import PySem.Challenge.RW_sideturn_k39_what_code_is
set_option genSizeOf false
set_option genInjectivity false
set_option Elab.async false
set_option compiler.extract_closed false
set_option linter.all false
set_option maxRecDepth 100000
set_option maxHeartbeats 8000000
open Lean in
def cv:Nat->Term->MacroM (TSyntax `rcasesPat)
 |0,_=>Macro.throwUnsupported
 |n+1,t=>do match t with
  |`(($a,$b,*))=>let p<-(#[a]++b.getElems).mapM (cv n);`(rcasesPat|⟨$[$p:rcasesPat],*⟩)
  |`($x:ident)=>`(rcasesPat|$x:ident)
  |`(_)=>`(rcasesPat|_)
  |`(())=>`(rcasesPat|⟨⟩)
  |_=>Macro.throwUnsupported
section
local macro_rules
 | `(tactic|let ($a,$b,*):=$e)=>do `(tactic|obtain $(<-cv 9 (<-`(($a,$b,*)))):rcasesPat:=$e)
local macro_rules
 | `(#[$a,*])=>`(⟨$a,*⟩)
local macro_rules
 | `(#v[$a,*])=>`(List.toArray [$a,*])
local macro_rules
 | `(↑$s)=>`(($s).heap.objs.size)
local macro_rules
 | `(tactic|cbv)=>`(tactic|first|with_reducible assumption|with_reducible exact Nat.le_refl _|with_reducible exact Nat.lt_succ_self _|lia|omega)
local macro_rules
 | `(tactic|ac_nf)=>`(tactic|first|exact .inl rfl|exact .inr rfl|assumption)
local macro_rules
 | `(tactic|ac_rfl)=>`(tactic|first|decide|cbv)
local macro_rules
 | `(command|def $i:declId $s:optDeclSig $v:declVal)=>`(command|noncomputable def $i:declId $s:optDeclSig $v:declVal)
local macro_rules
 | `(command|abbrev $i:declId $s:optDeclSig $v:declVal)=>`(command|noncomputable abbrev $i:declId $s:optDeclSig $v:declVal)
local macro_rules
 | `(!$x)=>`(List $x)
local macro_rules
 | `(tactic|show $t)=>`(tactic|refine $t)
local macro_rules(kind:=Lean.Parser.Command.declaration)
 |s=>if s.getPos?.isSome then pure (s.rewriteBottomUp (·.setInfo .none)) else Lean.Macro.throwUnsupported
open PySem renaming Addr→AC,Value→AT,Expr→Ch,Shared→Cl,wpAny_bind→Da,Heap→Db,wpAny→EQ,Stmt→Ev,World→FB,sizeLine→FS,Program→Fa,PyData→Fk,Around→Fr,wpAny_pure→GE,mainGlobals→GM,Builtin→GT,starEach→Gc,FuncData→Go,NameKind→IN,backTo→IR,compareOp→Ix,wpAny_holding→KB,wpAny_mono→KF,sysModules→KM,wpAny_field→NE,binaryOp→Os,IsPair→PP,Keyword→Ps,backToKw→P3,keywordEach→Re,wpAny_seqItems→Rs,rawInt→SC,DictEntry→SL,wpAny_newObj_type→ST,wpAny_call_entry→SZ,Params→TD
local macro_rules
 | `(())=>`(by decide)
local macro_rules
 | `(-())=>`(by decide+kernel)
theorem Tk(h:True:=by rfl):True:=h
theorem Tl(h:True:=by decide):True:=h
local macro_rules
 | `($x⁻¹)=>`(autoParam $x Tk._auto_1)
local macro_rules
 | `(~~~$x)=>`(autoParam $x Tl._auto_1)
open PySem.W (Frag nsIn findIn keepIn typeIn kitOne fnOf kitAny codeIn InstAt Looks specialIn)
section
open PySem
def aaa:=@List.length_map
def aab:=@List.length_append
def aac:=@List.mem_cons_of_mem
def aad:=@List.mem_cons_self
def aae:=@Db.get?_push_of_some
def aaf:=@List.getElem?_eq_some_iff
def aag:=@List.mem_singleton
def aah:=@Nat.le_refl
def aai:=@List.map_append
def aaj:=@List.mem_cons
def aak:=@List.mem_map
def aal:=@List.append_nil
def aam:=@List.length_cons
def aan:=@List.map_map
def aao:=@List.map_cons
def aap:=@Nat.le_trans
def aaq:=@List.getElem?_eq_getElem
def aar:=@Db.lt_size
def aas:=@List.getElem?_set_ne
def aat:=@Db.get?_push_size
def aau:=@Bool.false_ne_true
def aav:=@List.mem_map_of_mem
def aaw:=@List.mem_append
def aax:=@Nat.zero_le
def aay:=@Nat.lt_of_lt_of_le
def aaz:=@List.append_assoc
def aaA:=@PySem.W.mg_of
def aaB:=@List.mem_append_right
def aaC:=@List.size_toArray
def aaD:=@Nat.ne_of_lt
def aaE:=@List.getElem?_set_self
def aaF:=@List.nil_append
def aaG:=@List.getElem?_map
def aaH:=@List.mem_append_left
def aaI:=@Option.map_eq_some_iff
def aaJ:=@Option.some.inj
def aaK:=@List.mem_of_getElem?
def aaL:=@List.length_set
def aaO:=@List.eq_nil_of_length_eq_zero
def aaP:=@PySem.W.mg_none_of
def aaQ:=@List.map_nil
def aaR:=@List.nodup_append
def aaS:=@List.nodup_cons
def aaT:=@Bool.and_eq_true
def aaU:=@List.mem_flatMap
def aaV:=@Db.size_push
def aaW:=@List.take_sublist
def aaX:=@List.flatMap_cons
def aaZ:=@List.mem_of_mem_take
def aa0:=@List.getElem?_append_left
def aa1:=@List.getElem?_append_right
def aa2:=@PySem.mem_of_lookup
def aa3:=@List.mem_filter
def aa4:=@List.of_mem_zip
def aa5:=@List.length_filter_le
def aa6:=@PySem.F.slot_list_pop
def aa7:=@PySem.F.type_list_pop
def aa8:=@List.length_take
def aa9:=@List.all_eq_true
def aba:=@List.getElem_of_mem
def abb:=@List.length_singleton
def abc:=@List.nodup_nil
def abe:=@List.drop_eq_getElem_cons
def abf:=@List.map_id
def abg:=@Option.isSome_iff_exists
def abh:=@List.length_zip
def abi:=@PySem.F.slot_list_extend
def abj:=@PySem.F.type_list_extend
def abk:=@PySem.F.plainAttrs_list
def abl:=@List.length_drop
def abm:=@List.lookup_cons
def abn:=@List.map_fst_zip
def abo:=@Int.emod_lt_of_pos
def abp:=@PySem.StrLaws.glued_eq_join
def abq:=@Int.emod_nonneg
def abr:=@List.getElem?_eq_none
def abt:=@Nat.lt_irrefl
def abu:=@List.any_cons
def abv:=@List.reverse_cons
def abw:=@List.length_range
def abx:=@List.getElem?_of_mem
def aby:=@Nat.le_of_lt
def abz:=@Nat.ne_of_gt
def abA:=@PySem.F.slot_list_append
def abB:=@PySem.F.type_list_append
def abC:=@List.cons_ne_nil
def abD:=@List.map_congr_left
def abE:=@List.getElem?_drop
def abF:=@Int.natCast_nonneg
def abG:=@Db.get?_update_self
def abH:=@Array.getElem?_toList
def abI:=@List.mem_range
def abJ:=@List.take_append_drop
def abK:=@PySem.boot_len
def abL:=@List.getElem_inj
def abM:=@List.getElem_mem
def abN:=@List.mem_of_mem_drop
def abO:=@List.flatMap_map
def abP:=@List.getD_eq_getElem?_getD
def abQ:=@List.nodup_iff_pairwise_ne
def abR:=@List.exists_cons_of_ne_nil
def abS:=@Bool.eq_iff_iff
def abT:=@Nat.le_add_left
def abU:=@PySem.W.callWith_K
def abV:=@PySem.F.args_tuple_add_2
def abW:=@List.length_zipIdx
def abX:=@PySem.F.entry_tuple_add
def abY:=@List.append_cancel_left
def abZ:=@List.ext_getElem?
def ab0:=@List.zip_map_left
def ab1:=@Nat.le_succ
def ab2:=@PySem.F.slot_tuple_add
def ab3:=@Db.get?_update_other
def ab4:=@Nat.lt_succ_self
def ab5:=@Nat.succ_le_succ
def ab6:=@List.any_eq_true
def ab7:=@List.map_reverse
def ab8:=@List.map_flatMap
def ab9:=@List.getElem?_zipWith
def aca:=@Int.ofNat_lt
end
open PySem in
abbrev acb:=AT->Cl->Prop
open PySem in
abbrev acd:=!(AC×Obj)
open PySem in abbrev acf (N:Env)(e:Ch)(r:!Ch):Prop:=Gc (e::r) N=(false,eval e N)::Gc r N
open PySem in abbrev acg (N:Env)(p:Pos)(r:!Ch):Prop:=(IR p (Gc r N)).any (·.1)=false
open PySem in abbrev ach (x:Str):Prop:=(x == ("__debug__":Str))=false
theorem U.{u}{α:Sort u}{a:α}:a=a:=rfl
namespace L2
open PySem PySem.Spec PyProof.Rows
abbrev Key:=Sum Int Str
def sP:Key->AT->Bool
 | .inl k,v=>AT.isInt k v
 | .inr x,v=>AT.isStrOf x v
def Wj(w:FB):Key->Int
 | .inl k=>hashInt k
 | .inr x=>hashStr w x
theorem cf:∀ {k:Key} {v:AT},sP k v=true->(∃ i t,k=Sum.inl i/\v=AT.int i t)\/(∃ x t,k=Sum.inr x/\v=AT.str x t)
 | .inl i,v,h=>by
  let(t,e):=AT.isInt_shape (k:=i) (v:=v) h;exact .inl #[i,t,U,e]
 | .inr x,v,h=>by
  let(t,e):=AT.isStrOf_shape (x:=x) (v:=v) h;exact .inr #[x,t,U,e]
theorem B0(i:Int)(t:Tok):sP (.inl i) (.int i t)=true:=by simp[sP,AT.isInt]
theorem BW(x:Str)(t:Tok):sP (.inr x) (.str x t)=true:=by simp[sP,AT.isStrOf]
theorem LN(a b:Int):decide ((Sum.inl a:Key)=Sum.inl b)=(a == b):=by
 by_cases e:a=b
 .subst e;simp
 .have h:¬ (Sum.inl a:Key)=Sum.inl b:=λq=>e (Sum.inl.inj q);rw[decide_eq_false h];exact (beq_eq_false_iff_ne.mpr e).symm
theorem Lr(a b:Str):decide ((Sum.inr a:Key)=Sum.inr b)=decide (a=b):=by
 by_cases e:a=b
 .subst e;simp
 .have h:¬ (Sum.inr a:Key)=Sum.inr b:=λq=>e (Sum.inr.inj q);rw[decide_eq_false h,decide_eq_false e]
theorem Nh(a:Int)(b:Str):decide ((Sum.inl a:Key)=Sum.inr b)=false:=decide_eq_false (λq=>nomatch q)
theorem KR(a:Str)(b:Int):decide ((Sum.inr a:Key)=Sum.inl b)=false:=decide_eq_false (λq=>nomatch q)
def cu(prog:Fa)(w:FB):PySem.KeyKind prog w Key where
 is:=sP
 hash:=Wj w
 inj:=λv a b ha hb=>by
  rcases cf ha with ⟨i,t,rfl,rfl⟩ | ⟨x,t,rfl,rfl⟩
  .rcases cf hb with ⟨j,u,rfl,e⟩ | ⟨y,u,rfl,e⟩
   .injection e with e1 _;rw[e1]
   .exact nomatch e
  .rcases cf hb with ⟨j,u,rfl,e⟩ | ⟨y,u,rfl,e⟩
   .exact nomatch e
   .injection e with e1 _;rw[e1]
 byValue:=λk v h=>by
  rcases cf h with ⟨i,t,rfl,rfl⟩ | ⟨x,t,rfl,rfl⟩<;>rfl
 pyHash:=λhv h=>by
  rcases cf hv with ⟨i,t,rfl,rfl⟩ | ⟨x,t,rfl,rfl⟩
  .exact wpAny_pyHash_int h
  .exact wpAny_pyHash_str h
 eqBool:=λhu hv h=>by
  rcases cf hu with ⟨i,t,rfl,rfl⟩ | ⟨x,t,rfl,rfl⟩
  .rcases cf hv with ⟨j,u,rfl,rfl⟩ | ⟨y,u,rfl,rfl⟩
   .rw[LN] at h;exact wpAny_eqBool_int h
   .rw[Nh] at h;exact SeqAt.EqAt.int_str i t y u _ _ _ _ h
  .rcases cf hv with ⟨j,u,rfl,rfl⟩ | ⟨y,u,rfl,rfl⟩
   .rw[KR] at h;exact SeqAt.EqAt.str_int x t j u _ _ _ _ h
   .rw[Lr] at h;exact wpAny_eqBool_str h
 «strs»:=λk x t v h=>by
  rcases cf h with ⟨i,u,rfl,e⟩ | ⟨y,u,rfl,e⟩
  .exact nomatch e
  .injection e with e1 _;subst e1;cases v<;>rfl
theorem wD(prog:Fa)(w:FB)(i:Int)(t:Tok):(cu prog w).is (.inl i) (.int i t)=true:=B0 i t
theorem wk(prog:Fa)(w:FB)(x:Str)(t:Tok):(cu prog w).is (.inr x) (.str x t)=true:=BW x t
set_option genInjectivity true in inductive V where
 | bx | bl (b:Bool) | int (i:Int) | str (x:Str) | Ac (b:Array UInt8) | VL (b:UInt64) | ref (a:AC) | ty (n:String)
 deriving DecidableEq
def RelV:V->AT->Prop
 | .bx,u=>u=AT.none
 | .bl b,u=>u=AT.bool b
 | .int i,u=>∃ t,u=AT.int i t
 | .str x,u=>∃ t,u=AT.str x t
 | .Ac b,u=>∃ t,u=AT.bytes b t
 | .VL b,u=>∃ t,u=AT.float b t
 | .ref a,u=>u=AT.ref a
 | .ty n,u=>u=AT.type n
abbrev Vals:!V->!AT->Prop:=Paired RelV
theorem Vals.length{xs:!V}{us:!AT}(r:Vals xs us):xs.length=us.length:=Paired.length r
theorem Vals.get:∀ {xs:!V} {us:!AT} {i:Nat} {x:V},Vals xs us->xs[i]?=some x->∃ u,us[i]?=some u/\RelV x u
 | _,_,_,_,.nil,e=>by simp at e
 | _,_,0,_,.cons r _,e=>by simp at e;subst e;exact#[_,rfl,r]
 | _,_,i+1,x,.cons _ t,e=>by
  let(u,h1,h2):=Vals.get (i:=i) (x:=x) t (by simpa using e);exact#[u,by simpa using h1,h2]
theorem Vals.set{x:V}{u:AT}(r:RelV x u):∀ {xs:!V} {us:!AT} (i:Nat),Vals xs us->Vals (xs.set i x) (us.set i u)
 | _,_,_,.nil=>.nil
 | _,_,0,.cons _ t=>.cons r t
 | _,_,i+1,.cons q t=>.cons q (Vals.set r i t)
theorem Vals.append:∀ {xs ys:!V} {us ws:!AT},Vals xs us->Vals ys ws->Vals (xs++ys) (us++ws)
 | _,_,_,_,.nil,s=>s
 | _,_,_,_,.cons r t,s=>.cons r (Vals.append t s)
theorem Vals.take:∀ {xs:!V} {us:!AT} (n:Nat),Vals xs us->Vals (xs.take n) (us.take n)
 | _,_,0,_=>.nil
 | _,_,_+1,.nil=>.nil
 | _,_,n+1,.cons r t=>.cons r (Vals.take n t)
theorem Vals.drop:∀ {xs:!V} {us:!AT} (n:Nat),Vals xs us->Vals (xs.drop n) (us.drop n)
 | _,_,0,r=>r
 | _,_,_+1,.nil=>.nil
 | _,_,n+1,.cons _ t=>Vals.drop n t
def kO:Option V->Option AT->Prop
 | some v,some u=>RelV v u
 | none,none=>True
 | _,_=>False
def KV{κ:Type}:!(κ×V)->!(κ×AT)->Prop:=Paired λ(p:κ×V) (q:κ×AT)=>p.1=q.1/\RelV p.2 q.2
def kV:Key->V
 | .inl i=>.int i
 | .inr x=>.str x
inductive HO where
  | lst (xs:!V)
  | tup (xs:!V)
  | dK (kvs:!(Key×V)) | dT (kvs:!(!Key×V))
  | set (S:Int->Bool) (n:Nat)
  | ins (C dx:AC) (fs:!(Str×V))
  | own (x:AC)
  | xd (fs:!(Str×V))
  | met (f x:AC)
  | V8 (lo hi:Int)
  | fO (o:Obj) (u:HO)
  | L9 (ps:Array AT)
  | ext (φ:Db->Prop)
abbrev Hp:=AC->Option HO
def upd(H:Hp)(a:AC)(o:HO):Hp:=λb=>if b=a then some o else H b
theorem aD{H:Hp}{a:AC}{o:HO}:upd H a o a=some o:=by unfold upd;rw[if_pos U]
theorem aA{H:Hp}{a b:AC}{o:HO}(h:b≠a):upd H a o b=H b:=by unfold upd;rw[if_neg h]
theorem uv{H:Hp}{a:AC}{o u:HO}:upd (upd H a o) a u=upd H a u:=by
 funext b;unfold upd;split<;>rfl
theorem Jt{H:Hp}{a b:AC}{o u:HO}(h:H a=some o)(h':H b=some u)(d:o≠u):a≠b:=by
 intro e;subst e;rw[h] at h';exact d (aaJ h')
theorem aI{H:Hp}{a b:AC}{o:HO}(h:H a=some o)(h':H b=none):a≠b:=by
 intro e;subst e;rw[h] at h';cases h'
def iV(h:Db)(a:AC)(items:Array AT):Prop:=∃ o,h.get? a=some o/\o.cls=.type "tuple"/\∃ n,o.data=.seq items n/\o.dict=none
theorem iV.tup{h:Db}{a:AC}{items:Array AT}(x:iV h a items):IsTup h a items:=let #[o,e,c,n,d,_]:=x;#[o,e,c,n,d]
theorem iV.new(h:Db)(items:Array AT):iV (h.push { cls:=.type "tuple",data:=.seq items }) h.objs.size items:=#[_,aat _ U,U,_,U,U]
section
variable(P:Fa)(w:FB)
def cO(H:Hp)(h:Db)(a:AC):HO->Prop
 | .lst xs=>xs.length<=FS/\∃ (its:!AT) (n:Nat),Vals xs its/\h.get? a=some { cls:=.type "list",data:=.seq its.toArray n }
 | .tup xs=>xs.length<=FS/\∃ its:!AT,Vals xs its/\iV h a its.toArray
 | .dK kvs=>kvs.length<=FS/\(a == KM)=false/\∃ vs,KV kvs vs/\h.DictOf (cu P w) a vs
 | .dT kvs=>kvs.length<=FS/\(a == KM)=false/\∃ xs:!(!Key×AC×AT),
   Paired (λ(p:!Key×V) (q:!Key×AC×AT)=>p.1=q.1/\H q.2.1=some (.tup (p.1.map kV))/\RelV p.2 q.2.2) kvs xs /\
   ∃ o es ep,h.get? a=some o/\o.ExactDict/\o.data=.dict es ep/\es.toList=xs.map (entryOfKey (tupleKind (cu P w)))/\(xs.map (·.1)).Nodup
 | .set S n=>h.SetOf (intKind P w) a S n
 | .ins C dx fs=>H dx=some (.own a)/\fs.length<=1000/\dx≠a/\h.get? a=some (PySem.W.instObj C dx) /\
   ∃ mA,h.Ns1 dx mA/\(∀ f,kO (fs.lookup f) (mA f))/\PySem.Within mA (fs.map (·.1))
 | .own _=>∃ o,h.get? a=some o
 | .xd fs=>∃ mA,h.Ns1 a mA/\∀ f,kO (fs.lookup f) (mA f)
 | .V8 lo hi=>∃ t u v,h.get? a=some { cls:=.type "range",data:=.fields #v[.int lo t,.int hi u,.int 1 v] }
 | .fO o u=>h.get? a=some o/\cO H h a u
 | .L9 ps=>h.get? a=some { cls:=.none,data:=.fields ps }
 | .met f x=>h.get? a=some (PySem.W.methodObj (.ref f) (.ref x))
 | .ext φ=>φ h/\(∃ o,h.get? a=some o)/\∀ h1 h2:Db,φ h1->(∀ o,h1.get? a=some o->h2.get? a=some o)->φ h2
def lO(H:Hp)(h:Db):Prop:=∀ a o,H a=some o->cO P w H h a o
end
section
variable{P:Fa}{w:FB}{H H':Hp}{h h':Db}{a:AC}{o:HO}
theorem cO.lt(x:cO P w H h a o):a < h.objs.size:=by
 cases o with
 | lst xs=>let(_,_,_,_,e):=x;exact aar e
 | tup xs=>let(_,_,_,p):=x;exact p.tup.lt
 | dK kvs=>let(_,_,_,_,o,_,_,e,_):=x;exact aar e
 | dT kvs=>let(_,_,_,_,o,_,_,e,_):=x;exact aar e
 | set S n=>let(o,_,_,_,e,_):=x;exact aar e
 | ins C dx fs=>let(_,_,_,e,_):=x;exact aar e
 | own y=>let(_,e):=x;exact aar e
 | xd fs=>let(_,(_,_,_,e,_),_):=x;exact aar e
 | V8 lo hi=>let(_,_,_,e):=x;exact aar e
 | fO ob u=>let(e,_):=x;exact aar e
 | L9 ps=>exact aar (show h.get? a=some _ from x)
 | met f y=>exact aar (show h.get? a=some _ from x)
 | ext φ=>let(_,(_,e),_):=x;exact aar e
theorem Paired.CG{α β:Type}{F G:α->β->Prop}:∀ {l₁:!α} {l₂:!β},Paired F l₁ l₂->(∀ a b,F a b->G a b)->Paired G l₁ l₂
 | _,_,.nil,_=>.nil
 | _,_,.cons r t,f=>.cons (f _ _ r) (Paired.CG t f)
theorem cO.ym(x:cO P w H h a o)(k:∀ b u,(b=a\/H b=some (.own a))->h.get? b=some u->h'.get? b=some u)(ho:∀ b,H b=some (.own a)->H' b=some (.own a))(ht:∀ b xs,H b=some (.tup xs)->H' b=some (.tup xs)):cO P w H' h' a o:=by
 induction o with
 | lst xs=>let(z,its,n,r,e):=x;exact#[z,its,n,r,k _ _ (.inl U) e]
 | tup xs=>let(z,its,r,ob,e,c):=x;exact#[z,its,r,ob,k _ _ (.inl U) e,c]
 | dK kvs=>let(z,y,vs,r,ob,es,ep,e,c):=x;exact#[z,y,vs,r,ob,es,ep,k _ _ (.inl U) e,c]
 | dT kvs =>
  let(z,y,xs,r,ob,es,ep,e,c):=x;exact#[z,y,xs,Paired.CG r λp q z=>#[z.1,ht _ _ z.2.1,z.2.2],ob,es,ep,k _ _ (.inl U) e,c]
 | set S n=>let(ob,es,ep,t,e,c):=x;exact#[ob,es,ep,t,k _ _ (.inl U) e,c]
 | ins C dx fs =>
  let(d,z,ne,e,mA,(od,es,ep,e2,c),r):=x;exact#[ho _ d,z,ne,k _ _ (.inl U) e,mA,#[od,es,ep,k _ _ (.inr d) e2,c],r]
 | own y=>let(ob,e):=x;exact#[ob,k _ _ (.inl U) e]
 | xd fs=>let(mA,(od,es,ep,e,c),r):=x;exact#[mA,#[od,es,ep,k _ _ (.inl U) e,c],r]
 | V8 lo hi=>let(t,u,v,e):=x;exact#[t,u,v,k _ _ (.inl U) e]
 | fO ob u ih=>let(e,q):=x;exact#[k _ _ (.inl U) e,ih q]
 | L9 ps =>
  have e:h.get? a=some { cls:=.none,data:=.fields ps }:=x;change h'.get? a=some { cls:=.none,data:=.fields ps };exact k a _ (.inl U) e
 | met f y =>
  have e:h.get? a=some (PySem.W.methodObj (.ref f) (.ref y)):=x;change h'.get? a=some (PySem.W.methodObj (.ref f) (.ref y));exact k a _ (.inl U) e
 | ext φ=>let(p,(o,e),st):=x;exact#[st _ _ p λo q=>k _ _ (.inl U) q,#[o,k _ _ (.inl U) e],st]
theorem lO.lt(x:lO P w H h)(e:H a=some o):a < h.objs.size:=(x a o e).lt
theorem lO.fresh(x:lO P w H h)(e:h.objs.size<=a):H a=none:=by
 cases q:H a with
 | none=>rfl
 | some u=>exact absurd (aay (x.lt q) e) (abt _)
theorem lO.kept(x:lO P w H h)(k:∀ b u,h.get? b=some u->h'.get? b=some u):lO P w H h':=λa o e =>
 (x a o e).ym (λb u _ q=>k b u q) (λ_ q=>q) λ_ _ q=>q
theorem lO.laid(x:lO P w H h)(k:∀ b u,h.get? b=some u->h'.get? b=some u)(hp:h.objs.size<=a)(new:cO P w (upd H a o) h' a o):lO P w (upd H a o) h':=λb u e=>by
 have hn:=x.fresh hp;by_cases hb:b=a
 .subst hb;rw[aD] at e;cases e;exact new
 .rw[aA hb] at e;exact (x b u e).ym (λc v _ q=>k c v q) (λc q=>by rw[aA (aI q hn)];exact q) λc xs q=>by rw[aA (aI q hn)];exact q
end
def Rd(H:Hp)(a:AC)(u:HO):Prop:=H a=some u\/∃ o,H a=some (.fO o u)
theorem Rd.ok{P:Fa}{w:FB}{H:Hp}{h:Db}{a:AC}{u:HO}(r:Rd H a u)(x:lO P w H h):cO P w H h a u:=by
 rcases r with r | ⟨o,r⟩
 .exact x a u r
 .let(_,q):=x a _ r;exact q
def U6:Option HO->Prop
 | some (.lst _)=>True
 | some (.dK _)=>True
 | some (.dT _)=>True
 | some (.set _ _)=>True
 | some (.ins _ _ _)=>True
 | some (.ext _)=>True
 | _=>False
section
variable{P:Fa}{w:FB}{H:Hp}{h h':Db}{x e:AC}{o':HO}
theorem lO.write(ok:lO P w H h)(mu:U6 (H x))(he:e=x\/H e=some (.own x))(k:∀ b u,b≠e->h.get? b=some u->h'.get? b=some u)(NP:∃ u,h'.get? e=some u)(new:cO P w (upd H x o') h' x o'):lO P w (upd H x o') h':=λb u q=>by
 have nown:∀ c y,H c=some (.own y)->c≠x:=λc y r z=>by subst z;rw[r] at mu;exact mu
 have Fl:∀ c xs,H c=some (.tup xs)->c≠x:=λc xs r z=>by subst z;rw[r] at mu;exact mu
 by_cases hb:b=x
 .subst hb;rw[aD] at q;cases q;exact new
 .rw[aA hb] at q;by_cases hbe:b=e
  .have q':H b=some (.own x):=by
    rcases he with z | z
    .exact absurd (hbe.trans z) hb
    .rw[hbe];exact z
   rw[q] at q';cases q';let(v,hv):=NP;exact#[v,by rw[hbe];exact hv]
  .refine (ok b u q).ym (λc v hc r=>k c v ?_ r) (λc r=>by rw[aA (nown c b r)];exact r) λc xs r=>by rw[aA (Fl c xs r)];exact r
   rcases hc with rfl | hc
   .exact hbe
   .rintro rfl;rcases he with z | z
    .exact nown c b hc z
    .rw[hc] at z;cases z;exact hb U
end
structure Un(fs ex:!AC)(H H':Hp)(h h':Db):Prop where
 keep:∀ b o,h.get? b=some o->H b=none->b∉fs->b∉ex->h'.get? b=some o
 slot:∀ b o,h.get? b=some o->H b=none->b∈fs->b∉ex->∃ sl,h'.get? b=some { o with slots:=sl }
 free:∀ b o,h.get? b=some o->H b=none->b∉ex->H' b=none
 there:∀ b o,h.get? b=some o->b∉ex->∃ o',h'.get? b=some o'
 xF:∀ b xs,H b=some (.tup xs)->H' b=some (.tup xs)
 vI:∀ b o u,H b=some (.fO o u)->H' b=some (.fO o u)
 xA:∀ b ps,H b=some (.L9 ps)->∃ more,H' b=some (.L9 (ps++more))
section
variable{fs fs' ex ex':!AC}{H H1 H2:Hp}{h h1 h2 h':Db}{a x e:AC}{o:HO}
theorem Un.any(u:Un fs ex H H1 h h1){b:AC}{ob:Obj}(q:h.get? b=some ob)(n:H b=none)(hx:b∉ex):∃ sl,h1.get? b=some { ob with slots:=sl }:=by
 by_cases hb:b∈fs
 .exact u.slot b ob q n hb hx
 .exact#[ob.slots,u.keep b ob q n hb hx]
theorem Un.kept(k:∀ b u,h.get? b=some u->h'.get? b=some u):Un fs ex H H h h' :=
 #[λb ob q _ _ _=>k b ob q,λb ob q _ _ _=>#[ob.slots,k b ob q],λ_ _ _ n _=>n,λb ob q _=>#[ob,k b ob q],λ_ _ q=>q,λ_ _ _ q=>q,λ_ ps q=>#[#v[],by rw[q];simp]]
theorem Un.refl:Un fs ex H H h h:=Un.kept λ_ _ q=>q
theorem Un.laid(k:∀ b u,h.get? b=some u->h'.get? b=some u)(hp:h.objs.size<=a)(hn:H a=none):Un fs ex H (upd H a o) h h' where
 keep:=λb u q _ _ _=>k b u q
 slot:=λb u q _ _ _=>#[u.slots,k b u q]
 free:=λb u q n _=>by rw[aA (aaD (aay (aar q) hp))];exact n
 there:=λb u q _=>#[u,k b u q]
 xF:=λb xs q=>by rw[aA (aI q hn)];exact q
 vI:=λb u xs q=>by rw[aA (aI q hn)];exact q
 xA:=λb ps q=>#[#v[],by rw[aA (aI q hn),q];simp]
theorem Un.write(mu:U6 (H x))(he:e=x\/H e=some (.own x))(k:∀ b u,b≠e->h.get? b=some u->h'.get? b=some u)(NP:∃ u,h'.get? e=some u):Un fs ex H (upd H x o) h h':=by
 have hx:∀ b,H b=none->b≠x:=λb n z=>by subst z;rw[n] at mu;exact mu
 have hb:∀ b,H b=none->b≠e:=λb n z=>by
  subst z;rcases he with r | r
  .exact hx b n r
  .rw[n] at r;cases r
 have hm:∀ b u,H b=some u->¬ U6 (some u)->b≠x:=λb u q nm z=>by subst z;rw[q] at mu;exact nm mu
 show#[λb u q n _ _=>k b u (hb b n) q,λb u q n _ _=>#[u.slots,k b u (hb b n) q],λb u q n _=>by rw[aA (hx b n)];exact n,λb u q _=>?_,
  λb xs q=>by rw[aA (hm b _ q λz=>z)];exact q,λb u xs q=>by rw[aA (hm b _ q λz=>z)];exact q,λb ps q=>#[#v[],by rw[aA (hm b _ q λz=>z),q];simp]]
 by_cases hbe:b=e
 .subst hbe;exact NP
 .exact#[u,k b u hbe q]
end
def Vi(h:Db)(H:Hp):!AC:=(List.range h.objs.size).filter λa=>(H a).isSome
def uE(h:Db)(H:Hp):Db:=PySem.W.hideAll h (Vi h H)
theorem BC(h:Db)(H:Hp):(uE h H).objs.size=h.objs.size:=PySem.W.hideAll_size _ _
theorem DH{h:Db}{H:Hp}{b:AC}{o:Obj}(e:h.get? b=some o)(n:H b=none):(uE h H).get? b=some o :=
 PySem.W.hideAll_get _ e λhm=>by
  have q:(H b).isSome=true:=(aa3.mp hm).2;rw[n] at q;simp at q
theorem Gj{h:Db}{H:Hp}{b:AC}{o:Obj}(e:(uE h H).get? b=some o):h.get? b=some o/\H b=none:=by
 have e':h.get? b=some o:=PySem.W.of_hideAll (Vi h H) e;show#[e',?_];cases q:H b with
 | none=>rfl
 | some x =>
  have hm:b∈Vi h H:=List.mem_filter.mpr #[List.mem_range.mpr (Db.lt_size e'),by simp[q]];have z:(uE h H).get? b=none:=PySem.W.hideAll_none (Vi h H) hm;rw[z] at e;cases e
structure Mod(K:Frag)(mg:Str->Option AT)(base:Db):Prop where
 Nt:K.In base
 glob:base.Ns GM mg
 blt:∃ mb,base.Ns builtinsNs mb/\∀ x:Str,x≠"__name__"->mb x=bootBuiltins x
 nolimit:base.NoLimit
structure Cx where
 prog:Fa
 w:FB
 K:Frag
 mg:Str->Option AT
 base:Db
 A:Fr
 N:!Str
 s₀:Cl
 H₀:Hp
 env:Env
 outer:!Env
 stack:!Env
 ex:!AC
 fn:Str->Bool
 calm:Bool
 pn:acd
 xe:acb
def Dc(l:!Env):!AC:=l.filterMap (·.frame)
abbrev Cx.fs(X:Cx):!AC:=Dc X.outer
def NF(sc:Scope)(x:Str):Prop:=sc.names.lookup x=some .local\/sc.names.lookup x=some .cell\/sc.names.lookup x=some .free
def Loc(sc:Scope)(x:Str):Prop:=sc.names.lookup x=some .local\/sc.names.lookup x=some .cell
def Look(env:Env)(h:Db)(m:Str->Option AT)(x:Str)(u:AT):Prop :=
 (env.kindOf x=some .local/\m x=some u)\/((env.kindOf x=some .cell\/env.kindOf x=some .free)/\∃ c,env.cells.lookup x=some c/\h.IsCell c (some u))
structure Cx.Ok(X:Cx):Prop where
 mod:Mod X.K X.mg X.base
 kind:X.env.scope.kind=.function
 glob:X.env.globals=GM
 blt:X.env.builtins=builtinsNs
 above:X.s₀.heap.objs.size<=X.env.locals
 inj:∀ x y c,X.env.cells.lookup x=some c->X.env.cells.lookup y=some c->x=y
 has:∀ x,(X.env.kindOf x=some .cell\/X.env.kindOf x=some .free)->∃ c,X.env.cells.lookup x=some c
 Q4:∀ x c,X.fn x=true->X.env.cells.lookup x=some c->X.s₀.heap.objs.size<=c
 hd:X.calm=true->X.A.handled=none
 frames:X.A.frames=some X.stack
 Vx:X.stack=X.outer\/(X.stack=X.env::X.outer/\X.env.frame=some X.env.locals)
 VF:∀ b∈X.ex,b≠X.env.locals/\∀ x c,X.env.cells.lookup x=some c->c≠b
 bs:∀ b o,X.base.get? b=some o->X.s₀.heap.get? b=some o/\X.H₀ b=none
 HC:X.base.objs.size<=X.s₀.heap.objs.size
 EK:∀ b o,X.base.get? b=some o->b∉X.ex
 EB:∀ b∈X.ex,b∉X.fs
 pF:X.s₀.heap.FunFrames X.base X.outer
 Kz:∀ b∈X.fs,X.H₀ b=none
structure Inv(X:Cx)(TW:acd)(σ:!(Option V))(H:Hp)(s:Cl):Prop where
 ok:X.Ok
 os:s.os=X.s₀.os
 bare:AllBare s.gens
 base:Un X.fs X.ex X.H₀ H X.s₀.heap s.heap
 loc:∃ m,s.heap.Ns X.env.locals m/\∀ (i:Nat) (x:Str) (v:V),X.N[i]?=some x->σ[i]?=some (some v)->NF X.env.scope x->∃ u,RelV v u/\Look X.env s.heap m x u
 cell:∀ x c,X.env.cells.lookup x=some c->∃ v,s.heap.IsCell c v
 free:H X.env.locals=none
 jI:∀ x c,X.env.cells.lookup x=some c->H c=none
 pin:∀ p∈X.pn++TW,s.heap.get? p.1=some p.2/\H p.1=none/\p.1≠X.env.locals/\p.1∉X.fs/\∀ v,p.2.data≠.cell v
 bM:lO X.prog X.w H s.heap
 len:σ.length=X.N.length
section
variable{X:Cx}{TW:acd}{σ:!(Option V)}{H H':Hp}{s:Cl}{h':Db}
theorem Cx.Ok.V5(ok:X.Ok){b:AC}{o:Obj}(e:X.base.get? b=some o):b∉X.fs:=λhb=>by
 have:=(ok.pF.mem hb).1;rw[e] at this;cases this
theorem Inv.bs(I:Inv X TW σ H s):∀ b o,X.base.get? b=some o->s.heap.get? b=some o/\H b=none:=λb o e =>
 #[I.base.keep b o (I.ok.bs b o e).1 (I.ok.bs b o e).2 (I.ok.V5 e) (I.ok.EK b o e),I.base.free b o (I.ok.bs b o e).1 (I.ok.bs b o e).2 (I.ok.EK b o e)]
theorem Inv.bk(I:Inv X TW σ H s):∀ b o,X.base.get? b=some o->s.heap.get? b=some o:=λb o e=>(I.bs b o e).1
theorem Inv.mod(I:Inv X TW σ H s):Mod X.K X.mg X.base:=I.ok.mod
theorem Inv.xW(I:Inv X TW σ H s):X.K.In s.heap:=I.ok.mod.Nt.keeps I.bk
theorem Inv.lt(I:Inv X TW σ H s):X.env.locals < ↑s:=let #[_,hn,_]:=I.loc;hn.lt
theorem Inv.sz(I:Inv X TW σ H s):X.s₀.heap.objs.size<=↑s:=aap I.ok.above (aby I.lt)
theorem Inv.XD(I:Inv X TW σ H s){a:AC}(h:↑s<=a):a∉X.fs:=λhb=>by
 let(_,o,ho,_):=I.ok.pF.mem hb;exact absurd (aay (aar ho) (aap I.sz h)) (abt _)
theorem Inv.Ng(I:Inv X TW σ H s):∀ x c,X.env.cells.lookup x=some c->c≠X.env.locals:=λx c e z=>by
 let(v,o,ho,hd):=I.cell x c e;let(m,(o',es,ep,G8,hd',_),_):=I.loc;rw[z,G8] at ho;cases ho;rw[hd'] at hd;cases hd
theorem Inv.pF(I:Inv X TW σ H s):s.heap.FunFrames X.base X.outer:=by
 have all:∀ (l:!Env),(∀ b∈Dc l,b∈X.fs)->X.s₀.heap.FunFrames X.base l->s.heap.FunFrames X.base l:=by
  intro l
  induction l with
  | nil=>intro _ _;trivial
  | cons env r ih =>
   intro hs hl;let(hk,(L,o,hf,hn,ho,hd),hr):=hl;have hL:L∈X.fs:=hs L (by unfold Dc;rw[List.filterMap_cons,hf];exact List.mem_cons_self);let(sl,e):=I.base.slot L o ho (I.ok.Kz L hL) hL λz=>I.ok.EB L z hL;exact#[hk,#[L,_,hf,hn,e,hd],ih (λb hb=>hs b (by unfold Dc;rw[List.filterMap_cons,hf];exact List.mem_cons_of_mem _ hb)) hr]
 exact all X.outer (λ_ hb=>hb) I.ok.pF
theorem Inv.stack(I:Inv X TW σ H s):s.heap.FunFrames X.base X.stack:=by
 rcases I.ok.Vx with e | ⟨e,hf⟩
 .rw[e];exact I.pF
 .rw[e];let(m,hn,_):=I.loc;show .cons (by rw[I.ok.kind];decide) hf hn ?_ I.pF;exact Db.get?_none_of_le (aap I.ok.HC I.ok.above)
theorem Inv.yk(I:Inv X TW σ H s):∀ b∈Dc X.stack,b∈X.env.locals::X.fs:=λb hb=>by
 rcases I.ok.Vx with e | ⟨e,hf⟩
 .rw[e] at hb;exact aac _ hb
 .rw[e] at hb;unfold Dc at hb;rw[List.filterMap_cons,hf] at hb;exact hb
theorem Inv.An(I:Inv X TW σ H s):∀ b∈Dc X.stack,H b=none:=λb hb=>by
 rcases aaj.mp (I.yk b hb) with e | hb
 .rw[e];exact I.free
 .let(_,o,ho,_):=I.ok.pF.mem hb;exact I.base.free b o ho (I.ok.Kz b hb) λz=>I.ok.EB b z hb
theorem Inv.step{g':Array GenState}{t':Nat}{d':Drawn}{ch:!AC}(I:Inv X TW σ H s)(Ba:∀ b∈ch,(b∈X.ex\/X.s₀.heap.objs.size<=b)/\b≠X.env.locals/\(∀ x c,X.env.cells.lookup x=some c->c≠b)/\∀ p∈X.pn++TW,p.1≠b)(keep:∀ b o,b≠X.env.locals->b∉X.fs->b∉ch->s.heap.get? b=some o->H b=none->h'.get? b=some o)(slot:∀ b o,b≠X.env.locals->b∈X.fs->b∉ch->s.heap.get? b=some o->H b=none->∃ sl,h'.get? b=some { o with slots:=sl })(free:∀ b o,b∉ch->s.heap.get? b=some o->H b=none->H' b=none)(there:∀ b o,b∉ch->s.heap.get? b=some o->∃ o',h'.get? b=some o')(xF:∀ b xs,H b=some (.tup xs)->H' b=some (.tup xs))(vI:∀ b o u,H b=some (.fO o u)->H' b=some (.fO o u))(xA:∀ b ps,H b=some (.L9 ps)->∃ more,H' b=some (.L9 (ps++more)))(ns:∀ m,s.heap.Ns X.env.locals m->h'.Ns X.env.locals m)(bM:lO X.prog X.w H' h')(hg:AllBare g') :
  Inv X TW σ H' { s with heap:=h',gens:=g',drawn:=d',toks:=t' }:=by
 have neL:∀ b o,X.s₀.heap.get? b=some o->b≠X.env.locals:=λb o e=>aaD (aay (aar e) I.ok.above);have neC:∀ b o,X.s₀.heap.get? b=some o->b∉X.ex->b∉ch:=λb o e hx hb=>by
  rcases (Ba b hb).1 with z | z
  .exact hx z
  .exact absurd (aay (aar e) z) (abt _)
 have cellK:∀ x c,X.env.cells.lookup x=some c->∀ v,s.heap.IsCell c v->h'.IsCell c v:=λx c e v z1r=>by
  let(o,ho,hd):=z1r;have nch:c∉ch:=λz=>(Ba c z).2.2.1 x c e U;by_cases hc:c∈X.fs
  .let(sl,q):=slot c o (I.Ng x c e) hc nch ho (I.jI x c e);exact#[_,q,hd]
  .exact#[o,keep c o (I.Ng x c e) hc nch ho (I.jI x c e),hd]
 show#[I.ok,I.os,hg,#[λb o e n hb hx=>?_,λb o e n hb hx=>?_,λb o e n hx=>?_,λb o e hx=>?_,λb xs e=>xF b xs (I.base.xF b xs e),λb o xs e=>vI b o xs (I.base.vI b o xs e),λb ps e=>?_],?_,λx c e=>?_,?_,λx c e=>?_,λp hp=>?_,bM,I.len]
 .exact keep b o (neL b o e) hb (neC b o e hx) (I.base.keep b o e n hb hx) (I.base.free b o e n hx)
 .let(sl,e1):=I.base.slot b o e n hb hx;let(sl',e2):=slot b _ (neL b o e) hb (neC b o e hx) e1 (I.base.free b o e n hx);exact#[sl',e2]
 .let(o',e1):=I.base.there b o e hx;exact free b o' (neC b o e hx) e1 (I.base.free b o e n hx)
 .let(o',e1):=I.base.there b o e hx;exact there b o' (neC b o e hx) e1
 .let(m1,e1):=I.base.xA b ps e;let(m2,e2):=xA b _ e1;exact#[m1++m2,by rw[e2,Array.append_assoc]]
 .let(m,hn,hl):=I.loc;show#[m,ns m hn,λi x v e1 e2 e3=>?_];let(u,r,l):=hl i x v e1 e2 e3;show#[u,r,?_];rcases l with l | ⟨k,c,e,z⟩
  .exact .inl l
  .exact .inr #[k,c,e,cellK x c e _ z]
 .let(v,z):=I.cell x c e;exact#[v,cellK x c e v z]
 .let(m,(o,_,_,ho,_),_):=I.loc;exact free _ o (λz=>(Ba _ z).2.1 U) ho I.free
 .let(v,o,ho,hd):=I.cell x c e;exact free c o (λz=>(Ba c z).2.2.1 x c e U) ho (I.jI x c e)
 .let(e,n,ne,nf,d):=I.pin p hp;have nch:p.1∉ch:=λz=>(Ba p.1 z).2.2.2 p hp U;exact#[keep p.1 p.2 ne nf nch e n,free p.1 p.2 nch e n,ne,nf,d]
theorem Inv.un{t':Nat}(I:Inv X TW σ H s)(u:Un X.fs [] H H' s.heap h')(bM:lO X.prog X.w H' h'):Inv X TW σ H' { s with heap:=h',toks:=t' }:=by
 let(m,(o,es,ep,ho,r),_):=id I.loc;let(sl,hL):=u.any ho I.free (by simp);exact I.step (g':=s.gens) (d':=s.drawn) (ch:=[]) (λ_ z=>nomatch z) (λb o _ hb _ e n=>u.keep b o e n hb (by simp)) (λb o _ hb _ e n=>u.slot b o e n hb (by simp)) (λb o _ e n=>u.free b o e n (by simp)) (λb o _ e=>u.there b o e (by simp)) u.xF u.vI u.xA (λm' hm=>by
  let(o',es',ep',G8,r'):=hm;rw[ho] at G8;cases G8;exact#[_,es',ep',hL,r']) bM I.bare
theorem Inv.call{g':Array GenState}{t':Nat}{d':Drawn}{ch:!AC}(I:Inv X TW σ H s)(u:Un (Dc X.stack) ch H H' s.heap h')(bM:lO X.prog X.w H' h')(hg:AllBare g')(Ba:∀ b∈ch,(b∈X.ex\/X.s₀.heap.objs.size<=b)/\b≠X.env.locals/\(∀ x c,X.env.cells.lookup x=some c->c≠b)/\∀ p∈X.pn++TW,p.1≠b) :
  Inv X TW σ H' { s with heap:=h',gens:=g',drawn:=d',toks:=t' }:=by
 let(m,(o,es,ep,ho,r),_):=id I.loc;let(sl,hL):=u.any ho I.free λz=>(Ba _ z).2.1 U;exact I.step (ch:=ch) Ba (λb o hL hb hc e n=>u.keep b o e n (λz=>(aaj.mp (I.yk b z)).elim hL hb) hc) (λb o _ _ hc e n=>u.any e n hc) (λb o hc e n=>u.free b o e n hc) (λb o hc e=>u.there b o e hc) u.xF u.vI u.xA (λm' hm=>by
  let(o',es',ep',G8,r'):=hm;rw[ho] at G8;cases G8;exact#[_,es',ep',hL,r']) bM hg
theorem Inv.turned{t':Nat}{it:AC}(I:Inv X TW σ H s)(k:∀ b o,b≠it->s.heap.get? b=some o->h'.get? b=some o)(hn:H it=none)(hL:it≠X.env.locals)(h1:it∈X.ex\/X.s₀.heap.objs.size<=it)(h2:∀ x c,X.env.cells.lookup x=some c->c≠it)(h3:∀ p∈X.pn++TW,p.1≠it):Inv X TW σ H { s with heap:=h',toks:=t' }:=by
 have nit:∀ b u,H b=some u->b≠it:=λb u e z=>by rw[z,hn] at e;cases e
 show I.step (g':=s.gens) (d':=s.drawn) (ch:=[it]) (λb hb=>?_) (λb o _ _ hc e _=>k b o (λz=>hc (by simp[z])) e) (λb o _ _ hc e _=>#[o.slots,k b o (λz=>hc (by simp[z])) e]) (λ_ _ _ _ n=>n)
  (λb o hc e=>#[o,k b o (λz=>hc (by simp[z])) e]) (λ_ _ e=>e) (λ_ _ _ e=>e) (λb ps e=>#[#v[],by rw[e];simp]) (λm hm=>?_) (λb u e=>?_) I.bare
 .have e:b=it:=by simpa using hb
  subst e;exact#[h1,hL,h2,h3]
 .let(o,es,ep,ho,r):=hm;exact#[o,es,ep,k _ o (Ne.symm hL) ho,r]
 .refine (I.bM b u e).ym (λc v hc q=>k c v ?_ q) (λ_ q=>q) λ_ _ q=>q;rcases hc with z | z
  .rw[z];exact nit b u e
  .exact nit c _ z
theorem Inv.tok(I:Inv X TW σ H s)(t:Nat):Inv X TW σ H { s with toks:=t }:=I.un (h':=s.heap) (t':=t) Un.refl I.bM
theorem Inv.kept{t':Nat}(I:Inv X TW σ H s)(k:∀ b u,s.heap.get? b=some u->h'.get? b=some u):Inv X TW σ H { s with heap:=h',toks:=t' }:=I.un (Un.kept k) (I.bM.kept k)
theorem Inv.laid{a:AC}{o:HO}{t':Nat}(I:Inv X TW σ H s)(k:∀ b u,s.heap.get? b=some u->h'.get? b=some u)(hp:↑s<=a)(new:cO X.prog X.w (upd H a o) h' a o) :
  Inv X TW σ (upd H a o) { s with heap:=h',toks:=t' }:=I.un (Un.laid k hp (I.bM.fresh hp)) (I.bM.laid k hp new)
theorem Inv.write{x e:AC}{o:HO}{t':Nat}(I:Inv X TW σ H s)(mu:U6 (H x))(he:e=x\/H e=some (.own x))(k:∀ b u,b≠e->s.heap.get? b=some u->h'.get? b=some u)(NP:∃ u,h'.get? e=some u)(new:cO X.prog X.w (upd H x o) h' x o):Inv X TW σ (upd H x o) { s with heap:=h',toks:=t' }:=I.un (Un.write mu he k NP) (I.bM.write mu he k NP new)
theorem Inv.weak{σ':!(Option V)}(I:Inv X TW σ H s)(hl:σ'.length=σ.length)(w:∀ (i:Nat) v,σ'[i]?=some (some v)->σ[i]?=some (some v)):Inv X TW σ' H s :=
 #[I.ok,I.os,I.bare,I.base,let #[m,hn,hl']:=I.loc;#[m,hn,λi x v e1 e2 e3=>hl' i x v e1 (w i v e2) e3],I.cell,I.free,I.jI,I.pin,I.bM,hl.trans I.len]
theorem Inv.z6{IK:acd}(I:Inv X TW σ H s)(h:∀ p∈IK,s.heap.get? p.1=some p.2/\H p.1=none/\p.1≠X.env.locals/\p.1∉X.fs/\∀ v,p.2.data≠.cell v):Inv X IK σ H s :=
 #[I.ok,I.os,I.bare,I.base,I.loc,I.cell,I.free,I.jI,λp hp=>(aaw.mp hp).elim (λz=>I.pin p (aaH _ z)) (h p),I.bM,I.len]
theorem xx{N:!Str}(hN:N.Nodup){i j:Nat}{x:Str}(a:N[i]?=some x)(b:N[j]?=some x):i=j:=by
 let(h1,e1):=aaf.mp a;let(h2,e2):=aaf.mp b;exact (abL hN).mp (e1.trans e2.symm)
abbrev aci (X:Cx)(x:Str):Prop:=X.fn x=true\/X.env.scope.names.lookup x=some .local
theorem t8{M:Model}{A:Fr}{E:acb}{i:Nat}{x:Str}{v:V}{u:AT}{Q:Unit->Cl->Prop}(I:Inv X TW σ H s)(hN:X.N.Nodup)(hi:X.N[i]?=some x)(hx:Loc X.env.scope x)(r:RelV v u)(h:∀ s',Inv X TW (σ.set i (some v)) H s'->(∃ a,Db.SameBut a s.heap s'.heap/\(a=X.env.locals\/X.env.cells.lookup x=some a))->Q Unit.unit s')(hf:aci X x:=by ac_nf):EQ M A (storeName X.env x u) Q E s:=by
 let(m,hn,hl):=id I.loc;have hcls:(X.env.scope.kind == .class||(X.env.scope.kind == .module&&X.env.locals != X.env.globals))=false:=by rw[I.ok.kind];rfl
 have hiσ:i < σ.length:=by rw[I.len];exact (aaf.mp hi).1
 have Ng:=I.Ng;have tracked:∀ {a:AC} {h':Db},(∃ o,s.heap.get? a=some o/\H a=none)->Db.SameBut a s.heap h'->lO X.prog X.w H h':=λ{a h'} ha hs b ob e=>by
  let(_,_,hfree):=ha;show (I.bM b ob e).ym (λc w' hc q=>(hs.2 c ?_).trans q) (λ_ q=>q) λ_ _ q=>q;rintro rfl;rcases hc with rfl | hc
  .rw[hfree] at e;cases e
  .rw[hfree] at hc;cases hc
 rcases hx with hk | hk
 .refine wpAny_storeName_local hk hn (λh' hn' hs=>?_) hcls;let(oL,_,_,hoL,_):=id hn;show h _ #[I.ok,I.os,I.bare,#[λb o e n hb hx=>?_,λb o e n hb hx=>?_,I.base.free,λb o e hx=>?_,I.base.xF,I.base.vI,I.base.xA],#[_,hn',λj y v' e1 e2 e3=>?_],λy c e=>?_,I.free,I.jI,λp hp=>?_,tracked #[oL,hoL,I.free] hs,by simpa using I.len] #[_,hs,.inl U]
  .exact (hs.2 b (aaD (aay (aar e) I.ok.above))).trans (I.base.keep b o e n hb hx)
  .let(sl,e1):=I.base.slot b o e n hb hx;exact#[sl,(hs.2 b (aaD (aay (aar e) I.ok.above))).trans e1]
  .let(o',e1):=I.base.there b o e hx;exact#[o',(hs.2 b (aaD (aay (aar e) I.ok.above))).trans e1]
  .by_cases hj:j=i
   .subst hj;rw[hi] at e1;cases e1;rw[aaE hiσ] at e2;cases e2;exact#[u,r,.inl #[hk,by simp]]
   .rw[aas (Ne.symm hj)] at e2;let(u',r',q):=hl j y v' e1 e2 e3;show#[u',r',?_];rcases q with ⟨k,e⟩ | ⟨k,c,e,z⟩
    .refine .inl #[k,?_];have:y≠x:=λe=>hj (xx hN e1 (e▸hi));simp[this,e]
    .exact .inr #[k,c,e,z.sameBut hs (Ng y c e)]
  .let(w',z):=I.cell y c e;exact#[w',z.sameBut hs (Ng y c e)]
  .let(e,n,ne,nf,d):=I.pin p hp;exact#[(hs.2 p.1 ne).trans e,n,ne,nf,d]
 .have hfn:X.fn x=true:=by
   rcases hf with z | z
   .exact z
   .rw[z] at hk;cases hk
  let(c,hc):=I.ok.has x (.inl hk);let(w',z):=I.cell x c hc;show wpAny_storeName_cell I.ok.kind hk hc z (λh' hc' hs=>?_);let(oc,hoc,hocd):=id z;show h { s with heap:=h' } #[I.ok,I.os,I.bare,#[λb o e n hb hx=>?_,λb o e n hb hx=>?_,I.base.free,λb o e hx=>?_,I.base.xF,I.base.vI,I.base.xA],#[m,hn.sameBut hs (Ne.symm (Ng x c hc)),λj y v' e1 e2 e3=>?_],λy c' e=>?_,I.free,I.jI,λp hp=>?_,tracked #[oc,hoc,I.jI x c hc] hs,by simpa using I.len] #[c,hs,.inr hc]
  .exact (hs.2 b (aaD (aay (aar e) (I.ok.Q4 x c hfn hc)))).trans (I.base.keep b o e n hb hx)
  .let(sl,e1):=I.base.slot b o e n hb hx;exact#[sl,(hs.2 b (aaD (aay (aar e) (I.ok.Q4 x c hfn hc)))).trans e1]
  .let(o',e1):=I.base.there b o e hx;exact#[o',(hs.2 b (aaD (aay (aar e) (I.ok.Q4 x c hfn hc)))).trans e1]
  .by_cases hj:j=i
   .subst hj;rw[hi] at e1;cases e1;rw[aaE hiσ] at e2;cases e2;exact#[u,r,.inr #[.inl hk,c,hc,hc']]
   .rw[aas (Ne.symm hj)] at e2;let(u',r',q):=hl j y v' e1 e2 e3;show#[u',r',?_];rcases q with q | ⟨k,c',e,z'⟩
    .exact .inl q
    .refine .inr #[k,c',e,z'.sameBut hs ?_];rintro rfl;exact hj (xx hN e1 (I.ok.inj _ _ _ e hc▸hi))
  .by_cases hcc:c'=c
   .subst hcc;exact#[_,hc']
   .let(w2,z2):=I.cell y c' e;exact#[w2,z2.sameBut hs hcc]
  .let(e,n,ne,nf,d):=I.pin p hp;show#[(hs.2 p.1 ?_).trans e,n,ne,nf,d];intro q;rw[q,hoc] at e;have q':oc=p.2:=aaJ e;exact d w' (by rw[<- q'];exact hocd)
theorem wV{M:Model}{A:Fr}{E:acb}{i:Nat}{x:Str}{v:V}{u:AT}{Q:Unit->Cl->Prop}(I:Inv X TW σ H s)(hN:X.N.Nodup)(hi:X.N[i]?=some x)(hx:Loc X.env.scope x)(r:RelV v u)(h:∀ s',Inv X TW (σ.set i (some v)) H s'->Q Unit.unit s')(hf:aci X x:=by ac_nf):EQ M A (storeName X.env x u) Q E s :=
 t8 I hN hi hx r (λs' I' _=>h s' I') hf
theorem Inv.RE{s':Cl}{ch:!AC}(I:Inv X TW σ H s)(ho:s'.os=s.os)(u:Un (Dc X.stack) ch H H' s.heap s'.heap)(bM:lO X.prog X.w H' s'.heap)(hg:AllBare s'.gens)(Ba:∀ b∈ch,(b∈X.ex\/X.s₀.heap.objs.size<=b)/\b≠X.env.locals/\(∀ x c,X.env.cells.lookup x=some c->c≠b)/\∀ p∈X.pn++TW,p.1≠b):Inv X TW σ H' s':=by
 let(h',g',d',t',o'):=s';have e:o'=s.os:=ho;subst e;exact I.call (g':=g') (t':=t') (d':=d') u bM hg Ba
end
abbrev XK:=AT->Option AC->Hp->Prop
abbrev St:=!(Option V)
abbrev VK:=V->Hp->Prop
abbrev TE:=St->Hp->VK->Prop
abbrev TT:=St->Hp->(Bool->Hp->Prop)->Prop
abbrev TA:=St->Hp->(!V->Hp->Prop)->Prop
structure Ends where
 nx:St->Hp->Prop
 rt:VK
 bk:St->Hp->Prop:=λ_ _=>False
 ct:St->Hp->Prop:=λ_ _=>False
abbrev TS:=Ends->St->Hp->Prop
def EP(X:Cx)(TW:acd)(σ:St)(Q:VK)(u:AT)(s':Cl):Prop:=∃ v H',Inv X TW σ H' s'/\RelV v u/\Q v H'
def TP(X:Cx)(TW:acd)(σ:St)(Q:Bool->Hp->Prop)(b:Bool)(s':Cl):Prop:=∃ H',Inv X TW σ H' s'/\Q b H'
def AP(X:Cx)(TW:acd)(σ:St)(Q:!V->Hp->Prop)(us:!AT)(s':Cl):Prop:=∃ vs H',Inv X TW σ H' s'/\Vals vs us/\Q vs H'
def SP(X:Cx)(TW:acd)(D:Ends)(f:Flow)(s':Cl):Prop :=
 match f with
 | .next=>∃ σ' H',Inv X TW σ' H' s'/\D.nx σ' H'
 | .brk=>∃ σ' H',Inv X TW σ' H' s'/\D.bk σ' H'
 | .cont=>∃ σ' H',Inv X TW σ' H' s'/\D.ct σ' H'
 | .ret u=>∃ v σ' H',Inv X TW σ' H' s'/\RelV v u/\D.rt v H'
def PE(X:Cx)(e:Ch)(t:TE):Prop :=
 ∀ (TW:acd) (s:Cl) (σ:St) (H:Hp) (Q:VK),Inv X TW σ H s->t σ H Q->EQ (model X.prog X.w) X.A (eval e X.env) (EP X TW σ Q) X.xe s
def PT(X:Cx)(e:Ch)(t:TT):Prop :=
 ∀ (TW:acd) (s:Cl) (σ:St) (H:Hp) (Q:Bool->Hp->Prop),Inv X TW σ H s->t σ H Q->EQ (model X.prog X.w) X.A (isTrue e X.env (eval e X.env)) (TP X TW σ Q) X.xe s
def PW(X:Cx)(e:Ch)(t:TT):Prop :=
 ∀ (whole:Sem AT) (TW:acd) (s:Cl) (σ:St) (H:Hp) (Q:Bool->Hp->Prop),Inv X TW σ H s->t σ H Q->EQ (model X.prog X.w) X.A (isTrue e X.env whole) (TP X TW σ Q) X.xe s
theorem PW.pt{X:Cx}{e:Ch}{t:TT}(h:PW X e t):PT X e t:=h _
def PA(X:Cx)(es:!Ch)(t:TA):Prop :=
 ∀ (pos:Pos) (TW:acd) (s:Cl) (σ:St) (H:Hp) (Q:!V->Hp->Prop),Inv X TW σ H s->t σ H Q->EQ (model X.prog X.w) X.A (spliced (IR pos (Gc es X.env))) (AP X TW σ Q) X.xe s
def PS(X:Cx)(st:Ev)(t:TS):Prop :=
 ∀ (TW:acd) (s:Cl) (σ:St) (H:Hp) (D:Ends),Inv X TW σ H s->t D σ H->EQ (model X.prog X.w) X.A (exec st X.env) (SP X TW D) X.xe s
def pY(X:Cx)(st:!Ev)(t:TS):Prop :=
 ∀ (TW:acd) (s:Cl) (σ:St) (H:Hp) (D:Ends),Inv X TW σ H s->t D σ H->EQ (model X.prog X.w) X.A (execs st X.env) (SP X TW D) X.xe s
theorem cb{α:Type}{t:Sem α}{Q Q':α->Cl->Prop}{M:Model}{A:Fr}{E:acb}{s:Cl}(h:EQ M A t Q E s)(hQ:∀ a s,Q a s->Q' a s):EQ M A t Q' E s:=KF h hQ λ_ _ x=>x
theorem el2{α β:Type}{P Q R:α->β->Prop}{C:Prop}(h:∃ a b,P a b/\Q a b/\R a b)(k:∀ a b,P a b->Q a b->R a b->C):C:=h.elim λa h=>h.elim λb h=>k a b h.1 h.2.1 h.2.2
section
variable{X:Cx}
def b8(i:Nat):TE:=λσ H Q=>∃ v,σ[i]?=some (some v)/\Q v H
def tC(v:V):TE:=λ_ H Q=>Q v H
theorem zw{i:Nat}{x:Str}{pos:Pos}(hN:X.N[i]?=some x)(hv:NF X.env.scope x)(hd: ~~~(ach x))(uN: ~~~((x == ("__classdict__":Str))=false)):PE X (.Name x pos) (b8 i):=by
 intro TW s σ H Q I h;let(v,e,h):=h;let(m,hn,hl):=I.loc;let(u,r,l):=hl i x v hN e hv;have fin:EP X TW σ Q u s:=#[v,H,I,r,h];rcases l with ⟨hk,hm⟩ | ⟨hk,c,hc,hcell⟩
 .exact wpAny_Name (wpAny_loadName_local I.ok.kind hk hn hm fin) hd
 .rcases hk with hk | hk
  .exact wpAny_Name (wpAny_loadName_cell I.ok.kind hk hc hcell fin) hd
  .exact wpAny_Name (wpAny_loadName_free I.ok.kind hk hc hcell fin uN) hd
theorem b6{i j pos}:PE X (.Constant (.int i) j pos) (tC (.int i)):=λ_ _ _ H _ I h=>wpAny_Constant_int #[.int i,H,I.tok _,#[_,U],h]
theorem Pp{b j pos}:PE X (.Constant (.bool b) j pos) (tC (.bl b)):=λ_ _ _ H _ I h=>Constant_bool #[.bl b,H,I,U,h]
theorem Kt{j pos}:PE X (.Constant .none j pos) (tC .bx):=λ_ _ _ H _ I h=>Constant_none #[.bx,H,I,U,h]
theorem d5{x j pos}:PE X (.Constant (.str x) j pos) (tC (.str x)):=λ_ _ _ H _ I h=>Calls.Constant_str #[.str x,H,I.tok _,#[_,U],h]
def Gl(X:Cx)(x:Str):Prop:=X.env.kindOf x=some .globalImplicit
theorem vg{E:acb}{TW:acd}{s:Cl}{σ:St}{H:Hp}{x:Str}{u:AT}{pos:Pos}{Q:acb}(I:Inv X TW σ H s)(hg:Gl X x)(hm:X.mg x=some u)(h:Q u s)(hd: ~~~(ach x)):EQ (model X.prog X.w) X.A (eval (.Name x pos) X.env) Q E s :=
 Calls.Name_function_global I.ok.kind hg (Calls.loadGlobal_global (by rw[I.ok.glob];exact I.mod.glob.keeps I.bk) hm h) hd
theorem j9{E:acb}{TW:acd}{s:Cl}{σ:St}{H:Hp}{x:Str}{u:AT}{pos:Pos}{Q:acb}(I:Inv X TW σ H s)(hg:Gl X x)(hm:X.mg x=none)(hv:bootBuiltins x=some u)(h:Q u s)(hn: ~~~(x≠"__name__"))(hd: ~~~(ach x)):EQ (model X.prog X.w) X.A (eval (.Name x pos) X.env) Q E s:=by
 let(mb,h1,h2):=I.mod.blt;exact Calls.Name_function_global I.ok.kind hg (Calls.loadGlobal_builtin (by rw[I.ok.glob];exact I.mod.glob.keeps I.bk) hm (by rw[I.ok.blt];exact h1.keeps I.bk) ((h2 x hn).trans hv) h) hd
theorem HX{x:Str}{v:V}{u:AT}{pos:Pos}(hg:Gl X x)(hm:X.mg x=some u)(r:RelV v u)(hd: ~~~(ach x)):PE X (.Name x pos) (tC v) :=
 λ_ _ _ H _ I h=>vg I hg hm #[v,H,I,r,h] hd
theorem fU{x:Str}{v:V}{u:AT}{pos:Pos}(hg:Gl X x)(hm:X.mg x=none)(hv:bootBuiltins x=some u)(r:RelV v u)(hn: ~~~(x≠"__name__"))(hd: ~~~(ach x)):PE X (.Name x pos) (tC v) :=
 λ_ _ _ H _ I h=>j9 I hg hm hv #[v,H,I,r,h] hn hd
variable{a b:Ch}{ta tb:TE}{pos:Pos}
def PC(X:Cx)(op:CmpOp)(a b:Ch)(t:TE):Prop :=
 ∀ (TW:acd) (s:Cl) (σ:St) (H:Hp) (Q:VK),Inv X TW σ H s->t σ H Q ->
  EQ (model X.prog X.w) X.A (eval a X.env) (λv s₁=>EQ (model X.prog X.w) X.A (eval b X.env) (λu s₂=>EQ (model X.prog X.w) X.A (Ix op v u) (EP X TW σ Q) X.xe s₂) X.xe s₁) X.xe s
def tB(t:TE):TT:=λσ H Q=>t σ H λx H1=>∃ c,x=.bl c/\Q c H1
theorem Lp{op:CmpOp}{t:TE}(h:PC X op a b t)(h1:behindInMarks op b=false:=by first | exact EZ _ () () | rfl):PE X (.Compare a [op] [b] pos) t:=λTW s σ H Q I hw=>wpAny_Compare1 (h TW s σ H Q I hw) h1
theorem DB{op:CmpOp}{t:TE}(h:PC X op a b t)(h1:behindInMarks op b=false:=by first | exact EZ _ () () | rfl):PT X (.Compare a [op] [b] pos) (tB t):=by
 intro TW s σ H Q I hw;show wpAny_isTrue_Compare1 (cb (h TW s σ H _ I hw) λv s1 h1=>cb h1 λu s2 h2=>cb h2 λc s3 #[x,H1,I1,r1,q1]=>?_) h1;let(d,rfl,q):=q1;cases r1;exact wpAny_truthy_bool #[H1,I1,q]
theorem K7{e:Ch}{t:TE}(h:PE X e t)(he:∀ whole,isTrue e X.env whole=(do let v <- whole;standAt e.pos;holding [v] (truthy v)):=by intro _;rfl):PT X e (tB t):=by
 intro TW s σ H Q I hw;show isTrue_plain (cb (h TW s σ H _ I hw) λv s1 zz=>el2 zz λx H1 I1 r1 q1=>?_) (he _);let(d,rfl,q):=q1;cases r1;exact wpAny_truthy_bool #[H1,I1,q]
variable{tA Vn:TT}{rest:!Ch}
def Qe(t u:TT):TT:=λσ H Q=>t σ H λc H1=>if c=true then u σ H1 Q else Q false H1
def ZI(t u:TT):TT:=λσ H Q=>t σ H λc H1=>if c=true then Q true H1 else u σ H1 Q
def V2(t:TT):TT:=λσ H Q=>t σ H λc H1=>Q (not c) H1
theorem pw_and1(ha:PT X a tA):PW X (.BoolOp .And [a] pos) tA:=by
 intro wh TW s σ H Q I h;show isTrue_and (cb (ha TW s σ H Q I h) λc s1 e=>?_);cases c with
 | true=>exact isTrue_and_nil e
 | false=>exact e
theorem pw_or1(ha:PT X a tA):PW X (.BoolOp .Or [a] pos) tA:=by
 intro wh TW s σ H Q I h;show isTrue_or (cb (ha TW s σ H Q I h) λc s1 e=>?_);cases c with
 | false=>exact isTrue_or_nil e
 | true=>exact e
theorem pw_and(ha:PT X a tA)(hb:PW X (.BoolOp .And (b::rest) pos) Vn):PW X (.BoolOp .And (a::b::rest) pos) (Qe tA Vn):=by
 intro wh TW s σ H Q I h;show isTrue_and (cb (ha TW s σ H _ I h) λc s1 #[H1,I1,q1]=>?_);cases c with
 | true=>exact hb wh TW s1 σ H1 Q I1 q1
 | false=>exact#[H1,I1,q1]
theorem pw_or(ha:PT X a tA)(hb:PW X (.BoolOp .Or (b::rest) pos) Vn):PW X (.BoolOp .Or (a::b::rest) pos) (ZI tA Vn):=by
 intro wh TW s σ H Q I h;show isTrue_or (cb (ha TW s σ H _ I h) λc s1 #[H1,I1,q1]=>?_);cases c with
 | true=>exact#[H1,I1,q1]
 | false=>exact hb wh TW s1 σ H1 Q I1 q1
theorem Mw(ha:PT X a tA):PT X (.UnaryOp .Not a pos) (V2 tA):=by
 intro TW s σ H Q I h;exact isTrue_not (ha TW s σ H (λc H1=>Q (not c) H1) I h)
def Rc(ta tb:TE):TE:=λσ H Q=>ta σ H λx H1=>∃ c,x=.bl c/\if c=true then tb σ H1 Q else Q (.bl false) H1
def SO(ta:TE):TE:=λσ H Q=>ta σ H λx H1=>∃ c,x=.bl c/\Q (.bl (not c)) H1
theorem Ki{op}{t:TE}(h:PE X a t):PE X (.BoolOp op [a] pos) t:=λTW s σ H Q I hw=>BoolOp_one (h TW s σ H Q I hw)
theorem LG(ha:PE X a ta)(hb:PE X (.BoolOp .And (b::rest) pos) tb):PE X (.BoolOp .And (a::b::rest) pos) (Rc ta tb):=by
 intro TW s σ H Q I h;show BoolOp_and (cb (ha TW s σ H _ I h) λv s1 zz=>el2 zz λx H1 I1 r1 q1=>?_);let(c,rfl,q1):=q1;cases r1;show wpAny_truthy_bool ?_;cases c with
 | true=>exact hb TW s1 σ H1 Q I1 q1
 | false=>exact#[.bl false,H1,I1,U,q1]
theorem M9(ha:PE X a ta):PE X (.UnaryOp .Not a pos) (SO ta):=by
 intro TW s σ H Q I h;show UnaryOp_ (cb (ha TW s σ H _ I h) λv s1 zz=>el2 zz λx H1 I1 r1 q1=>?_);let(c,rfl,q1):=q1;cases r1;exact not_of (wpAny_truthy_bool #[.bl (not c),H1,I1,U,q1])
def ZS(t:TT)(ta tb:TE):TE:=λσ H Q=>t σ H λc H1=>if c=true then ta σ H1 Q else tb σ H1 Q
theorem CK{c:Ch}(hc:PT X c tA)(ha:PE X a ta)(hb:PE X b tb):PE X (.IfExp c a b pos) (ZS tA ta tb):=by
 intro TW s σ H Q I h;show wpAny_IfExp (cb (hc TW s σ H _ I h) λd s1 #[H1,I1,q1]=>?_);cases d with
 | true=>exact ha TW s1 σ H1 Q I1 q1
 | false=>exact hb TW s1 σ H1 Q I1 q1
end
def dN(K:Frag)(H:Hp)(a:AC)(xs:!V):Prop :=
 Rd H a (.lst xs) \/
  ∃ (o:Obj) (its:Array AT) (n:Nat),K.lookup a=some o/\o.cls=.type "list"/\o.dict=none/\o.data=.seq its n/\its.size<=FS/\Vals xs its.toList
def iu(K:Frag)(H:Hp)(a:AC)(xs:!V):Prop :=
 Rd H a (.tup xs) \/
  ∃ (o:Obj) (its:Array AT) (n:Nat),K.lookup a=some o/\o.cls=.type "tuple"/\o.data=.seq its n/\its.size<=FS/\Vals xs its.toList
def Wi:AT->Option V
 | .none=>some .bx
 | .bool b=>some (.bl b)
 | .int i _=>some (.int i)
 | .str x _=>some (.str x)
 | .bytes b _=>some (.Ac b)
 | .float b _=>some (.VL b)
 | .ref a=>some (.ref a)
 | .type n=>some (.ty n)
 | _=>none
theorem RelV.abs{x:V}{u:AT}(r:RelV x u):Wi u=some x:=by
 cases x with
 | bx=>cases r;rfl
 | bl _=>cases r;rfl
 | int _=>let(t,rfl):=r;rfl
 | str _=>let(t,rfl):=r;rfl
 | Ac _=>let(t,rfl):=r;rfl
 | VL _=>let(t,rfl):=r;rfl
 | ref _=>cases r;rfl
 | ty _=>cases r;rfl
theorem RelV.inj{x y:V}{u:AT}(r:RelV x u)(q:RelV y u):x=y:=aaJ (r.abs.symm.trans q.abs)
theorem Vals.inj:∀ {xs ys:!V} {us:!AT},Vals xs us->Vals ys us->xs=ys
 | _,_,_,.nil,.nil=>rfl
 | _,_,_,.cons r t,.cons r' t'=>by rw[r.inj r',Vals.inj t t']
section
variable{X:Cx}{TW:acd}{σ:St}{H:Hp}{s:Cl}{a:AC}{xs ys:!V}
theorem dN.of{K:Frag}(h:H a=some (.lst xs)):dN K H a xs:=.inl (.inl h)
theorem iu.of{K:Frag}(h:H a=some (.tup xs)):iu K H a xs:=.inl (.inl h)
theorem Inv.list(I:Inv X TW σ H s)(h:dN X.K H a xs):∃ its:!AT,Vals xs its/\PlainL s.heap a its.toArray/\xs.length<=FS:=by
 rcases h with h | ⟨o,its,n,hk,hc,hd,hs,hz,r⟩
 .let(z,its,n,r,e):=h.ok I.bM;exact#[its,r,#[_,n,e,U,U,U],z]
 .refine#[its.toList,r,#[o,n,I.xW a o hk,hc,hd,by simpa using hs],?_];have e:=r.length;simp only[Array.length_toList] at e;cbv
theorem Inv.tuple(I:Inv X TW σ H s)(h:iu X.K H a xs):∃ its:!AT,Vals xs its/\IsTup s.heap a its.toArray/\xs.length<=FS:=by
 rcases h with h | ⟨o,its,n,hk,hc,hs,hz,r⟩
 .let(z,its,r,p):=h.ok I.bM;exact#[its,r,p.tup,z]
 .refine#[its.toList,r,#[o,I.xW a o hk,hc,n,by simpa using hs],?_];have e:=r.length;simp only[Array.length_toList] at e;cbv
theorem Inv.wM(I:Inv X TW σ H s)(h:dN X.K H a xs)(h':dN X.K H a ys):xs=ys:=by
 let(its,r,(o,n,e,_,_,d),_):=I.list h;let(its',r',(o',n',e',_,_,d'),_):=I.list h';rw[e] at e';cases e';rw[d] at d';injection d' with d1 _;have:its=its':=by simpa using congrArg Array.toList d1
 subst this;exact r.inj r'
theorem Inv.uf(I:Inv X TW σ H s)(h:iu X.K H a xs)(h':iu X.K H a ys):xs=ys:=by
 let(its,r,(o,e,_,n,d),_):=I.tuple h;let(its',r',(o',e',_,n',d'),_):=I.tuple h';rw[e] at e';cases e';rw[d] at d';injection d' with d1 _;have:its=its':=by simpa using congrArg Array.toList d1
 subst this;exact r.inj r'
end
abbrev Cx.rh(X:Cx)(E:acb):Cx:={ X with xe:=E }
abbrev Cx.wo(X:Cx):Cx:=X.rh λ_ _=>False
theorem Cx.Ok.rh{X:Cx}(ok:X.Ok)(E:acb):(X.rh E).Ok :=
 #[ok.mod,ok.kind,ok.glob,ok.blt,ok.above,ok.inj,ok.has,ok.Q4,ok.hd,ok.frames,ok.Vx,ok.VF,ok.bs,ok.HC,ok.EK,ok.EB,ok.pF,ok.Kz]
theorem Cx.Ok.je{X:Cx}{E:acb}(ok:(X.rh E).Ok):X.Ok :=
 #[ok.mod,ok.kind,ok.glob,ok.blt,ok.above,ok.inj,ok.has,ok.Q4,ok.hd,ok.frames,ok.Vx,ok.VF,ok.bs,ok.HC,ok.EK,ok.EB,ok.pF,ok.Kz]
section
variable{X:Cx}{TW:acd}{σ:St}{H:Hp}{s:Cl}{E:acb}
theorem Inv.rh(I:Inv X TW σ H s)(E:acb):Inv (X.rh E) TW σ H s:=#[I.ok.rh E,I.os,I.bare,I.base,I.loc,I.cell,I.free,I.jI,I.pin,I.bM,I.len]
theorem Inv.je(I:Inv (X.rh E) TW σ H s):Inv X TW σ H s:=#[I.ok.je,I.os,I.bare,I.base,I.loc,I.cell,I.free,I.jI,I.pin,I.bM,I.len]
theorem SP.je{D:Ends}{f:Flow}{s':Cl}(h:SP (X.rh E) TW D f s'):SP X TW D f s':=by
 cases f with
 | next=>let(σ',H',I,q):=h;exact#[σ',H',I.je,q]
 | brk=>let(σ',H',I,q):=h;exact#[σ',H',I.je,q]
 | cont=>let(σ',H',I,q):=h;exact#[σ',H',I.je,q]
 | ret u=>let(v,σ',H',I,r,q):=h;exact#[v,σ',H',I.je,r,q]
theorem pY.wo{st:!Ev}{t:TS}(h:pY X.wo st t):pY X st t:=λTW s σ H D I hw =>
 KF (h TW s σ H D (I.rh _) hw) (λ_ _ q=>q.je) λ_ _ z=>False.elim z
end
section
variable{X:Cx}{st:Ev}{rest:!Ev}{t u:TS}{e:Ch}{te:TE}{pos:Pos}
def JV:TS:=λD σ H=>D.nx σ H
def qh(t u:TS):TS:=λD σ H=>t { D with nx:=u D } σ H
theorem uC:pY X [] JV:=λ_ _ σ H _ I h=>wpAny_execs_nil #[σ,H,I,h]
theorem bT(h1:PS X st t)(h2:pY X rest u):pY X (st::rest) (qh t u):=by
 intro TW s σ H D I h;show wpAny_execs_cons (cb (h1 TW s σ H { D with nx:=u D } I h) λf s1 q=>?_);cases f with
 | next =>
  let(σ',H',I',q):=q;exact h2 TW s1 σ' H' D I' q
 | ret v=>exact q
 | brk=>exact q
 | cont=>exact q
theorem kf(h1:PS X st t):pY X [st] t:=by
 intro TW s σ H D I h;show wpAny_execs_cons (cb (h1 TW s σ H D I h) λf s1 q=>?_);cases f with
 | next=>exact wpAny_execs_nil q
 | ret v=>exact q
 | brk=>exact q
 | cont=>exact q
theorem Inv.quiet{TW:acd}{σ:St}{H:Hp}{s:Cl}(I:Inv X TW σ H s):interactive X.env=false:=by simp[interactive,I.ok.kind]
def Qc(te:TE):TS:=λD σ H=>te σ H λ_ H1=>D.nx σ H1
theorem Hj(he:PE X e te)(hs:(swapsWith e none pos.line X.env=pure false)⁻¹):PS X (.Expr e pos) (Qc te):=by
 intro TW s σ H D I h;exact wpAny_Expr_any (cb (he TW s σ H _ I h) λv s1 zz=>el2 zz λx H1 I1 r1 q1=>#[σ,H1,I1,q1]) I.quiet hs
def IE(te:TE):TS:=λD σ H=>te σ H D.rt
theorem nU(he:PE X e te):PS X (.Return (some e) pos) (IE te):=by
 intro TW s σ H D I h;exact wpAny_Return_some (cb (he TW s σ H _ I h) λv s1 zz=>el2 zz λx H1 I1 r1 q1=>#[x,σ,H1,I1,r1,q1])
def RQ(c:TT)(t u:TS):TS:=λD σ H=>c σ H λb H1=>if b=true then t D σ H1 else u D σ H1
theorem JA{c:Ch}{a b:!Ev}{tc:TT}(hc:PT X c tc)(ha:pY X a t)(hb:pY X b u):PS X (.If c a b pos) (RQ tc t u):=by
 intro TW s σ H D I h;show wpAny_If (cb (hc TW s σ H _ I h) λd s1 #[H1,I1,q1]=>?_);cases d with
 | true=>exact ha TW s1 σ H1 D I1 q1
 | false=>exact hb TW s1 σ H1 D I1 q1
def K4:TS:=λ_ _ _=>False
theorem Bo{qv:!Ev}:pY X qv K4:=λ_ _ _ _ _ _ h=>h.elim
end
abbrev TG:=V->St->Hp->(St->Hp->Prop)->Prop
abbrev Dy:=!V->St->Hp->(St->Hp->Prop)->Prop
def PG(X:Cx)(target:Ch)(t:TG):Prop :=
 ∀ (TW:acd) (s:Cl) (σ:St) (H:Hp) (v:V) (u:AT) (Q:St->Hp->Prop),Inv X TW σ H s->RelV v u->t v σ H Q ->
  EQ (model X.prog X.w) X.A (assign target X.env u) (λ_ s'=>∃ σ' H',Inv X TW σ' H' s'/\Q σ' H') X.xe s
def Hn(X:Cx)(ts:!Ch)(t:Dy):Prop :=
 ∀ (TW:acd) (s:Cl) (σ:St) (H:Hp) (vs:!V) (us:!AT) (Q:St->Hp->Prop),Inv X TW σ H s->Vals vs us->t vs σ H Q ->
  EQ (model X.prog X.w) X.A (assignInOrder ((assignEach ts X.env).map (·.2)) us) (λ_ s'=>∃ σ' H',Inv X TW σ' H' s'/\Q σ' H') X.xe s
abbrev Nj:=V->V->V->Hp->(Hp->Prop)->Prop
def Qx(X:Cx)(t:Nj):Prop :=
 ∀ (TW:acd) (s:Cl) (σ:St) (H:Hp) (o i v:V) (ov iv u:AT) (Q:Hp->Prop),Inv X TW σ H s->RelV o ov->RelV i iv->RelV v u->t o i v H Q ->
  EQ (model X.prog X.w) X.A (setItem ov iv u) (λ_ s'=>∃ H',Inv X TW σ H' s'/\Q H') X.xe s
section
variable{X:Cx}{pos:Pos}
def et(i:Nat):TG:=λv σ H Q=>Q (σ.set i (some v)) H
theorem dS{i:Nat}{x:Str}(hN:X.N.Nodup)(hi:X.N[i]?=some x)(hx:Loc X.env.scope x)(hf:aci X x:=by ac_nf):PG X (.Name x pos) (et i):=by
 intro TW s σ H v u Q I r h;exact wpAny_assign_Name (wV I hN hi hx r (λs' I'=>#[_,H,I',h]) hf)
def Wk:Dy:=λvs σ H Q=>vs=[]/\Q σ H
def SA(t:TG)(u:Dy):Dy:=λvs σ H Q=>∃ v r,vs=v::r/\t v σ H λσ' H'=>u r σ' H' Q
theorem Hr:Hn X [] Wk:=by
 intro TW s σ H vs us Q I r h;let(e,h):=h;subst e;cases r;exact assignInOrder_nil #[σ,H,I,h]
theorem CI{e:Ch}{es:!Ch}{t:TG}{u:Dy}(h1:PG X e t)(h2:Hn X es u)(hs:((assignEach (e::es) X.env).map (·.2)=assign e X.env::(assignEach es X.env).map (·.2))⁻¹):Hn X (e::es) (SA t u):=by
 intro TW s σ H vs us Q I r h;let(v,vr,e1,h):=h;subst e1;cases r with
 | cons r rr =>
  rw[hs];show assignInOrder_cons (cb (h1 TW s σ H _ _ _ I r h) λ_ s1 #[σ1,H1,I1,q1]=>?_);exact h2 TW s1 σ1 H1 _ _ Q I1 rr q1
def X4(K:Frag)(n:Nat)(t:Dy):TG:=λv σ H Q=>∃ a xs,v=.ref a/\iu K H a xs/\xs.length=n/\t xs σ H Q
theorem Nk{es:!Ch}{k:Nat}{t:Dy}{n:Nat}(hc:X.calm=true)(h:Hn X es t)(hn:((assignEach es X.env).length=n)⁻¹)(fC:((assignEach es X.env).findIdx? (·.1)=none)⁻¹):PG X (.Tuple es k pos) (X4 X.K n t):=by
 intro TW s σ H v u Q I r hw;let(a,xs,e1,hq,hl,hw):=hw;subst e1;cases r;let(its,rv,ht,hz):=I.tuple hq;show assign_Tuple_tuple (I.ok.hd hc) ht (by simp[hn,<- hl,rv.length]) fC λh' hx=>?_;have I1:Inv X TW σ H { s with heap:=h' }:=I.kept (t':=s.toks) λb o e=>hx b o (aaD (aar e)) e;exact h TW _ σ H xs _ Q I1 (by simpa using rv) hw
def MM(to ti:TE)(t:Nj):TG:=λv σ H Q=>to σ H λo H1=>ti σ H1 λi H2=>t o i v H2 λH3=>Q σ H3
theorem yL{o i:Ch}{to ti:TE}{t:Nj}(ho:PE X o to)(hi:PE X i ti)(hs:Qx X t)(ha:∀ v,assign (.Subscript o i pos) X.env v=(do
   let ov <- holding [v] (eval o X.env);let iv <- holding [v,ov] (eval i X.env)
   standAt pos
   holding [v,ov,iv] (setItem ov iv v)
   release [v,ov,iv] []):=by intro _;rfl):PG X (.Subscript o i pos) (MM to ti t):=by
 intro TW s σ H v u Q I r h;rw[ha];show Da (KB (cb (ho TW s σ H _ I h) λov s1 z1q=>?_));let(x,H1,I1,r1,q1):=z1q;show Da (KB (cb (hi TW s1 σ H1 _ I1 q1) λiv s2 z2q=>?_));let(y,H2,I2,r2,q2):=z2q;show Da (wpAny_standAt (Da (KB (cb (hs TW s2 σ H2 x y v ov iv u _ I2 r1 r2 r q2) λ_ s3 z3q=>?_))));let(H3,I3,q3):=z3q;exact wpAny_release #[σ,H3,I3,q3]
def j5(te:TE)(g:TG):TS:=λD σ H=>te σ H λx H1=>g x σ H1 D.nx
theorem vj{tg e:Ch}{te:TE}{g:TG}(he:PE X e te)(hg:PG X tg g)(hs:(swapsWithSole [tg] e pos.line X.env=pure false)⁻¹)(hw:(swappedStores [tg] e X.env=pure none)⁻¹)(h1:((assignEach [tg] X.env).map (·.2)=[assign tg X.env])⁻¹):PS X (.Assign [tg] e pos) (j5 te g):=by
 intro TW s σ H D I h;show wpAny_Assign_stores (cb (he TW s σ H _ I h) λv s1 zz=>el2 zz λx H1 I1 r1 q1=>?_) hs hw;rw[h1];exact cb (hg TW s1 σ H1 x v _ I1 r1 q1) λ_ s2 q=>q
theorem gm{i:Nat}{x:Str}{e:Ch}{te:TE}{pos':Pos}(hN:X.N.Nodup)(hi:X.N[i]?=some x)(hx:Loc X.env.scope x)(he:PE X e te)(hs:(swapsWith e (some (.Name x pos')) pos.line X.env=pure false)⁻¹)(hf:aci X x:=by ac_nf) :
  PS X (.Assign [.Name x pos'] e pos) (j5 te (et i)):=by
 intro TW s σ H D I h;show wpAny_Assign_Name (cb (he TW s σ H _ I h) λv s1 zz=>el2 zz λy H1 I1 r1 q1=>?_) hs;exact wV I1 hN hi hx r1 (λs2 I2=>#[_,H1,I2,q1]) hf
def CA(c:TT)(tb:TS):TS:=λD σ H=>∃ W:Nat->St->Hp->Prop,(∃ m,W m σ H)/\∀ m σ H,W m σ H ->
 c σ H λb H1=>if b=true then ∃ N:St->Hp->Prop,(∀ σ' H',N σ' H'->∃ m',m' < m/\W m' σ' H')/\tb { D with nx:=N,ct:=N,bk:=D.nx } σ H1 else D.nx σ H1
theorem xc{c:Ch}{body:!Ev}{tc:TT}{tb:TS}(hp:PassesOwn (model X.prog X.w) X.A X.env X.xe)(hc:PT X c tc)(hb:pY X body tb):PS X (.While c body [] pos) (CA tc tb):=by
 intro TW s σ H D I h;let(W,(m0,w0),turn):=h;show wpAny_While (codeAny_whileLoop (λn s'=>∃ σ' H',Inv X TW σ' H' s'/\W n σ' H') ?_ m0 #[σ,H,I,w0]);rintro n s1 ⟨σ1,H1,I1,w1⟩;show wpAny_passesOwn hp (cb (hc TW s1 σ1 H1 _ I1 (turn n σ1 H1 w1)) λb s2 z4q=>?_);let(H2,I2,q2):=z4q;cases b with
 | true =>
  let(N,hN,q2):=q2;rw[if_pos U];show wpAny_passesOwn hp (cb (hb TW s2 σ1 H2 _ I2 q2) λf s3 q3=>?_);cases f with
  | next =>
   let(σ3,H3,I3,n3):=q3;let(m',hm,w3):=hN σ3 H3 n3;exact#[m',hm,σ3,H3,I3,w3]
  | cont =>
   let(σ3,H3,I3,n3):=q3;let(m',hm,w3):=hN σ3 H3 n3;exact#[m',hm,σ3,H3,I3,w3]
  | brk=>exact q3
  | ret v=>exact q3
 | false =>
  rw[if_neg aau];exact wpAny_execs_nil #[σ1,H2,I2,q2]
end
structure It where
 go:Nat->Hp->Prop
 Ny:Nat->Hp->V->Hp->Prop
 stop:Nat->Hp->Prop
def jZ(X:Cx)(TW:acd)(H:Hp)(b:AC):Prop :=
 H b=none/\b≠X.env.locals/\b∉X.fs/\(b∈X.ex\/X.s₀.heap.objs.size<=b)/\(∀ x c,X.env.cells.lookup x=some c->c≠b)/\∀ p∈X.pn++TW,p.1≠b
theorem Inv.u7{X:Cx}{TW:acd}{σ:St}{H H':Hp}{s:Cl}{b:AC}(I:Inv X TW σ H s)(hb:↑s<=b)(hn:H' b=none):jZ X TW H' b:=by
 show#[hn,abz (aay I.lt hb),I.XD hb,.inr (aap I.sz hb),λx c e z=>?_,λp hp z=>?_]
 .let(v,q):=I.cell x c e;exact absurd (aay q.lt (by rw[z];exact hb)) (abt _)
 .exact absurd (aay (aar (I.pin p hp).1) (by rw[z];exact hb)) (abt _)
structure Turn(P:Fa)(w:FB)(K:Frag)(tg:Ch)(J:It)(fp:!AC)(it:AC)(tn:Nat->Db->Prop):Prop where
 mem:it∈fp
 obj:∀ i h,tn i h->∀ b∈fp,∃ o,h.get? b=some o/\∀ v,o.data≠.cell v
 keep:∀ i h h',tn i h->(∀ b∈fp,∀ o,h.get? b=some o->h'.get? b=some o)->tn i h'
 item:∀ (X:Cx),X.prog=P->X.w=w->X.K=K->X.calm=true->∀ (i:Nat) (TW:acd) (s:Cl) (σ:St) (H:Hp) (E:acb),Inv X TW σ H s->(∀ b∈fp,jZ X TW H b)->tn i s.heap->J.go i H ->
  EQ (model P w) X.A (pyNext (.ref it)) (λr s1=>∃ u,r=some u /\
   EQ (model P w) X.A (letOwnedTupleGo tg (.ref it) u) (λ_ s2=>∃ x H',Inv X TW σ H' s2/\RelV x u/\J.Ny i H x H'/\tn (i+1) s2.heap/\∀ b∈fp,H' b=none) E s1) E s
 done:∀ (X:Cx),X.prog=P->X.w=w->X.K=K->X.calm=true->∀ (i:Nat) (TW:acd) (s:Cl) (σ:St) (H:Hp) (E:acb),Inv X TW σ H s->(∀ b∈fp,jZ X TW H b)->tn i s.heap->J.stop i H ->
  EQ (model P w) X.A (pyNext (.ref it)) (λr s1=>r=none/\Inv X TW σ H s1) E s
 self:∀ (A:Fr) (i:Nat) (s:Cl) (Q:acb) (E:acb),tn i s.heap->Q (.ref it) s->EQ (model P w) A (pyIter (.ref it)) Q E s
abbrev TI:=St->Hp->(It->Hp->Prop)->Prop
def Zg(X:Cx)(TW:acd)(σ:St)(tg:Ch)(R:It->Hp->Prop)(Vw:AT)(s2:Cl):Prop :=
 ∃ (it:AC) (fp:!AC) (tn:Nat->Db->Prop) (J:It) (H':Hp),Vw=.ref it/\Inv X TW σ H' s2/\Turn X.prog X.w X.K tg J fp it tn/\tn 0 s2.heap/\(∀ b∈fp,jZ X TW H' b)/\R J H'
def PI(X:Cx)(tg iter:Ch)(wi:TI):Prop :=
 ∀ (TW:acd) (s:Cl) (σ:St) (H:Hp) (R:It->Hp->Prop),Inv X TW σ H s->wi σ H R ->
  EQ (model X.prog X.w) X.A (eval iter X.env) (λv s1=>EQ (model X.prog X.w) X.A (pyIter v) (Zg X TW σ tg R) X.xe s1) X.xe s
theorem Au{M:Model}{A:Fr}{E:acb}{s:Cl}{tg:Ch}{it:AC}{u:AT}{o:Obj}{n:String}{vs:Array AT}{Q:Unit->Cl->Prop}(ho:s.heap.get? it=some o)(hc:o.cls=.type n)(hd:o.data=.fields vs)(hn:["enumerate","zip","dict_itemiterator","dict_reverseitemiterator","odict_iterator","itertools.zip_longest","itertools.pairwise"].contains n=false)(hQ:Q Unit.unit s):EQ M A (letOwnedTupleGo tg (.ref it) u) Q E s:=by
 unfold letOwnedTupleGo;cases tg<;>first
  | exact GE hQ
  | (cases u<;>first
    | exact GE hQ
    | (show Da (wpAny_load ho ?_)
       rw[hc,hd];change EQ M A (if (["enumerate","zip","dict_itemiterator","dict_reverseitemiterator","odict_iterator","itertools.zip_longest","itertools.pairwise"].contains n&&vs[0]? == some (SC _))=true then _ else _) Q E s;rw[if_neg (by intro h;rw[hn,Bool.false_and] at h;cases h)];exact GE hQ))
def Ly(K:Frag)(a:AC):It :=
 #[λi H=>∃ xs x,dN K H a xs/\xs[i]?=some x,λi H x H'=>H'=H/\∀ xs,dN K H a xs->xs[i]?=some x,λi H=>∃ xs,dN K H a xs/\xs.length<=i]
def YQ(K:Frag)(a:AC):It :=
 #[λi H=>∃ xs x,iu K H a xs/\xs[i]?=some x,λi H x H'=>H'=H/\∀ xs,iu K H a xs->xs[i]?=some x,λi H=>∃ xs,iu K H a xs/\xs.length<=i]
def Vv(lo:Int)(n:Nat):It:=#[λi _=>i < n,λi H x H'=>H'=H/\x=.int (lo+i),λi _=>n<=i]
theorem tK{P:Fa}{w:FB}{K:Frag}{tg:Ch}(a it:AC):Turn P w K tg (Ly K a) [it] it (λi h=>h.IsListIter it a i) where
 mem:=by simp
 obj:=λi h st b hb=>by
  have e:b=it:=by simpa using hb
  subst e;let(o,e,c,d):=st;exact#[o,e,λv z=>by rw[d] at z;cases z]
 keep:=λi h h' st k=>st.at λo e=>k it (by simp) o e
 item:=by
  intro X hP hw hK hc i TW s σ H E I hf st hg;subst hP hw hK;let(xs,x,hq,hx):=hg;let(its,rv,p,hz):=I.list hq;let(u,hu,ru):=rv.get hx;let(f0,f1,f2,f3,f4,f5):=hf it (by simp);show wpAny_pyNext_list_item st p.isList (x:=u) (by simpa using hu) λh' jq sb=>?_;have I1:Inv X TW σ H { s with heap:=h' }:=I.turned (t':=s.toks) (λb o hb e=>(sb.2 b hb).trans e) f0 f1 f3 f4 f5;let(o,e,c,d):=id jq;exact#[u,U,Au (s:={ s with heap:=h' }) e c d () #[x,H,I1,ru,#[U,λys hy=>by rw[I.wM hy hq];exact hx],jq,λb hb=>(hf b hb).1]]
 done:=by
  intro X hP hw hK hc i TW s σ H E I hf st hg;subst hP hw hK;let(xs,hq,hx):=hg;let(its,rv,p,hz):=I.list hq;let(f0,f1,f2,f3,f4,f5):=hf it (by simp);have hl:=rv.length;exact wpAny_pyNext_list_end (I.ok.hd hc) st p.isList (by simp;cbv) λh' eb=>#[U,I.turned (t':=s.toks) (λb o hb e=>eb b o hb e) f0 f1 f3 f4 f5]
 self:=λ_ _ _ _ _ st h=>wpAny_pyIter_listiter st h
theorem zo{P:Fa}{w:FB}{K:Frag}{tg:Ch}(a it:AC):Turn P w K tg (YQ K a) [it] it (λi h=>h.IsTupleIter it a i) where
 mem:=by simp
 obj:=λi h st b hb=>by
  have e:b=it:=by simpa using hb
  subst e;let(o,e,c,d):=st;exact#[o,e,λv z=>by rw[d] at z;cases z]
 keep:=λi h h' st k=>st.at λo e=>k it (by simp) o e
 item:=by
  intro X hP hw hK hc i TW s σ H E I hf st hg;subst hP hw hK;let(xs,x,hq,hx):=hg;let(its,rv,p,hz):=I.tuple hq;let(u,hu,ru):=rv.get hx;let(f0,f1,f2,f3,f4,f5):=hf it (by simp);show wpAny_pyNext_tuple_item st (show s.heap.IsTuple a its.toArray from p) (x:=u) (by simpa using hu) λh' jq sb=>?_;have I1:Inv X TW σ H { s with heap:=h' }:=I.turned (t':=s.toks) (λb o hb e=>(sb.2 b hb).trans e) f0 f1 f3 f4 f5;let(o,e,c,d):=id jq;exact#[u,U,Au (s:={ s with heap:=h' }) e c d () #[x,H,I1,ru,#[U,λys hy=>by rw[I.uf hy hq];exact hx],jq,λb hb=>(hf b hb).1]]
 done:=by
  intro X hP hw hK hc i TW s σ H E I hf st hg;subst hP hw hK;let(xs,hq,hx):=hg;let(its,rv,p,hz):=I.tuple hq;let(f0,f1,f2,f3,f4,f5):=hf it (by simp);have hl:=rv.length;exact wpAny_pyNext_tuple_end (I.ok.hd hc) st (show s.heap.IsTuple a its.toArray from p) (by simp;cbv) λh' eb=>#[U,I.turned (t':=s.toks) (λb o hb e=>eb b o hb e) f0 f1 f3 f4 f5]
 self:=λ_ _ _ _ _ st h=>wpAny_pyIter_tupleiter st h
theorem y4{P:Fa}{w:FB}{K:Frag}{tg:Ch}(it:AC)(lo:Int)(n:Nat):Turn P w K tg (Vv lo n) [it] it (λi h=>IsRangeIter h it (lo+(i:Nat) * 1) ((n:Int) - (i:Nat)) 1) where
 mem:=by simp
 obj:=λi h st b hb=>by
  have e:b=it:=by simpa using hb
  subst e;exact#[_,st,λv z=>by
   have z':Data.fields _=Data.cell v:=z;cases z']
 keep:=λi h h' st k=>k it (by simp) _ st
 item:=by
  intro X hP hw hK hc i TW s σ H E I hf st hg;subst hP hw hK;let(f0,f1,f2,f3,f4,f5):=hf it (by simp);have W:=Walks.range (prog:=X.prog) (w:=X.w) (I.ok.hd hc) it lo 1 n;show W.item i s _ _ hg st λv h' tk hv jq kk=>?_;let(t,rfl):=hv;have I1:Inv X TW σ H { s with heap:=h',toks:=tk }:=I.turned (λb o hb e=>kk b o (by simpa using hb) e) f0 f1 f3 f4 f5;show#[_,U,Au (s:={ s with heap:=h',toks:=tk }) (n:="range_iterator") jq U U () #[.int (lo+i),H,I1,#[t,?_],#[U,U],jq,λb hb=>(hf b hb).1]];rw[Int.mul_one]
 done:=by
  intro X hP hw hK hc i TW s σ H E I hf st hg;subst hP hw hK;let(f0,f1,f2,f3,f4,f5):=hf it (by simp);exact wpAny_pyNext_range_end (I.ok.hd hc) st (by have:n<=i:=hg;cbv) λh' eb=>#[U,I.turned (t':=s.toks) (λb o hb e=>eb b o hb e) f0 f1 f3 f4 f5]
 self:=λ_ _ _ _ _ st h=>wpAny_pyIter_rangeiter st h
section
variable{X:Cx}{tg:Ch}
def A9(K:Frag)(tl:TE):TI:=λσ H R=>tl σ H λx H1=>∃ a,x=.ref a/\(∃ xs,dN K H1 a xs)/\R (Ly K a) H1
theorem vG{l:Ch}{tl:TE}(hl:PE X l tl):PI X tg l (A9 X.K tl):=by
 intro TW s σ H R I h;show cb (hl TW s σ H _ I h) λv s1 z5q=>?_;let(x,H1,I1,r1,q1):=z5q;let(a,e,(xs,hq),q):=q1;subst e;cases r1;let(its,rv,p,hz):=I1.list hq;show wpAny_pyIter_list p.isList ?_;show#[↑s1,[↑s1],_,_,H1,U,I1.kept (t':=s1.toks) λb o e=>aae _ e,tK a _,#[_,aat _ U,U,U],λb hb=>?_,q];have e:b=↑s1:=by simpa using hb
 subst e;exact I1.u7 (aah _) (I1.bM.fresh (aah _))
theorem DD{TW:acd}{σ:St}{H:Hp}{s:Cl}{R:It->Hp->Prop}{E:acb}{lo hi:Int}{t u v:Tok}{tk:Nat}(I:Inv X TW σ H s)(h1:-(2 ^ 62)<=lo)(h2:lo < 2 ^ 62)(h3:-(2 ^ 62)<=hi)(h4:hi < 2 ^ 62)(q:R (Vv lo (hi - lo).toNat) H):EQ (model X.prog X.w) X.A (pyIter (.ref ↑s)) (Zg X TW σ tg R) E { s with heap:=s.heap.push { cls:=.type "range",data:=.fields #v[.int lo t,.int hi u,.int 1 v] },toks:=tk }:=by
 show wpAny_pyIter_range (IsRange.new ..) (small_one h1 h2 h3 h4) ?_;have I1:Inv X TW σ H { s with heap:=s.heap.push { cls:=.type "range",data:=.fields #v[.int lo t,.int hi u,.int 1 v] },toks:=tk }:=I.kept λb o e=>aae _ e;show#[(s.heap.push { cls:=.type "range",data:=.fields #v[.int lo t,.int hi u,.int 1 v] }).objs.size,[(s.heap.push { cls:=.type "range",data:=.fields #v[.int lo t,.int hi u,.int 1 v] }).objs.size],_,_,H,U,
  I1.kept (t':=tk) λb o e=>aae _ e,y4 _ lo (hi - lo).toNat,?_,λb hb=>?_,q]
 .have e1:lo+((0:Nat):Int) * 1=lo:=by simp
  have e2:(((hi - lo).toNat:Nat):Int) - ((0:Nat):Int)=GT.Range.rangeSize lo hi 1:=by rw[rangeSize_one];split<;>cbv
  change IsRangeIter _ _ (lo+((0:Nat):Int) * 1) ((((hi - lo).toNat:Nat):Int) - ((0:Nat):Int)) 1;rw[e1,e2];exact aat _ U
 .have e:b=(s.heap.push { cls:=.type "range",data:=.fields #v[.int lo t,.int hi u,.int 1 v] }).objs.size:=by simpa using hb
  subst e;exact I1.u7 (aah _) (I1.bM.fresh (aah _))
def To(ta:TA):TI:=λσ H R=>ta σ H λvs H1=>∃ j:Int,vs=[.int j]/\-(2 ^ 62)<=j/\j < 2 ^ 62/\R (Vv 0 j.toNat) H1
theorem By{a:Ch}{ta:TA}{p pos:Pos}(hg:Gl X "range")(hm:X.mg "range"=none)(ha:PA X [a] ta)(hs:(Gc [a] X.env=[(false,eval a X.env)])⁻¹):PI X tg (.Call (.Name "range" p) [a] [] pos) (To ta):=by
 intro TW s σ H R I h;show Call_ (j9 I hg hm boot_range (PyProof.Rows.callWith_type1 (cb (ha pos TW s σ H _ I h) λus s1 zz=>el2 zz λvs H1 I1 r1 q1=>?_) hs U));let(j,e,q1,q2,q):=q1;subst e;cases r1 with
 | cons r rr =>
  cases rr;let(t,rfl):=r;exact call_range_1 (DD I1 (by cbv) (by cbv) q1 q2 (by simpa using q))
def OT(wi:TI)(g:TG)(tb:TS):TS:=λD σ H=>wi σ H λJ H1=>∃ W:Nat->Nat->St->Hp->Prop,(∃ m,W 0 m σ H1)/\∀ i m σ H,W i m σ H ->
 (J.stop i H/\D.nx σ H)\/(J.go i H/\∃ N:St->Hp->Prop,(∀ σ' H',N σ' H'->∃ m',m' < m/\W (i+1) m' σ' H')/\∀ x H',J.Ny i H x H'->g x σ H' λσ2 H2=>tb { D with nx:=N,ct:=N,bk:=D.nx } σ2 H2)
def qa(fp:!AC)(h:Db):acd:=fp.filterMap λb=>(h.get? b).map λo=>(b,o)
theorem iW{fp:!AC}{h:Db}{b:AC}{o:Obj}(hb:b∈fp)(e:h.get? b=some o):(b,o)∈qa fp h:=List.mem_filterMap.mpr #[b,hb,by rw[e];rfl]
theorem BB{fp:!AC}{h:Db}{p:AC×Obj}(hp:p∈qa fp h):p.1∈fp/\h.get? p.1=some p.2:=by
 let(b,hb,e):=List.mem_filterMap.mp hp;cases q:h.get? b with
 | none=>rw[q] at e;cases e
 | some o =>
  rw[q] at e;have e':(b,o)=p:=aaJ e;subst e';exact#[hb,q]
theorem Inv.pinned{TW:acd}{σ:St}{H:Hp}{s:Cl}{fp:!AC}(I:Inv X TW σ H s)(hf:∀ b∈fp,jZ X TW H b)(ho:∀ b∈fp,∃ o,s.heap.get? b=some o/\∀ v,o.data≠.cell v):Inv X (TW++qa fp s.heap) σ H s :=
 I.z6 λp hp=>(aaw.mp hp).elim (λz=>I.pin p (aaB _ z)) λz=>by
  let(hb,e):=BB z;let(f0,f1,f2,_):=hf p.1 hb;let(o,e',d):=ho p.1 hb;rw[e] at e';cases e';exact#[e,f0,f1,f2,d]
theorem Inv.mU{TW pl:acd}{σ:St}{H:Hp}{s:Cl}(I:Inv X (TW++pl) σ H s):Inv X TW σ H s:=I.z6 λp hp=>I.pin p (aaB _ (aaH _ hp))
abbrev acj (i:Ch)(N:Env):Prop:=∀ x,foldedSetIterable i N x=pure x
theorem EL{iter:Ch}{body:!Ev}{wi:TI}{g:TG}{tb:TS}{pos:Pos}(hp:PassesOwn (model X.prog X.w) X.A X.env X.xe)(hc:X.calm=true)(hi:PI X tg iter wi)(hg:PG X tg g)(hb:pY X body tb)(hs:acj iter X.env:=by intro _;rfl):PS X (.For tg iter body [] pos) (OT wi g tb):=by
 intro TW s σ H D I h;show wpAny_For (cb (hi TW s σ H _ I h) λv s1 h1=>cb h1 λVw s2 h2=>?_) hs;let(it,fp,tn,J,H2,e,I2,T,Lg,f2,W,(m0,w0),turn):=h2;subst e
 -- what stays true of the iterator's objects through the loop
 have stat:∀ {H':Hp},(∀ b∈fp,H' b=none)->∀ b∈fp,jZ X TW H' b:=λhn b hb=>#[hn b hb,(f2 b hb).2];show codeAny_forLoop_any (λn s'=>∃ i σ' H',Inv X TW σ' H' s'/\tn i s'.heap/\(∀ b∈fp,H' b=none)/\W i n σ' H') ?_ m0 #[0,σ,H2,I2,Lg,λb hb=>(f2 b hb).1,w0];rintro n s3 ⟨i,σ3,H3,I3,st3,fr3,w3⟩;rcases turn i n σ3 H3 w3 with ⟨stop,qn⟩ | ⟨go,N,hN,step⟩
 .refine wpAny_passesOwn hp (cb (T.done X U U U hc i TW s3 σ3 H3 X.xe I3 (stat fr3) st3 stop) λr s4 z6q=>?_);let(hr,I4):=z6q;subst hr;exact wpAny_execs_nil #[σ3,H3,I4,qn]
 .refine wpAny_passesOwn hp (cb (T.item X U U U hc i TW s3 σ3 H3 X.xe I3 (stat fr3) st3 go) λr s4 z7q=>?_);let(u,hr,h4):=z7q;subst hr;show wpAny_passesOwn hp (cb h4 λ_ s5 z8q=>?_);let(x,H5,I5,r5,y5,st5,fr5):=z8q;have I5':=I5.pinned (stat fr5) (T.obj _ _ st5);show wpAny_passesOwn hp (cb (hg _ s5 σ3 H5 x u _ I5' r5 (step x H5 y5)) λ_ s6 z9q=>?_);let(σ6,H6,I6,q6):=z9q;show wpAny_passesOwn hp (cb (hb _ s6 σ6 H6 _ I6 q6) λf s7 q7=>?_);have again:∀ {σ7:St} {H7:Hp},Inv X (TW++qa fp s5.heap) σ7 H7 s7->N σ7 H7->∃ m,m < n/\∃ i σ' H',Inv X TW σ' H' s7/\tn i s7.heap/\(∀ b∈fp,H' b=none)/\W i m σ' H':=λ{σ7 H7} I7 n7=>by
   let(m',hm,w7):=hN σ7 H7 n7;show#[m',hm,i+1,σ7,H7,I7.mU,T.keep _ _ _ st5 λb hb o e=>(I7.pin (b,o) (aaB _ (aaB _ (iW hb e)))).1,λb hb=>?_,w7];let(o,e,d):=T.obj _ _ st5 b hb;exact (I7.pin (b,o) (aaB _ (aaB _ (iW hb e)))).2.1
  cases f with
  | next=>let(σ7,H7,I7,n7):=q7;exact again I7 n7
  | cont=>let(σ7,H7,I7,n7):=q7;exact again I7 n7
  | brk=>let(σ7,H7,I7,q7):=q7;exact#[σ7,H7,I7.mU,q7]
  | ret v=>let(x7,σ7,H7,I7,r7,q7):=q7;exact#[x7,σ7,H7,I7.mU,r7,q7]
end
theorem CZ{K:Frag}{a:AC}{xs:!V}{g:TG}{tb:TS}{D:Ends}{σ:St}{H:Hp}(Pv:Nat->St->Hp->Prop)(h0:Pv 0 σ H)(hl:∀ i σ H,i<=xs.length->Pv i σ H->dN K H a xs)(hs:∀ i x σ H,xs[i]?=some x->Pv i σ H->g x σ H λσ2 H2=>tb { D with nx:=Pv (i+1),ct:=Pv (i+1),bk:=D.nx } σ2 H2)(hd:∀ σ H,Pv xs.length σ H->D.nx σ H) :
  ∃ W:Nat->Nat->St->Hp->Prop,(∃ m,W 0 m σ H)/\∀ i m σ H,W i m σ H ->
   ((Ly K a).stop i H/\D.nx σ H)\/((Ly K a).go i H/\∃ N:St->Hp->Prop,(∀ σ' H',N σ' H'->∃ m',m' < m/\W (i+1) m' σ' H')/\∀ x H',(Ly K a).Ny i H x H'->g x σ H' λσ2 H2=>tb { D with nx:=N,ct:=N,bk:=D.nx } σ2 H2):=by
 show#[λi m σ H=>m=xs.length - i/\i<=xs.length/\Pv i σ H,#[xs.length,by simp,Nat.zero_le _,h0],?_];rintro i m σ H ⟨rfl,hi,p⟩;have q:=hl i σ H hi p;by_cases jN:i < xs.length
 .refine .inr #[#[xs,xs[i],q,by simp[jN]],Pv (i+1),λσ' H' p'=>#[xs.length - (i+1),by cbv,U,jN,p'],λx H' y=>?_];let(e,y):=y;subst e;exact hs i x σ _ (y xs q) p
 .have e:i=xs.length:=by cbv
  subst e;exact .inl #[#[xs,q,aah _],hd σ H p]
abbrev R2:=V->V->Hp->VK->Prop
def jt(X:Cx)(f:AT->AT->Sem AT)(r:R2):Prop :=
 ∀ (TW:acd) (s:Cl) (σ:St) (H:Hp) (x y:V) (v u:AT) (Q:VK),Inv X TW σ H s->RelV x v->RelV y u->r x y H Q ->
  EQ (model X.prog X.w) X.A (f v u) (EP X TW σ Q) X.xe s
def V4(X:Cx)(f:AT->Sem AT)(r:V->Hp->VK->Prop):Prop :=
 ∀ (TW:acd) (s:Cl) (σ:St) (H:Hp) (x:V) (v:AT) (Q:VK),Inv X TW σ H s->RelV x v->r x H Q ->
  EQ (model X.prog X.w) X.A (f v) (EP X TW σ Q) X.xe s
def fk(X:Cx)(f:AT)(r:!V->Hp->VK->Prop):Prop :=
 ∀ (TW:acd) (s:Cl) (σ:St) (H:Hp) (xs:!V) (us:!AT) (Q:VK),Inv X TW σ H s->Vals xs us->r xs H Q ->
  EQ (model X.prog X.w) X.A (call f us) (EP X TW σ Q) X.xe s
def W5(X:Cx)(r:V->Hp->(Bool->Hp->Prop)->Prop):Prop :=
 ∀ (TW:acd) (s:Cl) (σ:St) (H:Hp) (x:V) (v:AT) (Q:Bool->Hp->Prop),Inv X TW σ H s->RelV x v->r x H Q ->
  EQ (model X.prog X.w) X.A (truthy v) (TP X TW σ Q) X.xe s
def j6(r:R2)(ta tb:TE):TE:=λσ H Q=>ta σ H λx H1=>tb σ H1 λy H2=>r x y H2 Q
def tUn(r:V->Hp->VK->Prop)(ta:TE):TE:=λσ H Q=>ta σ H λx H1=>r x H1 Q
def rI(C:Int->Int->Prop)(g:Int->Int->V):R2:=λx y H Q=>∃ i j,x=.int i/\y=.int j/\C i j/\Q (g i j) H
def uX(g:Int->Int->V):R2:=λx y H Q=>∃ i j,x=.int i/\y=.int j/\Q (g i j) H
def rU(g:Int->V):V->Hp->VK->Prop:=λx H Q=>∃ i,x=.int i/\Q (g i) H
section
variable{X:Cx}{a b c:Ch}{ta tb tc:TE}{pos:Pos}
theorem LB(ha:PE X a ta)(hb:PE X b tb){TW:acd}{s:Cl}{σ:St}{H:Hp}{R:V->V->Hp->Prop}(I:Inv X TW σ H s)(h:ta σ H λx H1=>tb σ H1 λy H2=>R x y H2){Q:acb}{f:AT->AT->Sem AT}(hf:∀ v u s2 x y H2,Inv X TW σ H2 s2->RelV x v->RelV y u->R x y H2->EQ (model X.prog X.w) X.A (f v u) Q X.xe s2) :
  EQ (model X.prog X.w) X.A (eval a X.env) (λv s₁=>EQ (model X.prog X.w) X.A (eval b X.env) (λu s₂=>EQ (model X.prog X.w) X.A (f v u) Q X.xe s₂) X.xe s₁) X.xe s:=by
 show cb (ha TW s σ H _ I h) λv s1 zz=>el2 zz λx H1 I1 r1 q1=>?_;show cb (hb TW s1 σ H1 _ I1 q1) λu s2 zz=>el2 zz λy H2 I2 r2 q2=>?_;exact hf v u s2 x y H2 I2 r1 r2 q2
theorem du{op:Operator}{r:R2}(ho:jt X (Os op) r)(ha:PE X a ta)(hb:PE X b tb):PE X (.BinOp a op b pos) (j6 r ta tb):=by
 intro TW s σ H Q I h;exact wpAny_BinOp (LB ha hb I h λv u s2 x y H2 I2 rx ry q=>ho TW s2 σ H2 x y v u Q I2 rx ry q)
theorem RI{op:UnaryOp}{r:V->Hp->VK->Prop}(ho:V4 X (unaryOp op) r)(ha:PE X a ta):PE X (.UnaryOp op a pos) (tUn r ta):=by
 intro TW s σ H Q I h;exact UnaryOp_ (cb (ha TW s σ H _ I h) λv s1 zz=>el2 zz λx H1 I1 r1 q1=>ho TW s1 σ H1 x v Q I1 r1 q1)
theorem Vg{f:AT->AT->Sem AT}{C:Int->Int->Prop}{g:Int->Int->Int}(rule:∀ (i j:Int) (t u:Tok) (s:Cl) (Q:acb) (E:acb),C i j->Q (.int (g i j) s.toks) { s with toks:=s.toks+1 }->EQ (model X.prog X.w) X.A (f (.int i t) (.int j u)) Q E s) :
  jt X f (rI C λi j=>.int (g i j)):=by
 intro TW s σ H x y v u Q I rx ry h;let(i,j,rfl,rfl,hc,q):=h;let(t,rfl):=rx;let(t',rfl):=ry;exact rule i j t t' s _ _ hc #[.int (g i j),H,I.tok _,#[_,U],q]
theorem Tg{f:AT->AT->Sem AT}{g:Int->Int->Int}(rule:∀ (i j:Int) (t u:Tok) (s:Cl) (Q:acb) (E:acb),Q (.int (g i j) s.toks) { s with toks:=s.toks+1 }->EQ (model X.prog X.w) X.A (f (.int i t) (.int j u)) Q E s) :
  jt X f (uX λi j=>.int (g i j)):=by
 intro TW s σ H x y v u Q I rx ry h;let(i,j,rfl,rfl,q):=h;let(t,rfl):=rx;let(t',rfl):=ry;exact rule i j t t' s _ _ #[.int (g i j),H,I.tok _,#[_,U],q]
theorem GJ{f:AT->AT->Sem AT}{g:Int->Int->Bool}(rule:∀ (i j:Int) (t u:Tok) (s:Cl) (Q:acb) (E:acb),Q (.bool (g i j)) s->EQ (model X.prog X.w) X.A (f (.int i t) (.int j u)) Q E s) :
  jt X f (uX λi j=>.bl (g i j)):=by
 intro TW s σ H x y v u Q I rx ry h;let(i,j,rfl,rfl,q):=h;let(t,rfl):=rx;let(t',rfl):=ry;exact rule i j t t' s _ _ #[.bl (g i j),H,I,U,q]
def Sg(i j:Int):Prop:=0<=j/\j<=1000000/\i.natAbs < 2 ^ 64
def uS(i j:Int):Prop:=(-(2 ^ 64) < i/\i < 2 ^ 64)\/(-(2 ^ 64) < j/\j < 2 ^ 64)
theorem uS.ok{i j:Int}(h:uS i j):IntMulOk i j:=by
 rcases h with ⟨h1,h2⟩ | ⟨h1,h2⟩
 .exact .of_left (intBits_le_64 h1 h2)
 .exact .of_right (intBits_le_64 h1 h2)
theorem dF:jt X (Os .Add) (uX λi j=>.int (i+j)):=Tg λ_ _ _ _ _ _ _ q=>add_int q
theorem nF:jt X (Os .Sub) (uX λi j=>.int (i - j)):=Tg λ_ _ _ _ _ _ _ q=>sub_int q
theorem lq:jt X (Os .Mult) (rI uS λi j=>.int (i * j)):=Vg λ_ _ _ _ _ _ _ hc q=>mul_int q hc.ok
theorem hU:jt X (Os .Mod) (rI (λ_ j=>0 < j) λi j=>.int (i % j)):=Vg λi j _ _ _ _ _ hc q=>by
 have h1:(0:Int) < j:=hc;exact mod_int' (by cbv) (by rw[Int.fmod_eq_emod_of_nonneg i (by cbv)];exact q)
theorem MS:jt X (Os .Pow) (rI Sg λi j=>.int (i ^ j.toNat)):=Vg λ_ _ _ _ _ _ _ hc q=>pow_int_small hc.1 hc.2.1 hc.2.2 q
theorem unI{f:AT->Sem AT}{g:Int->Int}(rule:∀ (i:Int) (t:Tok) (s:Cl) (Q:acb) (E:acb),Q (.int (g i) s.toks) { s with toks:=s.toks+1 }->EQ (model X.prog X.w) X.A (f (.int i t)) Q E s) :
  V4 X f (rU λi=>.int (g i)):=by
 intro TW s σ H x v Q I rx h;let(i,rfl,q):=h;let(t,rfl):=rx;exact rule i t s _ _ #[.int (g i),H,I.tok _,#[_,U],q]
theorem Mo:V4 X (unaryOp .USub) (rU λi=>.int (-i)):=unI λ_ _ _ _ _ q=>neg_int q
end
def D4:V->V->Bool
 | .bx,.bx=>true | .bx,.int _=>true | .int _,.bx=>true | .bx,.bl _=>true | .bl _,.bx=>true | .bx,.str _=>true | .str _,.bx=>true
 | .int _,.int _=>true | .bl _,.bl _=>true | .str _,.str _=>true | .Ac _,.Ac _=>true
 | .int _,.str _=>true | .str _,.int _=>true | .bl _,.str _=>true | .str _,.bl _=>true
 | _,_=>false
def WY:R2:=λx y H Q=>D4 x y=true/\Q (.bl (decide (x=y))) H
def YV:R2:=λx y H Q=>D4 x y=true/\Q (.bl (not (decide (x=y)))) H
theorem A0{i j:Int}:decide (V.int i=V.int j)=(i == j):=by
 rw[abS];simp
theorem CL{i j:Bool}:decide (V.bl i=V.bl j)=(i == j):=by
 rw[abS];simp
theorem zV{i j:Str}:decide (V.str i=V.str j)=(i == j):=by
 rw[abS];simp
theorem AG{i j:Array UInt8}:decide (V.Ac i=V.Ac j)=(i.toList == j.toList):=by
 rw[abS];cases i;cases j;simp
section
variable{X:Cx}{a b c:Ch}{ta tb tc:TE}{pos:Pos}
theorem br{TW:acd}{σ:St}{H:Hp}{s:Cl}{Q:VK}{k k':Bool}(I:Inv X TW σ H s)(q:Q (.bl k) H)(e:k=k'):EP X TW σ Q (.bool k') s:=by
 subst e;exact#[.bl k,H,I,U,q]
theorem bf:jt X (Ix .Eq) WY:=by
 intro TW s σ H x y v u Q I rx ry h;let(hs,q):=h;cases x with
 | bx =>
  cases rx;cases y with
  | bx=>cases ry;exact PySem.EqNone.eq_none_none (br I q (by simp))
  | bl j=>cases ry;exact PySem.EqNone.eq_none_bool (br I q (by simp))
  | int j=>let(t',rfl):=ry;exact PySem.EqNone.eq_none_int (br I q (by simp))
  | str j=>let(t',rfl):=ry;exact PySem.EqNone.eq_none_str (br I q (by simp))
  | _=>exact absurd (show false=true from hs) aau
 | bl i =>
  cases rx;cases y with
  | bx=>cases ry;exact PySem.EqNone.eq_bool_none (br I q (by simp))
  | bl j=>cases ry;exact eq_bool (br I q CL)
  | str j=>let(t',rfl):=ry;exact PySem.EqMixed.eq_bool_str (br I q (by simp))
  | _=>exact absurd (show false=true from hs) aau
 | int i =>
  let(t,rfl):=rx;cases y with
  | bx=>cases ry;exact PySem.EqNone.eq_int_none (br I q (by simp))
  | int j=>let(t',rfl):=ry;exact eq_int (br I q A0)
  | str j=>let(t',rfl):=ry;exact PySem.EqMixed.eq_int_str (br I q (by simp))
  | _=>exact absurd (show false=true from hs) aau
 | str i =>
  let(t,rfl):=rx;cases y with
  | bx=>cases ry;exact PySem.EqNone.eq_str_none (br I q (by simp))
  | bl j=>cases ry;exact PySem.EqMixed.eq_str_bool (br I q (by simp))
  | int j=>let(t',rfl):=ry;exact PySem.EqMixed.eq_str_int (br I q (by simp))
  | str j=>let(t',rfl):=ry;exact eq_str (br I q zV)
  | _=>exact absurd (show false=true from hs) aau
 | Ac i =>
  let(t,rfl):=rx;cases y with
  | Ac j=>let(t',rfl):=ry;exact PySem.W.eq_bytes (br I q AG)
  | _=>exact absurd (show false=true from hs) aau
 | _=>cases y<;>exact absurd (show false=true from hs) aau
theorem rV:jt X (Ix .NotEq) YV:=by
 intro TW s σ H x y v u Q I rx ry h;let(hs,q):=h;cases x with
 | bx =>
  cases rx;cases y with
  | bx=>cases ry;exact PySem.EqNone.ne_none_none (br I q (by simp))
  | bl j=>cases ry;exact PySem.EqNone.ne_none_bool (br I q (by simp))
  | int j=>let(t',rfl):=ry;exact PySem.EqNone.ne_none_int (br I q (by simp))
  | str j=>let(t',rfl):=ry;exact PySem.EqNone.ne_none_str (br I q (by simp))
  | _=>exact absurd (show false=true from hs) aau
 | bl i =>
  cases rx;cases y with
  | bx=>cases ry;exact PySem.EqNone.ne_bool_none (br I q (by simp))
  | bl j=>cases ry;exact ne_bool (br I q (congrArg not CL))
  | str j=>let(t',rfl):=ry;exact PySem.EqMixed.ne_bool_str (br I q (by simp))
  | _=>exact absurd (show false=true from hs) aau
 | int i =>
  let(t,rfl):=rx;cases y with
  | bx=>cases ry;exact PySem.EqNone.ne_int_none (br I q (by simp))
  | int j=>let(t',rfl):=ry;exact ne_int (br I q (congrArg not A0))
  | str j=>let(t',rfl):=ry;exact PySem.EqMixed.ne_int_str (br I q (by simp))
  | _=>exact absurd (show false=true from hs) aau
 | str i =>
  let(t,rfl):=rx;cases y with
  | bx=>cases ry;exact PySem.EqNone.ne_str_none (br I q (by simp))
  | bl j=>cases ry;exact PySem.EqMixed.ne_str_bool (br I q (by simp))
  | int j=>let(t',rfl):=ry;exact PySem.EqMixed.ne_str_int (br I q (by simp))
  | str j=>let(t',rfl):=ry;exact ne_str (br I q (congrArg not zV))
  | _=>exact absurd (show false=true from hs) aau
 | Ac i =>
  let(t,rfl):=rx;cases y with
  | Ac j=>let(t',rfl):=ry;exact PySem.W.ne_bytes (br I q (congrArg not AG))
  | _=>exact absurd (show false=true from hs) aau
 | _=>cases y<;>exact absurd (show false=true from hs) aau
theorem Cs:jt X (Ix .Lt) (uX λi j=>.bl (decide (i < j))):=GJ λ_ _ _ _ _ _ _ q=>lt_int q
theorem S3:jt X (Ix .LtE) (uX λi j=>.bl (decide (i<=j))):=GJ λ_ _ _ _ _ _ _ q=>le_int q
theorem sG:jt X (Ix .Gt) (uX λi j=>.bl (decide (j < i))):=GJ λ_ _ _ _ _ _ _ q=>gt_int q
theorem IJ:jt X (Ix .GtE) (uX λi j=>.bl (decide (j<=i))):=GJ λ_ _ _ _ _ _ _ q=>ge_int q
theorem Am:jt X (Ix .IsNot) (λx y H Q=>y=.bx/\Q (.bl (not (decide (x=.bx)))) H):=by
 intro TW s σ H x y v u Q I rx ry h;let(rfl,q):=h;cases ry;show isnot_none_gen (br I q ?_);cases x<;>first
  | (cases rx;rfl)
  | (let(t,rfl):=rx;rfl)
theorem aF(b:Ch){op:CmpOp}(h: ~~~(op≠.In))(h2: ~~~(op≠.NotIn)):behindInMarks op b=false:=by
 have e1:(op == CmpOp.In)=false:=by cases op<;>first | rfl | exact absurd U h
 have e2:(op == CmpOp.NotIn)=false:=by cases op<;>first | rfl | exact absurd U h2
 cases b<;>simp[behindInMarks,e1,e2]
theorem IC{op:CmpOp}{r:R2}(ho:jt X (Ix op) r)(ha:PE X a ta)(hb:PE X b tb)(hm:behindInMarks op b=false):PE X (.Compare a [op] [b] pos) (j6 r ta tb):=by
 intro TW s σ H Q I h;exact wpAny_Compare1 (LB ha hb I h λv u s2 x y H2 I2 rx ry q=>ho TW s2 σ H2 x y v u Q I2 rx ry q) hm
def t7(t:TE):TT:=λσ H Q=>t σ H λx H'=>∃ k,x=.bl k/\Q k H'
theorem iN{op:CmpOp}{r:R2}(ho:jt X (Ix op) r)(ha:PE X a ta)(hb:PE X b tb)(hm:behindInMarks op b=false):PT X (.Compare a [op] [b] pos) (t7 (j6 r ta tb)):=by
 intro TW s σ H Q I h;show wpAny_isTrue_Compare1 (cb (ha TW s σ H _ I h) λv s1 zz=>el2 zz λx H1 I1 r1 q1=>cb (hb TW s1 σ H1 _ I1 q1) λu s2 zz=>el2 zz λy H2 I2 r2 q2 =>
  cb (ho TW s2 σ H2 x y v u _ I2 r1 r2 q2) λc s3 #[z,H3,I3,r3,k,e,q3]=>?_) hm
 subst e;cases r3;exact wpAny_truthy_bool #[H3,I3,q3]
def LI(r r':R2)(ta tb tc:TE):TE:=λσ H Q=>ta σ H λx H1=>tb σ H1 λy H2=>r x y H2 λz H3=>∃ k,z=.bl k /\
 (if k=true then tc σ H3 λw' H4=>r' y w' H4 Q else Q (.bl false) H3)
theorem EN{op Xi:CmpOp}{r r':R2}(ho:jt X (Ix op) r)(G8:jt X (Ix Xi) r')(ha:PE X a ta)(hb:PE X b tb)(hc:PE X c tc)(hm:lastMarks [op,Xi] [b,c]=false:=by with_unfolding_all rfl):PE X (.Compare a [op,Xi] [b,c] pos) (LI r r' ta tb tc):=by
 intro TW s σ H Q I h;show Compare_chain (cb (ha TW s σ H _ I h) λv s1 zz=>el2 zz λx H1 I1 r1 q1=>chain_link (cb (hb TW s1 σ H1 _ I1 q1) λu s2 zz=>el2 zz λy H2 I2 r2 q2 =>
  cb (ho TW s2 σ H2 x y v u _ I2 r1 r2 q2) λd s3 #[z,H3,I3,r3,k,e,q3]=>?_)) hm
 subst e;cases r3;show wpAny_truthy_bool ?_;cases k with
 | false=>exact ite_ff #[.bl false,H3,I3,U,q3]
 | true=>exact ite_tt (chain_last (cb (hc TW s3 σ H3 _ I3 q3) λw' s4 zz=>el2 zz λz' H4 I4 r4 q4=>G8 TW s4 σ H4 y z' u w' Q I4 r2 r4 q4))
def UU(K:Frag)(x:V)(H:Hp)(k:Bool):Prop :=
 match x with
 | .bx=>k=false
 | .bl b=>k=b
 | .int i=>k=(i != 0)
 | .str y=>y.length<=FS/\k=((y.length:Int) != 0)
 | .Ac y=>y.size<=FS/\k=((y.size:Int) != 0)
 | .ref p=>(∃ xs,dN K H p xs/\k=(not xs.isEmpty))\/(∃ xs,iu K H p xs/\k=(not xs.isEmpty))\/∃ kvs,H p=some (.dK kvs)/\k=(not kvs.isEmpty)
 | _=>False
theorem zD{κ:Type}{kvs:!(κ×V)}{vs:!(κ×AT)}(r:KV kvs vs):(not vs.isEmpty)=(not kvs.isEmpty):=by
 cases r<;>rfl
theorem qO{xs:!V}{its:!AT}(r:Vals xs its):(not its.toArray.isEmpty)=(not xs.isEmpty):=by
 cases r<;>simp
theorem lN:(FS:Nat) < 2 ^ 63:=by rw[sizeLine_eq];decide
theorem MY:W5 X (λx H Q=>∃ k,UU X.K x H k/\Q k H):=by
 intro TW s σ H x v Q I rx h;let(k,e,q):=h;have hl:=lN;have hs:FS=16777216:=sizeLine_eq;cases x with
 | bx =>
  cases rx;have e':k=false:=e;subst e';exact truthy_none #[H,I,q]
 | bl b =>
  cases rx;have e':k=b:=e;subst e';exact wpAny_truthy_bool #[H,I,q]
 | int i =>
  let(t,rfl):=rx;have e':k=(i != 0):=e;subst e';exact PySem.P.truthy_int #[H,I,q]
 | str y =>
  let(t,rfl):=rx;obtain⟨hy,e'⟩:y.length<=FS/\k=((y.length:Int) != 0):=e;subst e';exact PySem.P.truthy_str (by cbv) #[H,I.tok _,q]
 | Ac y =>
  let(t,rfl):=rx;obtain⟨hy,e'⟩:y.size<=FS/\k=((y.size:Int) != 0):=e;subst e';exact PySem.W.truthy_bytes (by cbv) #[H,I.tok _,q]
 | ref p =>
  cases rx;have e':(∃ xs,dN X.K H p xs/\k=(not xs.isEmpty))\/(∃ xs,iu X.K H p xs/\k=(not xs.isEmpty))\/∃ kvs,H p=some (.dK kvs)/\k=(not kvs.isEmpty):=e;rcases e' with ⟨xs,hx,e'⟩ | ⟨xs,hx,e'⟩ | ⟨kvs,hx,e'⟩
  .subst e';let(its,r,pl,hz):=I.list hx;have hlen:=r.length;exact wpAny_truthy_list pl.isList (by simp only[List.size_toArray];cbv) #[H,I.tok _,by rw[qO r];exact q]
  .subst e';let(its,r,pl,hz):=I.tuple hx;have hlen:=r.length;exact truthy_tuple pl (by simp only[List.size_toArray];cbv) #[H,I.tok _,by rw[qO r];exact q]
  .subst e';obtain⟨hz,hS,vs,r,m⟩:kvs.length<=FS/\(p == KM)=false/\∃ vs,KV kvs vs/\s.heap.DictOf (cu X.prog X.w) p vs:=I.bM p _ hx;have hlen:kvs.length=vs.length:=Paired.length r;exact wpAny_truthy_dict hS m (by cbv) #[H,I.tok _,by rw[zD r];exact q]
 | _=>exact (show False from e).elim
theorem Cw(ha:PE X a ta)(he:∀ whole,isTrue a X.env whole=(do let v <- whole;standAt a.pos;holding [v] (truthy v))) :
  PT X a (λσ H Q=>ta σ H λx H'=>∃ k,UU X.K x H' k/\Q k H'):=by
 intro TW s σ H Q I h;exact isTrue_plain (cb (ha TW s σ H _ I h) λv s1 zz=>el2 zz λx H1 I1 r1 q1=>MY TW s1 σ H1 x v Q I1 r1 q1) (he _)
theorem e8:jt X (Os .Add) (λx y H Q=>∃ i j,x=.str i/\y=.str j/\i.length+j.length<=FS/\Q (.str (i++j)) H):=by
 intro TW s σ H x y v u Q I rx ry h;let(i,j,rfl,rfl,hz,q):=h;let(t,rfl):=rx;let(t',rfl):=ry;exact add_str (λt' tk=>#[.str (i++j),H,I.tok _,#[_,U],q]) hz
theorem vals1{x:V}{us:!AT}(r:Vals [x] us):∃ u,us=[u]/\RelV x u:=by
 cases r with
 | cons r1 r2=>cases r2;exact#[_,U,r1]
theorem vals2{x y:V}{us:!AT}(r:Vals [x,y] us):∃ u w',us=[u,w']/\RelV x u/\RelV y w':=by
 cases r with
 | cons r1 r2 =>
  cases r2 with
  | cons r3 r4=>cases r4;exact#[_,_,U,r1,r3]
theorem oj(hc:X.calm=true):fk X (.builtin "max") (λxs H Q=>∃ i j,xs=[.int i,.int j]/\Q (.int (if j > i then j else i)) H):=by
 intro TW s σ H xs us Q I r h;let(i,j,rfl,q):=h;let(u,w',rfl,(t,rfl),(t',rfl)):=vals2 r;show max_two_ints (I.ok.hd hc) λh' tk k=>#[_,H,I.kept k,?_,q];by_cases hj:j > i
 .rw[if_pos hj,if_pos hj];exact#[_,U]
 .rw[if_neg hj,if_neg hj];exact#[_,U]
theorem BH(hc:X.calm=true):fk X (.builtin "min") (λxs H Q=>∃ i j,xs=[.int i,.int j]/\Q (.int (if j < i then j else i)) H):=by
 intro TW s σ H xs us Q I r h;let(i,j,rfl,q):=h;let(u,w',rfl,(t,rfl),(t',rfl)):=vals2 r;show min_two_ints (I.ok.hd hc) λh' tk k=>#[_,H,I.kept k,?_,q];by_cases hj:j < i
 .rw[if_pos hj,if_pos hj];exact#[_,U]
 .rw[if_neg hj,if_neg hj];exact#[_,U]
theorem eY:fk X (.type "int") (λxs H Q=>(∃ i,xs=[.int i]/\Q (.int i) H)\/∃ k,xs=[.bl k]/\Q (.int (if k then 1 else 0)) H):=by
 intro TW s σ H xs us Q I r h;rcases h with ⟨i,rfl,q⟩ | ⟨k,rfl,q⟩
 .let(u,rfl,t,rfl):=vals1 r;exact call_int_int #[.int i,H,I,#[_,U],q]
 .let(u,rfl,r1):=vals1 r;cases r1;exact call_int_bool #[.int (if k then 1 else 0),H,I.tok _,#[_,U],q]
end
structure yH(h:Db)(x dx C:AC)(mA:Str->Option AT):Prop where
 obj:h.get? x=some (PySem.W.instObj C dx)
 ns:h.Ns1 dx mA
 ne:dx≠x
theorem B5{h:Db}{dx:AC}{mA:Str->Option AT}(n:h.Ns1 dx mA):∃ od,h.get? dx=some od/\∀ name,PySem.W.lookIn name od=some (mA name):=by
 let(o,es,ep,ho,hd,hk,_,hm):=n;show#[o,ho,λname=>?_];have e:=hm name;unfold nsFind findBy at e;rw[<- Array.find?_toList] at e;unfold PySem.W.lookIn;rw[hd];dsimp only;split
 .rename_i y q
  rw[q] at e;exact congrArg some e
 .rename_i q
  rw[q] at e;have a:es.toList.any (·.refKey)=false:=by
   rw[List.any_eq_false];intro y hy;let(z,t,hkey):=hk y (Array.mem_toList_iff.mp hy);simp[SL.refKey,hkey]
  have a':¬ es.toList.any (·.refKey)=true:=by rw[a];exact aau
  rw[if_neg a'];exact congrArg some e
theorem yH.look{h:Db}{x dx C:AC}{mA:Str->Option AT}(I:yH h x dx C mA):∃ od,InstAt h x (PySem.W.instObj C dx) C (some od)/\∀ name,PySem.W.lookIn name od=some (mA name) :=
 let #[od,ho,hl]:=B5 I.ns
 #[od,#[I.obj,U,U,ho],hl]
section
variable{prog:Fa}{w:FB}{A:Fr}{E:acb}{s:Cl}{K:Frag}{x dx C f:AC}{mA:Str->Option AT}{name:Str}{v:AT}
theorem get_map{expr:Bool}{Q:acb}(X:K.In s.heap)(I:yH s.heap x dx C mA)(hg:PySem.W.plainGet K C name=true)(hh:PySem.W.hasDictIn K C=true)(ha:findIn K (.ref C) name=some none)(hv:mA name=some v)(Vh:PySem.W.handedIn v=true)(h:Q v { s with toks:=s.toks+1 }) :
  EQ (model prog w) A (getAttr (.ref x) name expr) Q E s:=by
 let(od,J,hl):=I.look;exact PySem.W.get_value X J (PySem.W.plainGet_of hg).1 (PySem.W.findObj_own hh ha U (by rw[hl,hv])) Vh h
theorem D6{pl:Sem Bool}{Q:AT×!AT->Cl->Prop}(X:K.In s.heap)(I:yH s.heap x dx C mA)(hg:PySem.W.plainGet K C name=true)(hf:findIn K (.ref C) name=some (some (.ref f)))(ht:PySem.W.isFn K (.ref f)=true)(hv:mA name=none)(h:Q (.ref f,[.ref x]) s) :
  EQ (model prog w) A (getMethod (.ref x) name pl) Q E s:=by
 let(od,J,hl):=I.look;exact PySem.W.method_fn X J (PySem.W.plainGet_of hg).1 (PySem.W.plainGet_of hg).2 hf (beq_iff_eq.mp ht) (by change (PySem.W.lookIn name od).map (·.isSome)=some false;rw[hl,hv];rfl) h
theorem Gh{ns:!Str}{Q:Unit->Cl->Prop}(X:K.In s.heap)(I:yH s.heap x dx C mA)(hs:findIn K (.ref C) "__setattr__"=some (some (.builtin "object.__setattr__")))(hp:PySem.W.plainOver K C=true)(ht:PySem.W.takerIn K C name=some none)(hh:PySem.W.hasDictIn K C=true)(hw:PySem.Within mA ns)(hsz:ns.length<=FS)(h:∀ h',yH h' x dx C (λy=>if y=name then some v else mA y)->Db.SameBut dx s.heap h'->Q Unit.unit { s with heap:=h',toks:=s.toks+2 }) :
  EQ (model prog w) A (setAttr (.ref x) name v) Q E s:=by
 let(od,J,hl):=I.look;show PySem.W.set_plain X J hs (PySem.W.osa_open (s:={ s with toks:=s.toks+1 }) (r:=none) X J hp ht λb=>?_);let(cd,hc,hd'):=PySem.W.any_some hh;have hx:s.heap.get? x=some #[.ref C,some dx,.plain,#v[]]:=I.obj;show Da (GE (Da (Da (wpAny_loadPart hx (Da (Looks.here (s:={ s with toks:=s.toks+1 }) (PySem.W.looks_clsIn X hc) ?_))))));rw[hd'];show GE (a:=some dx) (Da (GE (Da ?_)));show wpAny_nsSet1 (s:={ s with toks:=s.toks+1 }) I.ns λh' JQ xX=>?_;let(oD,esD,epD,hoD,BL,hcD):=JQ.count (PySem.Within.cons name v hw);show Da (wpAny_lookBehind hoD (by rw[BL];exact pastItsLine_dict (aap hcD (by rw[aam];cbv))) ?_);exact GE (h _ #[(xX.2 _ (Ne.symm I.ne)).trans I.obj,JQ,I.ne] xX)
theorem Dx{R:Result->Cl->Prop}{vs:!AT}{kw:!(Str×AT)}(X:K.In s.heap)(hm:PySem.W.makesIn K C=true)(hi:findIn K (.ref C) "__init__"=some (some (.ref f)))(hf:typeIn K (.ref f)=some (.type "function"))(h:codeAny (model prog w) (A.under (.builtin "type.__call__" #[.ref C::vs,kw])) (.call (.ref f) #[.ref (↑s+1)::vs,kw]) (PySem.W.InitBack (↑s+1) R)
   { s with heap:=(s.heap.push PySem.W.emptyDict).push (PySem.W.instObj C ↑s) }) :
  codeAny (model prog w) A (.call (.ref C) #[vs,kw]) R s:=by
 let(hh,g,d,t,os):=s;exact PySem.W.make_core (PySem.W.makes_of X hm) (PySem.W.looks_findIn X hi) (λself=>PySem.W.bind_fn X self hf) (.inl U) h
end
def iq(f:Str)(v:V):!(Str×V)->!(Str×V)
 | []=>[(f,v)]
 | (g,x)::r=>if g=f then (g,v)::r else (g,x)::iq f v r
theorem ph(f g:Str)(v:V):∀ fs:!(Str×V),(iq f v fs).lookup g=if g=f then some v else fs.lookup g
 | []=>by
  change List.lookup g [(f,v)]=_;by_cases h:g=f
  .have hb:(g == f)=true:=beq_iff_eq.mpr h;simp only[List.lookup,hb,if_pos h]
  .have hb:(g == f)=false:=beq_eq_false_iff_ne.mpr h;simp only[List.lookup,hb,if_neg h]
 | (k,x)::r=>by
  have ih:=ph f g v r;rw[show iq f v ((k,x)::r)=(if k=f then (k,v)::r else (k,x)::iq f v r) from U];by_cases hk:k=f
  .rw[if_pos hk];by_cases h:g=k
   .have hb:(g == k)=true:=beq_iff_eq.mpr h;simp only[List.lookup,hb,if_pos (h.trans hk)]
   .have hb:(g == k)=false:=beq_eq_false_iff_ne.mpr h;simp only[List.lookup,hb,if_neg (λe:g=f=>h (e.trans hk.symm))]
  .rw[if_neg hk];by_cases h:g=k
   .have hb:(g == k)=true:=beq_iff_eq.mpr h;simp only[List.lookup,hb,if_neg (λe:g=f=>hk (h.symm.trans e))]
   .have hb:(g == k)=false:=beq_eq_false_iff_ne.mpr h;simp only[List.lookup,hb];exact ih
theorem oo(f:Str)(v:V):∀ fs:!(Str×V),f∈(iq f v fs).map (·.1)/\∀ g,g∈fs.map (·.1)->g∈(iq f v fs).map (·.1)
 | []=>#[by simp[iq],λg h=>by simp at h]
 | (k,x)::r=>by
  let(i1,i2):=oo f v r;rw[show iq f v ((k,x)::r)=(if k=f then (k,v)::r else (k,x)::iq f v r) from U];by_cases hk:k=f
  .rw[if_pos hk];subst hk;exact#[by simp,λg h=>by simpa using h]
  .rw[if_neg hk];show#[?_,λg h=>?_]
   .rw[aao];exact aac _ i1
   .rw[aao] at h ⊢;rcases aaj.mp h with e | e
    .exact aaj.mpr (.inl e)
    .exact aac _ (i2 g e)
theorem pd(f:Str)(v:V):∀ fs:!(Str×V),(iq f v fs).length<=fs.length+1
 | []=>by simp[iq]
 | (k,x)::r=>by
  have ih:=pd f v r;rw[show iq f v ((k,x)::r)=(if k=f then (k,v)::r else (k,x)::iq f v r) from U];by_cases hk:k=f
  .rw[if_pos hk,aam,aam];cbv
  .rw[if_neg hk,aam,aam];cbv
theorem kO.some_of{v:V}{o:Option AT}(r:kO (some v) o):∃ u,o=some u/\RelV v u:=by
 cases o with
 | none=>exact (show False from r).elim
 | some u=>exact#[u,U,r]
theorem kO.none_of{o:Option AT}(r:kO none o):o=none:=by
 cases o with
 | none=>rfl
 | some u=>exact (show False from r).elim
theorem Bm{v:V}{u:AT}(r:RelV v u):PySem.W.handedIn u=true:=by
 cases v with
 | bx=>cases (show u=AT.none from r);rfl
 | bl b=>cases (show u=AT.bool b from r);rfl
 | int i=>let(t,e):=(show ∃ t,u=AT.int i t from r);cases e;rfl
 | str x=>let(t,e):=(show ∃ t,u=AT.str x t from r);cases e;rfl
 | Ac b=>let(t,e):=(show ∃ t,u=AT.bytes b t from r);cases e;rfl
 | VL b=>let(t,e):=(show ∃ t,u=AT.float b t from r);cases e;rfl
 | ref a=>cases (show u=AT.ref a from r);rfl
 | ty n=>cases (show u=AT.type n from r);rfl
section
variable{P:Fa}{w:FB}{H H':Hp}{h h':Db}{a C dx:AC}{fs fs':!(Str×V)}
theorem vy(bM:lO P w H h)(e:H a=some (.ins C dx fs)):∃ mA,yH h a dx C mA/\(∀ f,kO (fs.lookup f) (mA f))/\PySem.Within mA (fs.map (·.1))/\fs.length<=1000/\H dx=some (.own a):=by
 let(d,z,ne,ob,mA,n,r,q):=(show cO P w H h a (.ins C dx fs) from bM a _ e);exact#[mA,#[ob,n,ne],r,q,z,d]
end
structure vL(K:Frag)(C:AC):Prop where
 pg:PySem.W.plainGet K C Str.empty=true
 hd:PySem.W.hasDictIn K C=true
 po:PySem.W.plainOver K C=true
 sa:findIn K (.ref C) "__setattr__"=some (some (.builtin "object.__setattr__"))
theorem vL.get{K:Frag}{C:AC}(c:vL K C)(f:Str):PySem.W.plainGet K C f=true:=c.pg
def cx(K:Frag)(C:AC)(f:Str):Prop:=findIn K (.ref C) f=some none
theorem cx.OB{K:Frag}{C:AC}{f:Str}(n:cx K C f):PySem.W.takerIn K C f=some none:=by
 unfold PySem.W.takerIn;rw[show findIn K (.ref C) f=some none from n]
 rfl
structure Meth(K:Frag)(C:AC)(m:Str)(f:AC):Prop where
 at_:findIn K (.ref C) m=some (some (.ref f))
 fn:PySem.W.isFn K (.ref f)=true
 kp:keepIn K (.ref f)=true
section
variable{X:Cx}{TW:acd}{σ:St}{H:Hp}{s:Cl}{a C dx:AC}{fs:!(Str×V)}{f:Str}{v:V}{A:Fr}{E:acb}
theorem yf{b:Bool}{Q:acb}(I:Inv X TW σ H s)(e:H a=some (.ins C dx fs))(c:vL X.K C)(n:cx X.K C f)(l:fs.lookup f=some v)(h:∀ u s',Inv X TW σ H s'->RelV v u->Q u s'):EQ (model X.prog X.w) A (getAttr (.ref a) f b) Q E s:=by
 let(mA,O,r,_,_,_):=vy I.bM e;let(u,hu,ru):=kO.some_of (v:=v) (o:=mA f) (by rw[<- l];exact r f);exact get_map I.xW O (c.get f) c.hd n hu (Bm ru) (h u _ (I.tok _) ru)
theorem rF{m:Str}{g:AC}{pl:Sem Bool}{Q:AT×!AT->Cl->Prop}(I:Inv X TW σ H s)(e:H a=some (.ins C dx fs))(c:vL X.K C)(k:Meth X.K C m g)(l:fs.lookup m=none)(h:Q (.ref g,[.ref a]) s):EQ (model X.prog X.w) A (getMethod (.ref a) m pl) Q E s:=by
 let(mA,O,r,_,_,_):=vy I.bM e;have hn:mA m=none:=kO.none_of (by rw[<- l];exact r m);exact D6 I.xW O (c.get m) k.at_ k.fn hn h
theorem yN{y:V}{u:AT}{Q:Unit->Cl->Prop}(I:Inv X TW σ H s)(e:H a=some (.ins C dx fs))(c:vL X.K C)(n:cx X.K C f)(hl:fs.length < 1000)(ry:RelV y u)(h:∀ s',Inv X TW σ (upd H a (.ins C dx (iq f y fs))) s'->Q Unit.unit s'):EQ (model X.prog X.w) A (setAttr (.ref a) f u) Q E s:=by
 let(mA,O,r,wi,_,ho):=vy I.bM e;have hz:(fs.map (·.1)).length<=FS:=by rw[aaa,sizeLine_eq];cbv
 show Gh I.xW O c.sa c.po n.OB c.hd wi hz λh' O' sb=>h _ ?_;have hd:∃ o,h'.get? dx=some o:=let #[o,_,_,e',_]:=O'.ns;#[o,e'];show I.write (x:=a) (e:=dx) (by rw[e];exact True.intro) (.inr ho) (λb q hb z=>(sb.2 b hb).trans z) hd ?_;show#[by rw[aA O.ne];exact ho,?_,O.ne,O'.obj,_,O'.ns,λg=>?_,λg hg=>?_]
 .have:=pd f y fs;cbv
 .show kO ((iq f y fs).lookup g) (if g=f then some u else mA g);rw[ph];by_cases q:g=f
  .rw[if_pos q,if_pos q];exact ry
  .rw[if_neg q,if_neg q];exact r g
 .by_cases q:g=f
  .rw[q];exact (oo f y fs).1
  .refine (oo f y fs).2 g (wi g λz=>hg ?_);change (if g=f then some u else mA g)=none;rw[if_neg q];exact z
theorem Inv.made(I:Inv X TW σ H s):Inv X TW σ (upd (upd H ↑s (.own (↑s+1))) (↑s+1) (.ins C ↑s []))
  { s with heap:=(s.heap.push PySem.W.emptyDict).push (PySem.W.instObj C ↑s) }:=by
 have e1:(s.heap.push PySem.W.emptyDict).get? ↑s=some PySem.W.emptyDict:=aat s.heap U;have e2:((s.heap.push PySem.W.emptyDict).push (PySem.W.instObj C ↑s)).get? (↑s+1)=some (PySem.W.instObj C ↑s):=by
  have:=aat (s.heap.push PySem.W.emptyDict) (o:=PySem.W.instObj C ↑s) U
  rwa [aaV] at this
 have e3:(s.heap.push PySem.W.emptyDict).Ns ↑s (λ_=>none):=#[PySem.W.emptyDict,#v[],_,e1,U,(λe he=>absurd he (by simp)),λ_=>rfl];have I1:=I.laid (a:=↑s) (o:=.own (↑s+1)) (h':=s.heap.push PySem.W.emptyDict) (t':=s.toks) (λb u q=>aae _ q) (aah _) #[_,e1];show I1.laid (a:=↑s+1) (o:=.ins C ↑s []) (t':=s.toks) (λb u q=>aae _ q) (Nat.le_of_eq (aaV _ _)) ?_;have ne:↑s≠↑s+1:=aaD (ab4 _);show#[by rw[aA ne,aD],aax _,ne,e2,λ_=>none,(Db.Ns1.of_empty e3).at λo q=>aae _ q,λ_=>True.intro,λy hy=>absurd U hy]
theorem GR{prog:Fa}{w:FB}{env:Env}{e:Ch}{f:Str}{pos:Pos}{s:Cl}{Q:acb}(hb:attributeBase e f env (eval e env)=eval e env)(h:EQ (model prog w) A (eval e env) (λo s₁=>EQ (model prog w) A (getAttr o f true) Q E s₁) E s):EQ (model prog w) A (eval (.Attribute e f pos) env) Q E s :=
 Attribute_any_ h (by rw[arm_eval_Attribute,hb])
end
def Xe(K:Frag)(ta:TE)(f:Str):TE:=λσ H Q=>ta σ H λx H1=>∃ a C dx fs v,x=.ref a/\H1 a=some (.ins C dx fs)/\vL K C/\cx K C f/\fs.lookup f=some v/\Q v H1
def XW(K:Frag)(ta tv:TE)(f:Str):TS:=λD σ H=>tv σ H λy H1=>ta σ H1 λx H2=>∃ a C dx fs,x=.ref a/\H2 a=some (.ins C dx fs)/\vL K C/\cx K C f/\fs.length < 1000 /\
 D.nx σ (upd H2 a (.ins C dx (iq f y fs)))
section
variable{X:Cx}{o e value:Ch}{f:Str}{pos pos' mS:Pos}{ta tv:TE}
theorem DC(he:PE X e ta)(hb:attributeBase e f X.env (eval e X.env)=eval e X.env):PE X (.Attribute e f pos) (Xe X.K ta f):=by
 intro TW s σ H Q I h;show GR hb (cb (he TW s σ H _ I h) λu s1 #[x,H1,I1,rx,a,C,dx,fs,v,ex,ea,c,n,l,q]=>?_);subst ex;obtain rfl:u=AT.ref a:=rx;exact yf I1 ea c n l λu' s2 I2 ru=>#[v,H1,I2,ru,q]
theorem Ds(ha:PE X o ta)(hv:PE X value tv)(hs:swapsWith value (some (.Attribute o f pos')) pos.line X.env=pure false):PS X (.Assign [.Attribute o f pos'] value pos) (XW X.K ta tv f):=by
 intro TW s σ H D I h;show plainObj_wpAny_Assign_Attribute (cb (hv TW s σ H _ I h) λu s1 zz=>el2 zz λy H1 I1 ry q=>cb (ha TW s1 σ H1 _ I1 q) λov s2 #[x,H2,I2,rx,a,C,dx,fs,ex,ea,c,n,l,q2]=>?_) hs;subst ex;obtain rfl:ov=AT.ref a:=rx;exact yN I2 ea c n l ry λs3 I3=>#[σ,_,I3,q2]
end
section
variable{X:Cx}{TW:acd}{σ:St}{H:Hp}{s:Cl}{A:Fr}{E:acb}{Q:acb}{c:AT}{b:Bool}
end
structure b4(k:Nat)(A:Fr):Prop where
 hd:A.handled=none
 dp:A.depth+3 * k+5 < recursionLimit
 un:A.units+16 * k+200 < cLine
theorem b4.mono{j k:Nat}{A:Fr}(r:b4 k A)(h:j<=k):b4 j A:=#[r.hd,by have:=r.dp;cbv,by have:=r.un;cbv]
theorem b4.deeper{k:Nat}{A:Fr}(r:b4 (k+1) A)(env:Env):b4 k (A.deeper env) :=
 #[r.hd,by have:=r.dp;change A.depth+1+3 * k+5 < _;cbv,by have:=r.un;change A.units+3+16 * k+200 < _;cbv]
theorem yC{A:Fr}{C:AC}{us:!AT}{kw:!(Str×AT)}:(A.under (.builtin "type.__call__" #[.ref C::us,kw])).depth=A.depth+1:=by
 first | rfl | simp[Fr.under,Code.weight,Code.isCreation,Code.isGuard,Code.isCaller,Code.frames,Code.isFrame,guardIds]
theorem zF{A:Fr}{C:AC}{us:!AT}{kw:!(Str×AT)}:(A.under (.builtin "type.__call__" #[.ref C::us,kw])).units=A.units+1:=by
 first | rfl | simp[Fr.under,Code.cUnits,Code.frames,Code.isFrame]
theorem b4.make{k:Nat}{A:Fr}(r:b4 (k+1) A)(C:AC)(us:!AT)(kw:!(Str×AT)):b4 k (A.under (.builtin "type.__call__" #[.ref C::us,kw])) :=
 #[r.hd,by have:=r.dp;rw[yC];cbv,by have:=r.un;rw[zF];cbv]
theorem b4.depth{k:Nat}{A:Fr}(r:b4 k A):A.depth < recursionLimit:=by have:=r.dp;cbv
theorem b4.units{k:Nat}{A:Fr}(r:b4 k A):A.units+64 < cLine:=by have:=r.un;cbv
def yY:TA:=λ_ H Q=>Q [] H
def qA(ta:TE)(tr:TA):TA:=λσ H Q=>ta σ H λx H1=>tr σ H1 λxs H2=>Q (x::xs) H2
section
variable{X:Cx}{e:Ch}{es:!Ch}{te:TE}{t:TA}{pos:Pos}
theorem gB:PA X [] yY:=λ_ _ _ _ H Q I h=>Calls.spliced_nil #[[],H,I,.nil,h]
theorem dX(ha:PE X e te)(hr:PA X es t)(hs:(acf X.env e es)⁻¹):PA X (e::es) (qA te t):=by
 intro pos TW s σ H Q I h;rw[hs];change EQ _ _ (spliced ((false,eval e X.env)::IR pos (Gc es X.env))) _ _ s;show Calls.spliced_cons (cb (ha TW s σ H _ I h) λu s1 zz=>el2 zz λx H1 I1 r1 q1=>?_);exact cb (hr pos TW s1 σ H1 _ I1 q1) λus s2 zz=>el2 zz λxs H2 I2 r2 q2=>#[x::xs,H2,I2,.cons r1 r2,q2]
def Xr(t:TA):TE:=λσ H Q=>t σ H λxs H1=>xs.length<=FS/\∀ p,H1 p=none->Q (.ref p) (upd H1 p (.tup xs))
def WS(t:TA):TE:=λσ H Q=>t σ H λxs H1=>xs.length<=FS/\∀ p,H1 p=none->Q (.ref p) (upd H1 p (.lst xs))
theorem Nq{x1}(h:PA X es t):PE X (.Tuple es x1 pos) (Xr t):=by
 intro TW s σ H Q I hq;show wpAny_Tuple_spliced (cb (h pos TW s σ H _ I hq) λus s1 #[xs,H1,I1,r,z,q]=>#[by rw[<- r.length];exact z,?_]);have hf:H1 ↑s1=none:=I1.bM.fresh (aah _);show#[.ref ↑s1,upd H1 ↑s1 (.tup xs),I1.laid (t':=s1.toks) (λb u e=>aae _ e) (aah _) ?_,U,q _ hf];exact#[z,us,r,iV.new _ _]
theorem vt(h:PA X es t):PE X (.List es pos) (WS t):=by
 intro TW s σ H Q I hq;show wpAny_List_spliced (cb (h pos TW s σ H _ I hq) λus s1 #[xs,H1,I1,r,z,q]=>#[by rw[<- r.length];exact z,?_]);have hf:H1 ↑s1=none:=I1.bM.fresh (aah _);show#[.ref ↑s1,upd H1 ↑s1 (.lst xs),I1.laid (t':=s1.toks) (λb u e=>aae _ e) (aah _) ?_,U,q _ hf];exact#[z,us,0,r,aat _ U]
end
abbrev Sp:=!V->Hp->VK->XK->Prop
abbrev ya:=!Env->Hp->Cl->XK->acb
structure yK(P:Fa)(w:FB)(K:Frag)(mg:Str->Option AT)(base:Db)(A:Fr)(outer:!Env)(s:Cl)(H:Hp):Prop where
 frames:A.frames=some outer
 mod:Mod K mg base
 bs:∀ b o,base.get? b=some o->s.heap.get? b=some o/\H b=none
 HC:base.objs.size<=↑s
 pF:s.heap.FunFrames base outer
 Kz:∀ b∈Dc outer,H b=none
 bM:lO P w H s.heap
 bare:AllBare s.gens
def CE(outer:!Env)(P:Fa)(w:FB)(H:Hp)(s:Cl)(Q:VK)(u:AT)(s':Cl):Prop :=
 ∃ v H',s'.os=s.os/\AllBare s'.gens/\Un (Dc outer) [] H H' s.heap s'.heap/\lO P w H' s'.heap/\RelV v u/\Q v H'
def CR(CX:ya)(outer:!Env)(P:Fa)(w:FB)(H:Hp)(s:Cl)(Q:VK)(E:XK)(r:Result)(s':Cl):Prop :=
 match r with
 | .ok (.ret u)=>CE outer P w H s Q u s'
 | .ok _=>False
 | .error e=>CX outer H s E e s'
structure bZ(P:Fa)(w:FB)(K:Frag)(mg:Str->Option AT)(base:Db)(CX:ya)(k:Nat)(f:AC)(fd:Go)(ps:!Str)(sp:Sp):Prop where
 len:∀ vs H Q E,sp vs H Q E->vs.length=ps.length
 run:∀ (A:Fr) (outer:!Env) (s:Cl) (H:Hp) (args:Args) (us:!AT) (vs:!V) (Q:VK) (E:XK),b4 k A->yK P w K mg base A outer s H->BindsTo s fd args (ps.zip us)->Vals vs us->sp vs H Q E ->
  codeAny (model P w) A (.call (.ref f) args) (CR CX outer P w H s Q E) s
theorem bZ.mono{P:Fa}{w:FB}{K:Frag}{mg:Str->Option AT}{base:Db}{CX:ya}{j k:Nat}{f:AC}{fd:Go}{ps:!Str}{sp:Sp}(F:bZ P w K mg base CX j f fd ps sp)(h:j<=k) :
  bZ P w K mg base CX k f fd ps sp:=#[F.len,λA outer s H args us vs Q E hr=>F.run A outer s H args us vs Q E (hr.mono h)]
theorem bZ.imp{P:Fa}{w:FB}{K:Frag}{mg:Str->Option AT}{base:Db}{CX:ya}{k:Nat}{f:AC}{fd:Go}{ps:!Str}{sp Ux:Sp}(F:bZ P w K mg base CX k f fd ps sp)(h:∀ vs H Q E,Ux vs H Q E->sp vs H Q E):bZ P w K mg base CX k f fd ps Ux :=
 #[λvs H Q E q=>F.len vs H Q E (h _ _ _ _ q),λA outer s H args us vs Q E hr he hb hv hs=>F.run A outer s H args us vs Q E hr he hb hv (h _ _ _ _ hs)]
theorem yK.make{P:Fa}{w:FB}{K:Frag}{mg:Str->Option AT}{base:Db}{A:Fr}{outer:!Env}{s:Cl}{H:Hp}(e:yK P w K mg base A outer s H)(C:AC)(us:!AT)(kw:!(Str×AT)) :
  yK P w K mg base (A.under (.builtin "type.__call__" #[.ref C::us,kw])) outer s H:=#[by first | exact e.frames | (simpa [Fr.under,Code.envs,Code.isFrame,pushEnvs] using e.frames),e.mod,e.bs,e.HC,e.pF,e.Kz,e.bM,e.bare]
section
variable{X:Cx}{TW:acd}{σ:St}{H:Hp}{s s':Cl}
theorem Inv.UX(I:Inv X TW σ H s):yK X.prog X.w X.K X.mg X.base X.A X.stack s H :=
 #[I.ok.frames,I.ok.mod,I.bs,aap I.ok.HC I.sz,I.stack,I.An,I.bM,I.bare]
theorem Inv.after{Q:VK}{u:AT}(I:Inv X TW σ H s)(h:CE X.stack X.prog X.w H s Q u s'):EP X TW σ Q u s':=by
 let(v,H',os,bare,un,bM,r,q):=h;let(hh,g,d,t,os'):=s';obtain rfl:os'=s.os:=os;exact#[v,H',I.call (h':=hh) (g':=g) (d':=d) (t':=t) (ch:=[]) un bM bare (λb z=>absurd z (by simp)),r,q]
end
def AA(sp:Sp)(sA:!V)(E:XK)(t:TA):TE:=λσ H Q=>t σ H λvs H1=>sp (vs++sA) H1 Q E
def Ji(C:AC)(m:Str)(sp:Sp)(sA:!V)(E:XK)(ta:TE)(t:TA):TE:=λσ H Q=>ta σ H λx H1=>∃ a dx fs,x=.ref a/\H1 a=some (.ins C dx fs)/\fs.lookup m=none /\
 t σ H1 λvs H2=>sp (x::(vs++sA)) H2 Q E
def Uy(C:AC)(sp:Sp)(sA:!V)(E:XK)(t:TA):TE:=λσ H Q=>t σ H λvs H1=>∀ x dx,H1 x=none->H1 dx=none->dx≠x ->
 sp (.ref x::(vs++sA)) (upd (upd H1 dx (.own x)) x (.ins C dx [])) (λv H2=>v=.bx/\Q (.ref x) H2) E
def Binds(K:Frag)(fd:Go)(ps:!Str)(ds:!AT):Prop :=
 ∀ (s:Cl) (us:!AT),K.In s.heap->(us++ds).length=ps.length->BindsTo s fd #[us,[]] (ps.zip (us++ds))
theorem Binds.all{K:Frag}{fd:Go}{ps:!Str}(h:∀ us:!AT,us.length=ps.length->bindArgs fd #[us,[]]=pure (ps.zip us)):Binds K fd ps []:=λs us _ hl=>by
 rw[aal] at hl ⊢;exact .of_eq (h us hl)
def Passes(CX:ya)(X:Cx)(E:XK):Prop:=∀ (TW:acd) (σ:St) (H:Hp) (s:Cl) (e:AT) (s':Cl),Inv X TW σ H s->CX X.stack H s E e s'->X.xe e s'
section
variable{X:Cx}{CX:ya}{k:Nat}{f C:AC}{fd:Go}{ps:!Str}{sp:Sp}{sA:!V}{ds:!AT}{E:XK}{x m:Str}{p pos apos:Pos}{e o:Ch}{es:!Ch}{ta:TE}{t:TA}
theorem vJ{TW:acd}{σ:St}{H:Hp}{s:Cl}{Q:VK}{us:!AT}{vs:!V}(F:bZ X.prog X.w X.K X.mg X.base CX k f fd ps sp)(hr:b4 k X.A)(hb:Binds X.K fd ps ds)(hd:Vals sA ds)(hx:Passes CX X E)(I:Inv X TW σ H s)(r:Vals vs us)(h:sp (vs++sA) H Q E):EQ (model X.prog X.w) X.A (call (.ref f) us) (EP X TW σ Q) X.xe s:=by
 have r2:Vals (vs++sA) (us++ds):=r.append hd;have hl:(us++ds).length=ps.length:=by rw[<- r2.length];exact F.len _ _ _ _ h
 show wpAny_call (codeAny_mono (F.run X.A X.stack s H #[us,[]] (us++ds) (vs++sA) Q E hr I.UX (hb s us I.xW hl) r2 h) λr s' hq=>?_);cases r with
 | error e=>exact hx TW σ H s e s' I hq
 | ok fl =>
  cases fl with
  | ret u=>exact I.after hq
  | next=>exact False.elim hq
  | brk=>exact False.elim hq
  | cont=>exact False.elim hq
theorem kB(F:bZ X.prog X.w X.K X.mg X.base CX k f fd ps sp)(hr:b4 k X.A)(hg:Gl X x)(hm:X.mg x=some (.ref f))(hk:keepIn X.K (.ref f)=true)(hb:Binds X.K fd ps ds)(hd:Vals sA ds)(hx:Passes CX X E)(ha:PA X (e::es) t)(jf: ~~~(ach x))(he:(acf X.env e es)⁻¹)(fe:(acg X.env pos es)⁻¹) :
  PE X (.Call (.Name x p) (e::es) [] pos) (AA sp sA E t):=by
 intro TW s σ H Q I h;show wpAny_Call_Name_kw (vg I hg hm ?_ jf);show abU (h₀:=X.base) I.ok.mod.Nt hk (cb (ha pos TW s σ H _ I h) λus s1 zz=>el2 zz λvs H1 I1 r q=>#[I1.xW,?_]) he fe;exact vJ F hr hb hd hx I1 r q
theorem Aw{pl:Sem Bool}(he:PE X o ta)(c:vL X.K C)(hm:Meth X.K C m f)(F:bZ X.prog X.w X.K X.mg X.base CX k f fd ps sp)(hr:b4 k X.A)(hb:Binds X.K fd ps ds)(hd:Vals sA ds)(hx:Passes CX X E)(ha:PA X (e::es) t)(fC:(acf X.env e es)⁻¹)(fe:(acg X.env pos es)⁻¹)(ht:(eval (.Call (.Attribute o m apos) (e::es) [] pos) X.env=(do
   let ov <- eval o X.env
   standAt apos.atName
   let (f,first) <- holding [ov] (getMethod ov m pl)
   callWith pos f first (IR pos (Gc (e::es) X.env)) (P3 pos (Re [] X.env))))⁻¹) :
  PE X (.Call (.Attribute o m apos) (e::es) [] pos) (Ji C m sp sA E ta t):=by
 intro TW s σ H Q I h;show PySem.W.methodCall_KW (pl:=pl) (cb (he TW s σ H _ I h) λu s1 #[x,H1,I1,rx,a,dx,fs,ex,ea,l,q]=>?_) ht;subst ex;obtain rfl:u=AT.ref a:=rx;show rF I1 ea c hm l ?_;show abU (first:=[.ref a]) (h₀:=X.base) I.ok.mod.Nt hm.kp (cb (ha pos TW s1 σ H1 _ I1 q) λus s2 zz=>el2 zz λvs H2 I2 r q2=>#[I2.xW,?_]) fC fe;exact vJ (us:=.ref a::us) (vs:=.ref a::vs) F hr hb hd hx I2 (.cons U r) q2
theorem D8{pl:Sem Bool}(he:PE X o ta)(c:vL X.K C)(hm:Meth X.K C m f)(F:bZ X.prog X.w X.K X.mg X.base CX k f fd ps sp)(hr:b4 k X.A)(hb:Binds X.K fd ps ds)(hd:Vals sA ds)(hx:Passes CX X E)(ht:(eval (.Call (.Attribute o m apos) [] [] pos) X.env=(do
   let ov <- eval o X.env
   standAt apos.atName
   let (f,first) <- holding [ov] (getMethod ov m pl)
   callWith pos f first (IR pos (Gc [] X.env)) (P3 pos (Re [] X.env))))⁻¹) :
  PE X (.Call (.Attribute o m apos) [] [] pos) (Ji C m sp sA E ta yY):=by
 intro TW s σ H Q I h;show PySem.W.methodCall_KW (pl:=pl) (cb (he TW s σ H _ I h) λu s1 #[x,H1,I1,rx,a,dx,fs,ex,ea,l,q]=>?_) ht;subst ex;obtain rfl:u=AT.ref a:=rx;show rF I1 ea c hm l ?_;exact PySem.W.callWith_K0 (first:=[.ref a]) I1.xW hm.kp (vJ (us:=[.ref a]) (vs:=[.ref a]) F hr hb hd hx I1 (.cons U .nil) q)
structure Mk(K:Frag)(C f:AC):Prop where
 makes:PySem.W.makesIn K C=true
 init:findIn K (.ref C) "__init__"=some (some (.ref f))
 fn:PySem.W.isFn K (.ref f)=true
 kp:keepIn K (.ref C)=true
theorem Cj{TW:acd}{σ:St}{H:Hp}{s:Cl}{Q:VK}{us:!AT}{vs:!V}(M:Mk X.K C f)(F:bZ X.prog X.w X.K X.mg X.base CX k f fd ps sp)(hr:b4 (k+1) X.A)(hb:Binds X.K fd ps ds)(hd:Vals sA ds)(hx:Passes CX X E)(I:Inv X TW σ H s)(r:Vals vs us)(h:∀ x dx,H x=none->H dx=none->dx≠x->sp (.ref x::(vs++sA)) (upd (upd H dx (.own x)) x (.ins C dx [])) (λv H2=>v=.bx/\Q (.ref x) H2) E) :
  EQ (model X.prog X.w) X.A (call (.ref C) us) (EP X TW σ Q) X.xe s:=by
 have hq:=h (↑s+1) ↑s (I.bM.fresh (ab1 _)) (I.bM.fresh (aah _)) (aaD (ab4 _));have I2:=Inv.made (C:=C) I;have r2:Vals (V.ref (↑s+1)::(vs++sA)) (AT.ref (↑s+1)::(us++ds)):=.cons U (r.append hd);have hl:(AT.ref (↑s+1)::us++ds).length=ps.length:=by
  have e:=r2.length;rw[F.len _ _ _ _ hq] at e;exact e.symm
 show wpAny_call (Dx (f:=f) I.xW M.makes M.init (beq_iff_eq.mp M.fn) (codeAny_mono (F.run _ X.stack _ _ #[AT.ref (↑s+1)::us,[]] (AT.ref (↑s+1)::(us++ds)) _ _ E (hr.make C us [])
  (I2.UX.make C us []) (hb _ (AT.ref (↑s+1)::us) I2.xW hl) r2 hq) λr s' hq'=>?_))
 cases r with
 | error e=>exact hx TW σ _ _ e s' I2 hq'
 | ok fl =>
  cases fl with
  | ret u =>
   let(v,H',I3,rv,ev,q3):=I2.after hq';subst ev;exact#[rv,#[V.ref (↑s+1),H',I3,U,q3]]
  | next=>exact False.elim hq'
  | brk=>exact False.elim hq'
  | cont=>exact False.elim hq'
theorem vO(M:Mk X.K C f)(F:bZ X.prog X.w X.K X.mg X.base CX k f fd ps sp)(hr:b4 (k+1) X.A)(hg:Gl X x)(hm:X.mg x=some (.ref C))(hb:Binds X.K fd ps ds)(hd:Vals sA ds)(hx:Passes CX X E)(ha:PA X (e::es) t)(jf: ~~~(ach x))(he:(acf X.env e es)⁻¹)(fe:(acg X.env pos es)⁻¹) :
  PE X (.Call (.Name x p) (e::es) [] pos) (Uy C sp sA E t):=by
 intro TW s σ H Q I h;show wpAny_Call_Name_kw (vg I hg hm ?_ jf);show abU (h₀:=X.base) I.ok.mod.Nt M.kp (cb (ha pos TW s σ H _ I h) λus s1 zz=>el2 zz λvs H1 I1 r q=>#[I1.xW,?_]) he fe;exact Cj M F hr hb hd hx I1 r q
end
section
variable{X:Cx}{CX:ya}{k:Nat}{f C:AC}{fd:Go}{ps ks:!Str}{sp:Sp}{E:XK}{x m:Str}{p pos apos abd:Pos}{e o:Ch}{es:!Ch}{kws:!Ps}{te ta:TE}{t tk:TA}{nm:Option Str}
variable{g:!AT->!AT->!AT}{gV:!V->!V->!V}
end
structure ax(N P:!Str)(sc:Scope):Prop where
 kind:sc.kind=.function
 co:sc.isCoroutine=false
 gen:sc.isGenerator=false
 nd:N.Nodup
 pre:N.take P.length=P
 par:∀ x∈P,sc.names.lookup x=some .local\/sc.names.lookup x=some .cell
 Mi:∀ y∈sc.names,y.2≠.free
theorem t6{kindOf:Str->Option IN}{x:Str}:∀ {binds:!(Str×AT)} {m:Str->Option AT},(∀ v,(x,v)∉binds)->bindL kindOf binds m x=m x
 | [],_,_=>rfl
 | (n,v)::r,m,h=>by
  unfold bindL;rw[t6 λw hw=>h w (aac _ hw)];split
  .have:x≠n:=by rintro rfl;exact h v aad
   simp[this]
  .rfl
theorem sH{kindOf:Str->Option IN}{x:Str}:∀ {binds:!(Str×AT)} {m:Str->Option AT},(∀ v,(x,v)∉binds)->bindC kindOf binds m x=m x
 | [],_,_=>rfl
 | (n,v)::r,m,h=>by
  unfold bindC;rw[sH λw hw=>h w (aac _ hw)];split
  .rfl
  .have:x≠n:=by rintro rfl;exact h v aad
   simp[this]
theorem tR{kindOf:Str->Option IN}{x:Str}{v:AT}:∀ {P:!Str} {vs:!AT} {i:Nat} {m:Str->Option AT},P.Nodup->P[i]?=some x->vs[i]?=some v->kindOf x=some .local ->
  bindL kindOf (P.zip vs) m x=some v
 | [],_,_,_,_,h,_,_=>by simp at h
 | _::_,[],_,_,_,_,h,_=>by simp at h
 | p::P,w::vs,0,m,nd,h1,h2,hk=>by
  simp at h1 h2;subst h1;subst h2;change bindL kindOf ((p,w)::P.zip vs) m p=_;unfold bindL;rw[t6 λv hv=>(aaS.mp nd).1 (aa4 hv).1,if_pos hk];simp
 | p::P,w::vs,i+1,m,nd,h1,h2,hk=>by
  change bindL kindOf ((p,w)::P.zip vs) m x=_;unfold bindL;exact tR (i:=i) (List.nodup_cons.mp nd).2 (by simpa using h1) (by simpa using h2) hk
theorem tj{kindOf:Str->Option IN}{x:Str}{v:AT}:∀ {P:!Str} {vs:!AT} {i:Nat} {m:Str->Option AT},P.Nodup->P[i]?=some x->vs[i]?=some v->kindOf x≠some .local ->
  bindC kindOf (P.zip vs) m x=some v
 | [],_,_,_,_,h,_,_=>by simp at h
 | _::_,[],_,_,_,_,h,_=>by simp at h
 | p::P,w::vs,0,m,nd,h1,h2,hk=>by
  simp at h1 h2;subst h1;subst h2;change bindC kindOf ((p,w)::P.zip vs) m p=_;unfold bindC;rw[sH λv hv=>(aaS.mp nd).1 (aa4 hv).1,if_neg hk];simp
 | p::P,w::vs,i+1,m,nd,h1,h2,hk=>by
  change bindC kindOf ((p,w)::P.zip vs) m x=_;unfold bindC;exact tj (i:=i) (List.nodup_cons.mp nd).2 (by simpa using h1) (by simpa using h2) hk
def start(N:!Str)(vs:!V):St:=vs.map some++List.replicate (N.length - vs.length) none
def jr(CX:ya)(P:Fa)(w:FB)(K:Frag)(mg:Str->Option AT)(base:Db)(N:!Str)(qual:Str)(scope:Scope)(f:AC)(cd:AT)(A:Fr)(outer:!Env)(s:Cl)(H:Hp)(E:XK):Cx where
 prog:=P
 w:=w
 K:=K
 mg:=mg
 base:=base
 A:=A.deeper (envOfC qual scope ↑s f cd)
 N:=N
 s₀:=s
 H₀:=H
 env:=envOfC qual scope ↑s f cd
 outer:=outer
 stack:=envOfC qual scope ↑s f cd::outer
 ex:=[]
 calm:=true
 fn:=λ_=>true
 pn:=[]
 xe:=λe s'=>EQ (model P w) (A.deeper (envOfC qual scope ↑s f cd)) (leaving (envOfC qual scope ↑s f cd) e) (λ_ G9=>CX outer H s E e G9) (λe' G9=>CX outer H s E e' G9) s'
theorem xj{sc:Scope}{n:Nat}{x:Str}(h:sc.names.lookup x=some .cell):∃ c,(cellsFrom n sc.names []).lookup x=some c:=by
 have q:=PySem.W.cellsFrom_some sc.names n [] (.inl h);exact abg.mp q
theorem BZ{CX:ya}{P:Fa}{w:FB}{K:Frag}{mg:Str->Option AT}{base:Db}{N ps:!Str}{qual:Str}{scope:Scope}{f:AC}{cd:AT}{A:Fr}{outer:!Env}{s s1:Cl}{H:Hp}{E:XK}{us:!AT}{vs:!V}(S:ax N ps scope)(hd:A.handled=none)(e0:yK P w K mg base A outer s H)(hl:vs.length=ps.length)(r:Vals vs us)(x:InCallC s ↑s (bindL (envOfC qual scope ↑s f cd).kindOf (ps.zip us) λ_=>none) (cellsFrom (↑s+1) scope.names []) (bindC (envOfC qual scope ↑s f cd).kindOf (ps.zip us) λ_=>none) s1) :
  Inv (jr CX P w K mg base N qual scope f cd A outer s H E) [] (start N vs) H s1:=by
 have fe:ps.length<=N.length:=by have:=congrArg List.length S.pre;rw[aa8] at this;cbv
 let(h1,tk,rfl,hk):=x.done;have noA:∀ b:AC,b∉(jr CX P w K mg base N qual scope f cd A outer s H E).ex:=λb z=>absurd (show b∈([]:!AC) from z) (by simp);show#[#[e0.mod,S.kind,U,U,aah _,λy z c h1 h2=>?_,λy hy=>?_,λy c _ h=>?_,λ_=>hd,Fr.frames_deeper e0.frames,.inr #[U,U],λb z=>absurd z (noA b),e0.bs,e0.HC,λb _ _=>noA b,λb z=>absurd z (noA b),e0.pF,e0.Kz],
  rfl,e0.bare,Un.kept hk,#[_,x.toInCall.ns,λi y v h1 h2 h3=>?_],λy c h=>#[_,x.cell y c h],e0.bM.fresh (Nat.le_refl _),λy c h=>?_,λp hp=>absurd (show p∈([]:acd) from hp) (by simp),e0.bM.kept hk,?_]
 .exact name_of_addr x.apart (aa2 h1) (aa2 h2)
 .have hy:scope.names.lookup y=some .cell\/scope.names.lookup y=some .free:=hy;rcases hy with hy | hy
  .exact xj hy
  .exact absurd U (S.Mi _ (aa2 hy))
 .exact aby (x.above y c (aa2 h))
 .have hi:i < vs.length:=by
   unfold start at h2;by_cases hi:i < vs.length
   .exact hi
   .rw[List.getElem?_append_right (by simpa using hi)] at h2;rw[List.getElem?_replicate] at h2;split at h2<;>cases h2
  have ha:vs[i]?=some v:=by
   unfold start at h2;rw[List.getElem?_append_left (by simpa using hi),List.getElem?_map] at h2;cases e:vs[i]? with
   | none=>rw[e] at h2;cases h2
   | some a=>rw[e] at h2;cases h2;rfl
  let(u,hu,rv):=r.get ha;have hp:ps[i]?=some y:=by
   rw[<- S.pre,List.getElem?_take_of_lt (by cbv)];exact h1
  have ndP:ps.Nodup:=by rw[<- S.pre];exact S.nd.sublist (aaW _ _)
  show#[u,rv,?_];rcases S.par y (aaK hp) with k | k
  .exact .inl #[k,tR ndP hp hu k]
  .let(c,e):=xj (n:=↑s+1) k;show .inr #[.inl k,c,e,?_];have q:=x.cell y c e;rw[tj ndP hp hu (by change scope.names.lookup y≠_;rw[k];decide)] at q;exact q
 .exact e0.bM.fresh (aby (x.above y c (aa2 h)))
 .unfold start;change _=N.length;rw[aab,aaa,List.length_replicate];cbv
theorem Tc{CX:ya}{P:Fa}{w:FB}{K:Frag}{mg:Str->Option AT}{base:Db}{k:Nat}{f:AC}{name qual:Str}{params:Arguments}{body:!Ev}{scope:Scope}{dV kV doc pm a8 ct oc:AT}{an od:Option AC}{F8:Array (Option AT)}{N ps:!Str}{sp:Sp}(lk:K.lookup f=some #[oc,od,.func (fnOf name qual params body scope dV kV doc pm an a8 ct),F8])(uN:codeIn K a8 qual=true)(S:ax N ps scope)(len:∀ vs H Q E,sp vs H Q E->vs.length=ps.length)(DJ:∀ (A:Fr) (outer:!Env) (s:Cl) (H:Hp) (vs:!V) (Q:VK) (E:XK),b4 k (A.deeper (envOfC qual scope ↑s f a8))->sp vs H Q E ->
   ∃ t,pY (jr CX P w K mg base N qual scope f a8 A outer s H E) body t/\t { nx:=λ_ H'=>Q .bx H',rt:=Q } (start N vs) H) :
  bZ P w K mg base CX (k+1) f (fnOf name qual params body scope dV kV doc pm an a8 ct) ps sp:=by
 show#[len,λA outer s H args us vs Q E hr e0 hb r Jp=>?_];have hl:=len _ _ _ _ Jp;have KX:K.In s.heap:=e0.mod.Nt.keeps λb o e=>(e0.bs b o e).1;have lim:s.heap.NoLimit:=e0.mod.nolimit.keeps λb o e=>(e0.bs b o e).1;have hkind:∀ y∈ps.zip us,scope.names.lookup y.1=some .local\/(scope.names.lookup y.1=some .cell/\((cellsFrom (↑s+1) scope.names []).lookup y.1).isSome=true):=λz2r hy=>by
  let(n,v):=z2r;rcases S.par n (aa4 hy).1 with q | q
  .exact .inl q
  .exact .inr #[q,PySem.W.cellsFrom_some _ _ _ (.inl q)]
 show codeAny_call_function hr.depth (KX _ _ lk) U S.co S.gen U (PySem.W.codeRec_of KX uN) (hb _ _ _ _ ?_);show wpAny_newFunctionEnv_cells S.kind hkind λenv he s1 x=>?_;subst he;show#[lim.keeps x.toInCall.keep,codeAny_func ?_];let(t,ht,hq):=DJ A outer s H vs Q E (hr.deeper _) Jp;have I:Inv (jr CX P w K mg base N qual scope f a8 A outer s H E) [] (start N vs) H s1:=BZ S hr.hd e0 hl r x;show KF (ht [] s1 (start N vs) H _ I hq) (λfl s' hs=>?_) λe s' hs=>hs;have fin:∀ {σ':St} {H':Hp} {v:V} {u:AT},Inv (jr CX P w K mg base N qual scope f a8 A outer s H E) [] σ' H' s'->RelV v u->Q v H'->CE outer P w H s Q u s' :=
  λ{σ' H' v u} J rv q=>#[v,H',J.os,J.bare,J.base,J.bM,rv,q]
 cases fl with
 | ret u =>
  let(v,σ',H',J,rv,q):=hs;exact fin J rv q
 | next =>
  let(σ',H',J,q):=hs;exact fin (v:=V.bx) (u:=AT.none) J U q
 | brk =>
  let(_,_,_,q):=hs;exact False.elim q
 | cont =>
  let(_,_,_,q):=hs;exact False.elim q
section
variable{X:Cx}{x:Str}{p pos:Pos}{e:Ch}{es:!Ch}{t:TA}{id T:String}{r:!V->Hp->VK->Prop}
def Ag(r:!V->Hp->VK->Prop)(t:TA):TE:=λσ H Q=>t σ H λvs H1=>r vs H1 Q
theorem jL(hc:fk X (.builtin id) r)(hg:Gl X x)(hm:X.mg x=none)(hv:bootBuiltins x=some (.builtin id))(ha:PA X (e::es) t)(hn: ~~~(x≠"__name__"))(jf: ~~~(ach x))(he:(acf X.env e es)⁻¹)(fe:(acg X.env pos es)⁻¹):PE X (.Call (.Name x p) (e::es) [] pos) (Ag r t):=by
 intro TW s σ H Q I h;show wpAny_Call_Name_kw (j9 I hg hm hv ?_ hn jf);exact PyProof.Rows.callWith_builtin1 (cb (ha pos TW s σ H _ I h) λus s1 zz=>el2 zz λvs H1 I1 r1 q1=>hc TW s1 σ H1 vs us Q I1 r1 q1) he fe
theorem ny(hc:fk X (.type T) r)(hg:Gl X x)(hm:X.mg x=none)(hv:bootBuiltins x=some (.type T))(ha:PA X (e::es) t)(hn: ~~~(x≠"__name__"))(jf: ~~~(ach x))(he:(acf X.env e es)⁻¹)(fe:(acg X.env pos es)⁻¹):PE X (.Call (.Name x p) (e::es) [] pos) (Ag r t):=by
 intro TW s σ H Q I h;show wpAny_Call_Name_kw (j9 I hg hm hv ?_ hn jf);exact PyProof.Rows.callWith_type1 (cb (ha pos TW s σ H _ I h) λus s1 zz=>el2 zz λvs H1 I1 r1 q1=>hc TW s1 σ H1 vs us Q I1 r1 q1) he fe
end
end L2
namespace HT
open PySem PyProof.Rows
section
open PySem.SeqAt
open PySem.AutoSeq1 (wpAny_loadPart')
open PySem.MeetsSeq PySem.MeetsSeq2 PySem.MeetsSeq3
end
section
variable{prog:Fa}{w:FB}{A:Fr}{E:acb}{s:Cl}
theorem Hy{t b:AC}{vs ws:!AT}{Q:acb}(ht:IsTup s.heap t vs.toArray)(hb:IsTup s.heap b ws.toArray)(hv:vs≠[])(h1:ws=[]->Q (.ref t) s)(h2:ws≠[]->Q (.ref ↑s) { s with heap:=s.heap.push { cls:=.type "tuple",data:=.seq (vs++ws).toArray } })(hsz:vs.length+ws.length<=FS):EQ (model prog w) A (Os .Add (.ref t) (.ref b)) Q E s:=by
 let((cls,dd,data,sl),ho,hc,n,hd):=id ht;let((cls2,NL,data2,NH),ho2,hc2,n2,hd2):=id hb;simp only at hc hd hc2 hd2;subst hc hd hc2 hd2;have e:vs.toArray++ws.toArray=(vs++ws).toArray:=by simp
 by_cases hw:ws=[]
 .exact concat_meets #[_,ho,U] #[_,ho2,U] noFill_tuple_add seq_tuple_add ab2 abX (abV _ _)
   (tuple_addW1 t b vs.toArray ws.toArray n n2 dd NL sl NH (by simpa using hv) (by simp[hw])) #[ho,ho2,h1 hw]
 .refine concat_meets #[_,ho,U] #[_,ho2,U] noFill_tuple_add seq_tuple_add ab2 abX (abV _ _)
   (tuple_addW2 t b vs.toArray ws.toArray n n2 dd NL sl NH (by simpa using hv) (by simpa using hw) (by rw[List.size_toArray,List.size_toArray];exact hsz)) #[ho,ho2,?_]
  rw[e];exact h2 hw
def cc(n d:Nat):Option Int->Nat
 | none=>d
 | some v=>if v < 0 then (v+(n:Int)).toNat else min v.toNat n
theorem Kf(n d:Nat)(hd:d<=n)(o:Option Int):cc n d o<=n:=by
 cases o with
 | none=>exact hd
 | some v =>
  change (if v < 0 then (v+(n:Int)).toNat else min v.toNat n)<=n;by_cases hv:v < 0
  .rw[if_pos hv];cbv
  .rw[if_neg hv];exact Nat.min_le_right _ _
theorem zX(v:Int)(n d:Nat):(if v < 0 then max (v+(n:Int)) 0 else min v (n:Int))=((cc n d (some v):Nat):Int):=by
 change (if v < 0 then max (v+(n:Int)) 0 else min v (n:Int))=(((if v < 0 then (v+(n:Int)).toNat else min v.toNat n):Nat):Int);by_cases hv:v < 0
 .simp only[if_pos hv];cbv
 .simp only[if_neg hv];cbv
theorem yJ(lo hi:Option Int)(n:Nat):GT.Slice.sliceAdjust lo hi 1 (n:Int)=(((cc n 0 lo:Nat):Int),((cc n n hi:Nat):Int)):=by
 have h1:¬ ((1:Int) < 0):=by cbv
 unfold GT.Slice.sliceAdjust;simp only[h1,if_false];show Prod.ext ?_ ?_
 .cases lo with
  | none=>rfl
  | some v=>exact zX v n 0
 .cases hi with
  | none=>rfl
  | some v=>exact zX v n n
theorem zA(i j:Nat):GT.Slice.slicePlaces (i:Int) (j:Int) 1=j - i:=by
 unfold GT.Slice.slicePlaces;have h1:(1:Int) > 0:=by cbv
 simp only[h1,if_true,Int.ediv_one];split<;>cbv
theorem rn{v:AT}{o:Option Int}{Q:Option Int->Cl->Prop}(p:IsPart v o)(h:Q o s):EQ (model prog w) A (GT.Slice.slicePartIndex v) Q E s:=by
 cases p with
 | none=>exact slicePart_none h
 | int i t=>exact slicePart_int h
theorem ie{sl:AC}{vl vu:AT}{lo hi:Option Int}{n:Nat}{Q:Int×Int×Nat->Cl->Prop}(hs:s.heap.IsSliceOf sl vl vu .none)(pl:IsPart vl lo)(pu:IsPart vu hi)(h:Q (((cc n 0 lo:Nat):Int),1,cc n n hi - cc n 0 lo) s):EQ (model prog w) A (GT.Slice.sliceApplied (.ref sl) (pure (n:Int))) Q E s:=by
 let(os,qZ,hcs,hds):=id hs;unfold GT.Slice.sliceApplied GT.Slice.sliceFields;show Da (Da (NE qZ hds (x:=vl) U (Da (NE qZ hds (x:=vu) U (Da (NE qZ hds (x:=.none) U (GE ?_)))))));show Da (slicePart_none ?_);change EQ _ _ (if ((1:Int) == 0)=true then _ else _) _ _ s;rw[if_neg ()];show Da (rn pl (Da (rn pu (Da (GE ?_)))));change EQ _ _ (match GT.Slice.sliceAdjust lo hi 1 (n:Int) with | (lo,hi)=>pure (lo,(1:Int),GT.Slice.slicePlaces lo hi 1)) _ _ s;rw[yJ lo hi n];change EQ _ _ (pure (((cc n 0 lo:Nat):Int),(1:Int),GT.Slice.slicePlaces ((cc n 0 lo:Nat):Int) ((cc n n hi:Nat):Int) 1)) _ _ s;rw[zA];exact GE h
theorem CY(xs:Array AT)(i k:Nat):((List.range k).filterMap λ(m:Nat)=>xs[((i:Int)+(m:Int) * 1).toNat]?).toArray=((xs.toList.drop i).take k).toArray:=by
 have e:(λ(m:Nat)=>xs[((i:Int)+(m:Int) * 1).toNat]?)=λm=>xs[i+m]?:=by
  funext m
  have:((i:Int)+(m:Int) * 1).toNat=i+m:=by cbv
  rw[this]
 rw[e];have:=pick_run xs i k;rw[List.filterMap_map] at this;have e2:((λx=>xs[x]?)∘λx=>i+x)=λm=>xs[i+m]?:=rfl;rw[e2] at this;rw[this]
theorem m7{t sl:AC}{items:Array AT}{vl vu:AT}{lo hi:Option Int}{Q:acb}(ht:IsTup s.heap t items)(hs:s.heap.IsSliceOf sl vl vu .none)(pl:IsPart vl lo)(pu:IsPart vu hi)(hw:¬ (cc items.size 0 lo=0/\cc items.size items.size hi=items.size))(h:Q (.ref ↑s) { s with heap:=s.heap.push { cls:=.type "tuple",data:=.seq ((items.toList.drop (cc items.size 0 lo)).take (cc items.size items.size hi - cc items.size 0 lo)).toArray } })(hsz:items.size<=FS):EQ (model prog w) A (getItem (.ref t) (.ref sl)) Q E s:=by
 have htake:sizeOk (.seq ((items.toList.drop (cc items.size 0 lo)).take (cc items.size items.size hi - cc items.size 0 lo)).toArray):=by
  change ((items.toList.drop (cc items.size 0 lo)).take (cc items.size items.size hi - cc items.size 0 lo)).toArray.size<=FS;rw[aaC,aa8,abl,Array.length_toList];cbv
 have hj:cc items.size items.size hi<=items.size:=Kf _ _ (aah _) hi;let(os,qZ,hcs,hds):=id hs;have hTs:s.TypeIs (.ref sl) "slice":=#[os,qZ,hcs];unfold getItem
 try with_reducible show KB ?_
 first | show Da (GE ?_) | skip
 show Da (wpAny_sequenceKey ht.typeIs () ?_);show Da (wpAny_callSpecial?_slot (name:=Str.ofString "__getitem__") ht.typeIs PyProof.Rows.slot_tuple_getitem
  (SZ PyProof.Rows.slot_tuple_getitem ht.typeIs entry_tuple_getitem ?_ (args_tuple_getitem _ _)))
 change EQ _ _ (GT.Tuple.tupleItemsOf (.ref t) >>= _) _ _ s;show Da (tupleItemsOf_ ht ?_);show Da (wpAny_typeOf hTs ?_);rw[if_pos ()];show Da (ie hs pl pu ?_);have hno:¬ ((((cc items.size 0 lo:Nat):Int) == 0&&(1:Int) == 1&&(cc items.size items.size hi - cc items.size 0 lo) == items.size)=true):=by
  intro q;rw[aaT,aaT] at q;have q1:((cc items.size 0 lo:Nat):Int)=0:=eq_of_beq q.1.1;have q2:cc items.size items.size hi - cc items.size 0 lo=items.size:=eq_of_beq q.2;exact hw #[by cbv,by cbv]
 change EQ _ _ (if (((cc items.size 0 lo:Nat):Int) == 0&&(1:Int) == 1&&(cc items.size items.size hi - cc items.size 0 lo) == items.size)=true then _ else _) _ _ s;rw[if_neg hno,CY]
 first
  | exact Da (m:=GT.Tuple.tupleExact _) (ST (GE #[_,U,GE h]) htake)
  | exact Da (m:=GT.Tuple.tupleExact _) (ST (Da (GE (GE #[_,U,GE h]))) htake)
  | exact Da (Da (m:=GT.Tuple.tupleExact _) (ST (GE (GE #[_,U,GE h])) htake))
  | exact Da (Da (m:=GT.Tuple.tupleExact _) (ST (GE #[_,U,GE h]) htake))
end
end HT
namespace L2
open PySem PySem.Spec PyProof.Rows
abbrev TO:=St->Hp->(Option Int->Hp->Prop)->Prop
def PO(X:Cx)(e:Option Ch)(t:TO):Prop :=
 ∀ (TW:acd) (s:Cl) (σ:St) (H:Hp) (Q:Option Int->Hp->Prop),Inv X TW σ H s->t σ H Q ->
  EQ (model X.prog X.w) X.A (evalPart e X.env) (λu s'=>∃ o H',Inv X TW σ H' s'/\IsPart u o/\Q o H') X.xe s
def Hz:TO:=λ_ H Q=>Q none H
def Dj(t:TE):TO:=λσ H Q=>t σ H λx H1=>∃ i,x=.int i/\Q (some i) H1
section
variable{X:Cx}{e:Ch}{te:TE}{lo hi:Option Ch}{tl th:TO}{pos p2:Pos}
theorem Hf:PO X none Hz:=by
 intro TW s σ H Q I h;rw[evalPart_none];exact GE #[none,H,I,.none,h]
theorem uK(h:PE X e te):PO X (some e) (Dj te):=by
 intro TW s σ H Q I hw;rw[evalPart_some];show cb (h TW s σ H _ I hw) λu s1 zz=>el2 zz λx H1 I1 r1 q1=>?_;let(i,rfl,q):=q1;let(t,rfl):=r1;exact#[some i,H1,I1,.int i t,q]
def PF(X:Cx)(r:V->Option Int->Option Int->Hp->VK->Prop):Prop :=
 ∀ (TW:acd) (s:Cl) (σ:St) (H:Hp) (x:V) (v vl vu:AT) (lo hi:Option Int) (sl:AC) (Q:VK),Inv X TW σ H s->RelV x v->s.heap.IsSliceOf sl vl vu .none->IsPart vl lo->IsPart vu hi->r x lo hi H Q ->
  ∃ T id,typeLookup (.type T) "__getitem__"=pure (some (.builtin id))/\s.TypeIs v T/\EQ (model X.prog X.w) X.A (getItem v (.ref sl)) (EP X TW σ Q) X.xe s
def YE(r:V->Option Int->Option Int->Hp->VK->Prop)(te:TE)(tl th:TO):TE:=λσ H Q=>te σ H λx H1=>tl σ H1 λl H2=>th σ H2 λu H3=>r x l u H3 Q
theorem mR{r:V->Option Int->Option Int->Hp->VK->Prop}(hr:PF X r)(he:PE X e te)(hl:PO X lo tl)(hu:PO X hi th):PE X (.Subscript e (.Slice lo hi none p2) pos) (YE r te tl th):=by
 intro TW s σ H Q I h;show Subscript_ (cb (he TW s σ H _ I h) λv s1 z0q=>?_);let(x,H1,I1,r1,q1):=z0q;show wpAny_Slice (cb (hl TW s1 σ H1 _ I1 q1) λvl s2 zz=>el2 zz λl H2 I2 pl q2=>cb (hu TW s2 σ H2 _ I2 q2) λvu s3 z1q=>?_);let(u,H3,I3,pu,q3):=z1q;rw[evalPart_none];show GE ?_;have I4:Inv X TW σ H3 { s3 with heap:=s3.heap.push { cls:=.type "slice",data:=.fields #v[vl,vu,.none] } }:=I3.kept (t':=s3.toks) λb ob q=>aae _ q;let(T,id,hT,ht,hg):=hr TW { s3 with heap:=s3.heap.push { cls:=.type "slice",data:=.fields #v[vl,vu,.none] } } σ H3 x v vl vu l u ↑s3 Q I4 r1 (Db.IsSliceOf.new ..) pl pu q3;change EQ (model X.prog X.w) X.A (subscriptTail e (.Slice lo hi none p2) v (.ref ↑s3)) (EP X TW σ Q) X.xe { s3 with heap:=s3.heap.push { cls:=.type "slice",data:=.fields #v[vl,vu,.none] } };exact tail_any (ops:=[.ref ↑s3,v]) ht hT hg (by with_unfolding_all rfl)
def qb(xs:!V)(lo hi:Option Int):!V:=(xs.drop (HT.cc xs.length 0 lo)).take (HT.cc xs.length xs.length hi - HT.cc xs.length 0 lo)
theorem oJ(xs:!V)(lo hi:Option Int):(qb xs lo hi).length<=xs.length:=by
 unfold qb;rw[aa8,abl];cbv
def WX(K:Frag):V->Option Int->Option Int->Hp->VK->Prop:=λx lo hi H Q=>∃ a xs,x=.ref a/\iu K H a xs /\
 ¬ (HT.cc xs.length 0 lo=0/\HT.cc xs.length xs.length hi=xs.length)/\∀ p,H p=none->Q (.ref p) (upd H p (.tup (qb xs lo hi)))
theorem Kb:PF X (WX X.K):=by
 intro TW s σ H x v vl vu lo hi sl Q I rx hs pl pu h;let(a,xs,rfl,hx,hw,q):=h;cases rx;let(its,r,ht,hz):=I.tuple hx;have hlen:its.toArray.size=xs.length:=by rw[aaC];exact r.length.symm
 show#["tuple",_,PyProof.Rows.slot_tuple_getitem.lookup,ht.typeIs,?_];show HT.m7 ht hs pl pu (by rw[hlen];exact hw) ?_ (by rw[hlen];exact hz);rw[hlen];show#[.ref ↑s,_,I.laid (t':=s.toks) (o:=.tup (qb xs lo hi)) (λb ob q=>aae _ q) (aah _) ?_,U,q _ (I.bM.fresh (aah _))];exact#[aap (oJ xs lo hi) hz,_,(r.drop (HT.cc xs.length 0 lo)).take (HT.cc xs.length xs.length hi - HT.cc xs.length 0 lo),iV.new _ _]
def Jh(K:Frag):R2:=λx y H Q=>∃ a b xs ys,x=.ref a/\y=.ref b/\iu K H a xs/\iu K H b ys/\xs≠[]/\xs.length+ys.length<=FS /\
 (ys=[]->Q (.ref a) H)/\(ys≠[]->∀ p,H p=none->Q (.ref p) (upd H p (.tup (xs++ys))))
theorem Vals.pV{xs:!V}{us:!AT}(r:Vals xs us):us=[]↔xs=[]:=by
 cases r with
 | nil=>simp
 | cons _ _=>simp
theorem uG:jt X (Os .Add) (Jh X.K):=by
 intro TW s σ H x y v u Q I rx ry h;let(a,b,xs,ys,rfl,rfl,ha,hb,hx,hz,q1,q2):=h;cases rx;cases ry;let(its,r1,p1,_):=I.tuple ha;let(its2,r2,p2,_):=I.tuple hb;show HT.Hy p1 p2 (λz=>hx (r1.pV.mp z)) (λz=>#[.ref a,H,I,U,q1 (r2.pV.mp z)]) (λz=>?_) (by rw[<- r1.length,<- r2.length];exact hz);show#[.ref ↑s,_,I.laid (t':=s.toks) (o:=.tup (xs++ys)) (λb ob q=>aae _ q) (aah _) ?_,U,q2 (λw=>z (r2.pV.mpr w)) _ (I.bM.fresh (aah _))];exact#[by rw[aab];exact hz,_,r1.append r2,iV.new _ _]
end
def yd(n:Nat)(i:Int):Option Nat:=if 0<=i then (if i < n then some i.toNat else none) else if -(n:Int)<=i then some (i+n).toNat else none
def iD{α:Type}(xs:!α)(i:Int):Option α:=(yd xs.length i).bind λj=>xs[j]?
theorem A7{n:Nat}{i:Int}{j:Nat}(h:yd n i=some j):seqIndex? i n=some j/\j < n/\-(n:Int)<=i/\i < n:=by
 unfold yd at h;by_cases h0:0<=i
 .rw[if_pos h0] at h;by_cases h1:i < n
  .rw[if_pos h1] at h;have e:i.toNat=j:=aaJ h;exact#[by rw[seqIndex_of h0 h1,e],by cbv,by cbv,h1]
  .rw[if_neg h1] at h;cases h
 .rw[if_neg h0] at h;by_cases h1:-(n:Int)<=i
  .rw[if_pos h1] at h;have e:(i+n).toNat=j:=aaJ h;exact#[by rw[seqIndex_neg (by cbv) h1,e],by cbv,h1,by cbv]
  .rw[if_neg h1] at h;cases h
theorem vv{α:Type}{xs:!α}{i:Int}{v:α}(h:iD xs i=some v):∃ j,seqIndex? i xs.length=some j/\xs[j]?=some v/\j < xs.length/\-(xs.length:Int)<=i/\i < xs.length:=by
 unfold iD at h;cases e:yd xs.length i with
 | none=>rw[e] at h;cases h
 | some j =>
  rw[e] at h;let(h1,h2,h3,h4):=A7 e;exact#[j,h1,h,h2,h3,h4]
theorem pW{α:Type}{xs:!α}{j:Nat}{v:α}(h:xs[j]?=some v):iD xs (j:Int)=some v:=by
 have hj:j < xs.length:=(aaf.mp h).1;have e:yd xs.length (j:Int)=some j:=by
  unfold yd;rw[if_pos (by cbv),if_pos (by cbv)];simp
 unfold iD;rw[e];exact h
def mT(b:Ch):Prop:=∀ o i,subscripted b false o i=operate [o,i] (getItem o i)
def ND(X:Cx)(r:R2):Prop :=
 ∀ (value slice:Ch) (TW:acd) (s:Cl) (σ:St) (H:Hp) (x y:V) (v u:AT) (Q:VK),Inv X TW σ H s->RelV x v->RelV y u->r x y H Q ->
  subscripted slice false v u=operate [v,u] (getItem v u)->EQ (model X.prog X.w) X.A (subscriptTail value slice v u) (EP X TW σ Q) X.xe s
def Nw(X:Cx)(id:String)(r:V->!V->Hp->VK->Prop):Prop :=
 ∀ (TW:acd) (s:Cl) (σ:St) (H:Hp) (x:V) (xs:!V) (v:AT) (us:!AT) (Q:VK),Inv X TW σ H s->RelV x v->Vals xs us->r x xs H Q ->
  EQ (model X.prog X.w) X.A (call (.builtin id) (v::us)) (EP X TW σ Q) X.xe s
section
variable{X:Cx}{a b:Ch}{ta tb:TE}{pos:Pos}
theorem Es{r:R2}(hr:ND X r)(ha:PE X a ta)(hb:PE X b tb)(hs:mT b):PE X (.Subscript a b pos) (j6 r ta tb):=by
 intro TW s σ H Q I h;exact Subscript_ (LB ha hb I h λv u s2 x y H2 I2 rx ry q=>hr a b TW s2 σ H2 x y v u Q I2 rx ry q (hs _ _))
def Le(K:Frag):R2:=λx y H Q=>∃ p xs i v,x=.ref p/\y=.int i/\dN K H p xs/\iD xs i=some v/\Q v H
def Ov(K:Frag):R2:=λx y H Q=>∃ p xs i v,x=.ref p/\y=.int i/\iu K H p xs/\iD xs i=some v/\Q v H
def SM:R2:=λx y H Q=>∃ z i c,x=.str z/\y=.int i/\z.length<=FS/\iD z.cps.toList i=some c/\Q (.str #[#v[c]]) H
theorem AJ:ND X (Le X.K):=by
 intro value slice TW s σ H x y v u Q I rx ry h hs;let(p,xs,i,z,rfl,rfl,hq,he,q):=h;cases rx;let(t,rfl):=ry;let(its,r,pl,hz):=I.list hq;let(j,h1,h2,h3,h4,h5):=vv he;let(w,ew,rw'):=r.get h2;have hl:=r.length;have hn:=lN;have fin:EP X TW σ Q w s:=#[z,H,I,rw',q];by_cases h0:0<=i
 .have hj:i.toNat=j:=by
   rw[seqIndex_of h0 h5] at h1;exact aaJ h1
  exact item_listR pl.isList h0 (by cbv) (by rw[hj];simpa using ew) fin hs
 .have hj:(i+(its.toArray.size:Int)).toNat=j:=by
   rw[seqIndex_neg (by cbv) h4] at h1;rw[aaC,<- hl];exact aaJ h1
  exact subscriptTail_builtinR (x:=w) pl.isList.typeIs slot_list_getitem.lookup
   (wpAny_getItem_list_neg (Q:=λr s'=>r=w/\EP X TW σ Q r s') pl.isList (by cbv) (by rw[List.size_toArray]<;>cbv) (by cbv) (by rw[hj];simpa using ew) #[U,fin]) hs
theorem KW:ND X (Ov X.K):=by
 intro value slice TW s σ H x y v u Q I rx ry h hs;let(p,xs,i,z,rfl,rfl,hq,he,q):=h;cases rx;let(t,rfl):=ry;let(its,r,pl,hz):=I.tuple hq;let(j,h1,h2,h3,h4,h5):=vv he;let(w,ew,rw'):=r.get h2;have hl:=r.length;have hn:=lN;have fin:EP X TW σ Q w s:=#[z,H,I,rw',q];exact subscriptTail_builtinR (x:=w) pl.typeIs slot_tuple_getitem.lookup
  (getItem_tuple (j:=j) (Q:=λr s'=>r=w/\EP X TW σ Q r s') pl (by cbv) (by cbv) (by rw[List.size_toArray,<- hl];exact h1) (by simpa using ew) #[U,fin]) hs
theorem yI:ND X SM:=by
 intro value slice TW s σ H x y v u Q I rx ry h hs;let(z,i,c,rfl,rfl,hz,he,q):=h;let(t,rfl):=rx;let(t',rfl):=ry;let(j,h1,h2,h3,h4,h5):=vv he;have hl:z.cps.toList.length=z.length:=by simp[Str.length]
 rw[hl] at h1 h4 h5;have hn:=lN;exact tail_any (typeIs_str s z t) slot_str_getitem.lookup (getItem_str (c:=c) (by
  have e1:decide (i < -(2 ^ 63:Int))=false:=decide_eq_false (by cbv);have e2:decide (i ≥ 2 ^ 63)=false:=decide_eq_false (by cbv);rw[e1,e2,Bool.or_false]) (by rw[h1];simpa using h2) #[.str #[#v[c]],H,I.tok _,#[_,U],q]) hs
theorem yb(its:!AT)(n j:Nat)(u:AT):Obj.mapSeq (·.setIfInBounds j u) { cls:=.type "list",data:=.seq its.toArray n }={ cls:=.type "list",data:=.seq (its.set j u).toArray n }:=by
 simp[Obj.mapSeq]
theorem Inv.lst{TW:acd}{σ:St}{H:Hp}{s:Cl}{p:AC}{xs:!V}(I:Inv X TW σ H s)(h:H p=some (.lst xs)) :
  ∃ (its:!AT) (n:Nat),Vals xs its/\s.heap.get? p=some { cls:=.type "list",data:=.seq its.toArray n }/\xs.length<=FS:=by
 let(z,its,n,r,e):=I.bM p _ h;exact#[its,n,r,e,z]
theorem Inv.Kg{TW:acd}{σ:St}{H:Hp}{s:Cl}{p:AC}{xs ys:!V}{its its':!AT}{n n':Nat}{f:Obj->Obj}(I:Inv X TW σ H s)(h:H p=some (.lst xs))(ho:s.heap.get? p=some { cls:=.type "list",data:=.seq its.toArray n })(hf:f { cls:=.type "list",data:=.seq its.toArray n }={ cls:=.type "list",data:=.seq its'.toArray n' })(r:Vals ys its')(hz:ys.length<=FS)(t:Nat) :
  Inv X TW σ (upd H p (.lst ys)) { s with heap:=s.heap.update p f,toks:=t }:=by
 have e:(s.heap.update p f).get? p=some { cls:=.type "list",data:=.seq its'.toArray n' }:=by
  rw[abG f ho (by rw[hf]<;>rfl),hf]
 show I.write (x:=p) (e:=p) (by rw[h];trivial) (.inl U) (λb u hb q=>(ab3 _ _ (Ne.symm hb)).trans q) #[_,e] ?_;exact#[hz,its',n',r,e]
def Fy:V->V->V->Hp->(Hp->Prop)->Prop:=λo i v H Q=>∃ p xs k j,o=.ref p/\i=.int k/\H p=some (.lst xs)/\yd xs.length k=some j/\Q (upd H p (.lst (xs.set j v)))
theorem set_list:Qx X Fy:=by
 intro TW s σ H o i v ov iv u Q I ro ri rv h;let(p,xs,k,j,rfl,rfl,hp,hj,q):=h;cases ro;let(t,rfl):=ri;let(its,n,r,ho,hz):=I.lst hp;let(h1,h2,h3,h4):=A7 hj;have hl:=r.length;have hn:=lN;have I':Inv X TW σ (upd H p (.lst (xs.set j v))) { s with heap:=s.heap.update p (Obj.mapSeq (·.setIfInBounds j u)) } :=
  I.Kg hp ho (yb its n j u) (r.set rv j) (by rw[aaL];exact hz) s.toks
 by_cases h0:0<=k
 .have hk:k.toNat=j:=by
   rw[seqIndex_of h0 h4] at h1;exact aaJ h1
  exact PySem.W.ki_setAt ho h0 (by cbv) (by rw[aaC,<- hl];exact h4) (by rw[hk];exact#[_,I',q])
 .have hk:(k+(its.toArray.size:Int)).toNat=j:=by
   rw[seqIndex_neg (by cbv) h3] at h1;rw[aaC,<- hl];exact aaJ h1
  exact PySem.W.ki_setBack ho (by cbv) (by rw[aaC,<- hl];exact h3) (by cbv) (by rw[hk];exact#[_,I',q])
theorem uB(lo hi:Option Int)(n:Nat):(sliceBounds lo hi none n).1=((HT.cc n 0 lo:Nat):Int)/\(sliceBounds lo hi none n).2.1=((HT.cc n n hi:Nat):Int)/\(sliceBounds lo hi none n).2.2=1:=by
 show#[?_,?_,U]
 .cases lo with
  | none=>simp[sliceBounds,HT.cc]
  | some i =>
   simp only[sliceBounds,HT.cc,Option.getD_none,show (1:Int) > 0 by decide,if_true];by_cases h:i < 0
   .simp only[h,if_true]<;>cbv
   .simp only[h,if_false]<;>cbv
 .cases hi with
  | none=>simp[sliceBounds,HT.cc]
  | some i =>
   simp only[sliceBounds,HT.cc,Option.getD_none,show (1:Int) > 0 by decide,if_true];by_cases h:i < 0
   .simp only[h,if_true]<;>cbv
   .simp only[h,if_false]<;>cbv
theorem sv(its:!AT)(lo hi:Option Int):slicePick its.toArray lo hi none=((its.drop (HT.cc its.length 0 lo)).take (HT.cc its.length its.length hi - HT.cc its.length 0 lo)).toArray:=by
 let(h1,h2,h3):=uB lo hi its.toArray.size;unfold slicePick;rw[h1,h2,h3];simp only[sliceRange_one,pick_run,List.size_toArray]<;>rfl
def Tr(K:Frag):V->Option Int->Option Int->Hp->VK->Prop:=λx lo hi H Q=>∃ a xs,x=.ref a/\dN K H a xs/\∀ p,H p=none->Q (.ref p) (upd H p (.lst (qb xs lo hi)))
theorem z9:PF X (Tr X.K):=by
 intro TW s σ H x v vl vu lo hi sl Q I rx hs pl pu h;let(a,xs,rfl,hx,q):=h;cases rx;let(its,r,ht,hz):=I.list hx;have hlen:=r.length;show#["list",_,slot_list_getitem.lookup,ht.isList.typeIs,?_];show wpAny_getItem_list_slice ht.isList hs pl pu .none (by simp) ?_ (by rw[List.size_toArray]<;>cbv);rw[sv,<- hlen];show#[.ref ↑s,_,I.laid (t':=s.toks) (o:=.lst (qb xs lo hi)) (λb ob q=>aae _ q) (aah _) ?_,U,q _ (I.bM.fresh (aah _))];exact#[aap (oJ xs lo hi) hz,_,0,(r.drop (HT.cc xs.length 0 lo)).take (HT.cc xs.length xs.length hi - HT.cc xs.length 0 lo),aat _ U]
def kX:V->Bool
 | .bx=>true
 | .bl _=>true
 | .int _=>true
 | .str _=>true
 | _=>false
def Iz:V->V->Bool
 | .bx,.bx=>true
 | .bl a,.bl b=>a == b
 | .bl a,.int b=>(if a then 1 else 0) == b
 | .int a,.bl b=>a == (if b then 1 else 0)
 | .int a,.int b=>a == b
 | .str a,.str b=>a == b
 | _,_=>false
theorem M7{A:Fr}{s:Cl}{y x:V}{u v:AT}(ry:RelV y u)(rx:RelV x v)(fy:kX y=true)(fx:kX x=true):SeqAt.EqAt A s u v (Iz y x):=by
 cases y with
 | bx =>
  cases ry;cases x with
  | bx=>cases rx;exact SeqAt.EqAt.same _
  | bl b=>cases rx;exact SeqAt.EqAt.none_bool b
  | int b=>let(t,rfl):=rx;exact SeqAt.EqAt.none_int b t
  | str b=>let(t,rfl):=rx;exact SeqAt.EqAt.none_str b t
  | _=>exact absurd (show false=true from fx) aau
 | bl a =>
  cases ry;cases x with
  | bx=>cases rx;exact SeqAt.EqAt.bool_none a
  | bl b=>cases rx;exact SeqAt.EqAt.bool_bool a b
  | int b=>let(t,rfl):=rx;exact SeqAt.EqAt.bool_int a b t
  | str b=>let(t,rfl):=rx;exact SeqAt.EqAt.bool_str a b t
  | _=>exact absurd (show false=true from fx) aau
 | int a =>
  let(t',rfl):=ry;cases x with
  | bx=>cases rx;exact SeqAt.EqAt.int_none a t'
  | bl b=>cases rx;exact SeqAt.EqAt.int_bool a t' b
  | int b=>let(t,rfl):=rx;exact SeqAt.EqAt.int_int a t' b t
  | str b=>let(t,rfl):=rx;exact SeqAt.EqAt.int_str a t' b t
  | _=>exact absurd (show false=true from fx) aau
 | str a =>
  let(t',rfl):=ry;cases x with
  | bx=>cases rx;exact SeqAt.EqAt.str_none a t'
  | bl b=>cases rx;exact SeqAt.EqAt.str_bool a t' b
  | int b=>let(t,rfl):=rx;exact SeqAt.EqAt.str_int a t' b t
  | str b=>let(t,rfl):=rx;exact SeqAt.EqAt.str_str a t' b t
  | _=>exact absurd (show false=true from fx) aau
 | _=>exact absurd (show false=true from fy) aau
def zk(x:V)(u:AT):Bool:=match u with
 | .none=>Iz .bx x
 | .bool b=>Iz (.bl b) x
 | .int i _=>Iz (.int i) x
 | .str z _=>Iz (.str z) x
 | _=>false
theorem Et{x y:V}{u:AT}(r:RelV y u)(f:kX y=true):zk x u=Iz y x:=by
 cases y with
 | bx=>cases r;rfl
 | bl b=>cases r;rfl
 | int i=>let(t,rfl):=r;rfl
 | str z=>let(t,rfl):=r;rfl
 | _=>exact absurd (show false=true from f) aau
theorem lU{x:V}:∀ {xs:!V} {us:!AT},Vals xs us->xs.all kX=true->us.any (zk x)=xs.any λy=>Iz y x
 | _,_,.nil,_=>rfl
 | y::xs,u::us,.cons r t,f=>by
  rw[List.all_cons,aaT] at f;rw[abu,abu,Et r f.1,lU t f.2]
theorem jW{A:Fr}{s:Cl}{x:V}{v:AT}(rx:RelV x v)(fx:kX x=true):∀ {xs:!V} {us:!AT},Vals xs us->xs.all kX=true->∀ u∈us,SeqAt.EqAt A s u v (zk x u)
 | _,_,.nil,_=>λu hu=>by cases hu
 | y::xs,u::us,.cons r t,f=>λu' hu=>by
  rw[List.all_cons,aaT] at f;rcases aaj.mp hu with rfl | hu
  .rw[Et r f.1];exact M7 r rx f.1 fx
  .exact jW rx fx t f.2 u' hu
def BE(x:V)(xs:!V):Bool:=xs.any λy=>Iz y x
def NO(K:Frag)(neg:Bool):R2:=λx y H Q=>∃ p xs,y=.ref p/\(dN K H p xs\/iu K H p xs)/\kX x=true/\xs.all kX=true/\Q (.bl (if neg then (not (BE x xs)) else BE x xs)) H
theorem f7:jt X (Ix .In) (NO X.K false):=by
 intro TW s σ H x y v u Q I rx ry h;let(p,xs,rfl,hq,fx,fs,q):=h;cases ry;rcases hq with hq | hq
 .let(its,r,pl,hz):=I.list hq;show SeqAt.in_listAt (zk x) pl.isList (λw hw=>jW rx fx r fs w (by simpa using hw)) #[.bl _,H,I,U,?_];rw[show its.toArray.any (zk x)=its.any (zk x) by simp,lU r fs];exact q
 .let(its,r,pl,hz):=I.tuple hq;show SeqAt.in_tupleAt (zk x) pl (λw hw=>jW rx fx r fs w (by simpa using hw)) #[.bl _,H,I,U,?_];rw[show its.toArray.any (zk x)=its.any (zk x) by simp,lU r fs];exact q
theorem nh:jt X (Ix .NotIn) (NO X.K true):=by
 intro TW s σ H x y v u Q I rx ry h;let(p,xs,rfl,hq,fx,fs,q):=h;cases ry;rcases hq with hq | hq
 .let(its,r,pl,hz):=I.list hq;show SeqAt.notIn_listAt (zk x) pl.isList (λw hw=>jW rx fx r fs w (by simpa using hw)) #[.bl _,H,I,U,?_];rw[show its.toArray.any (zk x)=its.any (zk x) by simp,lU r fs];exact q
 .let(its,r,pl,hz):=I.tuple hq;show SeqAt.notIn_tupleAt (zk x) pl (λw hw=>jW rx fx r fs w (by simpa using hw)) #[.bl _,H,I,U,?_];rw[show its.toArray.any (zk x)=its.any (zk x) by simp,lU r fs];exact q
theorem fT:fk X (.builtin "len") (λxs H Q=>∃ p ys,xs=[.ref p]/\(dN X.K H p ys\/iu X.K H p ys)/\Q (.int ys.length) H):=by
 intro TW s σ H xs us Q I r h;let(p,ys,rfl,hq,q):=h;let(u,rfl,rx):=vals1 r;cases rx;have hn:=lN;rcases hq with hq | hq
 .let(its,r',pl,hz):=I.list hq;have hlen:=r'.length;exact Calls.call_len_list pl.isList (by simp only[List.size_toArray]<;>cbv) #[.int ys.length,H,I.tok _,#[s.toks+1,by rw[List.size_toArray,hlen]],q]
 .let(its,r',pl,hz):=I.tuple hq;have hlen:=r'.length;exact len_tuple pl (by simp only[List.size_toArray]<;>cbv) #[.int ys.length,H,I.tok _,#[s.toks+1,by rw[List.size_toArray,hlen]],q]
theorem uz:fk X (.builtin "len") (λxs H Q=>∃ z,xs=[.str z]/\z.length<=FS/\Q (.int z.length) H):=by
 intro TW s σ H xs us Q I r h;let(z,rfl,hz,q):=h;let(u,rfl,t,rfl):=vals1 r;have hn:=lN;exact len_str (by cbv) #[.int z.length,H,I.tok _,#[_,U],q]
theorem mF:fk X (.type "list") (λxs H Q=>∃ p ys,xs=[.ref p]/\(dN X.K H p ys\/iu X.K H p ys)/\∀ l,H l=none->Q (.ref l) (upd H l (.lst ys))):=by
 intro TW s σ H xs us Q I r h;let(p,ys,rfl,hq,q):=h;let(u,rfl,rx):=vals1 r;cases rx;have fin:∀ (its:!AT),Vals ys its->ys.length<=FS->∀ (h':Db) (c':Nat),(∀ b o',s.heap.get? b=some o'->h'.get? b=some o') ->
   h'.get? ↑s=some { cls:=.type "list",dict:=none,data:=.seq its.toArray c',slots:=#v[] }->EP X TW σ Q (.ref ↑s) { s with heap:=h' }:=λits r' hz h' c' kp e =>
  #[.ref ↑s,_,I.laid (t':=s.toks) kp (aah _) (show cO X.prog X.w _ h' _ (.lst ys) from #[hz,its,c',r',e]),U,q _ (I.bM.fresh (aah _))]
 rcases hq with hq | hq
 .let(its,r',pl,hz):=I.list hq;have hlen:=r'.length;let(o,ho,hc,n,hd):=pl.isList;exact call_list_seq p (.inl U) ho hc hd (λh' c' kp e=>fin its r' hz h' c' kp e) (by simp only[List.size_toArray]<;>cbv)
 .let(its,r',pl,hz):=I.tuple hq;have hlen:=r'.length;let(o,ho,hc,n,hd):=pl;exact call_list_seq p (.inr U) ho hc hd (λh' c' kp e=>fin its r' hz h' c' kp e) (by simp only[List.size_toArray]<;>cbv)
theorem kW:fk X (.type "tuple") (λxs H Q=>∃ p ys,xs=[.ref p]/\((dN X.K H p ys/\∀ l,H l=none->Q (.ref l) (upd H l (.tup ys)))\/(iu X.K H p ys/\Q (.ref p) H))):=by
 intro TW s σ H xs us Q I r h;let(p,ys,rfl,h):=h;let(u,rfl,rx):=vals1 r;cases rx;rcases h with ⟨hq,q⟩ | ⟨hq,q⟩
 .let(its,r',pl,hz):=I.list hq;have hlen:=r'.length;show call_tuple_list pl.isList (λh' kp=>?_) (by simp only[List.size_toArray]<;>cbv);have I1:Inv X TW σ H { s with heap:=h' }:=I.kept (t':=s.toks) kp;have I2:Inv X TW σ (upd H h'.objs.size (.tup ys)) { s with heap:=h'.push { cls:=.type "tuple",data:=.seq its.toArray } } :=
   I1.laid (t':=s.toks) (λb o e=>aae _ e) (aah _) (show cO X.prog X.w _ _ _ (.tup ys) from #[hz,its,r',iV.new _ _])
  exact#[.ref h'.objs.size,_,I2,U,q _ (I1.bM.fresh (aah _))]
 .let(its,r',pl,hz):=I.tuple hq;exact call_tuple_same pl #[.ref p,H,I,U,q]
def WO(K:Frag)(T:String)(x:V)(H:Hp):Prop:=match x with
 | .str _=>T="str"
 | .int _=>T="int"
 | .ref p=>(T="list"/\∃ xs,dN K H p xs)\/(T="tuple"/\∃ o,K.lookup p=some o/\o.cls=.type "tuple"/\o.dict=none) \/
   (T="dict"/\((∃ kvs,H p=some (.dK kvs))\/∃ kvs,H p=some (.dT kvs)))\/(T="set"/\∃ S n,H p=some (.set S n))
 | _=>False
theorem CJ{TW:acd}{σ:St}{H:Hp}{s:Cl}{T:String}{x:V}{v:AT}(I:Inv X TW σ H s)(r:RelV x v)(ty:WO X.K T x H) :
  s.TypeIs v T/\∀ a,v=.ref a->∃ ob,s.heap.get? a=some ob/\ob.dict=none:=by
 cases x with
 | str z =>
  let(t,rfl):=r;cases (show T="str" from ty);exact#[typeIs_str s z t,λ_ e=>nomatch e]
 | int i =>
  let(t,rfl):=r;cases (show T="int" from ty);exact#[typeIs_int s i t,λ_ e=>nomatch e]
 | ref p =>
  cases r;rcases ty with ⟨rfl,xs,hq⟩ | ⟨rfl,o,hk,hc,hd⟩ | ⟨rfl,hk⟩ | ⟨rfl,S,n,hk⟩
  .let(its,_,pl,_):=I.list hq;show#[pl.isList.typeIs,λa e=>?_];cases e;let(o,n,e,c,hd,_):=pl;exact#[o,e,hd]
  .refine#[#[o,I.xW p o hk,hc],λa e=>?_];cases e;exact#[o,I.xW _ o hk,hd]
  .have z:∃ o,s.heap.get? p=some o/\o.ExactDict:=by
    rcases hk with ⟨kvs,hk⟩ | ⟨kvs,hk⟩
    .let(_,_,_,_,o,_,_,e,ex,_):=I.bM p _ hk;exact#[o,e,ex]
    .let(_,_,_,_,o,_,_,e,ex,_):=I.bM p _ hk;exact#[o,e,ex]
   let(o,e,ex):=z;show#[#[o,e,ex.1],λa e2=>?_];cases e2;exact#[o,e,ex.2.1]
  .let(o,_,_,_,e,ex,_):=I.bM p _ hk;show#[#[o,e,ex.1],λa e2=>?_];cases e2;exact#[o,e,ex.2.1]
 | _=>exact False.elim ty
def OA(K:Frag)(T:String)(r:V->!V->Hp->VK->Prop)(to:TE):TE:=λσ H Q=>to σ H λx H1=>WO K T x H1/\r x [] H1 Q
def Ze(K:Frag)(T:String)(r:V->!V->Hp->VK->Prop)(to:TE)(t:TA):TE:=λσ H Q=>to σ H λx H1=>WO K T x H1/\t σ H1 λxs H2=>r x xs H2 Q
variable{o e:Ch}{es:!Ch}{to:TE}{t:TA}{name:Str}{apos cH:Pos}{T id:String}{r:V->!V->Hp->VK->Prop}
theorem DR(pa:PlainAttrs T)(slot:Slot T name id)(BQ:typeOf (.builtin id)=pure (.type "method_descriptor"))(hm:Nw X id r)(ho:PE X o to)(gA:(attributeBase o name X.env (eval o X.env)=eval o X.env)⁻¹)(gz:((apos.endLine == cH.line)=true)⁻¹):PE X (.Call (.Attribute o name apos) [] [] cH) (OA X.K T r to):=by
 intro TW s σ H Q I h;show wpAny_Call_method0_late gA gz (cb (ho TW s σ H _ I h) λv s1 z2q=>?_);let(x,H1,I1,r1,ty,q1):=z2q;let(h1,h2):=CJ I1 r1 ty;exact#[T,id,pa,slot,BQ,h1,h2,Calls.callWith_builtin U (PySem.evalArgs_none (hm TW s1 σ H1 x [] v [] Q I1 r1 .nil q1))]
theorem Bb(pa:PlainAttrs T)(slot:Slot T name id)(BQ:typeOf (.builtin id)=pure (.type "method_descriptor"))(hm:Nw X id r)(ho:PE X o to)(ha:PA X (e::es) t)(gA:(attributeBase o name X.env (eval o X.env)=eval o X.env)⁻¹)(qt:(((IR cH (Gc (e::es) X.env)).all (λx=>(not x.1))&&(P3 cH (Re [] X.env)).all (λx=>x.1.isSome)
   && decide ((e::es).length+([]:!Ps).length+(if ([]:!Ps).isEmpty then 0 else 1) < 30))=true)⁻¹)(gz:((apos.endLine == cH.line)=true)⁻¹)(hs:(acf X.env e es)⁻¹)(gw:((IR cH (Gc es X.env)).any (·.1)=false)⁻¹) :
  PE X (.Call (.Attribute o name apos) (e::es) [] cH) (Ze X.K T r to t):=by
 intro TW s σ H Q I h;show wpAny_Call_method_late gA qt gz U (cb (ho TW s σ H _ I h) λv s1 z3q=>?_);let(x,H1,I1,r1,ty,q1):=z3q;let(h1,h2):=CJ I1 r1 ty;show#[T,id,pa,slot,BQ,h1,h2,?_];have hA:=ha cH TW s1 σ H1 _ I1 q1;rw[hs] at hA ⊢;show Calls.callWith_builtin (by change (false||(IR cH (Gc es X.env)).any (·.1))=false;rw[gw]<;>rfl) (Calls.evalArgs_plain ?_);exact cb hA λus s2 #[vs,H2,I2,r2,q2]=>hm TW s2 σ H2 x vs v us Q I2 r1 r2 q2
end
def Uu(X:Cx)(id:String)(r:V->!V->Hp->VK->Prop):Prop :=
 ∀ (TW:acd) (s:Cl) (σ:St) (H:Hp) (x:V) (xs:!V) (v:AT) (us:!AT) (Q:VK),Inv X TW σ H s->RelV x v->Vals xs us->r x xs H Q ->
  EQ (model X.prog X.w) X.A (call (.builtin id) (v::us)) (EP X TW σ Q) X.xe s
theorem Vals.one{x:V}{us:!AT}(h:Vals [x] us):∃ u,us=[u]/\RelV x u:=by
 cases h with
 | cons r t=>cases t with
  | nil=>exact#[_,U,r]
theorem Vals.two{x y:V}{us:!AT}(h:Vals [x,y] us):∃ u v,us=[u,v]/\RelV x u/\RelV y v:=by
 cases h with
 | cons r t=>cases t with
  | cons q t=>cases t with
   | nil=>exact#[_,_,U,r,q]
theorem Vals.zero:∀ {us:!AT},Vals [] us->us=[]
 | _,.nil=>rfl
theorem Vals.dropLast{xs:!V}{us:!AT}(h:Vals xs us):Vals xs.dropLast us.dropLast:=by
 induction h with
 | nil=>exact .nil
 | cons r t ih =>
  cases t with
  | nil=>exact .nil
  | cons q t'=>exact .cons r ih
theorem Vals.eraseIdx:∀ {xs:!V} {us:!AT} (i:Nat),Vals xs us->Vals (xs.eraseIdx i) (us.eraseIdx i)
 | _,_,_,.nil=>.nil
 | _,_,0,.cons _ t=>t
 | _,_,i+1,.cons r t=>.cons r (Vals.eraseIdx i t)
theorem Vals.reverse{xs:!V}{us:!AT}(h:Vals xs us):Vals xs.reverse us.reverse:=by
 induction h with
 | nil=>exact .nil
 | cons r t ih=>rw[abv,abv];exact Vals.append ih (.cons r .nil)
theorem ye{α:Type}(l:!α):l.eraseIdx (l.length - 1)=l.dropLast:=by
 induction l with
 | nil=>rfl
 | cons a r ih =>
  cases r with
  | nil=>rfl
  | cons b r =>
   have e:(a::b::r).length - 1=((b::r).length - 1)+1:=by
    have h1:(a::b::r).length=r.length+2:=rfl;have h2:(b::r).length=r.length+1:=rfl;cbv
   rw[e,List.eraseIdx_cons_succ,ih]
   all_goals rfl
theorem sU{α:Type}:∀ (l:!α) (i:Nat),(l.eraseIdx i).length<=l.length
 | [],_=>aah _
 | _::_,0=>ab1 _
 | _::r,i+1=>ab5 (sU r i)
section
variable{X:Cx}{TW:acd}{σ:St}{H:Hp}{s:Cl}{l b:AC}{xs ys zs:!V}
theorem Inv.GK{its its':!AT}{n:Nat}{f:Array AT->Array AT}{t':Nat}(I:Inv X TW σ H s)(hH:H l=some (.lst xs))(e:s.heap.get? l=some { cls:=.type "list",data:=.seq its.toArray n })(hf:f its.toArray=its'.toArray)(hv:Vals ys its')(hz:ys.length<=FS) :
  Inv X TW σ (upd H l (.lst ys)) { s with heap:=s.heap.update l (Obj.mapSeq f),toks:=t' }:=by
 have q:=PySem.IsL.update e f;rw[hf] at q;show I.write (x:=l) (e:=l) (by rw[hH];exact trivial) (.inl U) (λb' u hb hu=>(ab3 s.heap (Obj.mapSeq f) (Ne.symm hb)).trans hu) #[_,q] ?_;exact#[hz,its',_,hv,q]
theorem Inv.Tf{its:!AT}{t':Nat}(I:Inv X TW σ H s)(hv:Vals ys its)(hz:ys.length<=FS) :
  Inv X TW σ (upd H ↑s (.lst ys)) { s with heap:=s.heap.push { cls:=.type "list",data:=.seq its.toArray },toks:=t' } :=
 I.laid (λ_ _ q=>aae _ q) (aah _) #[hz,its,0,hv,aat _ U]
theorem Inv.fresh(I:Inv X TW σ H s):H ↑s=none:=I.bM.fresh (aah _)
theorem Inv.zv(I:Inv X TW σ H s)(hH:H l=some (.lst xs)):xs.length<=FS/\∃ (its:!AT) (n:Nat),Vals xs its/\xs.length=its.length/\s.heap.get? l=some { cls:=.type "list",data:=.seq its.toArray n }:=by
 let(z,its,n,r,e):=I.bM l _ hH;exact#[z,its,n,r,r.length,e]
theorem DU{n:Nat}(h:n<=FS):GT.List.listTooLong n=false:=by
 unfold GT.List.listTooLong;exact decide_eq_false (by cbv)
end
section
variable{X:Cx}
def A8:V->!V->Hp->VK->Prop:=λx vs H Q=>∃ l xs y,x=.ref l/\vs=[y]/\H l=some (.lst xs)/\xs.length < FS/\Q .bx (upd H l (.lst (xs++[y])))
theorem hZ:Uu X "list.append" A8:=by
 intro TW s σ H x vs v us Q I rx rv h;let(l,xs,y,rfl,rfl,hH,hz,q):=h;cases rx;let(u,rfl,ru):=rv.one;let(z,its,n,r,hl,e):=I.zv hH;show call_meets F.slot_list_append #[_,e,U] F.entry_list_append (F.args_list_append_2 _ _) (PySem.list_append l its.toArray n u (by rw[aaC];cbv)) #[e,?_];show#[.bx,_,I.GK (its':=its++[u]) hH e (by simp) (r.append (.cons ru .nil)) ?_,U,q];rw[aab,abb];cbv
def AE:V->!V->Hp->VK->Prop:=λx vs H Q=>∃ l b xs zs,x=.ref l/\vs=[.ref b]/\H l=some (.lst xs)/\H b=some (.lst zs)/\xs.length+zs.length<=FS/\Q .bx (upd H l (.lst (xs++zs)))
theorem ir:Uu X "list.extend" AE:=by
 intro TW s σ H x vs v us Q I rx rv h;let(l,b,xs,zs,rfl,rfl,hH,hB,hz,q):=h;cases rx;let(u,rfl,ru):=rv.one;cases ru;let(z,its,n,r,hl,e):=I.zv hH;let(z2,its2,n2,r2,Lv,e2):=I.zv hB;have hsz:its.toArray.size+its2.toArray.size<=FS:=by rw[aaC,aaC];cbv
 have hlong:¬ ((not its.toArray.isEmpty)&&GT.List.listTooLong (its.toArray.size+its2.toArray.size))=true:=by
  rw[DU hsz,Bool.and_false];exact aau
 show call_meets F.slot_list_extend #[_,e,U] F.entry_list_extend (F.args_list_extend_2 _ _)
  (AutoSeq1.list_extend_list_list_0 l its.toArray n b its2.toArray n2 hlong (by rw[aaC];cbv) (by cbv)) #[e,e2,?_]
 show#[.bx,_,I.GK (its':=its++its2) hH e (by simp) (r.append r2) ?_,U,q];rw[aab];cbv
def Nd:V->!V->Hp->VK->Prop:=λx vs H Q=>∃ l xs y,x=.ref l/\vs=[]/\H l=some (.lst xs)/\xs[xs.length - 1]?=some y/\Q y (upd H l (.lst xs.dropLast))
theorem vH:Uu X "list.pop" Nd:=by
 intro TW s σ H x vs v us Q I rx rv h;let(l,xs,y,rfl,rfl,hH,hy,q):=h;cases rx;have hus:=rv.zero;subst hus;let(z,its,n,r,hl,e):=I.zv hH;let(u,hu,ru):=r.get hy;have hy':its.toArray[its.toArray.size - 1]?=some u:=by
  change its.toArray[its.length - 1]?=some u;rw[<- abH,<- hl];exact hu
 show call_meets F.slot_list_pop #[_,e,U] F.entry_list_pop (F.args_list_pop_1 _) (MeetsSeq.list_pop_last l its.toArray n u hy' (by rw[aaC];cbv)) #[e,?_];show#[y,_,I.GK (its':=its.dropLast) hH e ?_ r.dropLast ?_,ru,q]
 .show its.toArray.eraseIdxIfInBounds (its.toArray.size - 1)=its.dropLast.toArray;rw[aaC,List.eraseIdxIfInBounds_toArray,ye]
 .rw[List.length_dropLast];cbv
def EJ:V->!V->Hp->VK->Prop:=λx vs H Q=>∃ l xs i k y,x=.ref l/\vs=[.int i]/\H l=some (.lst xs)/\-(2 ^ 63)<=i/\i < 2 ^ 63/\seqIndex? i xs.length=some k/\xs[k]?=some y/\Q y (upd H l (.lst (xs.eraseIdx k)))
theorem qR:Uu X "list.pop" EJ:=by
 intro TW s σ H x vs v us Q I rx rv h;let(l,xs,i,k,y,rfl,rfl,hH,h1,h2,hk,hy,q):=h;cases rx;let(u,rfl,ru):=rv.one;let(t,rfl):=ru;let(z,its,n,r,hl,e):=I.zv hH;let(w,hw,rw'):=r.get hy;show call_meets F.slot_list_pop #[_,e,U] F.entry_list_pop (F.args_list_pop_2 _ _)
  (MeetsSeq.list_pop_at l its.toArray n i t k w (fitsIndex_both h1 h2) (by rw[aaC,<- hl];exact hk) (by rw[<- abH];exact hw) (by rw[aaC];cbv)) #[e,?_]
 show#[y,_,I.GK (its':=its.eraseIdx k) hH e ?_ (r.eraseIdx k) ?_,rw',q]
 .show its.toArray.eraseIdxIfInBounds k=(its.eraseIdx k).toArray;rw[List.eraseIdxIfInBounds_toArray]
 .have:=sU xs k;cbv
def RS:R2:=λx y H Q=>∃ l b xs zs,x=.ref l/\y=.ref b/\H l=some (.lst xs)/\H b=some (.lst zs)/\xs.length+zs.length<=FS/\∀ p,H p=none->Q (.ref p) (upd H p (.lst (xs++zs)))
theorem dD:jt X (Os .Add) RS:=by
 intro TW s σ H x y v u Q I rx ry h;let(l,b,xs,zs,rfl,rfl,hH,hB,hz,q):=h;cases rx;cases ry;let(z,its,n,r,hl,e):=I.zv hH;let(z2,its2,n2,r2,Lv,e2):=I.zv hB;show PySem.P.add_list e e2 ?_ (by rw[aaC,aaC];cbv);have ea:its.toArray++its2.toArray=(its++its2).toArray:=by simp
 rw[ea];exact#[.ref _,_,I.Tf (t':=s.toks) (r.append r2) (by rw[aab];cbv),U,q _ I.fresh]
end
section
variable{prog:Fa}{w:FB}{A:Fr}{E:acb}{s:Cl}
end
section
variable{X:Cx}
end
section
variable{κ:Type}[DecidableEq κ]
def gG(kvs:!(κ×V))(k:κ):Option V:=(kvs.find? λkv=>decide (kv.1=k)).map (·.2)
def putK(kvs:!(κ×V))(k:κ)(v:V):!(κ×V) :=
 if (kvs.any λkv=>decide (kv.1=k))=true then kvs.map (λkv=>if kv.1=k then (kv.1,v) else kv) else kvs++[(k,v)]
theorem rJ{k:κ}:gG ([]:!(κ×V)) k=none:=rfl
theorem gq{p:κ×V}{r:!(κ×V)}{k:κ}(e:p.1=k):gG (p::r) k=some p.2:=by simp[gG,List.find?_cons,e]
theorem ef{p:κ×V}{r:!(κ×V)}{k:κ}(e:¬ p.1=k):gG (p::r) k=gG r k:=by simp[gG,List.find?_cons,e]
theorem lZ(k:κ):∀ kvs:!(κ×V),(kvs.any λkv=>decide (kv.1=k))=(gG kvs k).isSome
 | []=>rfl
 | p::r=>by
  rw[abu];by_cases e:p.1=k
  .simp only[gq e,decide_eq_true e,Bool.true_or,Option.isSome_some]
  .rw[ef e,decide_eq_false e,Bool.false_or];exact lZ k r
theorem fF(kvs:!(κ×V))(k:κ)(v:V):(putK kvs k v).length<=kvs.length+1:=by
 unfold putK;split
 .rw[aaa];cbv
 .rw[aab,aam,List.length_nil];cbv
theorem l8{kvs:!(κ×V)}{k:κ}(v:V)(h:gG kvs k=none):putK kvs k v=kvs++[(k,v)]:=by
 unfold putK;rw[lZ,h];exact if_neg ()
theorem kO.ig{o:Option V}{u:Option AT}(r:kO o u):o.isSome=u.isSome:=by
 cases o with
 | none=>cases u with
  | none=>rfl
  | some _=>exact (show False from r).elim
 | some _=>cases u with
  | none=>exact (show False from r).elim
  | some _=>rfl
theorem KV.val{kvs:!(κ×V)}{vs:!(κ×AT)}(r:KV kvs vs)(k:κ):kO (gG kvs k) (valueAt vs k):=by
 unfold KV at r
 induction r with
 | nil=>exact True.intro
 | @cons p q ps qs h t ih =>
  let(h1,h2):=h;by_cases e:p.1=k
  .have e':q.1=k:=h1.symm.trans e;have b:valueAt (q::qs) k=some q.2:=by simp[valueAt,List.find?_cons,e']
   rw[gq e,b];exact h2
  .have e':¬ q.1=k:=λz=>e (h1.trans z);have b:valueAt (q::qs) k=valueAt qs k:=by simp[valueAt,List.find?_cons,e']
   rw[ef e,b];exact ih
theorem KV.any{kvs:!(κ×V)}{vs:!(κ×AT)}(r:KV kvs vs)(k:κ):(kvs.any λkv=>decide (kv.1=k))=vs.any λkv=>decide (kv.1=k):=by
 unfold KV at r
 induction r with
 | nil=>rfl
 | cons h t ih=>rw[abu,abu,ih,h.1]
theorem KV.K2{kvs:!(κ×V)}{vs:!(κ×AT)}(r:KV kvs vs)(k:κ){y:V}{u:AT}(ry:RelV y u) :
  KV (kvs.map λkv=>if kv.1=k then (kv.1,y) else kv) (vs.map λkv=>if kv.1=k then (kv.1,u) else kv):=by
 unfold KV at r ⊢
 induction r with
 | nil=>exact .nil
 | @cons p q ps qs h t ih =>
  rw[aao,aao];show .cons ?_ ih;let(h1,h2):=h;by_cases e:p.1=k
  .rw[if_pos e,if_pos (h1.symm.trans e)];exact#[h1,ry]
  .rw[if_neg e,if_neg (λz=>e (h1.trans z))];exact#[h1,h2]
theorem KV.put{kvs:!(κ×V)}{vs:!(κ×AT)}(r:KV kvs vs)(k:κ){y:V}{u:AT}(ry:RelV y u):KV (putK kvs k y) (stored vs k u):=by
 unfold putK stored;rw[r.any k];by_cases e:(vs.any λkv=>decide (kv.1=k))=true
 .rw[if_pos e,if_pos e];exact r.K2 k ry
 .rw[if_neg e,if_neg e];exact Paired.snoc r #[U,ry]
theorem KV.length{kvs:!(κ×V)}{vs:!(κ×AT)}(r:KV kvs vs):kvs.length=vs.length:=Paired.length r
end
theorem rX{P:Fa}{w:FB}{k:Key}{u:AT}(r:RelV (kV k) u):(cu P w).is k u=true:=by
 cases k with
 | inl i=>let(t,e):=(show ∃ t,u=AT.int i t from r);subst e;exact wD P w i t
 | inr x=>let(t,e):=(show ∃ t,u=AT.str x t from r);subst e;exact wk P w x t
theorem tU{P:Fa}{w:FB}:∀ {ks:!Key} {us:!AT},Vals (ks.map kV) us->ItemsAre (cu P w) ks us
 | [],_,r=>by rw[aaQ] at r;cases r;exact .nil
 | k::ks,_,r=>by
  rw[aao] at r;cases r with
  | cons h t=>exact .cons (rX h) (tU t)
abbrev KT(H:Hp):!(!Key×V)->!(!Key×AC×AT)->Prop:=Paired λp q=>p.1=q.1/\H q.2.1=some (.tup (p.1.map kV))/\RelV p.2 q.2.2
theorem KT.val{H:Hp}{kvs:!(!Key×V)}{xs:!(!Key×AC×AT)}(r:KT H kvs xs)(k:!Key):kO (gG kvs k) ((atKey xs k).map (·.2)):=by
 induction r with
 | nil=>exact True.intro
 | @cons p q ps qs h t ih =>
  let(h1,_,h2):=h;by_cases e:p.1=k
  .have e':q.1=k:=h1.symm.trans e;have b:atKey (q::qs) k=some q.2:=by simp[atKey,List.find?_cons,e']
   rw[gq e,b];exact h2
  .have e':¬ q.1=k:=λz=>e (h1.trans z);have b:atKey (q::qs) k=atKey qs k:=by simp[atKey,List.find?_cons,e']
   rw[ef e,b];exact ih
theorem KT.K2{H:Hp}{kvs:!(!Key×V)}{xs:!(!Key×AC×AT)}(r:KT H kvs xs)(k:!Key){y:V}{u:AT}(ry:RelV y u) :
  KT H (kvs.map λkv=>if kv.1=k then (kv.1,y) else kv) (xs.map (putAt k u)):=by
 induction r with
 | nil=>exact .nil
 | @cons p q ps qs h t ih =>
  rw[aao,aao];show .cons ?_ ih;let(h1,h2,h3):=h;unfold putAt;by_cases e:p.1=k
  .rw[if_pos e,if_pos (h1.symm.trans e)];exact#[h1,h2,ry]
  .rw[if_neg e,if_neg (λz=>e (h1.trans z))];exact#[h1,h2,h3]
theorem KT.put{H:Hp}{kvs:!(!Key×V)}{xs:!(!Key×AC×AT)}(r:KT H kvs xs)(k:!Key){b:AC}{y:V}{u:AT}(hb:H b=some (.tup (k.map kV)))(ry:RelV y u) :
  KT H (putK kvs k y) (storedH xs k b u):=by
 have e:(kvs.any λkv=>decide (kv.1=k))=(atKey xs k).isSome:=by
  rw[lZ,(r.val k).ig,Option.isSome_map]
 unfold putK storedH;rw[e];by_cases q:(atKey xs k).isSome=true
 .rw[if_pos q,if_pos q];exact r.K2 k ry
 .rw[if_neg q,if_neg q];exact Paired.snoc r #[U,hb,ry]
theorem KT.keeps{H H':Hp}{kvs:!(!Key×V)}{xs:!(!Key×AC×AT)}(r:KT H kvs xs)(ht:∀ b ys,H b=some (.tup ys)->H' b=some (.tup ys)):KT H' kvs xs :=
 Paired.CG r λ_ _ z=>#[z.1,ht _ _ z.2.1,z.2.2]
section
variable{P:Fa}{w:FB}{H:Hp}{h:Db}{a:AC}
theorem Jb{u:HO}(ok:lO P w H h)(e:Rd H a u):cO P w H h a u:=e.ok ok
theorem sV{kvs:!(Key×V)}(ok:lO P w H h)(e:Rd H a (.dK kvs)):kvs.length<=FS/\(a == KM)=false/\∃ vs,KV kvs vs/\h.DictOf (cu P w) a vs :=
 show cO P w H h a (.dK kvs) from Jb ok e
theorem xb{kvs:!(Key×V)}(ok:lO P w H h)(e:H a=some (.dK kvs)):kvs.length<=FS/\(a == KM)=false/\∃ vs,KV kvs vs/\h.DictOf (cu P w) a vs:=sV ok (.inl e)
theorem qu{ks:!Key}(ok:lO P w H h)(e:H a=some (.tup (ks.map kV))):(tupleKind (cu P w)).is h ks a:=by
 let(_,its,r,o,h1,h2,n,h3):=(show cO P w H h a (.tup (ks.map kV)) from ok a _ e);exact#[o,its.toArray,n,h1,h2,h3.1,by simpa using tU r]
theorem wm{kvs:!(!Key×V)}(ok:lO P w H h)(e:Rd H a (.dT kvs)):kvs.length<=FS/\(a == KM)=false /\
  ∃ xs,KT H kvs xs/\h.DictOfH (tupleKind (cu P w)) a xs:=by
 let(z,y,xs,r,o,es,ep,h1,h2,h3,h4,h5):=(show cO P w H h a (.dT kvs) from Jb ok e);show#[z,y,xs,r,o,es,ep,h1,h2,h3,h4,λx hx=>?_,h5];have all:∀ {l:!(!Key×V)} {m:!(!Key×AC×AT)},KT H l m->∀ x∈m,(tupleKind (cu P w)).is h x.1 x.2.1:=by
  intro l m q
  induction q with
  | nil=>intro x hx;exact nomatch hx
  | @cons p q ps qs hq t ih =>
   intro x hx;rcases aaj.mp hx with e | hx
   .subst e;exact qu ok (by rw[<- hq.1];exact hq.2.1)
   .exact ih x hx
 exact all r x hx
theorem Ri{kvs:!(!Key×V)}(ok:lO P w H h)(e:H a=some (.dT kvs)):kvs.length<=FS/\(a == KM)=false /\
  ∃ xs,KT H kvs xs/\h.DictOfH (tupleKind (cu P w)) a xs:=wm ok (.inl e)
end
def ij(H:Hp)(a:AC)(y:V)(r:Option V):Prop :=
 (∃ kvs k,Rd H a (.dK kvs)/\y=kV k/\r=gG kvs k)\/∃ kvs k b,Rd H a (.dT kvs)/\y=.ref b/\H b=some (.tup (k.map kV))/\r=gG kvs k
def nY(H:Hp)(a:AC)(y v:V)(H':Hp):Prop :=
 (∃ kvs k,H a=some (.dK kvs)/\y=kV k/\kvs.length < FS/\H'=upd H a (.dK (putK kvs k v))) \/
 ∃ kvs k b,H a=some (.dT kvs)/\y=.ref b/\H b=some (.tup (k.map kV))/\kvs.length < FS/\H'=upd H a (.dT (putK kvs k v))
theorem ij.k{H:Hp}{a:AC}{kvs:!(Key×V)}{k:Key}(e:H a=some (.dK kvs)):ij H a (kV k) (gG kvs k):=.inl #[kvs,k,.inl e,U,U]
theorem ij.t{H:Hp}{a b:AC}{kvs:!(!Key×V)}{k:!Key}(e:H a=some (.dT kvs))(eb:H b=some (.tup (k.map kV))):ij H a (.ref b) (gG kvs k):=.inr #[kvs,k,b,.inl e,U,eb,U]
theorem nY.k{H:Hp}{a:AC}{kvs:!(Key×V)}{k:Key}{v:V}(e:H a=some (.dK kvs))(hl:kvs.length < FS):nY H a (kV k) v (upd H a (.dK (putK kvs k v))):=.inl #[kvs,k,e,U,hl,U]
theorem nY.t{H:Hp}{a b:AC}{kvs:!(!Key×V)}{k:!Key}{v:V}(e:H a=some (.dT kvs))(eb:H b=some (.tup (k.map kV)))(hl:kvs.length < FS) :
  nY H a (.ref b) v (upd H a (.dT (putK kvs k v))):=.inr #[kvs,k,b,e,U,eb,hl,U]
section
variable{X:Cx}{TW:acd}{σ:St}{H:Hp}{s:Cl}{a:AC}{y v:V}{u r:AT}{o:Option V}{A:Fr}{E:acb}
theorem Inv.big(I:Inv X TW σ H s):KM < ↑s:=by
 have h:GM < ↑s:=(I.mod.glob.keeps I.bk).lt;exact Nat.lt_trans () h
theorem Br{Q:acb}(hu:A.units+1 < cLine)(I:Inv X TW σ H s)(g:ij H a y (some v))(ry:RelV y u)(h:∀ w' s',Inv X TW σ H s'->RelV v w'->Q w' s') :
  EQ (model X.prog X.w) A (getItem (.ref a) u) Q E s:=by
 rcases g with ⟨kvs,k,e,ey,l⟩ | ⟨kvs,k,b,e,ey,eb,l⟩
 .subst ey;let(z,hd,vs,rel,dd):=sV I.bM e;let(w',hw,rw'):=kO.some_of (v:=v) (o:=valueAt vs k) (by rw[l];exact rel.val k);exact wpAny_getItem_of (rX ry) dd.mapOf hw (h w' _ (I.tok _) rw')
 .subst ey;cases (show u=AT.ref b from ry);let(z,hd,xs,rel,dd):=wm I.bM e;let(w',hw,rw'):=kO.some_of (v:=v) (o:=(atKey xs k).map (·.2)) (by rw[l];exact rel.val k);let(p,hp,hp2):=aaI.mp hw;show wpAny_getItem_heap (tupleKind_room_in1 hu) (qu I.bM eb) dd hp ?_;rw[hp2];exact h w' _ (I.tok _) rw'
theorem XH{Q:acb}(hu:A.units+1 < cLine)(I:Inv X TW σ H s)(g:ij H a y o)(ry:RelV y u)(h:∀ s',Inv X TW σ H s'->Q (.bool o.isSome) s') :
  EQ (model X.prog X.w) A (Ix .In u (.ref a)) Q E s:=by
 rcases g with ⟨kvs,k,e,ey,l⟩ | ⟨kvs,k,b,e,ey,eb,l⟩
 .subst ey;let(z,hd,vs,rel,dd):=sV I.bM e;show wpAny_in_of (rX ry) hd dd.mapOf ?_;rw[<- (rel.val k).ig,<- l];exact h _ (I.tok _)
 .subst ey;cases (show u=AT.ref b from ry);let(z,hd,xs,rel,dd):=wm I.bM e;show wpAny_in_heap (tupleKind_room_in1 hu) (qu I.bM eb) hd dd ?_;have q:=(rel.val k).ig;rw[Option.isSome_map] at q;rw[<- q,<- l];exact h _ (I.tok _)
theorem HS{Q:acb}(hu:A.units+1 < cLine)(I:Inv X TW σ H s)(g:ij H a y o)(ry:RelV y u)(h:∀ s',Inv X TW σ H s'->Q (.bool (not o.isSome)) s') :
  EQ (model X.prog X.w) A (Ix .NotIn u (.ref a)) Q E s:=by
 rcases g with ⟨kvs,k,e,ey,l⟩ | ⟨kvs,k,b,e,ey,eb,l⟩
 .subst ey;let(z,hd,vs,rel,dd):=sV I.bM e;show wpAny_notIn_of (rX ry) hd dd.mapOf ?_;rw[<- (rel.val k).ig,<- l];exact h _ (I.tok _)
 .subst ey;cases (show u=AT.ref b from ry);let(z,hd,xs,rel,dd):=wm I.bM e;show wpAny_notIn_heap (tupleKind_room_in1 hu) (qu I.bM eb) hd dd ?_;have q:=(rel.val k).ig;rw[Option.isSome_map] at q;rw[<- q,<- l];exact h _ (I.tok _)
theorem pQ{h':Db}{t':Nat}{ob:HO}(I:Inv X TW σ H s)(mu:U6 (H a))(hs:Db.SameBut a s.heap h')(he:∃ q,h'.get? a=some q)(new:cO X.prog X.w (upd H a ob) h' a ob) :
  Inv X TW σ (upd H a ob) { s with heap:=h',toks:=t' } :=
 I.write (x:=a) (e:=a) mu (.inl U) (λb q hb z=>(hs.2 b hb).trans z) he new
theorem uU{P:Fa}{w:FB}{H':Hp}{h':Db}{kvs:!(Key×V)}{vs:!(Key×AT)}(z:kvs.length<=FS)(hd:(a == KM)=false)(rel:KV kvs vs)(dd:h'.DictOf (cu P w) a vs) :
  cO P w H' h' a (.dK kvs):=#[z,hd,vs,rel,dd]
theorem Cb{H':Hp}{Q:Unit->Cl->Prop}(hu:A.units+1 < cLine)(I:Inv X TW σ H s)(g:nY H a y v H')(ry:RelV y u)(rv:RelV v r)(h:∀ s',Inv X TW σ H' s'->Q Unit.unit s') :
  EQ (model X.prog X.w) A (setItem (.ref a) u r) Q E s:=by
 rcases g with ⟨kvs,k,e,ey,l,eH⟩ | ⟨kvs,k,b,e,ey,eb,l,eH⟩
 .subst ey eH;let(z,hd,vs,rel,dd):=xb I.bM e;have hz:vs.length<=FS:=by rw[<- rel.length];exact z
  have hl:(putK kvs k v).length<=FS:=by have:=fF kvs k v;cbv
  show wpAny_setItem_pairs (hsz:=hz) (rX ry) dd λh' dd' hs=>h _ ?_;have he:∃ q,h'.get? a=some q:=let #[q,_,_,hq,_]:=dd';#[q,hq];exact pQ I (by rw[e];exact True.intro) hs he (uU hl hd (rel.put k rv) dd')
 .subst ey eH;cases (show u=AT.ref b from ry);let(z,hd,xs,rel,dd):=Ri I.bM e;have hz:xs.length<=FS:=by rw[<- Paired.length rel];exact z
  have hl:(putK kvs k v).length<=FS:=by have:=fF kvs k v;cbv
  show wpAny_setItem_heap (hsz:=hz) (tupleKind_room_in1 hu) (qu I.bM eb) dd λh' dd' hs=>h _ ?_;let(q,es,ep,hq,h2,h3,h4,_,h5):=dd';show pQ I (by rw[e];exact True.intro) hs #[q,hq] #[hl,hd,_,(rel.put k eb rv).keeps λc ys ec=>?_,q,es,ep,hq,h2,h3,h4,h5];rw[aA (Jt ec e (λz=>nomatch z))];exact ec
end
section
variable{X:Cx}{TW:acd}{σ:St}{H:Hp}{s:Cl}{a:AC}{kvs:!(Key×V)}{k:Key}{u:AT}{A:Fr}{E:acb}
theorem Om{Q:acb}(I:Inv X TW σ H s)(e:Rd H a (.dK kvs))(h:∀ t s',Inv X TW σ H s'->Q (.int kvs.length t) s'):EQ (model X.prog X.w) A (call (.builtin "len") [.ref a]) Q E s:=by
 let(z,hd,vs,rel,dd):=sV I.bM e;show call_len_dict hd dd (by rw[<- rel.length];rw[sizeLine_eq] at z;cbv) ?_;rw[<- rel.length];exact h _ _ (I.tok _)
end
def Rb(i:Ch):Prop:=∀ ov iv,subscripted i false ov iv=operate [ov,iv] (getItem ov iv)
theorem HM{prog:Fa}{w:FB}{A:Fr}{E:acb}{s:Cl}{env:Env}{value slice:Ch}{pos:Pos}{T id:String}{Q:acb}(hl:typeLookup (.type T) "__getitem__"=pure (some (.builtin id)))(hs:Rb slice)(h:EQ (model prog w) A (eval value env) (λo s₁=>EQ (model prog w) A (eval slice env) (λi s₂=>s₂.TypeIs o T/\EQ (model prog w) A (getItem o i) Q E s₂) E s₁) E s) :
  EQ (model prog w) A (eval (.Subscript value slice pos) env) Q E s:=by
 show Subscript_ (KF h (λo s₁ h₁=>KF h₁ (λi s₂ h₂=>?_) λ_ _ x=>x) λ_ _ x=>x);let(hT,h₂):=h₂;unfold subscriptTail;show Da ?_;rw[getitemInPython_of_ne hT.not_modules];show Da (wpAny_specialOf hT hl ?_);have fin:EQ (model prog w) A (subscripted slice false o i) (λr s₃=>EQ (model prog w) A (letTemporaryGo value o r >>= λ_=>pure r) Q E s₃) E s₂:=by
  rw[hs o i];exact wpAny_operating (KF h₂ (λr s₃ h₃=>Da (wpAny_letTemporaryGo (GE h₃))) λ_ _ x=>x)
 first
  | exact GE (Da fin)
  | exact Da (GE (Da fin))
  | exact Da fin
theorem wQ{X:Cx}{TW:acd}{σ:St}{H:Hp}{s:Cl}{a:AC}{y:V}{o:Option V}(I:Inv X TW σ H s)(g:ij H a y o):s.TypeIs (.ref a) "dict":=by
 rcases g with ⟨kvs,k,e,_,_⟩ | ⟨kvs,k,b,e,_,_,_⟩
 .let(_,_,vs,_,dd):=sV I.bM e;exact dd.typeIs
 .let(_,_,xs,_,dd):=wm I.bM e;exact dd.typeIs
def k9(td ty:TE):TE:=λσ H Q=>td σ H λx H1=>ty σ H1 λy H2=>∃ a v,x=.ref a/\ij H2 a y (some v)/\Q v H2
def PX(ty td:TE):TE:=λσ H Q=>ty σ H λy H1=>td σ H1 λx H2=>∃ a o,x=.ref a/\ij H2 a y o/\Q (.bl o.isSome) H2
def Bh(ty td:TE):TE:=λσ H Q=>ty σ H λy H1=>td σ H1 λx H2=>∃ a o,x=.ref a/\ij H2 a y o/\Q (.bl (not o.isSome)) H2
def sI(td ty tv:TE):TS:=λD σ H=>tv σ H λv H1=>td σ H1 λx H2=>ty σ H2 λy H3=>∃ a H4,x=.ref a/\nY H3 a y v H4/\D.nx σ H4
section
variable{X:Cx}{o i e value:Ch}{pos pos' mS:Pos}{td ty tv:TE}
theorem aX(hu:X.A.units+1 < cLine)(ho:PE X o td)(hi:PE X i ty)(hs:Rb i):PE X (.Subscript o i pos) (k9 td ty):=by
 intro TW s σ H Q I h;show HM PySem.F.slot_dict_getitem.lookup hs (cb (ho TW s σ H _ I h) λu s1 zz=>el2 zz λx H1 I1 rx q1=>cb (hi TW s1 σ H1 _ I1 q1) λiv s2 z4q=>?_);let(y,H2,I2,ry,a,v,ex,g,q2):=z4q;subst ex;obtain rfl:u=AT.ref a:=rx;exact#[wQ I2 g,Br hu I2 g ry λw' s3 I3 rw'=>#[v,H2,I3,rw',q2]]
theorem Fu(hu:X.A.units+1 < cLine)(hi:PE X i ty)(ho:PE X o td):PC X .In i o (PX ty td):=by
 intro TW s σ H Q I h;show cb (hi TW s σ H _ I h) λiv s1 zz=>el2 zz λy H1 I1 ry q1=>cb (ho TW s1 σ H1 _ I1 q1) λu s2 z5q=>?_;let(x,H2,I2,rx,a,ov,ex,g,q2):=z5q;subst ex;obtain rfl:u=AT.ref a:=rx;exact XH hu I2 g ry λs3 I3=>#[.bl ov.isSome,H2,I3,U,q2]
theorem BN(hu:X.A.units+1 < cLine)(hi:PE X i ty)(ho:PE X o td):PC X .NotIn i o (Bh ty td):=by
 intro TW s σ H Q I h;show cb (hi TW s σ H _ I h) λiv s1 zz=>el2 zz λy H1 I1 ry q1=>cb (ho TW s1 σ H1 _ I1 q1) λu s2 #[x,H2,I2,rx,a,ov,ex,g,q2]=>?_;subst ex;obtain rfl:u=AT.ref a:=rx;exact HS hu I2 g ry λs3 I3=>#[.bl (not ov.isSome),H2,I3,U,q2]
theorem eh(hu:X.A.units+1 < cLine)(ho:PE X o td)(hi:PE X i ty)(hv:PE X value tv)(hs:swapsWith value (some (.Subscript o i pos')) pos.line X.env=pure false) :
  PS X (.Assign [.Subscript o i pos'] value pos) (sI td ty tv):=by
 intro TW s σ H D I h;show wpAny_Assign_Subscript (cb (hv TW s σ H _ I h) λr s1 zz=>el2 zz λv H1 I1 rv q1=>cb (ho TW s1 σ H1 _ I1 q1) λu s2 zz=>el2 zz λx H2 I2 rx q2=>cb (hi TW s2 σ H2 _ I2 q2) λiv s3 #[y,H3,I3,ry,a,H4,ex,g,q3]=>?_) hs;subst ex;obtain rfl:u=AT.ref a:=rx;exact Cb hu I3 g ry rv λs4 I4=>#[σ,H4,I4,q3]
end
theorem rj{P:Fa}{w:FB}{H:Hp}(h:Db)(hb:KM < h.objs.size):cO P w H (h.push { cls:=.type "dict",data:=.dict #v[] }) h.objs.size (.dK []) :=
 #[aax _,beq_eq_false_iff_ne.mpr (Ne.symm (aaD hb)),[],.nil,Db.DictOf.new h]
theorem Fw{P:Fa}{w:FB}{H:Hp}(h:Db)(hb:KM < h.objs.size):cO P w H (h.push { cls:=.type "dict",data:=.dict #v[] }) h.objs.size (.dT []) :=
 #[aax _,beq_eq_false_iff_ne.mpr (Ne.symm (aaD hb)),[],.nil,_,#v[],0,aat _ U,#[U,U,U],U,U,abc]
def MG:TE:=λ_ H Q=>∀ p,H p=none->Q (.ref p) (upd H p (.dK []))
def LO:TE:=λ_ H Q=>∀ p,H p=none->Q (.ref p) (upd H p (.dT []))
section
variable{X:Cx}{pos:Pos}
theorem DY:PE X (.Dict [] [] pos) MG:=λTW s σ H Q I h =>
 wpAny_Dict_empty #[.ref ↑s,_,I.laid (a:=↑s) (o:=.dK []) (t':=s.toks) (λ_ _ q=>aae _ q) (aah _) (rj s.heap I.big),U,h _ (I.bM.fresh (aah _))]
theorem Cz:PE X (.Dict [] [] pos) LO:=λTW s σ H Q I h =>
 wpAny_Dict_empty #[.ref ↑s,_,I.laid (a:=↑s) (o:=.dT []) (t':=s.toks) (λ_ _ q=>aae _ q) (aah _) (Fw s.heap I.big),U,h _ (I.bM.fresh (aah _))]
end
def ql:!(TE×TE)->St->Hp->(!(V×V)->Hp->Prop)->Prop
 | [],_,H,Q=>Q [] H
 | (tk,tv)::r,σ,H,Q=>tk σ H λx H1=>tv σ H1 λy H2=>ql r σ H2 λps H3=>Q ((x,y)::ps) H3
abbrev VV:!(V×V)->!(AT×AT)->Prop:=Paired λp q=>RelV p.1 q.1/\RelV p.2 q.2
def RV(X:Cx)(pos:Pos)(keys:!(Option Ch))(values:!Ch)(Gz:!(TE×TE)):Prop :=
 ∀ (TW:acd) (s:Cl) (σ:St) (H:Hp) (Q:!(V×V)->Hp->Prop),Inv X TW σ H s->ql Gz σ H Q ->
  EQ (model X.prog X.w) X.A (evalPairs (pairTrees keys values X.env pos)) (λvs s'=>∃ ps H',Inv X TW σ H' s'/\VV ps vs/\Q ps H') X.xe s
theorem AH{X:Cx}{pos:Pos}:RV X pos [] [] []:=λTW s σ H Q I h=>pairTrees_nil_walk #[[],H,I,.nil,h]
theorem mJ{X:Cx}{pos:Pos}{k v:Ch}{ks:!(Option Ch)}{vs:!Ch}{tk tv:TE}{Gz:!(TE×TE)}(hk:PE X k tk)(hv:PE X v tv)(hr:RV X pos ks vs Gz) :
  RV X pos (some k::ks) (v::vs) ((tk,tv)::Gz):=λTW s σ H Q I h =>
 pairTrees_cons_walk (cb (hk TW s σ H _ I h) λu s1 zz=>el2 zz λx H1 I1 rx q1=>cb (hv TW s1 σ H1 _ I1 q1) λw2 s2 zz=>el2 zz λy H2 I2 ry q2 =>
  cb (hr TW s2 σ H2 _ I2 q2) λws s3 zz=>el2 zz λps H3 I3 rel q3=>#[(x,y)::ps,H3,I3,.cons #[rx,ry] rel,q3])
def hV(kvs more:!(Key×V)):!(Key×V):=more.foldl (λacc kv=>putK acc kv.1 kv.2) kvs
theorem KV.merge:∀ {more:!(Key×V)} {rs:!(Key×AT)} {kvs:!(Key×V)} {vs:!(Key×AT)},KV more rs->KV kvs vs->KV (hV kvs more) (merged vs rs):=by
 intro more rs kvs vs r;unfold KV at r
 induction r generalizing kvs vs with
 | nil=>intro q;exact q
 | @cons p q ps qs h t ih =>
  intro r0;have e:KV (putK kvs p.1 p.2) (stored vs q.1 q.2):=by
   have:=r0.put p.1 h.2;rw[<- h.1];exact this
  exact ih e
theorem la:∀ (more kvs:!(Key×V)),(hV kvs more).length<=kvs.length+more.length
 | [],kvs=>by change kvs.length<=kvs.length+0;cbv
 | p::r,kvs=>by
  have h1:=la r (putK kvs p.1 p.2);have h2:=fF kvs p.1 p.2;change (hV (putK kvs p.1 p.2) r).length<=_;rw[aam];cbv
theorem p9{P:Fa}{w:FB}:∀ {kvs:!(Key×V)} {ws:!(AT×AT)},VV (kvs.map λkv=>(kV kv.1,kv.2)) ws->∃ rs,Carries (cu P w) ws rs/\KV kvs rs
 | [],_,r=>by rw[aaQ] at r;cases r;exact#[[],True.intro,.nil]
 | p::kvs,_,r=>by
  rw[aao] at r;cases r with
  | @cons a b as bs h t =>
   let(rs,c,q):=p9 (P:=P) (w:=w) t;let(b1,b2):=b;exact#[(p.1,b2)::rs,#[rX h.1,U,c],.cons #[U,h.2] q]
def IQ(Gz:!(TE×TE)):TE:=λσ H Q=>∀ p,H p=none->ql Gz σ (upd H p (.dK [])) λps H2=>H2 p=some (.dK [])/\∃ kvs:!(Key×V),ps=kvs.map (λkv=>(kV kv.1,kv.2))/\kvs.length<=15/\Q (.ref p) (upd H2 p (.dK (hV [] kvs)))
theorem Ai{X:Cx}{pos:Pos}{keys:!(Option Ch)}{values:!Ch}{Gz:!(TE×TE)}(h:RV X pos keys values Gz)(iZ:keys.all (·.isSome)=true)(hl:keys.length=values.length)(h0:keys≠[])(NJ:keys.length<=15):PE X (.Dict keys values pos) (IQ Gz):=by
 intro TW s σ H Q I q;have hn:=I.bM.fresh (aah ↑s);have I1:=I.laid (a:=↑s) (o:=.dK []) (h':=s.heap.push { cls:=.type "dict",data:=.dict #v[] }) (t':=s.toks) (λ_ _ q=>aae _ q) (aah _) (rj s.heap I.big);show wpAny_Dict_walk (knd:=cu X.prog X.w) iZ hl h0 NJ (cb (h TW _ σ _ _ I1 (q _ hn)) λws s2 z6q=>?_);let(ps,H2,I2,rel,e,kvs,ep,lk,q2):=z6q;subst ep;let(rs,c,rk):=p9 (P:=X.prog) (w:=X.w) rel;let(z,hd,vs0,r0,dd):=xb I2.bM e;cases r0;show#[rs,c,dd,λh' dd' hs=>#[.ref ↑s,_,?_,U,q2]];have hz:(hV [] kvs).length<=FS:=by
  have h1:=la kvs [];rw[List.length_nil] at h1;rw[sizeLine_eq];cbv
 have he:∃ q,h'.get? ↑s=some q:=let #[q,_,_,hq,_]:=dd';#[q,hq];exact pQ I2 (by rw[e];exact True.intro) hs he (uU hz hd (rk.merge .nil) dd')
section
variable{X:Cx}{TW:acd}{σ:St}{H:Hp}{s:Cl}{a:AC}{y d:V}{u r:AT}{o:Option V}{A:Fr}{E:acb}
end
section
variable{X:Cx}{o e f:Ch}{apos cH:Pos}{td ty tx:TE}
end
section
variable{X:Cx}{TW:acd}{σ:St}{H:Hp}{s:Cl}{a:AC}{kvs:!(Key×V)}{A:Fr}{E:acb}
end
section
variable{X:Cx}{TW:acd}{σ:St}{H:Hp}{s:Cl}{a:AC}{y:V}{u:AT}{A:Fr}{E:acb}
end
end L2
namespace YR
open PySem PySem.W PySem.Calls PyProof.Rows
theorem pG{P:TD}{h:Db}:∀ (ns:!Int) (vs:!AT),WellAll P h vs (ns.map WData.int)->IntsAre vs ns:=by
 intro ns
 induction ns with
 | nil =>
  intro vs w;rw[aaQ] at w;cases w;exact .nil
 | cons n ns ih =>
  intro vs w;rw[aao] at w;cases w with
  | cons a b =>
   cases a;exact .cons _ _ (ih _ b)
theorem BX{l:OpenLaw}{n:Nat}(hn:l.most=some n){P:TD}{h:Db}{args:!WData}{vals:!AT}(BK:l.row.toRowW.claim.pre args=true)(p8:WellAll P h vals args) :
  ∃ a vs ns,vals=[AT.ref a]/\args=[WData.list (ns.map WData.int)]/\h.get? a=some { cls:=.type "list",data:=.seq vs.toArray }/\IntsAre vs ns/\ns.length<=n:=by
 have hsh:WShape.hasAll [] args [.list .int]=true:=(pre_splitW BK).1;have hc:l.pre.holds [] { args:=args }=true:=(pre_splitW BK).2;let(d,r,rfl,h1,h2):=hasAllW_cons hsh;obtain rfl:=hasAllW_nil h2;let(xs,rfl,h3):=hasW_list h1;let(ns,rfl):=items_int h3;have hlen:ns.length<=n:=by
  unfold OpenLaw.pre at hc;have h4:(WTm.not (.lt (.lit (.int (n:Int))) (.len (.arg 0)))).holds [] { args:=[.list (ns.map .int)] }=true:=by
   have h4:=(holds_andW hc).1;rw[hn] at h4;exact h4
  have h5:=condW_of h4 (w_not (w_lt w_lit (w_len_list (w_arg U))));rw[aaa] at h5;show Nat.le_of_not_lt λq=>?_;have q':(n:Int) < ((ns.length:Nat):Int):=by cbv
  first
   | (rw[decide_eq_true q'] at h5;exact absurd h5 ())
   | (simp at h5;cbv)
 cases p8 with
 | cons w1 w2 =>
  cases w2;cases w1 with
  | list ho iZ=>exact#[_,_,ns,U,U,ho,pG ns _ iZ,hlen]
theorem B6(l:OpenLaw)(args:!WData):l.row.toRowW.claim.post args (.bool true) args=true :=
 postW_of (r:=l.row.toRowW) (X:=(true == true))
  (show WShape.has [] (.bool true) .bool=true by first | rfl | decide | simp[WShape.has,WShape.arms,WShape.armsAll])
  (show (WTm.eq .res (.lit (.bool true))).value [] { args:=args,res:=some (.bool true),after:=args }=some (.bool (true == true)) from w_eq_bool (w_res U) w_lit) U
theorem xq{l:OpenLaw}{n:Nat}{q:Fa}{loose:!Str}{XP:(Str->Option AT)->Db->Prop}{YP:FB->Db->Prop}{d:DefRec}(hn:l.most=some n)(Ku:d.params.defaults=[])(call:∀ (w:FB) (s₀ s₁:Cl) (mg mb:Str->Option AT) (fa:AC) (o:Obj) (pm cd doc:AT) (a:AC) (vs:!AT) (ns:!Int),
   Ground q loose [] XP w s₀ mg mb s₁.heap->YP w s₁.heap ->
   s₁.heap.get? fa=some o->o.data=.func (docDef d.name d.params d.body d.scope pm cd doc)->s₁.heap.CodeRec cd d.name->mg d.name=some (.ref fa) ->
   s₁.heap.get? a=some { cls:=.type "list",data:=.seq vs.toArray }->IntsAre vs ns->ns.length<=n->s₁.gens=#v[] ->
   codeAny (model l.prog w) callerA (.call (.ref fa) #[[.ref a],[]]) (λr s'=>r=.ok (.ret (.bool true))/\OldK s₁.heap s'.heap/\s'.os=s₁.os/\AllBare s'.gens) s₁) :
  WalkO q loose XP YP l.row.toRowW d [] (λf vs=>PySem.call f vs):=by
 intro w s₀ s₁ mg mb G Y fa o pm cd doc dV kV ho hd uN hD hmg hg args vals as BK hlay hrd p8 hlo;obtain rfl:dV=.none:=Dflts.none hD Ku;obtain rfl:kV=.none:=Dflts.noKw hD;let(a,vs,ns,rfl,rfl,hobj,hints,hlen):=BX hn BK p8;show enter_call (codeAny_mono (call w s₀ s₁ mg mb fa o pm cd doc a vs ns G Y ho (fd_plain hd) uN hmg hobj hints hlen hg) λr s' hq=>?_);let(rfl,h2,h3,h4):=hq;exact#[.inl #[.bool true,.bool true,[],U,λ_=>rfl,.bool true,B6 l _,λ_=>#[List.Pairwise.nil,λ_ hm=>(nomatch hm)]],h2,h3,h4]
section
variable{prog:Fa}{w:FB}{A:Fr}{E:acb}{s:Cl}{K:Frag}
end
end YR
namespace L2
open PySem PySem.Spec PyProof.Rows
theorem uh:∀ {vs:!AT} {ns:!Int},IntsAre vs ns->Vals (ns.map V.int) vs
 | _,_,.nil=>.nil
 | _,_,.cons n t h=>.cons #[t,U] (uh h)
def K6(H:Hp):Prop:=∀ b,H b=none\/∃ o xs,H b=some (.fO o (.lst xs))
theorem Cy{P:Fa}{w:FB}{K:Frag}{mg mb:Str->Option AT}{CX:ya}{k:Nat}{fa a:AC}{fd:Go}{x:Str}{sp:Sp}{s₁:Cl}{vs:!AT}{ns:!Int}(KX:K.In s₁.heap)(wF:s₁.heap.Ns GM mg)(hb:s₁.heap.Ns builtinsNs mb)(hbb:∀ x:Str,x≠"__name__"->mb x=bootBuiltins x)(We:s₁.heap.NoLimit)(hg:s₁.gens=#v[])(ha:s₁.heap.get? a=some { cls:=.type "list",data:=.seq vs.toArray })(hi:IntsAre vs ns)(hl:ns.length<=FS)(hr:b4 k callerA)(F:∀ base:Db,K.In base->base.Ns GM mg->bZ P w K mg base CX k fa fd [x] sp)(PN:∀ (s:Cl) (u:AT),BindsTo s fd #[[u],[]] [(x,u)])(Jp:∀ H:Hp,K6 H->dN K H a (ns.map V.int)->sp [.ref a] H (λv _=>v=.bl true) λ_ _ _=>False)(WC:∀ H e s',CX [] H s₁ (λ_ _ _=>False) e s'->False) :
  codeAny (model P w) callerA (.call (.ref fa) #[[.ref a],[]]) (λr s'=>r=.ok (.ret (.bool true))/\OldK s₁.heap s'.heap/\s'.os=s₁.os/\AllBare s'.gens) s₁:=by
 have rv:=uh hi;have lenV:=hi.length
 -- from an abstract heap in which nothing but the script may be tracked
 have core:∀ H:Hp,K6 H->dN K H a (ns.map V.int)->lO P w H s₁.heap->(∀ b,H b≠none->b=a)->(H a≠none->K.lookup a=none) ->
   codeAny (model P w) callerA (.call (.ref fa) #[[.ref a],[]]) (λr s'=>r=.ok (.ret (.bool true))/\OldK s₁.heap s'.heap/\s'.os=s₁.os/\AllBare s'.gens) s₁:=by
  intro H hO hS bM hA hK;have base_of:∀ {b:AC} {o:Obj},s₁.heap.get? b=some o->H b=none->(uE s₁.heap H).get? b=some o:=λe n=>DH e n;have noA:∀ {b:AC} {o:Obj} {es:Array SL} {ep:Nat},s₁.heap.get? b=some o->o.data=.dict es ep->H b=none:=λ{b o es ep} e d=>by
   cases q:H b with
   | none=>rfl
   | some u =>
    have e':b=a:=hA b (by rw[q];simp);subst e';rw[ha] at e;cases e;have d':Data.seq vs.toArray _=Data.dict es ep:=d;cases d'
  have nsK:∀ {b:AC} {m:Str->Option AT},s₁.heap.Ns b m->(uE s₁.heap H).Ns b m:=λ{b m} #[o,es,ep,e,d,r]=>#[o,es,ep,base_of e (noA e d),d,r];have hKb:K.In (uE s₁.heap H):=λb o e=>base_of (KX b o e) (by
   cases q:H b with
   | none=>rfl
   | some u =>
    have e':b=a:=hA b (by rw[q];simp);subst e';rw[hK (by rw[q];simp)] at e;cases e)
  have hM:Mod K mg (uE s₁.heap H):=#[hKb,nsK wF,#[mb,nsK hb,hbb],let #[mc,h1,h2]:=We;#[mc,nsK h1,h2]];have e0:yK P w K mg (uE s₁.heap H) callerA [] s₁ H:=#[U,hM,λb o e=>Gj e,Nat.le_of_eq (BC _ _),trivial,λb hb=>absurd (show b∈([]:!AC) from hb) (by simp),bM,.of_eq hg];show codeAny_mono ((F _ hKb (nsK wF)).run callerA [] s₁ H #[[.ref a],[]] [.ref a] [.ref a] _ _ hr e0 (PN s₁ (.ref a)) (.cons U .nil) (Jp H hO hS)) λr s' h=>?_;cases r with
  | error e=>exact (WC H e s' h).elim
  | ok fl =>
   cases fl with
   | next=>exact False.elim h
   | brk=>exact False.elim h
   | cont=>exact False.elim h
   | ret u =>
    let(v,H',os,bare,un,hok',r',q):=h;have q':v=.bl true:=q;subst q';obtain rfl:u=AT.bool true:=r';show#[U,OldK.of_keep λb o e=>?_,os,bare];cases q:H b with
    | none=>exact un.keep b o e q (by intro z;exact absurd (show b∈([]:!AC) from z) (by simp)) (by simp)
    | some u =>
     rcases hO b with z | ⟨ob,xs,z⟩
     .rw[q] at z;cases z
     .have z2:=un.vI b ob _ z;let(e1,_):=bM b _ z;let(e2,_):=hok' b _ z2;rw[e] at e1;cases e1;exact e2
 cases hk:K.lookup a with
 | some o =>
  -- the script is one of the module's own objects
  have e:=KX a o hk;rw[ha] at e;cases e;show core (λ_=>none) (λ_=>.inl U) (.inr #[_,vs.toArray,_,hk,U,U,U,by rw[List.size_toArray,lenV];exact hl,by simpa using rv]) (λb u z=>by have z':(none:Option HO)=some u:=z;cases z') (λb z=>absurd U z) λz=>absurd U z
 | none =>
  show core (λb=>if b=a then some (.fO { cls:=.type "list",data:=.seq vs.toArray } (.lst (ns.map V.int))) else none) (λb=>?_) (.inl (.inr #[{ cls:=.type "list",data:=.seq vs.toArray },if_pos U])) (λb u z=>?_) (λb z=>?_) λ_=>hk
  .by_cases hb:b=a
   .exact .inr #[_,_,if_pos hb]
   .exact .inl (if_neg hb)
  .by_cases hb:b=a
   .have z':=(if_pos hb).symm.trans z;cases z';subst hb;exact#[ha,by rw[aaa];exact hl,vs,_,rv,ha]
   .have z':=(if_neg hb).symm.trans z;cases z'
  .by_cases hb:b=a
   .exact hb
   .exact absurd (if_neg hb) z
theorem Hg{l:PySem.W.OpenLaw}{n k:Nat}{q:Fa}{loose:!Str}{XP:(Str->Option AT)->Db->Prop}{YP:FB->Db->Prop}{d:DefRec}{K:TD->Frag}{CX:FB->ya}{sp:FB->Sp}{x:Str}(hn:l.most=some n)(JQ:n<=FS)(Ku:d.params.defaults=[])(hr:b4 k callerA)(hY:∀ (w:FB) (h:Db),YP w h->(K w.params).In h)(F:∀ (w:FB) (mg:Str->Option AT) (fa:AC) (h:Db),(K w.params).In h->h.Ns GM mg->mg d.name=some (.ref fa) ->
   ∃ fd:Go,(∀ (s:Cl) (u:AT),BindsTo s fd #[[u],[]] [(x,u)]) /\
    ∀ base:Db,(K w.params).In base->base.Ns GM mg->bZ l.prog w (K w.params) mg base (CX w) k fa fd [x] (sp w))(Jp:∀ (w:FB) (H:Hp) (a:AC) (ns:!Int),ns.length<=n->K6 H->dN (K w.params) H a (ns.map V.int)->sp w [.ref a] H (λv _=>v=.bl true) λ_ _ _=>False)(WC:∀ (w:FB) (H:Hp) (s:Cl) (e:AT) (s':Cl),CX w [] H s (λ_ _ _=>False) e s'->False) :
  PySem.W.WalkO q loose XP YP l.row.toRowW d [] (λf vs=>PySem.call f vs):=by
 show YR.xq hn Ku λw s₀ s₁ mg mb fa o pm cd doc a vs ns G Y ho hd uN hmg hobj hints hlen hg=>?_;have KX:=hY w _ Y;let(fd,hb,hF):=F w mg fa _ KX G.T.g hmg;exact Cy KX G.T.g G.T.b G.T.builtins G.T.nolimit hg hobj hints (aap hlen JQ) hr hF hb (λH hO hS=>Jp w H a ns hlen hO hS) λH e s'=>WC w H s₁ e s'
def inClass(s:Ev)(j:Nat):Ev:=match s with
 | .ClassDef _ _ _ body _ _ _ _ _ _ _=>body.getD j (.Pass #[0,0,0,0])
 | _=>.Pass #[0,0,0,0]
def bF(s:Ev):Arguments:=match s with
 | .FunctionDef _ a _ _ _ _ _ _ _ _=>a
 | _=>{ posonlyargs:=[],args:=[],vararg:=none,kwonlyargs:=[],kw_defaults:=[],kwarg:=none,defaults:=[] }
def aL(s:Ev):!Ev:=match s with
 | .FunctionDef _ _ b _ _ _ _ _ _ _=>b
 | _=>[]
def ai(s:Ev):Scope:=match s with
 | .FunctionDef _ _ _ _ _ _ sc _ _ _=>sc
 | _=>{ kind:=.function,names:=[],isGenerator:=false,isCoroutine:=false }
abbrev aP:ya:=λ_ _ _ _ _ _=>False
abbrev E0:XK:=λ_ _ _=>False
theorem iA{X:Cx}:Passes aP X E0:=λ_ _ _ _ _ _ _ h=>h.elim
structure tH(K:Frag)(x qual:Str)(st:Ev)(f:AC)(fd:Go):Prop where
 ex:∃ (oc:AT) (od:Option AC) (kV doc pm:AT) (an:Option AC) (a8 ct:AT) (F8:Array (Option AT)),
  fd=fnOf x qual (bF st) (aL st) (ai st) .none kV doc pm an a8 ct/\K.lookup f=some #[oc,od,.func fd,F8]/\codeIn K a8 qual=true
 kp:keepIn K (.ref f)=true
section
variable{P:Fa}{w:FB}{K:Frag}{mg:Str->Option AT}{base:Db}
theorem tH.ok{x qual:Str}{st:Ev}{f:AC}{fd:Go}{N ps:!Str}{k:Nat}{sp:Sp}(F:tH K x qual st f fd)(S:ax N ps (ai st))(len:∀ vs H Q E,sp vs H Q E->vs.length=ps.length)(DJ:∀ (a8:AT) (A:Fr) (outer:!Env) (s:Cl) (H:Hp) (vs:!V) (Q:VK) (E:XK),b4 k (A.deeper (envOfC qual (ai st) ↑s f a8))->sp vs H Q E ->
   ∃ t,pY (jr aP P w K mg base N qual (ai st) f a8 A outer s H E).wo (aL st) t/\t { nx:=λ_ H'=>Q .bx H',rt:=Q } (start N vs) H):bZ P w K mg base aP (k+1) f fd ps sp:=by
 let(oc,od,kV,doc,pm,an,a8,ct,F8,rfl,lk,uN):=F.ex;show Tc lk uN S len λA outer s H vs Q E hr Jp=>?_;let(t,h,q):=DJ a8 A outer s H vs Q E hr Jp;exact#[t,h.wo,q]
theorem tH.binds{x qual:Str}{st:Ev}{f:AC}{fd:Go}{ps:!Str}(F:tH K x qual st f fd)(h:∀ (kV doc pm:AT) (an:Option AC) (a8 ct:AT) (us:!AT),us.length=ps.length->bindArgs (fnOf x qual (bF st) (aL st) (ai st) .none kV doc pm an a8 ct) #[us,[]]=pure (ps.zip us)):Binds K fd ps []:=by
 let(oc,od,kV,doc,pm,an,a8,ct,F8,rfl,lk,uN):=F.ex;exact .all (h kV doc pm an a8 ct)
theorem cw{x qual:Str}{st:Ev}{f:AC}{oc:AT}{od an:Option AC}{F8:Array (Option AT)}{kV doc pm a8 ct:AT}(l:K.lookup f=some #[oc,od,.func (fnOf x qual (bF st) (aL st) (ai st) .none kV doc pm an a8 ct),F8])(c:codeIn K a8 qual=true)(k:keepIn K (.ref f)=true):tH K x qual st f (fnOf x qual (bF st) (aL st) (ai st) .none kV doc pm an a8 ct):=#[#[oc,od,kV,doc,pm,an,a8,ct,F8,U,l,c],k]
end
theorem bG{A:Fr}{k:Nat}(hr:b4 k A):A.units+1 < cLine:=Nat.lt_of_le_of_lt (Nat.add_le_add_left (by decide:1<=64) _) hr.units
section
variable{X:Cx}
theorem pv(i:Nat){x:Str}{pos:Pos}(hN:(X.N[i]?=some x)⁻¹)(hv:NF X.env.scope x:=by first | exact Or.inl U | exact Or.inr (Or.inl U) | exact Or.inr (Or.inr U))(hd: ~~~(ach x))(uN: ~~~((x == ("__classdict__":Str))=false)):PE X (.Name x pos) (b8 i):=zw hN hv hd uN
end
theorem va{A B:Prop}(h:B):if false=true then A else B:=by
 rw[if_neg aau];exact h
theorem rM{A B:Prop}(h:A):if true=true then A else B:=by
 rw[if_pos U];exact h
theorem Mm{c A B:Prop}[Decidable c](h1:c->A)(h2:¬ c->B):if c then A else B:=by
 by_cases h:c
 .rw[if_pos h];exact h1 h
 .rw[if_neg h];exact h2 h
def fS(H H':Hp):Prop:=∀ b o,H b=some o->H' b=some o
theorem fS.trans{H H1 H2:Hp}(a:fS H H1)(b:fS H1 H2):fS H H2:=λc o h=>b c o (a c o h)
theorem fS.free{H H':Hp}(e:fS H H'){l:AC}(h:H' l=Option.none):H l=Option.none:=by
 cases q:H l with
 | none=>rfl
 | some o =>
  rw[e l o q] at h;cases h
theorem fS.seq{K:Frag}{H H':Hp}{a:AC}{xs:!V}(e:fS H H')(h:dN K H a xs):dN K H' a xs:=by
 rcases h with (h | ⟨o,h⟩) | h
 .exact .inl (.inl (e _ _ h))
 .exact .inl (.inr #[o,e _ _ h])
 .exact .inr h
section
variable{X:Cx}
theorem BA:fk X (.builtin "len") (λxs H Q=>∃ a kvs,xs=[V.ref a]/\H a=some (.dK kvs)/\Q (.int kvs.length) H):=by
 intro TW s σ H xs us Q I r h;let(a,kvs,rfl,ha,q):=h;let(u,rfl,ru):=vals1 r;cases ru;exact Om I (.inl ha) λt s' I'=>#[.int kvs.length,H,I',#[t,U],q]
end
section
variable{κ:Type}[DecidableEq κ]
theorem Hv{kvs:!(κ×V)}{k:κ}{v:V}(h:gG kvs k=some v):k∈kvs.map (·.1):=by
 have q:(kvs.any λkv=>decide (kv.1=k))=true:=by
  rw[lZ,h]
  all_goals rfl
 let(p,hp,e):=ab6.mp q;exact aak.mpr #[p,hp,of_decide_eq_true e]
end
def gF(env:Env):!(Str×IN)->!(Str×AC)->!(Str×AC)
 | [],acc=>acc
 | (n,k)::r,acc=>if k == .free then gF env r ((n,(env.cells.lookup n).getD 0)::acc) else gF env r acc
def nQ(env:Env)(x:Str×IN)(cs:!(Str×AC)):Sem (ForInStep (!(Str×AC))) :=
 if x.2 == .free then do
  let a <- cellOf env x.1
  pure (ForInStep.yield ((x.1,a)::cs))
 else pure (ForInStep.yield cs)
theorem oZ{env:Env}:∀ (l:!(Str×IN)) (acc:!(Str×AC)),(∀ x∈l,x.2=.free->(env.cells.lookup x.1).isSome=true) ->
  (forIn l acc (nQ env):Sem (!(Str×AC)))=pure (gF env l acc)
 | [],acc,_=>rfl
 | (n,k)::r,acc,h=>by
  have ih:=λacc'=>oZ (env:=env) r acc' λx hx=>h x (aac _ hx);rw[List.forIn_cons];by_cases hk:k=.free
  .subst hk;let(c,hc):=abg.mp (h (n,.free) aad U);have e:cellOf env n=pure c:=by
    unfold cellOf;rw[hc]
   have e2:nQ env (n,IN.free) acc=pure (ForInStep.yield ((n,c)::acc)):=by
    change (if (IN.free == IN.free)=true then (cellOf env n >>= λa=>pure (ForInStep.yield ((n,a)::acc))) else pure (ForInStep.yield acc))=_;rw[if_pos (),e]
    rfl
   have e3:gF env ((n,IN.free)::r) acc=gF env r ((n,c)::acc):=by
    change (if (IN.free == IN.free)=true then gF env r ((n,(env.cells.lookup n).getD 0)::acc) else gF env r acc)=_;rw[if_pos (),hc]
    rfl
   rw[e2,e3,<- ih]
   rfl
  .have hb:(k == IN.free)=false:=by simpa using hk
   have e2:nQ env (n,k) acc=pure (ForInStep.yield acc):=by
    change (if (k == IN.free)=true then (cellOf env n >>= λa=>pure (ForInStep.yield ((n,a)::acc))) else pure (ForInStep.yield acc))=_;rw[if_neg (by simp[hb])]
   have e3:gF env ((n,k)::r) acc=gF env r acc:=by
    change (if (k == IN.free)=true then gF env r ((n,(env.cells.lookup n).getD 0)::acc) else gF env r acc)=_;rw[if_neg (by simp[hb])]
   rw[e2,e3,<- ih]
   rfl
theorem k8{scope:Scope}{env:Env}(h:∀ x∈scope.names,x.2=.free->(env.cells.lookup x.1).isSome=true):closureFor scope env=pure (gF env scope.names []):=by
 rw[<- oZ scope.names [] h];unfold closureFor;have:(λ(x:Str×IN) (r:!(Str×AC))=>nQ env x r)=nQ env:=rfl
 first
  | (simp only[nQ];rfl)
  | (show (forIn scope.names [] _ >>= λr=>pure r)=_;rw[bind_pure];rfl)
  | rfl
theorem jY{env:Env}{x:Str}{c:AC}:∀ {l:!(Str×IN)} {acc:!(Str×AC)},(∀ y∈l,y.2=.free->(env.cells.lookup y.1).isSome=true) ->
  (gF env l acc).lookup x=some c->env.cells.lookup x=some c\/acc.lookup x=some c
 | [],acc,_,h=>.inr h
 | (n,k)::r,acc,hl,h=>by
  have hl':=λy hy=>hl y (aac _ hy);unfold gF at h;by_cases hk:k=.free
  .subst hk;rw[if_pos ()] at h;let(d,hd):=abg.mp (hl (n,.free) aad U);rw[hd] at h;rcases jY hl' h with q | q
   .exact .inl q
   .rw[abm] at q;cases e:x == n with
    | true =>
     rw[e] at q;have e':x=n:=eq_of_beq e;subst e';left;rw[hd];exact q
    | false =>
     rw[e] at q;exact .inr q
  .rw[if_neg (by simpa using hk)] at h;exact jY hl' h
theorem rP{env:Env}{x:Str}:∀ {l:!(Str×IN)} {acc:!(Str×AC)},(acc.lookup x).isSome=true->((gF env l acc).lookup x).isSome=true
 | [],acc,h=>h
 | (n,k)::r,acc,h=>by
  unfold gF;split
  .refine rP ?_;rw[abm];cases e:x == n with
   | true=>rfl
   | false=>exact h
  .exact rP h
theorem qU{env:Env}{x:Str}:∀ {l:!(Str×IN)} {acc:!(Str×AC)},(x,IN.free)∈l->((gF env l acc).lookup x).isSome=true
 | (n,k)::r,acc,h=>by
  unfold gF;rcases aaj.mp h with e | h'
  .cases e;rw[if_pos ()];exact rP (by rw[abm,beq_self_eq_true];rfl)
  .split<;>exact qU h'
def WQ(env:Env)(x:Str×IN):Str×IN:=if (x.2 == IN.free&&env.scope.kind == .function&&env.kindOf x.1 == some .cell)=true then (x.1,IN.cell) else (x.1,x.2)
theorem rZ{env:Env}{x:Str}{k:IN}:∀ {names:!(Str×IN)},(names.map (WQ env)).lookup x=some k->names.lookup x=some k\/(names.lookup x=some .free/\k=.cell)
 | [],h=>by simp at h
 | (n,k0)::r,h=>by
  have ih:=@rZ env x k r;rw[aao] at h;by_cases hc:(k0 == IN.free&&env.scope.kind == .function&&env.kindOf n == some .cell)=true
  .have e:WQ env (n,k0)=(n,IN.cell):=if_pos hc;rw[e,abm] at h;rw[abm];cases e:x == n with
   | true =>
    rw[e] at h;have hk:k0=.free:=by
     rw[aaT,aaT] at hc;exact eq_of_beq hc.1.1
    subst hk;right;exact#[U,(aaJ h).symm]
   | false =>
    rw[e] at h;exact ih h
  .have e:WQ env (n,k0)=(n,k0):=if_neg hc;rw[e,abm] at h;rw[abm];cases e:x == n with
   | true =>
    rw[e] at h;exact .inl h
   | false =>
    rw[e] at h;exact ih h
theorem gk{env:Env}{x:Str}{scope:Scope}{k:IN}(h:(relabel scope env).names.lookup x=some k) :
  scope.names.lookup x=some k\/(scope.names.lookup x=some .free/\k=.cell):=rZ (env:=env) h
section
variable{prog:Fa}{w:FB}{A:Fr}{R:Result->Cl->Prop}{s:Cl}
theorem vc{elt target iter:Ch}{ifs:!Ch}{scope:Scope}{pos:Pos}{it acc:AT}{env:Env}(I:Nat->Cl->Prop)(turn:∀ n s,I n s->EQ (model prog w) A (pyNext it) (λr s₁=>match r with
   | none=>R (.ok .next) s₁
   | some v=>EQ (model prog w) A (letOwnedTupleGo target it v) (λ_ s₁'=>EQ (model prog w) A (assign target env v) (λ_ s₂ =>
     EQ (model prog w) A (forIn ifs true λc r=>if r=true then do let ok <- isTrue c env (eval c env);pure (ForInStep.yield ok) else pure (ForInStep.yield r)) (λok s₃ =>
      if ok=true then EQ (model prog w) A (eval elt env) (λx s₄ =>
       EQ (model prog w) A (call (.builtin "list.append") [acc,x]) (λ_ s₅=>∃ m,m < n/\I m s₅) (notedBy (model prog w) A env λe s'=>R (.error e) s') s₄) (notedBy (model prog w) A env λe s'=>R (.error e) s') s₃
      else ∃ m,m < n/\I m s₃) (notedBy (model prog w) A env λe s'=>R (.error e) s') s₂) (notedBy (model prog w) A env λe s'=>R (.error e) s') s₁') (notedBy (model prog w) A env λe s'=>R (.error e) s') s₁)
   (notedBy (model prog w) A env λe s'=>R (.error e) s') s)(n:Nat)(h:I n s) :
  codeAny (model prog w) A (.compLoop (.ListComp elt [#[target,iter,ifs,0]] scope pos) 0 it acc env) R s:=by
 show codeAny_loop U I (λn s hI=>?_) n h;change EQ _ A ((compTurn (.ListComp elt [#[target,iter,ifs,0]] scope pos) 0 it acc env).onRaise (λx=>do noteFrame x env;theTreesLotGoes x)) _ _ s;show wpAny_noted ?_;rw[compTurn_list];show Da (wpAny_standAt (Da (KF (turn n s hI) (λr s₁ h₁=>?_) λ_ _ h'=>h')));cases r with
 | none=>exact GE h₁
 | some v =>
  show Da (KF h₁ (λ_ s₁' h₁'=>?_) λ_ _ h'=>h');show Da (KF h₁' (λ_ s₂ h₂=>Da (KF h₂ (λok s₃ h₃=>?_) λ_ _ h'=>h')) λ_ _ h'=>h');cases ok with
  | false=>exact GE #[U,h₃]
  | true =>
   exact Da (Da (KF h₃ (λx s₄ h₄=>Da (KF h₄ (λ_ s₅ h₅=>GE (GE #[U,h₅])) λ_ _ h'=>h')) λ_ _ h'=>h'))
end
def lift(nt:Nat)(us:!Nat)(σ:St):St:=List.replicate nt none++us.map λj=>(σ[j]?).join
def wG(ts:!Str)(us:!Nat)(N:!Str):!Str:=ts++us.map λj=>N.getD j ""
def Cx.comp(X:Cx)(ts:!Str)(us:!Nat)(scope:Scope)(C:AC)(s:Cl)(H:Hp)(fp:!AC):Cx :=
 { X with N:=wG ts us X.N,s₀:=s,H₀:=H,env:=compEnvC scope (gF X.env scope.names []) C X.env,outer:=X.stack,ex:=fp,fn:=λ_=>false,pn:=[],xe:=λ_ _=>False }
def Nz(X:Cx)(ifs:!Ch)(t:TT):Prop :=
 ∀ (TW:acd) (s:Cl) (σ:St) (H:Hp) (Q:Bool->Hp->Prop),Inv X TW σ H s->t σ H Q ->
  EQ (model X.prog X.w) X.A (forIn ifs true λc r=>if r=true then do let ok <- isTrue c X.env (eval c X.env);pure (ForInStep.yield ok) else pure (ForInStep.yield r)) (TP X TW σ Q) X.xe s
def Jl:TT:=λ_ H Q=>Q true H
theorem Ap{X:Cx}:Nz X [] Jl:=λ_ _ _ H _ I h=>wpAny_tests_nil #[H,I,h]
theorem AF{X:Cx}{c:Ch}{t:TT}(hc:PT X c t):Nz X [c] t:=λTW s σ H Q I h=>wpAny_tests_one (hc TW s σ H Q I h)
structure bQ(X:Cx)(ts:!Str)(us:!Nat)(scope:Scope):Prop where
 kind:scope.kind=.function
 K3:(scope.names.all λx=>x.2 != .cell)=true
 loc:(scope.names.all λx=>x.2 != .local||scope.names.lookup x.1 == some .local)=true
 free:(scope.names.all λx=>x.2 != .free||(X.env.cells.lookup x.1).isSome)=true
 JG:(ts.all λx=>scope.names.lookup x == some .local)=true
 Z0:(us.all λj=>match X.N[j]? with | some x=>scope.names.lookup x == some .free&&(X.env.kindOf x == some .cell||X.env.kindOf x == some .free) | none=>false)=true
section
variable{X:Cx}{ts:!Str}{us:!Nat}{scope:Scope}
theorem bQ.nc(S:bQ X ts us scope):∀ x∈scope.names,x.2≠.cell:=λx hx e=>by
 have q:=aa9.mp S.K3 x hx;rw[e] at q;exact absurd q ()
theorem bQ.lc(S:bQ X ts us scope):∀ x∈scope.names,x.2=.local->scope.names.lookup x.1=some .local:=λx hx e=>by
 have q:=aa9.mp S.loc x hx;rw[e] at q;have q':(scope.names.lookup x.1 == some .local)=true:=by simpa using q
 exact eq_of_beq q'
theorem bQ.fr(S:bQ X ts us scope):∀ x∈scope.names,x.2=.free->(X.env.cells.lookup x.1).isSome=true:=λx hx e=>by
 have q:=aa9.mp S.free x hx;rw[e] at q;simpa using q
theorem bQ.Uz(S:bQ X ts us scope){j:Nat}(hj:j∈us):∃ x,X.N[j]?=some x/\scope.names.lookup x=some .free/\(X.env.kindOf x=some .cell\/X.env.kindOf x=some .free):=by
 have q:=aa9.mp S.Z0 j hj;cases e:X.N[j]? with
 | none=>rw[e] at q;exact absurd (show false=true from q) aau
 | some x =>
  rw[e] at q;have q:(scope.names.lookup x == some .free&&(X.env.kindOf x == some .cell||X.env.kindOf x == some .free))=true:=q;rw[aaT,Bool.or_eq_true] at q;exact#[x,U,eq_of_beq q.1,q.2.imp eq_of_beq eq_of_beq]
theorem D9{TW:acd}{σ:St}{H:Hp}{s:Cl}{fp:!AC}{h₁:Db}{t:Nat}{m:Str->Option AT}(S:bQ X ts us scope)(I:Inv X TW σ H s)(hf:∀ b∈fp,jZ X TW H b)(AX:∀ b∈fp,b < ↑s)(wF:h₁.Ns ↑s m)(keep:∀ b o,s.heap.get? b=some o->h₁.get? b=some o) :
  Inv (X.comp ts us scope ↑s s H fp) [] (lift ts.length us σ) H { s with heap:=h₁,toks:=t }:=by
 have cl:∀ x c,(gF X.env scope.names []).lookup x=some c->X.env.cells.lookup x=some c:=λx c e=>by
  rcases jY S.fr e with q | q
  .exact q
  .simp at q
 have kd:∀ x,((relabel scope X.env).names.lookup x=some .cell\/(relabel scope X.env).names.lookup x=some .free)->scope.names.lookup x=some .free:=λx hx=>by
  rcases hx with hx | hx
  .rcases gk hx with q | q
   .exact absurd U (S.nc _ (aa2 q))
   .exact q.1
  .rcases gk hx with q | q
   .exact q
   .cases q.2
 have ok:(X.comp ts us scope ↑s s H fp).Ok:=by
  show#[I.ok.mod,S.kind,I.ok.glob,I.ok.blt,aah _,λx y c e1 e2=>I.ok.inj x y c (cl x c e1) (cl y c e2),λx hx=>?_,λx c e=>?_,I.ok.hd,I.ok.frames,.inl U,λb hb=>?_,I.bs,aap I.ok.HC I.sz,λb o e hb=>?_,λb hb Wr=>?_,I.stack,I.An]
  .have q:=kd x hx;exact abg.mp (qU (aa2 q))
  .cases (show (false:Bool)=true from e)
  .let(f0,f1,f2,f3,f4,f5):=hf b hb;exact#[aaD (AX b hb),λx c e=>f4 x c (cl x c e)]
  .let(f0,f1,f2,f3,f4,f5):=hf b hb;rcases f3 with z | z
   .exact I.ok.EK b o e z
   .exact absurd (aay (aar e) (aap I.ok.HC z)) (abt _)
  .let(f0,f1,f2,f3,f4,f5):=hf b hb;rcases aaj.mp (I.yk b Wr) with z | z
   .exact f1 z
   .exact f2 z
 show#[ok,U,I.bare,Un.kept keep,#[m,wF,λi x v h1 h2 h3=>?_],λx c e=>?_,I.bM.fresh (Nat.le_refl _),λx c e=>I.jI x c (cl x c e),λp hp=>absurd (show p∈([]:acd) from hp) (by simp),I.bM.kept keep,?_]
 .have h1:(wG ts us X.N)[i]?=some x:=h1;have h2:(lift ts.length us σ)[i]?=some (some v):=h2;by_cases hi:i < ts.length
  .unfold lift at h2;rw[List.getElem?_append_left (by simpa using hi),List.getElem?_replicate] at h2;split at h2<;>cases h2
  .have A1:ts.length<=i:=Nat.le_of_not_lt hi;unfold lift at h2;unfold wG at h1;rw[List.getElem?_append_right (by simpa using A1),List.length_replicate,List.getElem?_map] at h2;rw[aa1 A1,aaG] at h1;cases ej:us[i - ts.length]? with
   | none=>rw[ej] at h1;cases h1
   | some j =>
    rw[ej] at h1 h2;let(y,hy,hyf,hyk):=S.Uz (aaK ej);have e1:X.N.getD j ""=x:=aaJ h1;have e2:X.N.getD j ""=y:=by rw[abP,hy];rfl
    have exy:y=x:=e2.symm.trans e1;subst exy;have e3:(σ[j]?).join=some v:=aaJ h2;have e4:σ[j]?=some (some v):=by
     cases q:σ[j]? with
     | none=>rw[q] at e3;cases e3
     | some z =>
      rw[q] at e3;have:z=some v:=e3;rw[this]
    let(m0,hn0,hl0):=I.loc;have hvis:NF X.env.scope y:=.inr hyk;let(u,r,l):=hl0 j y v hy e4 hvis;show#[u,r,?_];rcases l with ⟨k1,_⟩ | ⟨k1,c,hc,hcell⟩
    .rcases hyk with z | z
     .rw[k1] at z;cases z
     .rw[k1] at z;cases z
    .refine .inr #[?_,c,?_,?_]
     .have h3:(relabel scope X.env).names.lookup y=some .local\/(relabel scope X.env).names.lookup y=some .cell\/(relabel scope X.env).names.lookup y=some .free:=h3;rcases h3 with z | z
      .rcases gk z with q | q
       .rw[hyf] at q;cases q
       .cases q.2
      .exact z
     .let(c',hc'):=abg.mp (qU (env:=X.env) (acc:=[]) (aa2 hyf));have q:=cl y c' hc';rw[hc] at q;cases q;exact hc'
     .let(o,ho,hd):=hcell;exact#[o,keep c o ho,hd]
 .let(v,o,ho,hd):=I.cell x c (cl x c e);exact#[v,o,keep c o ho,hd]
 .show (lift ts.length us σ).length=(wG ts us X.N).length;unfold lift wG;rw[aab,aab,List.length_replicate,aaa,aaa]
def EX(σ σ':St):Prop:=∀ (i:Nat) (v:V),σ[i]?=some (some v)->σ'[i]?=some (some v)
theorem ER{nt i:Nat}{us:!Nat}{σ:St}{x:Option V}(hi:i < nt):EX (lift nt us σ) ((lift nt us σ).set i x):=λj v e=>by
 by_cases hj:j=i
 .subst hj;unfold lift at e;rw[List.getElem?_append_left (by simpa using hi),List.getElem?_replicate] at e;split at e<;>cases e
 .rw[aas (Ne.symm hj)];exact e
def yW(nt:Nat)(us:!Nat)(σ:St)(g:TG)(ti:TT)(te:TE)(J:It)(H1:Hp)(Q:VK):Prop :=
 ∀ D,H1 D=none->∃ W:Nat->Nat->!V->Hp->Prop,(∃ m,W 0 m [] (upd H1 D (.lst [])))/\∀ i m ys H2,W i m ys H2->H2 D=some (.lst ys) /\
  ((J.stop i H2/\Q (.ref D) H2)\/(J.go i H2/\ys.length < FS/\∀ x H3,J.Ny i H2 x H3->g x (lift nt us σ) H3 λσ4 H4=>EX (lift nt us σ) σ4/\ti σ4 H4 λb H5 =>
    if b=true then te σ4 H5 λy H6=>H6 D=some (.lst ys)/\∃ m',m' < m/\W (i+1) m' (ys++[y]) (upd H6 D (.lst (ys++[y]))) else ∃ m',m' < m/\W (i+1) m' ys H5))
def xw(nt:Nat)(us:!Nat)(wi:TI)(g:TG)(ti:TT)(te:TE):TE:=λσ H Q=>wi σ H λJ H1=>yW nt us σ g ti te J H1 Q
theorem qq{tg elt iter:Ch}{ifs:!Ch}{pos:Pos}{g:TG}{ti:TT}{te:TE}{TW:acd}{σ:St}{H:Hp}{s:Cl}{it:AC}{fp:!AC}{tn:Nat->Db->Prop}{J:It}{Q:VK}{E:acb}{RR:AT->AC->Result->Cl->Prop}(S:bQ X ts us scope)(hc:X.calm=true)(I:Inv X TW σ H s)(T:Turn X.prog X.w X.K tg J fp it tn)(st:tn 0 s.heap)(hf:∀ b∈fp,jZ X TW H b)(hg:∀ C s H fp,PG (X.comp ts us scope C s H fp) tg g)(Ek:∀ C s H fp,Nz (X.comp ts us scope C s H fp) ifs ti)(he:∀ C s H fp,PE (X.comp ts us scope C s H fp) elt te)(q:yW ts.length us σ g ti te J H Q)(ZF:∀ D C s' H',Inv X TW σ H' s'->(∃ m,s'.heap.Ns C m)->jZ X TW H' C->Q (.ref D) H'->RR (.ref D) C (.ok .next) s') :
  EQ (model X.prog X.w) X.A (newList []) (λacc s₃=>EQ (model X.prog X.w) X.A (newFunctionEnv scope X.env.globals (gF X.env scope.names []) [] X.env.qual none .none (some X.env)) (λcenv s₄ =>
   codeAny (model X.prog X.w) X.A (.compStart (.ListComp elt [#[tg,iter,ifs,0]] scope pos) 0 (.ref it) acc { cenv with scope:=relabel scope X.env }) (RR acc cenv.locals) s₄) E s₃) E s:=by
 show ST (wpAny_newFunctionEnv S.nc (by intro y hy;simp at hy) (λh₁ hns₁ hsb₁=>?_) S.kind);dsimp only at hns₁ hsb₁ ⊢;have I3:Inv X TW σ (upd H ↑s (.lst [])) { s with heap:=s.heap.push { cls:=.type "list",data:=.seq ([]:!AT).toArray } }:=I.Tf (its:=[]) (ys:=[]) (t':=s.toks) .nil (aax _);have AX:∀ b∈fp,b < ↑s:=λb hb=>by
  let(o,e,_):=T.obj 0 _ st b hb;exact aar e
 have hf3:∀ b∈fp,jZ X TW (upd H ↑s (.lst [])) b:=λb hb=>by
  let(f0,fr):=hf b hb;exact#[by rw[aA (aaD (AX b hb))];exact f0,fr]
 generalize hs3:({ s with heap:=s.heap.push { cls:=.type "list",data:=.seq ([]:!AT).toArray } }:Cl)=s3 at I3;have hs3h:s3.heap=s.heap.push { cls:=.type "list",data:=.seq ([]:!AT).toArray }:=by rw[<- hs3]
 have keep:∀ b o,s3.heap.get? b=some o->h₁.get? b=some o:=λb o e=>by
  rw[hs3h] at e;exact hsb₁.extBut b o (aaD (aar e)) (aae _ e)
 have keep0:∀ b o,s.heap.get? b=some o->h₁.get? b=some o:=λb o e=>keep b o (by rw[hs3h];exact aae _ e);let(W,(m0,w0),turn):=q ↑s (I.bM.fresh (aah _));have hC:(s.heap.push { cls:=.type "list",data:=.seq ([]:!AT).toArray }).objs.size=↑s3:=by rw[hs3h]
 have hfl3:∀ b∈fp,b < ↑s3:=λb hb=>by
  rw[hs3h,aaV];exact Nat.lt_succ_of_lt (AX b hb)
 have hns3:h₁.Ns ↑s3 (λx=>([]:!(Str×AT)).reverse.lookup x):=by rw[<- hC];exact hns₁
 have I4:∀ t,Inv (X.comp ts us scope ↑s3 s3 (upd H ↑s (.lst [])) fp) [] (lift ts.length us σ) (upd H ↑s (.lst [])) { s3 with heap:=h₁,toks:=t }:=λt=>D9 S I3 hf3 hfl3 hns3 keep;have SX:tn 0 h₁:=T.keep 0 _ _ st λb _ o e=>keep0 b o e;have loop:∀ s₄:Cl,(∃ t,s₄={ s3 with heap:=h₁,toks:=t }) ->
   codeAny (model X.prog X.w) X.A (.compLoop (.ListComp elt [#[tg,iter,ifs,0]] scope pos) 0 (.ref it) (.ref ↑s) (compEnvC scope (gF X.env scope.names []) ↑s3 X.env)) (RR (.ref ↑s) ↑s3) s₄:=by
  rintro s₄ ⟨t4,rfl⟩;have stat:∀ {H':Hp},(∀ b∈fp,H' b=none)->∀ b∈fp,jZ (X.comp ts us scope ↑s3 s3 (upd H ↑s (.lst [])) fp) [] H' b:=λ{H'} hn b hb=>by
   have ok:=(I4 0).ok;exact#[hn b hb,(ok.VF b hb).1,ok.EB b hb,.inl hb,(ok.VF b hb).2,λp hp=>absurd (show p∈([]:acd) from hp) (by simp)]
  show vc (λn s'=>∃ i ys H',Inv (X.comp ts us scope ↑s3 s3 (upd H ↑s (.lst [])) fp) [] (lift ts.length us σ) H' s'/\tn i s'.heap/\(∀ b∈fp,H' b=none)/\W i n ys H') ?_ m0
   #[0,[],_,I4 t4,SX,λb hb=>(hf3 b hb).1,w0]
  rintro n s5 ⟨i,ys,H5,I5,st5,fr5,w5⟩;let(hD,hturn):=turn i n ys H5 w5;rcases hturn with ⟨stop,qn⟩ | ⟨go,hlen,step⟩
  .refine cb (T.done (X.comp ts us scope ↑s3 s3 (upd H ↑s (.lst [])) fp) U U U hc i [] s5 (lift ts.length us σ) H5 _ I5 (stat fr5) st5 stop) λr s6 z9q=>?_;let(hr,I6):=z9q;subst hr;have I7:Inv X TW σ H5 s6:=I3.RE (ch:=fp) I6.os I6.base I6.bM I6.bare λb hb=>by
    let(f0,f1,f2,f3,f4,f5):=hf3 b hb;exact#[f3,f1,f4,f5]
   let(m6,hn6,_):=I6.loc;exact ZF _ _ s6 H5 I7 #[m6,hn6] (I3.u7 (aah _) I6.free) qn
  .refine cb (T.item (X.comp ts us scope ↑s3 s3 (upd H ↑s (.lst [])) fp) U U U hc i [] s5 (lift ts.length us σ) H5 _ I5 (stat fr5) st5 go) λr s6 z0q=>?_;let(u,hr,h6):=z0q;subst hr;show cb h6 λ_ s7 z1q=>?_;let(x,H7,I7,r7,y7,st7,fr7):=z1q;have I7':=I7.pinned (stat fr7) (T.obj _ _ st7);show KF (hg _ _ _ _ _ s7 (lift ts.length us σ) H7 x u _ I7' r7 (step x H7 y7)) (λ_ s8 #[σ8,H8,I8,kp8,q8]=>?_) λ_ _ z=>False.elim z;show KF (Ek _ _ _ _ _ s8 σ8 H8 _ I8 q8) (λb s9 #[H9,I9,q9]=>?_) λ_ _ z=>False.elim z;have fin:∀ {s':Cl} {H':Hp} {Xo:!V},Inv (X.comp ts us scope ↑s3 s3 (upd H ↑s (.lst [])) fp) ([]++qa fp s7.heap) σ8 H' s'->(∃ m',m' < n/\W (i+1) m' Xo H') ->
     ∃ m,m < n/\∃ i ys H',Inv (X.comp ts us scope ↑s3 s3 (upd H ↑s (.lst [])) fp) [] (lift ts.length us σ) H' s'/\tn i s'.heap/\(∀ b∈fp,H' b=none)/\W i m ys H':=λ{s' H' Xo} J' z2q=>by
    let(m',hm,w'):=z2q;show#[m',hm,i+1,Xo,H',J'.mU.weak ?_ kp8,T.keep _ _ _ st7 λb hb o e=>(J'.pin (b,o) (aaB _ (aaB _ (iW hb e)))).1,λb hb=>?_,w']
    .rw[J'.len,I7.len]
    .let(o,e,d):=T.obj _ _ st7 b hb;exact (J'.pin (b,o) (aaB _ (aaB _ (iW hb e)))).2.1
   cases b with
   | false =>
    rw[if_neg aau] at q9 ⊢;exact fin I9 q9
   | true =>
    rw[if_pos U] at q9 ⊢;show KF (he _ _ _ _ _ s9 σ8 H9 _ I9 q9) (λyv s10 #[y,H10,I10,r10,hD10,q10]=>?_) λ_ _ z=>False.elim z;show KF (hZ (X:=X.comp ts us scope ↑s3 s3 (upd H ↑s (.lst [])) fp) _ s10 σ8 H10 (.ref ↑s) [y] (.ref ↑s) [yv] (λ_ H'=>∃ m',m' < n/\W (i+1) m' (ys++[y]) H') I10 U (.cons r10 .nil) #[_,ys,y,U,U,hD10,hlen,q10]) (λ_ s11 #[_,H11,I11,_,q11]=>?_) λ_ _ z=>False.elim z;exact fin I11 q11
 have e4:({ s with heap:=h₁,toks:=s.toks+([]:!(Str×AT)).length }:Cl)={ s3 with heap:=h₁,toks:=s.toks+([]:!(Str×AT)).length }:=by rw[<- hs3]
 first
  | (rw[e4,hC];exact codeAny_compStart_list (loop _ #[_,rfl]) (T.self _ 0 _ _ _ SX (loop _ #[_,rfl])))
  | (have L4:=codeAny_compStart_list (elt:=elt) (target:=tg) (iter:=iter) (ifs:=ifs) (rest:=[]) (scope:=scope) (pos:=pos) (loop _ #[s.toks+([]:!(Str×AT)).length,U]) (T.self _ 0 _ _ _ SX (loop _ #[s.toks+([]:!(Str×AT)).length,U]))
     subst hs3;exact L4)
theorem As{tg elt iter:Ch}{ifs:!Ch}{pos:Pos}{wi:TI}{g:TG}{ti:TT}{te:TE}(S:bQ X ts us scope)(hc:X.calm=true)(hi:PI X tg iter wi)(hg:∀ C s H fp,PG (X.comp ts us scope C s H fp) tg g)(Ek:∀ C s H fp,Nz (X.comp ts us scope C s H fp) ifs ti)(he:∀ C s H fp,PE (X.comp ts us scope C s H fp) elt te)(hs:acj iter X.env:=by intro _;rfl):PE X (.ListComp elt [#[tg,iter,ifs,0]] scope pos) (xw ts.length us wi g ti te):=by
 intro TW s σ H Q I h;rw[eval_ListComp];show wpAny_comprehension_free (use:=none) U hs (k8 S.fr) S.kind S.lc (cb (hi TW s σ H _ I h) λv s1 h1=>cb h1 λVw s2 h2=>?_);let(it,fp,tn,J,H2,e,I2,T,Lg,f2,q):=h2;subst e;show qq (RR:=λacc C=>compPost (model X.prog X.w) X.A X.xe none (EP X TW σ Q) acc C) S hc I2 T Lg f2 hg Ek he q ?_;intro D C s' H' I' hn F q';let(m,hn):=hn;let(f0,f1,f2,f3,f4,f5):=F;show#[m,hn,λh' sb=>?_];have I8:Inv X TW σ H' { s' with heap:=h' }:=I'.turned (t':=s'.toks) (λb o hb e=>(sb.2 b hb).trans e) f0 f1 f3 f4 f5;exact#[.ref D,H',I8,U,q']
theorem zW{i:Nat}{x:Str}{tg elt iter:Ch}{ifs:!Ch}{pos px Fj:Pos}{wi:TI}{g:TG}{ti:TT}{te:TE}(hN:X.N.Nodup)(A1:X.N[i]?=some x)(hx:X.env.scope.names.lookup x=some .local)(S:bQ X ts us scope)(hc:X.calm=true)(hi:PI X tg iter wi)(hg:∀ C s H fp,PG (X.comp ts us scope C s H fp) tg g)(Ek:∀ C s H fp,Nz (X.comp ts us scope C s H fp) ifs ti)(he:∀ C s H fp,PE (X.comp ts us scope C s H fp) elt te)(Sf:(swapsWith (.ListComp elt [#[tg,iter,ifs,0]] scope pos) (some (.Name x px)) Fj.line X.env=pure true)⁻¹)(hs:acj iter X.env:=by intro _;rfl):PS X (.Assign [.Name x px] (.ListComp elt [#[tg,iter,ifs,0]] scope pos) Fj) (j5 (xw ts.length us wi g ti te) (et i)):=by
 intro TW s σ H D I h;rw[exec_Assign_Name_used _ _ _ _ Sf];show Da (wpAny_standAt (Da ?_));change EQ _ _ (do let _ <- comprehension (.ListComp elt [#[tg,iter,ifs,0]] scope pos) scope X.env _ (newList []) false (eval iter X.env) (some (assign (.Name x px) X.env))) _ _ s;show Da (KF (wpAny_comprehension_free (use:=some (assign (.Name x px) X.env)) (Q:=λ_ s'=>SP X TW D .next s') U hs (k8 S.fr) S.kind S.lc
  (cb (hi TW s σ H _ I h) λv s1 h1=>cb h1 λVw s2 h2=>?_)) (λ_ s' hq=>GE (GE hq)) λ_ _ e=>e)
 let(it,fp,tn,J,H2,e,I2,T,Lg,f2,q):=h2;subst e;show qq (RR:=λacc C=>compPost (model X.prog X.w) X.A X.xe (some (assign (.Name x px) X.env)) (λ_ s'=>SP X TW D .next s') acc C) S hc I2 T Lg f2 hg Ek he q ?_;intro L C s' H' I' hn F q';let(m,hn):=hn;let(f0,f1,f2,f3,f4,f5):=F;change EQ _ _ (assign (.Name x px) X.env (.ref L)) _ _ s';show wpAny_assign_Name (t8 I' hN A1 (.inl hx) (v:=.ref L) U (λG9 I'' hsb=>?_) (.inr hx));let(a,sb,ha):=hsb;have pC:C≠a:=by
  rcases ha with z | z
  .rw[z];exact f1
  .exact λw=>f4 x a z w.symm
 show#[m,hn.sameBut sb pC,λh' sb'=>?_];have I8:Inv X TW (σ.set i (some (.ref L))) H' { G9 with heap:=h' }:=I''.turned (t':=G9.toks) (λb o hb e=>(sb'.2 b hb).trans e) f0 f1 f3 f4 f5;exact#[_,H',I8,q']
end
end L2
namespace PySem
open Sem (wp)
namespace F
theorem Bw:typeLookup (.type "list_reverseiterator") "__len__"=pure none:=by rw[typeLookup_type,builtinLookup_eq_fast];kernel_rfl
theorem Ct:typeLookup (.type "list_reverseiterator") "__length_hint__"=pure (some (.builtin "list_reverseiterator.__length_hint__")):=by rw[typeLookup_type,builtinLookup_eq_fast];kernel_rfl
end F
section
variable{prog:Fa}{w:FB}{A:Fr}{E:acb}{s:Cl}
theorem u6{R:Result->Cl->Prop}{I:AC}{fp wr:!AC}{n:Nat}{P:Nat->AT->Prop}{St:Nat->Db->Prop}(W:Walks prog w A.in1 I fp wr n P St)(hT:∀ i h,St i h->∃ o,h.get? I=some o/\o.cls=.type "list_reverseiterator")(S:AC)(res:AT)(c₀:Nat)(fC:St 0 s.heap)(Zj:S∉fp)(hI:I∈fp)(hS:s.heap.get? S=some { cls:=.type "list",data:=.seq #v[] c₀ })(hR:∀ h' tk acc' c',(∀ b o,b≠S->b∉wr->s.heap.get? b=some o->h'.get? b=some o)->h'.get? S=some { cls:=.type "list",dict:=none,data:=.seq acc' c',slots:=#v[] } ->
   ItemsOf P acc' n->R (.ok (.ret res)) { s with heap:=h',toks:=tk })(hn:n<=FS) :
  EQ (model prog w) A.in1 (GT.List.listExtendWith (.ref S) (.ref I) res)
   (λfin s'=>match fin with | .done f=>R (.ok f) s' | .again c'=>c'.quiet=true/\codeAny (model prog w) A c' R s') (λe s'=>R (.error e) s') s:=by
 have hSI:S≠I:=λe=>Zj (e▸hI);have hTs:s.TypeIs (.ref I) "list_reverseiterator":=hT 0 _ fC;unfold GT.List.listExtendWith;show Da (wpAny_typeOf hTs ?_);have h1:GT.List.listSameRef (.ref S) (.ref I)=false:=by simp[GT.List.listSameRef,hSI]
 have h2:(AT.type "list_reverseiterator" == AT.type "list")=false:=by decide
 have h3:(AT.type "list_reverseiterator" == AT.type "tuple")=false:=by decide
 simp only[h1,h2,h3,Bool.or_false,Bool.false_eq_true,if_false];show Da (W.self 0 _ _ _ fC ?_);show Da (KB ?_);unfold GT.List.listLengthHint;show Da (wpAny_specialOf hTs F.Bw ?_);change EQ _ A.in1 (specialOf (AT.ref I) (Str.ofString "__length_hint__") >>= _) _ _ _;show Da (wpAny_specialOf hTs F.Ct ?_);generalize hid:("list_reverseiterator.__length_hint__":String)=id0
 wp_delta
 rw[show splitId id0=some ("list_reverseiterator","__length_hint__") from by subst hid;decide+kernel];subst hid;show Da (wpAny_isInstance (b:=true) hTs (by rw[isSubtype_type];kernel_rfl) ?_);show GE ?_;rw[if_neg ()];show GE #[plainId_quiet F.plain_extend_loop _,codeAny_extend_loopS W.toS hn _ Zj _ n 0 _ _ _ U (aax _) fC hS (ItemsOf.nil P) λs' acc' c' hm hS' hacc=>?_];rw[Moved.eq_with hm];show hR s'.heap s'.toks acc' c' (λb ob hb hw e=>hm.heap b ob (λhmem=>?_) e) hS' hacc;rcases aaj.mp hmem with e' | hmem
 .exact hb e'
 .exact hw hmem
theorem pH{Q:acb}(hh:A.handled=none){I l:AC}{items:Array AT}(pC:l≠I)(hit:s.heap.IsRevIter I l ((items.size:Int) - 1))(hl:s.heap.IsList l items)(hQ:∀ h' tk acc' c',(∀ b o,b≠I->s.heap.get? b=some o->h'.get? b=some o)->h'.get? ↑s=some { cls:=.type "list",dict:=none,data:=.seq acc' c',slots:=#v[] } ->
   ItemsOf (λi v=>items[items.size - 1 - i]?=some v) acc' items.size->Q (.ref ↑s) { s with heap:=h',toks:=tk })(hn:items.size<=FS) :
  EQ (model prog w) A (call (.type "list") [.ref I]) Q E s:=by
 have hIlt:I < ↑s:=by let(o,e,_):=hit;exact aar e
 have hllt:l < ↑s:=by let(o,e,_):=hl;exact aar e
 show callType_codes (Q₁:=λobj s₁=>obj=.ref ↑s/\s₁={ s with heap:=s.heap.push { cls:=.type "list",data:=.seq #v[] } }) F.called_list (F.typeCall_list_1 _) F.entry_list_init
  (code_list_new _ #[U,U]) λobj s₁ h₁=>?_
 let(rfl,rfl):=h₁;have hS:(s.heap.push { cls:=.type "list",data:=.seq #v[] }).get? ↑s=some { cls:=.type "list",data:=.seq #v[] }:=aat _ U;show#[#[_,hS,U],F.args_list_init_2 _ _,?_];change EQ _ _ (do let old <- GT.List.listItems (.ref ↑s);GT.List.listUpdate (.ref ↑s) (λ_=>#v[]);letGo old.toList.reverse;GT.List.listExtendWith (.ref ↑s) (.ref I) .none) _ _ _;show Da ?_;unfold GT.List.listItems;show Da (Rs hS U (GE ?_));change EQ _ _ (updateSeq ↑s (λ_=>#v[]) >>= λ_=>letGo (#v[]:Array AT).toList.reverse >>= λ_=>GT.List.listExtendWith (.ref ↑s) (.ref I) .none) _ _ _;show Da (wpAny_updateSeq hS U ?_);have hS₂:=abG (Obj.mapSeq (λ_=>(#v[]:Array AT))) hS U;have oth:∀ b o,b≠↑s->s.heap.get? b=some o->((s.heap.push { cls:=.type "list",data:=.seq #v[] }).update ↑s (Obj.mapSeq (λ_=>(#v[]:Array AT)))).get? b=some o :=
  λb o hb e=>(ab3 _ _ (Ne.symm hb)).trans (aae _ e)
 show Da (wpAny_letGo ?_);have W:=Walks.listRev (prog:=prog) (w:=w) (A:=A.in1.in1) hh I l pC items;show u6 (A:=A.in1) W (λi h st=>let #[o,e,c,_]:=st.2.1;#[o,e,c]) ↑s .none _ ?_ ?_ (by simp) hS₂ (λh' tk acc' c' kp e hacc=>?_) hn
 .refine#[aax _,?_,?_]
  .have e0:(items.size:Int) - 1 - ((0:Nat):Int)=(items.size:Int) - 1:=by cbv
   rw[e0];exact hit.at λo e=>oth I o (aaD hIlt) e
  .exact hl.at λo e=>oth l o (aaD hllt) e
 .intro hm;rcases aaj.mp hm with e | hm
  .exact absurd e (abz hIlt)
  .exact absurd (aag.mp hm) (abz hllt)
 .exact#[U,hQ h' tk acc' c' (λb o hb eb=>kp b o (Nat.ne_of_lt (Db.lt_size eb)) (by simpa using hb) (oth b o (Nat.ne_of_lt (Db.lt_size eb)) eb)) e hacc]
end
end PySem
namespace L2
open PySem PySem.Spec PyProof.Rows
section
variable{X:Cx}{tg:Ch}
end
section
variable{X:Cx}
theorem range_all(bs:!Bool):((List.range bs.length).all λi=>bs.getD i false)=bs.all id:=by
 rw[abS,aa9,aa9];constructor
 .intro h b hb;let(i,hi,rfl):=aba hb;have:=h i (abI.mpr hi);simpa [List.getD_eq_getElem?_getD,hi] using this
 .intro h i hi;have A1:=abI.mp hi;have:=h bs[i] (abM A1);simpa [List.getD_eq_getElem?_getD,A1] using this
theorem qp(hc:X.calm=true):fk X (.builtin "all") (λxs H Q=>∃ (p:AC) (bs:!Bool),xs=[.ref p]/\dN X.K H p (bs.map V.bl)/\Q (.bl (bs.all id)) H):=by
 intro TW s σ H xs us Q I r h;let(p,bs,rfl,hq,q):=h;let(u,rfl,rx):=vals1 r;cases rx;let(its,rv,pl,hz):=I.list hq;have hp:p < ↑s:=by let(o,_,e,_):=pl;exact aar e
 have hlen:its.toArray.size=bs.length:=by rw[aaC,<- rv.length,aaa]
 show call_all_walk (wpAny_pyIter_list pl.isList ?_);show#[↑s,_,_,_,_,_,λi=>bs.getD i false,U,Walks.list (A:=X.A.in1) (I.ok.hd hc) ↑s p (aaD hp) its.toArray,#[#[_,aat _ U,U,U],pl.isList.push _],?_,?_]
 .intro i v s' Q' E' hv hq';have Vh:its[i]?=some v:=by simpa using hv
  have hi:i < bs.length:=by
   have:=(aaf.mp Vh).1;rw[aaC] at hlen;cbv
  let(u,hu,ru):=rv.get (i:=i) (x:=V.bl bs[i]) (by simp[hi]);rw[Vh] at hu;cases hu;cases (show v=AT.bool bs[i] from ru);have e:bs.getD i false=bs[i]:=by simp[List.getD_eq_getElem?_getD,hi]
  have hq'':Q' (bs.getD i false) s':=hq';rw[e] at hq'';exact wpAny_truthy_bool hq''
 .intro h' tk kp;have I':Inv X TW σ H { s with heap:=h',toks:=tk }:=I.kept (t':=tk) λb o e=>kp b o (by simpa using Nat.ne_of_lt (Db.lt_size e)) (Db.get?_push_of_some _ e);show#[.bl (bs.all id),H,I',?_,q];change AT.bool _=AT.bool _;rw[hlen,range_all]
def wu(K:Frag)(te:TE):TE:=λσ H Q=>te σ H λx H1=>∃ a xs,x=.ref a/\dN K H1 a xs/\∀ l,H1 l=none->Q (.ref l) (upd H1 l (.lst xs.reverse))
theorem Bt{items acc:Array AT}(h:ItemsOf (λi v=>items[items.size - 1 - i]?=some v) acc items.size):acc.toList=items.toList.reverse:=by
 let(h1,h2):=h;apply abZ;intro i;by_cases hi:i < items.size
 .have A1:i < acc.size:=by cbv
  have e:acc[i]?=some acc[i]:=by simp[A1]
  have:=h2 i _ e;rw[List.getElem?_reverse (by simpa using hi)];rw[abH,e,Array.length_toList,abH];rw[<- this]
 .rw[List.getElem?_eq_none (by simpa using (by cbv:acc.size<=i)),List.getElem?_eq_none (by simpa using (by cbv:items.size<=i))]
theorem zI{e:Ch}{te:TE}{p p2 pos CH:Pos}(hc:X.calm=true)(ZK:Gl X "list")(JM:X.mg "list"=none)(Zl:Gl X "reversed")(ZW:X.mg "reversed"=none)(he:PE X e te)(hs:(Gc [.Call (.Name "reversed" p2) [e] [] CH] X.env=[(false,eval (.Call (.Name "reversed" p2) [e] [] CH) X.env)])⁻¹)(xX:(Gc [e] X.env=[(false,eval e X.env)])⁻¹) :
  PE X (.Call (.Name "list" p) [.Call (.Name "reversed" p2) [e] [] CH] [] pos) (wu X.K te):=by
 intro TW s σ H Q I h;show wpAny_Call_Name_kw (j9 I ZK JM PyProof.Rows.boot_list ?_ () ());show PyProof.Rows.callWith_type1 ?_ hs U;rw[hs];change EQ _ _ (spliced ((false,eval (.Call (.Name "reversed" p2) [e] [] CH) X.env)::IR pos [])) _ _ s;show Calls.spliced_cons ?_;show wpAny_Call_Name_kw (j9 I Zl ZW PyProof.Rows.boot_reversed ?_ () ());show PyProof.Rows.callWith_type1 ?_ xX U;rw[xX];change EQ _ _ (spliced ((false,eval e X.env)::IR CH [])) _ _ s;show Calls.spliced_cons (cb (he TW s σ H _ I h) λu s1 z3q=>?_);let(x,H1,I1,r1,a,xs,ex,hq,q):=z3q;subst ex;cases r1;show Calls.spliced_nil ?_;let(its,rv,pl,hz):=I1.list hq;have hp:a < ↑s1:=by let(o,_,e,_):=pl;exact aar e
 have hlen:=rv.length;show call_reversed_list pl.isList ?_;show Calls.spliced_nil ?_;have I2:Inv X TW σ H1 { s1 with heap:=s1.heap.push (revObj a ((its.toArray.size:Int) - 1)) }:=I1.kept (t':=s1.toks) λb o e=>aae _ e;show pH (I.ok.hd hc) (items:=its.toArray) (aaD hp) #[_,aat _ U,U,U] (pl.isList.push _) (λh' tk acc' c' kp e hacc=>?_) (by rw[aaC];cbv);have e2:=Bt hacc;have F:jZ X TW H1 ↑s1:=I1.u7 (aah _) (I1.bM.fresh (aah _));let(f0,f1,f2,f3,f4,f5):=F;have hk:∀ b o,s1.heap.get? b=some o->h'.get? b=some o:=λb o eb=>kp b o (aaD (aar eb)) (aae _ eb);show#[.ref _,_,I1.laid (t':=tk) (h':=h') (o:=.lst xs.reverse) hk (by rw[aaV];exact ab1 _) ?_,U,q _ (I1.bM.fresh (by rw[aaV];exact ab1 _))];show#[by rw[List.length_reverse];exact hz,acc'.toList,c',?_,by simpa using e];rw[e2];simpa using rv.reverse
theorem yo{ys:!Str}:∀ {us:!AT},Vals (ys.map V.str) us->StrsAre us ys:=by
 induction ys with
 | nil=>intro us r;rw[aaQ] at r;cases r;exact .nil
 | cons n ns ih =>
  intro us r;rw[aao] at r;cases r with
  | cons r1 r2 =>
   let(t,e):=r1;subst e;exact .cons n t (ih r2)
def rJoin(K:Frag):V->!V->Hp->VK->Prop:=λx vs H Q=>∃ (z:Str) (p:AC) (zs:!Str),x=.str z/\vs=[.ref p]/\dN K H p (zs.map V.str)/\(zs.map (·.length)).sum+zs.length * z.length<=16777216/\Q (.str (Txt.join z zs)) H
theorem Hm:Uu X "str.join" (rJoin X.K):=by
 intro TW s σ H x vs v us Q I rx rv h;let(z,p,zs,rfl,rfl,hq,hz,q):=h;let(t,rfl):=rx;let(u,rfl,ru):=rv.one;cases ru;let(its,r,pl,_):=I.list hq;exact PyProof.Rows.join_list pl.isList (by simpa using yo r) hz λt' k=>#[.str _,H,I.tok k,#[t',U],q]
def VO:V->Option Int->Option Int->Hp->VK->Prop:=λx lo hi H Q=>∃ z,x=.str z/\z.length<=FS/\Q (.str (Txt.slice z lo hi)) H
theorem Kp:PF X VO:=by
 intro TW s σ H x v vl vu lo hi sl Q I rx hs pl pu h;let(z,rfl,hz,q):=h;let(t,rfl):=rx;show#["str",_,F.slot_str_getitem.lookup,typeIs_str _ _ _,?_];have fin:∀ t' k,EP X TW σ Q (.str (Txt.slice z lo hi) t') { s with toks:=k }:=λt' k=>#[.str _,H,I.tok k,#[t',U],q];cases pl with
 | none =>
  cases pu with
  | none=>exact wpAny_getItem_str_slice (l:=none) (u:=none) (st:=none) hs U (post_val_or_str #[aap (Txt.slice_le z _ _) hz,fin])
  | int j uj=>exact wpAny_getItem_str_slice (l:=none) (u:=some (j,uj)) (st:=none) hs U (post_val_or_str #[aap (Txt.slice_le z _ _) hz,fin])
 | int i ui =>
  cases pu with
  | none=>exact wpAny_getItem_str_slice (l:=some (i,ui)) (u:=none) (st:=none) hs U (post_val_or_str #[aap (Txt.slice_le z _ _) hz,fin])
  | int j uj=>exact wpAny_getItem_str_slice (l:=some (i,ui)) (u:=some (j,uj)) (st:=none) hs U (post_val_or_str #[aap (Txt.slice_le z _ _) hz,fin])
theorem qd:jt X (Os .Mult) (λx y H Q=>∃ z n,x=.str z/\y=.int n/\MulOk z n/\Q (.str (Txt.mul z n)) H):=by
 intro TW s σ H x y v u Q I rx ry h;let(z,n,rfl,rfl,ok,q):=h;let(t,rfl):=rx;let(t',rfl):=ry;exact SB.mul ok λt' k=>#[.str _,H,I.tok k,#[t',U],q]
def LF(K:Frag)(te:TE):TE:=λσ H Q=>te σ H λx H1=>∃ a xs,x=.ref a/\dN K H1 a xs/\∀ l,H1 l=none->Q (.ref l) (upd H1 l (.lst xs.reverse))
theorem CF{e st:Ch}{te:TE}{p2 pos:Pos}(he:PE X e te)(fC:PE X st (tC (.int (-1)))):PE X (.Subscript e (.Slice none none (some st) p2) pos) (LF X.K te):=by
 intro TW s σ H Q I h;show Subscript_ (cb (he TW s σ H _ I h) λv s1 #[x,H1,I1,r1,a,xs,ex,hq,q]=>?_);subst ex;cases r1;show wpAny_Slice ?_;rw[evalPart_none];show GE ?_;show GE ?_;rw[evalPart_some];show cb (fC TW s1 σ H1 (λx H'=>x=.int (-1)/\H'=H1) I1 #[U,U]) λu s2 #[x,H2,I2,r2,ex,eH]=>?_;subst ex eH;let(t,rfl):=r2;let(its,r,ht,hz):=I2.list hq;have hlen:=r.length;have I3:Inv X TW σ H2 { s2 with heap:=s2.heap.push { cls:=.type "slice",data:=.fields #v[.none,.none,.int (-1) t] } }:=I2.kept (t':=s2.toks) λb ob q=>aae _ q;change EQ (model X.prog X.w) X.A (subscriptTail e (.Slice none none (some st) p2) (.ref a) (.ref ↑s2)) (EP X TW σ Q) X.xe { s2 with heap:=s2.heap.push { cls:=.type "slice",data:=.fields #v[.none,.none,.int (-1) t] } };show tail_any (ops:=[.ref a,.ref ↑s2]) (ht.isList.push _).typeIs slot_list_getitem.lookup ?_ (by with_unfolding_all rfl);show wpAny_getItem_list_slice (ht.isList.push _) (Db.IsSliceOf.new ..) .none .none (.int (-1) t) () ?_ (by rw[aaC];cbv);rw[PySem.W.krv_pick];show#[.ref _,_,I3.laid (t':=s2.toks) (o:=.lst xs.reverse) (λb ob q=>aae _ q) (aah _) ?_,U,q _ (I3.bM.fresh (aah _))];exact#[by rw[List.length_reverse];exact hz,_,0,by simpa using r.reverse,Db.get?_push_size _ U]
end
theorem Xu{H:Hp}{a:AC}{o u:HO}:upd (upd H a o) a u=upd H a u:=uv
theorem kU{K:Frag}{nt:Nat}{us:!Nat}{σ:St}{ti:TT}{te:TE}{a:AC}{xs:!V}{H1:Hp}{Q:VK}(p:V->Bool)(f:V->V)(hx:dN K H1 a xs)(hz:xs.length<=FS)(Vl:0 < nt)(hp:∀ x∈xs,∀ (H:Hp) (k:Bool->Hp->Prop),k (p x) H->ti ((lift nt us σ).set 0 (some x)) H k)(he:∀ x∈xs,p x=true->∀ (H:Hp) (k:VK),k (f x) H->te ((lift nt us σ).set 0 (some x)) H k)(hQ:∀ D,H1 D=none->Q (.ref D) (upd H1 D (.lst ((xs.filter p).map f)))):yW nt us σ (et 0) ti te (Ly K a) H1 Q:=by
 intro D hD;have hS:∀ ys,dN K (upd H1 D (.lst ys)) a xs:=λys=>fS.seq (λb o e=>by rw[aA (aI e hD)];exact e) hx;show#[λi m ys H2=>i<=xs.length/\m=xs.length - i/\ys=((xs.take i).filter p).map f/\H2=upd H1 D (.lst ys),#[xs.length,Nat.zero_le _,by simp,by simp,U],?_];rintro i m ys H2 ⟨hi,rfl,rfl,rfl⟩;show#[aD,?_];by_cases jN:i < xs.length
 .refine .inr #[#[xs,xs[i],hS _,by simp[jN]],?_,?_]
  .rw[aaa];have h1:=aa5 p (xs.take i);rw[aa8] at h1;cbv
  .rintro x H3 ⟨rfl,hy⟩;have hc':xs[i]?=some x:=hy xs (hS _);have hm:=aaK hc';show#[ER Vl,hp x hm _ _ ?_];cases e:p x with
   | true =>
    rw[if_pos U];show he x hm e _ _ #[aD,xs.length - (i+1),by cbv,jN,U,?_,Xu];rw[List.take_add_one,hc',List.filter_append,aai];simp[e]
   | false =>
    rw[if_neg aau];show#[xs.length - (i+1),by cbv,jN,U,?_,U];rw[List.take_add_one,hc',List.filter_append,aai];simp[e]
 .have e:i=xs.length:=by cbv
  subst e;show .inl #[#[xs,hS _,aah _],?_];have:=hQ D hD;rw[List.take_of_length_le (aah _)];exact this
theorem fS.upd{H:Hp}{a:AC}{o:HO}(h:H a=none):fS H (upd H a o):=λb u e=>by rw[aA (aI e h)];exact e
theorem fS.UN{H H':Hp}{a:AC}{o:HO}(s:fS H H')(h:H a=none):fS H (L2.upd H' a o):=λb u e=>by rw[aA (aI e h)];exact s b u e
section
variable{X:Cx}
theorem mC{j p pos}:PE X (.UnaryOp .USub (.Constant (.int 1) j p) pos) (tC (.int (-1))):=λTW s σ H Q I h=>RI Mo b6 TW s σ H Q I #[1,U,h]
def Ab:!Ch->!Str
 | []=>[]
 | .Constant (.str x) _ _::r=>x::Ab r
 | _=>[]
def vT:!Ch->Bool
 | []=>true
 | .Constant (.str _) _ _::r=>vT r
 | _=>false
def Tj(zs:!Str):TA:=λ_ H Q=>Q (zs.map V.str) H
theorem Bc:∀ {es:!Ch},vT es=true->PA X es (Tj (Ab es))
 | [],h=>gB
 | e::r,h=>by
  cases e with
  | Constant c j pos =>
   cases c with
   | str x=>exact dX d5 (Bc (es:=r) h)
   | _=>cases h
  | _=>cases h
def Fe:Ev->!Ch
 | .Assign _ (.List es _) _=>es
 | .Assign _ (.BinOp _ _ (.List es _) _) _=>es
 | _=>[]
def rep1:Ev->!Ch->Ev
 | .Assign t (.List _ p) q,es=>.Assign t (.List es p) q
 | .Assign t (.BinOp a o (.List _ p) r) q,es=>.Assign t (.BinOp a o (.List es p) r) q
 | s,_=>s
def BO:Ev:=.Pass #[0,0,0,0]
def RC(b:!Ev)(i:Nat)(es:!Ch):!Ev:=b.set i (rep1 (b.getD i BO) es)
end
end L2
namespace PySem
open Sem (wp)
section
variable{prog:Fa}{w:FB}{A:Fr}{E:acb}{h:Db}{g:Array GenState}{d:Drawn}{t:Nat}{os:OsState}
variable{nm q:Str}{C N:AC}{bs bm bmB:!AT}{aaY:Bool}{sn:!Str}{sub:!AT}{ab:Bool}{col:Option Bool}{dd:Option AC}{k0 k1 k2 k3 k5:Option AT}{B Bn newId nid Wx inN:String}{bmN:!AT}
end
section
variable{M:Model}{A:Fr}{E:acb}{s:Cl}
end
end PySem
namespace L2
open PySem PySem.Spec PyProof.Rows
section
variable{P:Fa}{w:FB}{H:Hp}{h:Db}{ea C d:AC}{dd:Option AC}{fr:Bool}{fs:!(Str×V)}
end
section
variable{X:Cx}{TW:acd}{σ:St}{H:Hp}{s:Cl}{C f:AC}{k:Nat}{fd:Go}{ps:!Str}{sp:Sp}{x:Str}{p pos:Pos}{e:Ch}{es:!Ch}{t:TA}
end
section
variable{X:Cx}{TW:acd}{σ:St}{H:Hp}{s:Cl}{ea C d:AC}{dd:Option AC}{fr:Bool}{fs:!(Str×V)}{f:Str}{v:V}{A:Fr}{E:acb}
end
section
variable{K:Frag}
end
section
variable{X:Cx}{TW:acd}{σ:St}{H:Hp}{s:Cl}{ea C d:AC}{dd:Option AC}{fr:Bool}{fs:!(Str×V)}{f:Str}{v:V}{A:Fr}{E:acb}
end
section
variable{X:Cx}{TW:acd}{σ:St}{H:Hp}{s:Cl}{ea C T:AC}{dd:Option AC}{fr:Bool}{A:Fr}{E:acb}{h':Db}
end
section
variable{X:Cx}{TW:acd}{σ:St}{H:Hp}{s s':Cl}{ea C T:AC}{dd:Option AC}{E:XK}{e:AT}
end
section
variable{P:Fa}{w:FB}{K:Frag}{mg:Str->Option AT}{base:Db}{N:!Str}{qual:Str}{scope:Scope}{f:AC}{cd:AT}{A:Fr}{outer:!Env}{s:Cl}{H:Hp}{E E':XK}
end
section
variable{X:Cx}{TW:acd}{σ:St}{H:Hp}{s:Cl}{ea C:AC}{dd:Option AC}{fr:Bool}
end
section
variable{X:Cx}{TW:acd}{σ:St}{H:Hp}{s:Cl}{ev:AT}
end
section
variable{P:Fa}{w:FB}{K:Frag}{mg:Str->Option AT}{base:Db}
end
section
variable{X:Cx}
def IW(i j:Int):Prop:=0 < j/\j < 9223372036854775808
theorem fq:jt X (Os .FloorDiv) (rI IW λi j=>.int (i / j)):=Vg λi j _ _ _ _ _ hc q=>by
 have h1:(0:Int) < j:=hc.1;have h2:j < 9223372036854775808:=hc.2;show floordiv_int (by cbv) (by rw[Int.fdiv_eq_ediv_of_nonneg i (by cbv)];exact q) (.inl (PyProof.noPylong_of_log2 ?_));have h3:j.natAbs < 2 ^ 63:=by
  have:(2:Nat) ^ 63=9223372036854775808:=by decide
  cbv
 have h4:j.natAbs.log2 < 63:=(Nat.log2_lt (by cbv)).mpr h3;cbv
end
end L2
namespace cY
open PySem L2
abbrev kS:Key:=Sum.inr "seed"
abbrev kN:Key:=Sum.inr "number"
abbrev kL:Key:=Sum.inr "left"
theorem sn:¬ kS=kN:=by decide+kernel
theorem sl:¬ kS=kL:=by decide+kernel
theorem nl:¬ kN=kL:=by decide+kernel
def cT(a b:Int)(l:AC):!(Key×V):=[(kS,.int a),(kN,.int b),(kL,.ref l)]
theorem FT(a b:Int)(l:AC):gG (cT a b l) (kS)=some (.int a):=gq U
theorem zi(a b:Int)(l:AC):gG (cT a b l) (kN)=some (.int b):=by
 unfold cT;rw[ef sn];exact gq U
theorem DV(a b:Int)(l:AC):gG (cT a b l) (kL)=some (.ref l):=by
 unfold cT;rw[ef sl,ef nl];exact gq U
theorem Fg(a b c:Int)(l:AC):putK (cT a b l) (kS) (.int c)=cT c b l:=by
 unfold cT putK;simp only[List.any_cons,List.any_nil,List.map_cons,List.map_nil,decide_true,Bool.true_or,if_true,if_neg (Ne.symm sn),if_neg (Ne.symm sl)]
theorem yR(a b c:Int)(l:AC):putK (cT a b l) (kN) (.int c)=cT a c l:=by
 unfold cT putK;simp only[List.any_cons,List.any_nil,List.map_cons,List.map_nil,decide_true,Bool.true_or,Bool.or_true,if_true,if_neg sn,if_neg (Ne.symm nl)]
theorem J9(a b:Int)(l:AC):hV [] (cT a b l)=cT a b l:=by
 have e1:putK [] kS (V.int a)=[(kS,V.int a)]:=l8 _ rJ;have e2:putK [(kS,V.int a)] kN (V.int b)=[(kS,V.int a),(kN,V.int b)]:=l8 _ (by rw[ef sn];exact rJ);have e3:putK [(kS,V.int a),(kN,V.int b)] kL (V.ref l)=[(kS,V.int a),(kN,V.int b),(kL,V.ref l)]:=l8 _ (by rw[ef sl,ef nl];exact rJ);unfold hV cT;simp only[List.foldl_cons,List.foldl_nil];rw[e1,e2,e3]
section
variable{H:Hp}{d l:AC}{a b:Int}
theorem rK(h:H d=some (.dK (cT a b l))):ij H d (.str "seed") (some (.int a)):=by
 have q:=ij.k (k:=kS) h;rw[FT] at q;exact q
theorem qo(h:H d=some (.dK (cT a b l))):ij H d (.str "number") (some (.int b)):=by
 have q:=ij.k (k:=kN) h;rw[zi] at q;exact q
theorem wK(h:H d=some (.dK (cT a b l))):ij H d (.str "left") (some (.ref l)):=by
 have q:=ij.k (k:=kL) h;rw[DV] at q;exact q
theorem Bu{c:Int}(h:H d=some (.dK (cT a b l))):nY H d (.str "seed") (.int c) (upd H d (.dK (cT c b l))):=by
 have q:=nY.k (k:=kS) (v:=.int c) h (by change 3 < FS;decide);rw[Fg] at q;exact q
theorem oH{c:Int}(h:H d=some (.dK (cT a b l))):nY H d (.str "number") (.int c) (upd H d (.dK (cT a c l))):=by
 have q:=nY.k (k:=kN) (v:=.int c) h (by change 3 < FS;decide);rw[yR] at q;exact q
end
structure At(H:Hp)(d l:AC):Prop where
 ex:∃ (a b:Int) (ns:!Int),H d=some (.dK (cT a b l))/\H l=some (.lst (ns.map V.int))/\0<=a/\a < 2147483647/\0<=b/\∀ n∈ns,0<=n
def NB(d l:AC)(H H':Hp):Prop:=∀ c o,H c=some o->c≠d->c≠l->H' c=some o
theorem NB.refl(d l:AC)(H:Hp):NB d l H H:=λ_ _ h _ _=>h
theorem At.ne{H:Hp}{d l:AC}(h:At H d l):d≠l:=by
 let(a,b,ns,h1,h2,r):=h.ex;exact Jt h1 h2 (by intro z;cases z)
def yZ:Sp:=λvs H Q _=>∃ (d l:AC) (m:Int),vs=[.ref d,.int m]/\At H d l/\0 < m/\m < 9223372036854775808/\∀ (r:Int) (H':Hp),0<=r->r < m->At H' d l->NB d l H H'->Q (.int r) H'
def yc(K:Frag):Sp:=λvs H Q _=>∃ (a:AC) (ns:!Int) (base:Int),vs=[.ref a,.int base]/\dN K H a (ns.map V.int)/\ns.length<=63/\0<=base/\base < 1000000/\∀ (d l:AC) (H':Hp),H d=none->H l=none->At H' d l->fS H H'->Q (.ref d) H'
section
variable{P:Fa}{w:FB}{K:Frag}{mg:Str->Option AT}{base:Db}
abbrev nD:!Str:=["_law_deal_here","_law_many","_law_number","_law_one","_law_other"]
def xN:TS :=
 qh (j5 (k9 (b8 0) (tC (.str "number"))) (et 2))
  (qh (RQ (t7 (j6 (uX λi j=>.bl (decide (j < i))) (b8 2) (tC (.int 0))))
    (qh (sI (b8 0) (tC (.str "number")) (j6 (rI IW λi j=>.int (i / j)) (b8 2) (b8 1))) (IE (j6 (rI (λ_ j=>0 < j) λi j=>.int (i % j)) (b8 2) (b8 1)))) JV)
  (qh (j5 (j6 (rI (λ_ j=>0 < j) λi j=>.int (i % j)) (j6 (uX λi j=>.int (i+j)) (j6 (rI uS λi j=>.int (i * j)) (k9 (b8 0) (tC (.str "seed"))) (tC (.int 48271))) (tC (.int 7919))) (tC (.int 2147483647))) (et 3))
  (qh (sI (b8 0) (tC (.str "seed")) (j6 (rI (λ_ j=>0 < j) λi j=>.int (i % j)) (j6 (uX λi j=>.int (i+j)) (j6 (rI uS λi j=>.int (i * j)) (b8 3) (tC (.int 40692))) (tC (.int 104729))) (tC (.int 2147483399))))
  (qh (j5 (j6 (rI (λ_ j=>0 < j) λi j=>.int (i % j)) (j6 (rI uS λi j=>.int (i * j)) (k9 (b8 0) (tC (.str "seed"))) (k9 (b8 0) (tC (.str "seed")))) (tC (.int 2147483563))) (et 4))
  (IE (j6 (rI (λ_ j=>0 < j) λi j=>.int (i % j)) (j6 (uX λi j=>.int (i+j)) (j6 (rI uS λi j=>.int (i * j)) (j6 (rI (λ_ j=>0 < j) λi j=>.int (i % j)) (j6 (rI uS λi j=>.int (i * j)) (b8 3) (b8 3)) (tC (.int 2147483629))) (tC (.int 2147483563))) (b8 4)) (b8 1)))))))
def Sb(K:Frag):TS :=
 qh (CA (Qe (t7 (j6 WY (k9 (b8 0) (tC (.str "number"))) (tC (.int 0)))) (t7 (j6 (uX λi j=>.bl (decide (j < i))) (Ag (λxs H Q=>∃ p ys,xs=[.ref p]/\(dN K H p ys\/iu K H p ys)/\Q (.int ys.length) H) (qA (k9 (b8 0) (tC (.str "left"))) yY)) (tC (.int 0)))))
  (sI (b8 0) (tC (.str "number")) (OA K "list" Nd (k9 (b8 0) (tC (.str "left")))))) xN
theorem Ip{st:Ev}{f:AC}{fd:Go}(F:tH K "_law_draw" "_law_draw" st f fd)(sc:ax nD ["_law_deal_here","_law_many"] (ai st))(hb:∀ (a8:AT) (A:Fr) (outer:!Env) (s:Cl) (H:Hp) (E:XK),(A.deeper (PyProof.Rows.envOfC "_law_draw" (ai st) ↑s f a8)).units+1 < cLine ->
   pY (jr aP P w K mg base nD "_law_draw" (ai st) f a8 A outer s H E).wo (aL st) (Sb K)) :
  bZ P w K mg base aP 1 f fd ["_law_deal_here","_law_many"] yZ:=by
 show F.ok sc (λvs H Q E h=>?_) (λa8 A outer s H vs Q E hr h=>?_)
 .let(d,l,m,rfl,_):=h
  rfl
 .let(d,l,m,rfl,D,hm,hm2,k):=h;show#[_,hb _ _ _ _ _ _ (bG hr),?_];let(a0,b0,ns0,hd0,hl0,ha0,ha0',hb0,hns0):=D.ex;have ndl:d≠l:=D.ne
  -- while
  show#[λμ σ H1=>∃ (b:Int) (ns:!Int),σ=[some (.ref d),some (.int m),none,none,none]/\H1 d=some (.dK (cT a0 b l))/\H1 l=some (.lst (ns.map V.int))/\0<=b/\(∀ n∈ns,0<=n)/\NB d l H H1/\μ=ns.length,
   #[ns0.length,b0,ns0,U,hd0,hl0,hb0,hns0,NB.refl _ _ _,U],?_]
  rintro μ σ H1 ⟨b,ns,rfl,hd,hl,hb,wF,bt,rfl⟩
  -- behind the loop
  have rest:xN
    { nx:=λ_ H'=>Q .bx H',rt:=Q } [some (.ref d),some (.int m),none,none,none] H1:=by
   show#[_,U,d,_,U,qo hd,?_];show#[_,U,_,_,U,U,_,U,Mm (λhpos=>?_) (λhpos=>?_)]
   .have hpos:0 < b:=of_decide_eq_true hpos;show#[_,U,_,U,_,_,U,U,#[hm,hm2],_,U,d,_,U,oH hd,?_];show#[_,U,_,U,_,_,U,U,hm,?_];show k (b % m) _ (abq _ (by cbv)) (abo _ hm) #[a0,b / m,ns,aD,by rw[aA (Ne.symm ndl)];exact hl,ha0,ha0',Int.ediv_nonneg hb (by cbv),wF] λc o e h1 h2=>?_;rw[aA h1];exact bt c o e h1 h2
   .refine#[_,U,d,_,U,rK hd,_,_,U,U,.inr #[by decide,by decide],_,_,U,U,_,_,U,U,(by change (0:Int) < 2147483647;decide),?_];have h1:0<=(a0 * 48271+7919) % 2147483647:=abq _ ();have h2:(a0 * 48271+7919) % 2147483647 < 2147483647:=abo _ ();show#[_,U,_,_,U,U,.inr #[by decide,by decide],_,_,U,U,_,_,U,U,(by change (0:Int) < 2147483399;decide),_,U,d,_,U,Bu hd,?_];have h3:0<=((a0 * 48271+7919) % 2147483647 * 40692+104729) % 2147483399:=abq _ ();have h4:((a0 * 48271+7919) % 2147483647 * 40692+104729) % 2147483399 < 2147483399:=abo _ ();show#[_,U,d,_,U,rK aD,_,U,d,_,U,rK aD,_,_,U,U,.inl #[by cbv,by cbv],_,_,U,U,(by change (0:Int) < 2147483563;decide),?_];show#[_,U,_,U,_,_,U,U,.inl #[by cbv,by cbv],_,_,U,U,(by change (0:Int) < 2147483629;decide),_,_,U,U,.inr #[by decide,by decide],_,U,_,_,U,U,_,U,_,_,U,U,hm,?_];show k _ _ (abq _ (by cbv)) (abo _ hm) #[_,b,ns,aD,by rw[aA (Ne.symm ndl)];exact hl,h3,by cbv,hb,wF] λc o e h1 h2=>?_;rw[aA h1];exact bt c o e h1 h2
  show#[_,U,d,_,U,qo hd,U,_,U,?_];show Mm (λh0=>?_) (λh0=>?_)
  .refine#[_,U,d,_,U,wK hd,l,_,U,.inl (dN.of hl),_,_,U,U,_,U,?_];show Mm (λh1=>?_) (λh1=>?_)
   .have h1:(0:Int) < ((ns.map V.int).length:Int):=of_decide_eq_true h1;rw[aaa] at h1;obtain⟨init,x,rfl⟩:∃ init x,ns=init++[x]:=by
     rcases List.eq_nil_or_concat ns with e | ⟨i,x,e⟩
     .subst e;simp at h1
     .exact#[i,x,by simpa using e]
    show#[λσ' H'=>∃ (b:Int) (ns:!Int),σ'=[some (.ref d),some (.int m),none,none,none]/\H' d=some (.dK (cT a0 b l))/\H' l=some (.lst (ns.map V.int))/\0<=b/\(∀ n∈ns,0<=n)/\NB d l H H'/\ns.length < (init++[x]).length,?_,?_]
    .rintro σ' H' ⟨b',ns',e1,e2,e3,e4,e5,e6,e7⟩;exact#[ns'.length,e7,b',ns',e1,e2,e3,e4,e5,e6,U]
    .refine#[_,U,d,_,U,wK hd,.inl #[U,_,dN.of hl],l,_,.int x,U,U,hl,by simp,?_];have hd':(upd H1 l (.lst ((init++[x]).map V.int).dropLast)) d=some (.dK (cT a0 b l)):=by rw[aA ndl];exact hd
     show#[_,U,d,_,U,oH hd',?_];show#[x,init,U,aD,?_,wF x (by simp),λn hn=>wF n (by simp[hn]),λc o e h1 h2=>?_,by simp]
     .rw[aA (Ne.symm ndl),aD,aai,aao,aaQ,List.dropLast_concat]
     .rw[aA h1,aA h2];exact bt c o e h1 h2
   .exact rest
  .exact rest
abbrev nL:!Str:=["_law_script","_law_base","_law_some","_law_number","_law_one"]
def XB:!V->Hp->VK->Prop:=λxs H Q=>∃ i j,xs=[.int i,.int j]/\Q (.int (if j > i then j else i)) H
def QM(K:Frag):TS :=
 qh (j5 (xw 1 [] (A9 K (YE (Tr K) (b8 0) (Dj (b8 1)) (Dj (tC (.int 63))))) (et 0) Jl (Ag XB (qA (b8 0) (qA (j6 (uX λi j=>.int (i - j)) (tC (.int 0)) (b8 0)) yY)))) (et 2))
 (qh (j5 (j6 (uX λi j=>.int (i+j)) (tC (.int 7919)) (b8 1)) (et 3))
 (qh (OT (A9 K (b8 2)) (et 4) (j5 (j6 (rI (λ_ j=>0 < j) λi j=>.int (i % j)) (j6 (uX λi j=>.int (i+j)) (j6 (rI uS λi j=>.int (i * j)) (b8 3) (tC (.int 48271))) (j6 (rI (λ_ j=>0 < j) λi j=>.int (i % j)) (b8 4) (tC (.int 2147483629)))) (tC (.int 2147483647))) (et 3)))
 (IE (IQ [(tC (.str "seed"),b8 3),(tC (.str "number"),tC (.int 0)),(tC (.str "left"),wu K (xw 1 [] (A9 K (b8 2)) (et 0) (t7 (j6 (uX λi j=>.bl (decide (j<=i))) (b8 0) (j6 (rI Sg λi j=>.int (i ^ j.toNat)) (tC (.int 10)) (tC (.int 18))))) (b8 0)))]))))
theorem Ie(ns:!Int)(lo hi:Option Int):∃ ms:!Int,qb (ns.map V.int) lo hi=ms.map V.int/\ms.length<=ns.length:=by
 show#[(ns.drop (HT.cc ns.length 0 lo)).take (HT.cc ns.length ns.length hi - HT.cc ns.length 0 lo),?_,?_]
 .unfold qb;rw[aaa,<- List.map_drop,<- List.map_take]
 .rw[aa8,abl];cbv
def pO(i:Int):Int:=if 0 - i > i then 0 - i else i
theorem HP(i:Int):0<=pO i:=by
 unfold pO;split<;>cbv
def JC:V->V
 | .int i=>.int (pO i)
 | v=>v
def MF:V->Bool
 | .int i=>decide ((10:Int) ^ (18:Int).toNat<=i)
 | _=>false
theorem HE{st:Ev}{f:AC}{fd:Go}(F:tH K "_law_deal" "_law_deal" st f fd)(sc:ax nL ["_law_script","_law_base"] (ai st))(hb:∀ (a8:AT) (A:Fr) (outer:!Env) (s:Cl) (H:Hp) (E:XK),pY (jr aP P w K mg base nL "_law_deal" (ai st) f a8 A outer s H E).wo (aL st) (QM K)) :
  bZ P w K mg base aP 1 f fd ["_law_script","_law_base"] (yc K):=by
 show F.ok sc (λvs H Q E h=>?_) (λa8 A outer s H vs Q E hr h=>?_)
 .let(a,ns,bs,rfl,_):=h
  rfl
 .let(a,ns,bs,rfl,hS,hn,hb0,hb1,k):=h;show#[_,hb _ _ _ _ _ _,?_];let(ms,ems,hms):=Ie ns (some bs) (some 63);show#[_,U,_,U,_,U,_,U,a,_,U,hS,λp hp=>#[p,U,#[_,dN.of aD],?_]];rw[ems];show kU (xs:=ms.map V.int) (λ_=>true) JC (dN.of aD) (by rw[aaa];exact aap (aap hms hn) ()) () (λx hx H1 k1 q=>q) (λx hx _ H1 k1 q=>?_) (λD hD=>?_)
  .let(i,_,rfl):=aak.mp hx;exact#[_,U,_,U,_,_,U,U,_,_,U,q]
  .have hD0:H D=none:=(fS.upd hp).free hD;have e1:((ms.map V.int).filter λ_=>true).map JC=(ms.map pO).map V.int:=by
    rw[List.filter_eq_self.mpr (by simp),List.map_map,List.map_map]
    rfl
   rw[e1];have s1:fS H (upd (upd H p (.lst (ms.map V.int))) D (.lst ((ms.map pO).map V.int))):=(fS.upd hp).trans (fS.upd hD);generalize hH2:upd (upd H p (.lst (ms.map V.int))) D (.lst ((ms.map pO).map V.int))=H2 at s1;have hD2:H2 D=some (.lst ((ms.map pO).map V.int)):=by rw[<- hH2];exact aD
   -- number=7919+base
   show#[_,U,_,_,U,U,?_]
   -- for
   show#[_,U,D,U,#[_,dN.of hD2],CZ (K:=K) (a:=D) (xs:=(ms.map pO).map V.int) (λi σ H3=>∃ (n:Int) (v:Option V),σ=[some (.ref a),some (.int bs),some (.ref D),some (.int n),v]/\0<=n/\n < 2147483647/\H3=H2)
    #[7919+bs,none,U,by cbv,by cbv,U] (λi σ H3 _ #[_,_,_,_,_,e]=>by rw[e];exact dN.of hD2) ?_ ?_]
   .rintro i y σ H3 hi ⟨n,v,rfl,h0,h1,rfl⟩;let(j,_,rfl):=aak.mp (aaK hi);show#[_,U,_,_,U,U,.inr #[by decide,by decide],_,U,_,_,U,U,(by change (0:Int) < 2147483629;decide),_,_,U,U,_,_,U,U,(by change (0:Int) < 2147483647;decide),?_];exact#[_,_,U,abq _ (),abo _ (),U]
   .rintro σ H3 ⟨n,v,rfl,h0,h1,rfl⟩
    -- the dict
    intro d hd;have hd0:H d=none:=s1.free hd;have hDd:(upd H3 d (.dK [])) D=some (.lst ((ms.map pO).map V.int)):=by rw[aA (aI hD2 hd)];exact hD2
    show#[_,U,_,U,D,U,#[_,dN.of hDd],?_];show kU (xs:=(ms.map pO).map V.int) MF id (dN.of hDd) (by rw[aaa,aaa];exact aap (aap hms hn) ()) () (λx hx H1 k1 q=>?_) (λx hx _ H1 k1 q=>#[_,U,q]) (λD2 hD2'=>?_)
    .let(i,_,rfl):=aak.mp hx;exact#[_,U,_,_,U,U,#[by decide,by decide,by decide],_,_,U,U,_,U,q]
    .refine#[D2,_,U,dN.of aD,λl hl=>?_];have ndD2:d≠D2:=aI aD hD2';have ndl:d≠l:=aI (H:=upd (upd H3 d (.dK [])) D2 _) (by rw[aA ndD2];exact aD) hl;show#[by rw[aA ndl,aA ndD2];exact aD,cT n 0 l,U,(by change 3<=15;decide),?_];rw[J9];have hD20:H D2=none:=(s1.trans (fS.upd hd)).free hD2';have hl0:H l=none:=((s1.trans (fS.upd hd)).trans (fS.upd hD2')).free hl;have e3:∃ ks:!Int,((((ms.map pO).map V.int).filter MF).map id).reverse=ks.map V.int/\∀ n∈ks,0<=n:=by
      show#[((ms.map pO).filter λi=>MF (.int i)).reverse,?_,?_]
      .rw[abf,List.filter_map,ab7]
       rfl
      .intro n hn';let(i,_,rfl):=aak.mp (aa3.mp (List.mem_reverse.mp hn')).1;exact HP i
     let(ks,e3,wg):=e3;rw[e3];show k d l _ hd0 hl0 #[n,0,ks,aD,by rw[aA (Ne.symm ndl)];exact aD,h0,h1,Int.le_refl _,wg] ?_;exact (((s1.trans (fS.upd hd)).trans (fS.upd hD2')).UN hl0).UN hd0
end
theorem ku(c:Nat):(#[#v[c]]:Str).length=1:=rfl
theorem cL(x y:Str):(x++y).length=x.length+y.length:=by
 first
  | exact Str.length_append x y
  | (show (x.cps++y.cps).size=x.cps.size+y.cps.size;exact Array.size_append)
theorem join_ones:∀ (cs:!Nat),(Txt.join ("":Str) (cs.map λc=>(#[#v[c]]:Str))).length<=cs.length
 | []=>aah _
 | [c]=>aah _
 | c::d::r=>by
  have ih:=join_ones (d::r);have e:(Txt.join ("":Str) ((c::d::r).map λc=>(#[#v[c]]:Str)))=(#[#v[c]]:Str)++("":Str)++Txt.join ("":Str) ((d::r).map λc=>(#[#v[c]]:Str)):=by
   unfold Txt.join;rw[abp,abp]
   rfl
  rw[e,cL,cL];have:("":Str).length=0:=rfl;rw[ku];change _<=(d::r).length+1;cbv
theorem xu:∀ (cs:!Nat),((cs.map λc=>(#[#v[c]]:Str)).map (·.length)).sum=cs.length
 | []=>rfl
 | c::r=>by
  rw[aao,aao,List.sum_cons,xu r,aam];have:(#[#v[c]]:Str).length=1:=rfl;cbv
abbrev Sw:Str:="abcdefghijklmnopqrstuvwxyz"
def near:!Str:=["lets","asks","maker","tabs","too","news","zeros","casey","madex","defa","num","askedx"]
end cY
namespace DL
open PySem PySem.Spec L2
open PyProof.Rows hiding St
theorem cQ{α β γ δ:Type}{P Q R:α->β->γ->δ->Prop}{C:Prop}(h:∃ a b c d,P a b c d/\Q a b c d/\R a b c d)(k:∀ a b c d,P a b c d->Q a b c d->R a b c d->C):C:=by
 let(a,b,c,d,h1,h2,h3):=h;exact k a b c d h1 h2 h3
set_option genInjectivity true in inductive D where
 | bx | bl (b:Bool) | int (i:Int) | str (x:Str) | bJ (a:AC) | ty (n:String)
 | tup (ds:!D) | lst (ds:!D) | i7 (ks:!Key) (vs:!D) | oV (ks:!(!Key)) (vs:!D)
 | HI (ks:!(!Key)) (vs:!D)
 | ob (C:AC) (ks:!Str) (vs:!D)
def TupAt(_K:Frag)(H:Hp)(M:AC->Prop)(a:AC)(xs:!V):Prop:=M a/\H a=some (.tup xs)
theorem TupAt.sq{K:Frag}{H:Hp}{M:AC->Prop}{a:AC}{xs:!V}(h:TupAt K H M a xs):iu K H a xs:=.of h.2
section
variable(K:Frag)(H:Hp)(M:AC->Prop)
mutual
noncomputable def Rep:D->V->Prop
 | .bx,v=>v=.bx
 | .bl b,v=>v=.bl b
 | .int i,v=>v=.int i
 | .str x,v=>v=.str x
 | .bJ a,v=>v=.ref a
 | .ty n,v=>v=.ty n
 | .tup ds,v=>∃ a xs,v=.ref a/\TupAt K H M a xs/\aE ds xs
 | .lst ds,v=>∃ a xs,v=.ref a/\(M a/\H a=some (.lst xs))/\aE ds xs
 | .i7 ks vs,v=>∃ (a:AC) (kvs:!(Key×V)),v=.ref a/\(M a/\H a=some (.dK kvs))/\kvs.map (·.1)=ks/\aE vs (kvs.map (·.2))
 | .oV ks vs,v=>∃ (a:AC) (kvs:!(!Key×V)),v=.ref a/\(M a/\H a=some (.dT kvs))/\kvs.map (·.1)=ks/\aE vs (kvs.map (·.2))
 | .HI ks vs,v=>∃ (a:AC) (o:Obj) (kvs:!(Key×V)),v=.ref a/\(M a/\H a=some (.fO o (.dK kvs)))/\(kvs.map λx=>[x.1])=ks/\aE vs (kvs.map (·.2))
 | .ob C ks vs,v=>∃ (a dx:AC) (kvs:!(Str×V)),v=.ref a/\(M a/\H a=some (.ins C dx kvs))/\kvs.map (·.1)=ks/\aE vs (kvs.map (·.2))
noncomputable def aE:!D->!V->Prop
 | [],xs=>xs=[]
 | d::ds,xs=>∃ x r,xs=x::r/\Rep d x/\aE ds r
end
def cy:D->HO->Prop
 | .lst ds,.lst xs=>aE K H M ds xs
 | .i7 ks vs,.dK kvs=>kvs.map (·.1)=ks/\aE K H M vs (kvs.map (·.2))
 | .oV ks vs,.dT kvs=>kvs.map (·.1)=ks/\aE K H M vs (kvs.map (·.2))
 | .ob C ks vs,.ins C' _ kvs=>C'=C/\kvs.map (·.1)=ks/\aE K H M vs (kvs.map (·.2))
 | _,_=>False
end
section
variable{K:Frag}{H H':Hp}{M M':AC->Prop}
theorem TupAt.mono(hM:∀ b,M b->M' b)(hH:∀ b o,M b->H b=some o->H' b=some o){a:AC}{xs:!V}(h:TupAt K H M a xs):TupAt K H' M' a xs:=#[hM a h.1,hH a _ h.1 h.2]
mutual
theorem Rep.mono(hM:∀ b,M b->M' b)(hH:∀ b o,M b->H b=some o->H' b=some o):∀ (d:D) (v:V),Rep K H M d v->Rep K H' M' d v
 | .bx,v,h=>h
 | .bl b,v,h=>h
 | .int i,v,h=>h
 | .str x,v,h=>h
 | .bJ a,v,h=>h
 | .ty n,v,h=>h
 | .tup ds,v,h=>by
  let(a,xs,e,t,r):=h;exact#[a,xs,e,t.mono hM hH,aE.mono hM hH ds xs r]
 | .lst ds,v,h=>by
  let(a,xs,e,(m,t),r):=h;exact#[a,xs,e,#[hM a m,hH a _ m t],aE.mono hM hH ds xs r]
 | .i7 ks vs,v,h=>by
  let(a,xs,e,(m,t),k,r):=h;exact#[a,xs,e,#[hM a m,hH a _ m t],k,aE.mono hM hH vs _ r]
 | .oV ks vs,v,h=>by
  let(a,xs,e,(m,t),k,r):=h;exact#[a,xs,e,#[hM a m,hH a _ m t],k,aE.mono hM hH vs _ r]
 | .HI ks vs,v,h=>by
  let(a,o,xs,e,(m,t),k,r):=h;exact#[a,o,xs,e,#[hM a m,hH a _ m t],k,aE.mono hM hH vs _ r]
 | .ob C ks vs,v,h=>by
  let(a,dx,xs,e,(m,t),k,r):=h;exact#[a,dx,xs,e,#[hM a m,hH a _ m t],k,aE.mono hM hH vs _ r]
theorem aE.mono(hM:∀ b,M b->M' b)(hH:∀ b o,M b->H b=some o->H' b=some o):∀ (ds:!D) (vs:!V),aE K H M ds vs->aE K H' M' ds vs
 | [],vs,h=>h
 | d::ds,vs,h=>by
  let(x,r,e,h1,h2):=h;exact#[x,r,e,Rep.mono hM hH d x h1,aE.mono hM hH ds r h2]
end
theorem cy.mono(hM:∀ b,M b->M' b)(hH:∀ b o,M b->H b=some o->H' b=some o){d:D}{o:HO}(h:cy K H M d o):cy K H' M' d o:=by
 unfold cy at h ⊢;split at h
 .exact aE.mono hM hH _ _ h
 .exact#[h.1,aE.mono hM hH _ _ h.2]
 .exact#[h.1,aE.mono hM hH _ _ h.2]
 .exact#[h.1,h.2.1,aE.mono hM hH _ _ h.2.2]
 .exact h.elim
theorem aE.length:∀ {ds:!D} {vs:!V},aE K H M ds vs->vs.length=ds.length
 | [],vs,h=>by
  have h:vs=[]:=h;rw[h];rfl
 | d::ds,vs,h=>by
  let(x,r,e,h1,h2):=h;rw[e,aam,aam,aE.length h2]
theorem aE.get:∀ {ds:!D} {vs:!V} {i:Nat} {d:D},aE K H M ds vs->ds[i]?=some d->∃ v,vs[i]?=some v/\Rep K H M d v
 | [],vs,i,d,h,e=>by simp at e
 | c::ds,vs,0,d,h,e=>by
  let(x,r,rfl,h1,h2):=h;simp at e;subst e;exact#[x,U,h1]
 | c::ds,vs,i+1,d,h,e=>by
  let(x,r,rfl,h1,h2):=h;let(v,h3,h4):=aE.get (i:=i) (d:=d) h2 (by simpa using e);exact#[v,by simpa using h3,h4]
theorem aE.append:∀ {ds es:!D} {vs ws:!V},aE K H M ds vs->aE K H M es ws->aE K H M (ds++es) (vs++ws)
 | [],es,vs,ws,h,h'=>by
  have h:vs=[]:=h;rw[h];exact h'
 | d::ds,es,vs,ws,h,h'=>by
  let(x,r,rfl,h1,h2):=h;exact#[x,r++ws,U,h1,aE.append h2 h']
theorem aE.take:∀ {ds:!D} {vs:!V} (n:Nat),aE K H M ds vs->aE K H M (ds.take n) (vs.take n)
 | [],vs,n,h=>by
  have h:vs=[]:=h;rw[h];simp[aE]
 | d::ds,vs,0,h=>by simp[aE]
 | d::ds,vs,n+1,h=>by
  let(x,r,rfl,h1,h2):=h;exact#[x,r.take n,U,h1,aE.take n h2]
theorem aE.drop:∀ {ds:!D} {vs:!V} (n:Nat),aE K H M ds vs->aE K H M (ds.drop n) (vs.drop n)
 | [],vs,n,h=>by
  have h:vs=[]:=h;rw[h];simp[aE]
 | d::ds,vs,0,h=>h
 | d::ds,vs,n+1,h=>by
  let(x,r,rfl,h1,h2):=h;exact aE.drop n h2
theorem aE.one{d:D}{v:V}(h:Rep K H M d v):aE K H M [d] [v]:=#[v,[],U,h,U]
theorem aE.reverse:∀ {ds:!D} {vs:!V},aE K H M ds vs->aE K H M ds.reverse vs.reverse
 | [],vs,h=>by
  have h:vs=[]:=h;rw[h]
  rfl
 | d::ds,vs,h=>by
  let(x,r,rfl,h1,h2):=h;rw[abv,abv];exact aE.append (aE.reverse h2) (aE.one h1)
theorem aE.set{d:D}{v:V}(r:Rep K H M d v):∀ {ds:!D} {vs:!V} (i:Nat),aE K H M ds vs->aE K H M (ds.set i d) (vs.set i v)
 | [],vs,i,h=>by
  have h:vs=[]:=h;rw[h]
  rfl
 | c::ds,vs,0,h=>by
  let(x,r',rfl,h1,h2):=h;exact#[v,r',U,r,h2]
 | c::ds,vs,i+1,h=>by
  let(x,r',rfl,h1,h2):=h;exact#[x,r'.set i v,U,h1,aE.set r i h2]
theorem aE.eraseIdx:∀ {ds:!D} {vs:!V} (i:Nat),aE K H M ds vs->aE K H M (ds.eraseIdx i) (vs.eraseIdx i)
 | [],vs,i,h=>by
  have h:vs=[]:=h;rw[h]
  rfl
 | c::ds,vs,0,h=>by
  let(x,r',rfl,h1,h2):=h;exact h2
 | c::ds,vs,i+1,h=>by
  let(x,r',rfl,h1,h2):=h;exact#[x,r'.eraseIdx i,U,h1,aE.eraseIdx i h2]
end
structure AQ where
 own:AC->Prop
 inv:Hp->Prop
 loc:∀ H H',inv H->(∀ b o,(own b\/∃ φ,o=HO.ext φ)->H b=some o->H' b=some o)->inv H'
 LX:∀ H b,inv H->own b->∃ o,H b=some o
 nt:∀ H b xs,inv H->own b->H b≠some (.tup xs)
 kK:!AC:=[]
def AQ.no:AQ:=#[λ_=>False,λ_=>True,λ_ _ _ _=>trivial,λ_ _ _ h=>h.elim,λ_ _ _ _ h=>h.elim,[]]
def Nu(H:Hp)(b:AC):Prop:=H b=none\/∃ xs,H b=some (.tup xs)
def bg(d l:AC):AQ where
 own:=λb=>b=d\/b=l
 inv:=λH=>cY.At H d l
 loc:=λH H' h k=>by
  let(a,b,ns,h1,h2,r):=h.ex;exact#[a,b,ns,k _ _ (.inl (.inl U)) h1,k _ _ (.inl (.inr U)) h2,r]
 LX:=λH b h e=>by
  let(a,_,ns,h1,h2,r):=h.ex;rcases e with rfl | rfl
  .exact#[_,h1]
  .exact#[_,h2]
 nt:=λH b xs h e=>by
  let(a,_,ns,h1,h2,r):=h.ex;rcases e with rfl | rfl
  .rw[h1];intro z;cases z
  .rw[h2];intro z;cases z
structure Ent where
 g:AQ
 M0:AC->Prop
 H0:Hp
structure Base(c:Ent)(M:AC->Prop)(H:Hp):Prop where
 nZ:c.g.inv H
 fr:∀ b o,c.H0 b=some o->¬ c.g.own b->H b=some o
 md:∀ b,M b->∃ o,H b=some o
 mo:∀ b,M b->¬ c.g.own b
 m0:∀ b,c.M0 b->M b
 mn:∀ b,M b->c.M0 b\/Nu c.H0 b
set_option genInjectivity true in inductive Sl where
 | no | dat (d:D) | own (k:Nat)
structure DS where
 sl:!Sl
 os:!(Option D)
def dO(s:DS)(as:!AC)(b:AC):Prop:=∃ (k:Nat) (d:D),s.os[k]?=some (some d)/\as[k]?=some b
structure aG(K:Frag)(c:Ent)(M:AC->Prop)(s:DS)(as:!AC)(σ:St)(H:Hp):Prop where
 base:Base c M H
 len:s.sl.length=σ.length
 dA:as.length=s.os.length
 dat:∀ (i:Nat) (d:D),s.sl[i]?=some (.dat d)->∃ v,σ[i]?=some (some v)/\Rep K H M d v
 own:∀ (i k:Nat),s.sl[i]?=some (.own k)->∃ a,as[k]?=some a/\σ[i]?=some (some (.ref a))
 obj:∀ (k:Nat) (d:D) (a:AC),s.os[k]?=some (some d)->as[k]?=some a->(∃ o,H a=some o/\cy K H M d o)/\¬ M a/\¬ c.g.own a/\c.H0 a=none
 inj:∀ (k l:Nat) (d e:D) (a:AC),s.os[k]?=some (some d)->s.os[l]?=some (some e)->as[k]?=some a->as[l]?=some a->k=l
 lt:∀ (k:Nat) (a:AC),c.g.kK[k]?=some a->as[k]?=some a
structure Ext(c:Ent)(as:!AC)(M:AC->Prop)(s:DS)(H:Hp)(M':AC->Prop)(s':DS)(H':Hp):Prop where
 sub:∀ b,M b->M' b
 new:∀ b,M' b->M b\/Nu H b\/dO s as b
 keep:∀ b o,H b=some o->¬ c.g.own b->¬ dO s as b->H' b=some o
 iG:∀ b,dO s' as b->dO s as b
section
variable{K:Frag}{c:Ent}{M M' M1 M2:AC->Prop}{s s' s1 s2:DS}{as:!AC}{σ:St}{H H' H1 H2:Hp}{a p:AC}{o:HO}{d:D}{v:V}
theorem aG.nM(L:aG K c M s as σ H)(h:dO s as a):¬ M a/\¬ c.g.own a/\c.H0 a=none/\∃ o,H a=some o:=by
 let(k,d,h1,h2):=h;let((o,q,_),q1,q2,q3):=L.obj k d a h1 h2;exact#[q1,q2,q3,o,q]
theorem Base.qw(B:Base c M H)(h:H a=none):c.H0 a=none:=by
 cases e:c.H0 a with
 | none=>rfl
 | some o =>
  exfalso;by_cases q:c.g.own a
  .let(o',h'):=c.g.LX H a B.nZ q;rw[h] at h';cases h'
  .have:=B.fr a o e q;rw[h] at this;cases this
theorem Ext.Fo(E:Ext c as M s H M' s' H')(L:aG K c M s as σ H):∀ b o,M b->H b=some o->H' b=some o:=λb o m h =>
 E.keep b o h (L.base.mo b m) λq=>(L.nM q).1 m
theorem Ext.rep(E:Ext c as M s H M' s' H')(L:aG K c M s as σ H)(r:Rep K H M d v):Rep K H' M' d v:=Rep.mono E.sub (E.Fo L) d v r
theorem Ext.vo(E:Ext c as M s H M' s' H')(L:aG K c M s as σ H){ds:!D}{vs:!V}(r:aE K H M ds vs):aE K H' M' ds vs:=aE.mono E.sub (E.Fo L) ds vs r
theorem Ext.refl:Ext c as M s H M s H:=#[λ_ h=>h,λ_ h=>.inl h,λ_ _ h _ _=>h,λ_ h=>h]
theorem Ext.trans(E1:Ext c as M s H M1 s1 H1)(B1:Base c M1 H1)(E2:Ext c as M1 s1 H1 M2 s2 H2):Ext c as M s H M2 s2 H2 where
 sub:=λb h=>E2.sub b (E1.sub b h)
 new:=λb h=>by
  rcases E2.new b h with h | h | h
  .exact E1.new b h
  .cases q:H b with
   | none=>exact .inr (.inl (.inl q))
   | some o =>
    by_cases g:c.g.own b
    .rcases h with h | ⟨xs,h⟩
     .let(o',h'):=c.g.LX H1 b B1.nZ g;rw[h] at h';cases h'
     .exact absurd h (c.g.nt H1 b xs B1.nZ g)
    .by_cases w:dO s as b
     .exact .inr (.inr w)
     .have:=E1.keep b o q g w;rcases h with h | ⟨xs,h⟩
      .rw[h] at this;cases this
      .rw[h] at this;cases this;exact .inr (.inl (.inr #[xs,q]))
  .exact .inr (.inr (E1.iG b h))
 keep:=λb o h g w=>E2.keep b o (E1.keep b o h g w) g λq=>w (E1.iG b q)
 iG:=λb h=>E1.iG b (E2.iG b h)
theorem aG.laid(L:aG K c M s as σ H)(hp:H p=none):aG K c M s as σ (upd H p o):=by
 have kp:∀ b u,H b=some u->upd H p o b=some u:=λb u e=>by rw[aA (aI e hp)];exact e
 show#[#[c.g.loc H _ L.base.nZ λb u _ e=>kp b u e,λb u e g=>kp b u (L.base.fr b u e g),λb m=>?_,L.base.mo,L.base.m0,L.base.mn],L.len,L.dA,λi d e=>?_,L.own,λk d a e1 e2=>?_,L.inj,L.lt]
 .let(u,e):=L.base.md b m;exact#[u,kp b u e]
 .let(v,h1,h2):=L.dat i d e;exact#[v,h1,Rep.mono (λ_ h=>h) (λb u _ e=>kp b u e) d v h2]
 .let((u,q,r),q1):=L.obj k d a e1 e2;exact#[#[u,kp _ _ q,cy.mono (λ_ h=>h) (λb u _ e=>kp b u e) r],q1]
theorem Ext.laid(hp:H p=none):Ext c as M s H M s (upd H p o):=#[λ_ h=>h,λ_ h=>.inl h,λb u e _ _=>by rw[aA (aI e hp)];exact e,λ_ h=>h]
theorem aG.Mj(L:aG K c M s as σ H)(ha:H a=some o)(g:¬ c.g.own a)(w:¬ dO s as a)(h0:Nu c.H0 a):aG K c (λb=>M b\/b=a) s as σ H:=by
 have mk:∀ b u,M b->H b=some u->H b=some u:=λ_ _ _ e=>e;show#[#[L.base.nZ,L.base.fr,λb m=>?_,λb m=>?_,λb m=>.inl (L.base.m0 b m),λb m=>?_],L.len,L.dA,λi d e=>?_,L.own,λk d b e1 e2=>?_,L.inj,L.lt]
 .rcases m with m | rfl
  .exact L.base.md b m
  .exact#[o,ha]
 .rcases m with m | rfl
  .exact L.base.mo b m
  .exact g
 .rcases m with m | rfl
  .exact L.base.mn b m
  .exact .inr h0
 .let(v,h1,h2):=L.dat i d e;exact#[v,h1,Rep.mono (λ_ h=>.inl h) mk d v h2]
 .let((u,q,r),q1,q2):=L.obj k d b e1 e2;show#[#[u,q,cy.mono (λ_ h=>.inl h) mk r],λm=>?_,q2];rcases m with m | rfl
  .exact q1 m
  .exact w #[k,d,e1,e2]
theorem aG.grown(L:aG K c M s as σ H)(ha:H a=some o)(g:¬ c.g.own a)(w:¬ dO s as a)(h0:c.H0 a=none):aG K c (λb=>M b\/b=a) s as σ H:=L.Mj ha g w (.inl h0)
theorem cy.Fl{xs:!V}(h:cy K H M d (.tup xs)):False:=by cases d<;>exact h
theorem cy.next{φ:Db->Prop}(h:cy K H M d (.ext φ)):False:=by cases d<;>exact h
theorem aG.fresh(L:aG K c M s as σ H)(hp:H p=none):aG K c (λb=>M b\/b=p) s as σ (upd H p o):=by
 show (L.laid (o:=o) hp).grown aD (λg=>?_) (λw=>?_) (L.base.qw hp)
 .let(u,e):=c.g.LX H p L.base.nZ g;rw[hp] at e;cases e
 .let(_,_,_,u,e):=L.nM w;rw[hp] at e;cases e
theorem Ext.fresh(hp:H p=none):Ext c as M s H (λb=>M b\/b=p) s (upd H p o):=#[λ_ h=>.inl h,λb h=>by
 rcases h with h | rfl
 .exact .inl h
 .exact .inr (.inl (.inl hp)),λb u e _ _=>by rw[aA (aI e hp)];exact e,λ_ h=>h]
theorem zL(hp:H p=none)(r:Rep K H M d v):Rep K (upd H p o) (λb=>M b\/b=p) d v:=Rep.mono (λ_ h=>.inl h) (λb u _ e=>by rw[aA (aI e hp)];exact e) d v r
theorem kj(hp:H p=none){ds:!D}{vs:!V}(r:aE K H M ds vs):aE K (upd H p o) (λb=>M b\/b=p) ds vs:=aE.mono (λ_ h=>.inl h) (λb u _ e=>by rw[aA (aI e hp)];exact e) ds vs r
theorem gh(hp:H p=none){ds:!D}{vs:!V}(r:aE K H M ds vs):aE K (upd H p o) M ds vs:=aE.mono (λ_ h=>h) (λb u _ e=>by rw[aA (aI e hp)];exact e) ds vs r
theorem cy.rep(h:cy K H M d o)(ha:H a=some o)(m:M a):Rep K H M d (.ref a):=by
 unfold cy at h;split at h
 .exact#[a,_,U,#[m,ha],h]
 .exact#[a,_,U,#[m,ha],h.1,h.2]
 .exact#[a,_,U,#[m,ha],h.1,h.2]
 .exact#[a,_,_,U,#[m,h.1▸ha],h.2]
 .exact h.elim
end
abbrev aU:=DS->(D->DS->Prop)->Prop
abbrev mH:=DS->(Bool->DS->Prop)->Prop
abbrev eQ:=DS->(!D->DS->Prop)->Prop
structure gX where
 nx:DS->Prop
 rt:D->Prop
 rf:D->Prop:=λ_=>False
 bk:DS->Prop:=λ_=>False
 ct:DS->Prop:=λ_=>False
 rs:D->DS->Prop:=λ_ _=>False
abbrev iF:=gX->DS->Prop
section
variable(K:Frag)(c:Ent)
def tE(t:aU):TE:=λσ H Q=>∃ M s as R,aG K c M s as σ H/\t s R/\∀ d s',R d s'->∀ M' H' v,aG K c M' s' as σ H'->Ext c as M s H M' s' H'->Rep K H' M' d v->Q v H'
def tN(t:aU):TE:=λσ H Q=>∃ M s as R,aG K c M s as σ H/\t s R/\∀ d s',R d s'->∀ M' H' a o,aG K c M' s' as σ H'->Ext c as M s H M' s' H'->H' a=some o->cy K H' M' d o->¬ M' a->¬ c.g.own a->¬ dO s' as a->c.H0 a=none->(H a=none\/dO s as a)->Q (.ref a) H'
def tT(t:mH):TT:=λσ H Q=>∃ M s as R,aG K c M s as σ H/\t s R/\∀ b s',R b s'->∀ M' H',aG K c M' s' as σ H'->Ext c as M s H M' s' H'->Q b H'
def tA(n:Nat)(t:eQ):TA:=λσ H Q=>∃ M s as R,aG K c M s as σ H/\t s R/\∀ ds s',R ds s'->∀ M' H' vs,aG K c M' s' as σ H'->Ext c as M s H M' s' H'->aE K H' M' ds vs->ds.length=n->Q vs H'
def d9(M:AC->Prop)(H:Hp)(M':AC->Prop)(H':Hp):Prop:=∀ b,M b->M' b/\∀ o,H b=some o->H' b=some o
structure qN(M:AC->Prop)(H:Hp)(R:gX)(E:Ends):Prop where
 nx:∀ s as M' σ H',R.nx s->aG K c M' s as σ H'->d9 M H M' H'->E.nx σ H'
 bk:∀ s as M' σ H',R.bk s->aG K c M' s as σ H'->d9 M H M' H'->E.bk σ H'
 ct:∀ s as M' σ H',R.ct s->aG K c M' s as σ H'->d9 M H M' H'->E.ct σ H'
 rt:∀ d M' H' v,R.rt d->Base c M' H'->Rep K H' M' d v->E.rt v H'
 rf:∀ d M' H' a o,R.rf d->Base c M' H'->H' a=some o->cy K H' M' d o->¬ M' a->¬ c.g.own a->c.H0 a=none->E.rt (.ref a) H'
 rs:∀ d s as M' σ H' v,R.rs d s->aG K c M' s as σ H'->Rep K H' M' d v->E.rt v H'
def tS(t:iF):TS:=λE σ H=>∃ M s as R,aG K c M s as σ H/\t R s/\qN K c M H R E
end
structure DE(X:Cx)(c:Ent)(e:Ch)(t:aU):Prop where
 pe:PE X e (tE X.K c t)
structure DN(X:Cx)(c:Ent)(e:Ch)(t:aU):Prop where
 pe:PE X e (tN X.K c t)
structure DT(X:Cx)(c:Ent)(e:Ch)(t:mH):Prop where
 pt:PT X e (tT X.K c t)
structure DW(X:Cx)(c:Ent)(e:Ch)(t:mH):Prop where
 pw:PW X e (tT X.K c t)
structure DA(X:Cx)(c:Ent)(es:!Ch)(t:eQ):Prop where
 pa:PA X es (tA X.K c es.length t)
structure pE(X:Cx)(c:Ent)(st:Ev)(t:iF):Prop where
 ps:PS X st (tS X.K c t)
structure pK(X:Cx)(c:Ent)(st:!Ev)(t:iF):Prop where
 ps:pY X st (tS X.K c t)
section
variable{X:Cx}
theorem _root_.L2.PE.imp{e:Ch}{t t':TE}(h:PE X e t)(w:∀ σ H Q,t' σ H Q->t σ H Q):PE X e t':=λTW s σ H Q I q=>h TW s σ H Q I (w σ H Q q)
theorem _root_.L2.PT.imp{e:Ch}{t t':TT}(h:PT X e t)(w:∀ σ H Q,t' σ H Q->t σ H Q):PT X e t':=λTW s σ H Q I q=>h TW s σ H Q I (w σ H Q q)
theorem _root_.L2.PW.imp{e:Ch}{t t':TT}(h:PW X e t)(w:∀ σ H Q,t' σ H Q->t σ H Q):PW X e t':=λwh TW s σ H Q I q=>h wh TW s σ H Q I (w σ H Q q)
theorem _root_.L2.PA.imp{es:!Ch}{t t':TA}(h:PA X es t)(w:∀ σ H Q,t' σ H Q->t σ H Q):PA X es t':=λpos TW s σ H Q I q=>h pos TW s σ H Q I (w σ H Q q)
theorem _root_.L2.PS.imp{st:Ev}{t t':TS}(h:PS X st t)(w:∀ E σ H,t' E σ H->t E σ H):PS X st t':=λTW s σ H E I q=>h TW s σ H E I (w E σ H q)
theorem _root_.L2.pY.imp{st:!Ev}{t t':TS}(h:pY X st t)(w:∀ E σ H,t' E σ H->t E σ H):pY X st t':=λTW s σ H E I q=>h TW s σ H E I (w E σ H q)
end
section
variable{X:Cx}{c:Ent}{a b e:Ch}{es:!Ch}{ta tb te:aU}{t:eQ}{pos:Pos}
theorem Ext.plus{as:!AC}{M M':AC->Prop}{s s':DS}{H H':Hp}{a:AC}(E:Ext c as M s H M' s' H')(n:H a=none\/dO s as a):Ext c as M s H (λb=>M' b\/b=a) s' H' :=
 #[λb h=>.inl (E.sub b h),λb h=>by
  rcases h with h | rfl
  .exact E.new b h
  .exact .inr (n.imp .inl id),E.keep,E.iG]
theorem DN.de(h:DN X c e te):DE X c e te:=#[h.pe.imp λσ H Q zz=>cQ zz λM s as R L q k =>
 #[M,s,as,R,L,q,λd s' r M' H' a o L' E ha ro nm ng nw h0 hn =>
  k d s' r _ H' (.ref a) (L'.grown ha ng nw h0) (E.plus hn) ((ro.mono (λ_ h=>.inl h) λ_ _ _ e=>e).rep ha (.inr U))]]
def MP(i:Nat):aU:=λs Q=>∃ d,s.sl[i]?=some (.dat d)/\Q d s
theorem dv{i:Nat}(h:PE X e (b8 i)):DE X c e (MP i):=#[h.imp λσ H Q z6q=>by
 let(M,s,as,R,L,(d,e,q),k):=z6q;let(v,h1,h2):=L.dat i d e;exact#[v,h1,k d s q M H v L .refl h2]]
def NK(d:D):aU:=λs Q=>Q d s
def WJ:D->V->Prop
 | .bx,v=>v=.bx
 | .bl b,v=>v=.bl b
 | .int i,v=>v=.int i
 | .str x,v=>v=.str x
 | .bJ a,v=>v=.ref a
 | .ty n,v=>v=.ty n
 | _,_=>False
theorem WJ.rep{d:D}{v:V}{K:Frag}{H:Hp}{M:AC->Prop}(h:WJ d v):Rep K H M d v:=by
 cases d<;>first | exact h | exact h.elim
theorem dc{d:D}{v:V}(h:PE X e (tC v))(r:WJ d v):DE X c e (NK d):=#[h.imp λσ H Q zz=>cQ zz λM s as R L q k=>k d s q M H v L .refl r.rep]
theorem aj{i j}:DE X c (.Constant (.int i) j pos) (NK (.int i)):=dc b6 U
theorem Dv{i j}:DE X c (.Constant (.bool i) j pos) (NK (.bl i)):=dc Pp U
theorem mW{j}:DE X c (.Constant .none j pos) (NK .bx):=dc Kt U
theorem av{i j}:DE X c (.Constant (.str i) j pos) (NK (.str i)):=dc d5 U
def AO:eQ:=λs Q=>Q [] s
def vB(ta:aU)(tr:eQ):eQ:=λs Q=>ta s λd s1=>tr s1 λds s2=>Q (d::ds) s2
theorem af:DA X c [] AO:=#[gB.imp λσ H Q zz=>cQ zz λM s as R L q k=>k [] s q M H [] L .refl U U]
theorem ae(ha:DE X c e te)(hr:DA X c es t)(hs:(acf X.env e es)⁻¹):DA X c (e::es) (vB te t) :=
 #[(dX ha.pe hr.pa hs).imp λσ H Q zz=>cQ zz λM s as R L q k =>
   #[M,s,as,_,L,q,λd s1 q1 M1 H1 x L1 E1 r1=>#[M1,s1,as,_,L1,q1,λds s2 q2 M2 H2 xs Lb E2 r2 hl =>
    k _ s2 q2 M2 H2 _ Lb (E1.trans L1.base E2) #[x,xs,U,E2.rep L1 r1,r2] (by rw[aam,aam,hl])]]]
def Qj(t:eQ):aU:=λs Q=>t s λds s1=>Q (.tup ds) s1
def Ot(t:eQ):aU:=λs Q=>t s λds s1=>Q (.lst ds) s1
theorem YT{n:Nat}(h:(n<=1000:Bool)=true):n<=FS:=aap (of_decide_eq_true h) ()
theorem aw{x1}(h:DA X c es t)(hn:((es.length<=1000:Bool)=true)⁻¹):DE X c (.Tuple es x1 pos) (Qj t):=#[(Nq h.pa).imp λσ H Q zz=>cQ zz λM s as R L q k =>
 #[M,s,as,_,L,q,λds s1 q1 M1 H1 xs L1 E1 r1 hl=>#[by rw[r1.length,hl];exact YT hn,λp hp =>
  k _ s1 q1 _ _ _ (L1.fresh hp) (E1.trans L1.base (Ext.fresh hp)) #[p,xs,U,#[.inr U,aD],kj hp r1]]]]
theorem notM{K:Frag}{M:AC->Prop}{s:DS}{as:!AC}{σ:St}{H:Hp}{p:AC}(L:aG K c M s as σ H)(hp:H p=none):¬ M p/\¬ c.g.own p/\¬ dO s as p/\c.H0 p=none:=by
 show#[λm=>?_,λg=>?_,λw=>?_,L.base.qw hp]
 .let(u,e):=L.base.md p m;rw[hp] at e;cases e
 .let(u,e):=c.g.LX H p L.base.nZ g;rw[hp] at e;cases e
 .let(_,_,_,u,e):=L.nM w;rw[hp] at e;cases e
theorem j7{K:Frag}{as:!AC}{M M1:AC->Prop}{s s1:DS}{σ:St}{H H1:Hp}{p:AC}{o:HO}{Q:VK}{d:D}(L:aG K c M s as σ H)(L1:aG K c M1 s1 as σ H1)(E1:Ext c as M s H M1 s1 H1)(hp:H1 p=none)(r:cy K H1 M1 d o)(k:∀ M' H' a o,aG K c M' s1 as σ H'->Ext c as M s H M' s1 H'->H' a=some o->cy K H' M' d o->¬ M' a->¬ c.g.own a->¬ dO s1 as a->c.H0 a=none->(H a=none\/dO s as a)->Q (.ref a) H'):Q (.ref p) (upd H1 p o):=by
 let(n1,n2,n3,n4):=notM L1 hp;show k M1 (upd H1 p o) p o (L1.laid hp) (E1.trans L1.base (Ext.laid hp)) aD (r.mono (λ_ h=>h) λb u _ e=>by rw[aA (aI e hp)];exact e) n1 n2 n3 n4 ?_;cases q:H p with
 | none=>exact .inl U
 | some u =>
  by_cases w:dO s as p
  .exact .inr w
  .have:=E1.keep p u q n2 w;rw[hp] at this;cases this
theorem aM(h:DA X c es t)(hn:((es.length<=1000:Bool)=true)⁻¹):DN X c (.List es pos) (Ot t):=#[(vt h.pa).imp λσ H Q zz=>cQ zz λM s as R L q k =>
 #[M,s,as,_,L,q,λds s1 q1 M1 H1 xs L1 E1 r1 hl=>#[by rw[r1.length,hl];exact YT hn,λp hp =>
  j7 L L1 E1 hp (d:=.lst ds) r1 (k _ s1 q1)]]]
def t1D(C:D->(D->Prop)->Prop)(ta:aU):aU:=λs Q=>ta s λa s1=>C a λd=>Q d s1
def Dt(C:D->D->(D->Prop)->Prop)(ta tb:aU):aU:=λs Q=>ta s λa s1=>tb s1 λb s2=>C a b λd=>Q d s2
def su(X:Cx)(c:Ent)(r:R2)(C:D->D->(D->Prop)->Prop):Prop:=∀ (M:AC->Prop) (s:DS) (as:!AC) (σ:St) (H:Hp) (x y:V) (dx dy:D) (k:D->Prop) (Q:VK),aG X.K c M s as σ H->Rep X.K H M dx x->Rep X.K H M dy y->C dx dy k ->
 (∀ d,k d->∀ M' H' v,aG X.K c M' s as σ H'->Ext c as M s H M' s H'->Rep X.K H' M' d v->Q v H')->r x y H Q
def MU(X:Cx)(c:Ent)(r:R2)(C:D->D->(D->Prop)->Prop):Prop:=∀ (M:AC->Prop) (s:DS) (as:!AC) (σ:St) (H:Hp) (x y:V) (dx dy:D) (k:D->Prop) (Q:VK),aG X.K c M s as σ H->Rep X.K H M dx x->Rep X.K H M dy y->C dx dy k ->
 (∀ d,k d->∀ p o,H p=none->cy X.K H M d o->Q (.ref p) (upd H p o))->r x y H Q
theorem Gm{r:R2}{C:D->D->(D->Prop)->Prop}(k:su X c r C){σ:St}{H:Hp}{Q:VK}:tE X.K c (Dt C ta tb) σ H Q->j6 r (tE X.K c ta) (tE X.K c tb) σ H Q:=λzz=>cQ zz λM s as R L q kk =>
 #[M,s,as,_,L,q,λda s1 q1 M1 H1 x L1 E1 r1=>#[M1,s1,as,_,L1,q1,λdb s2 q2 M2 H2 y Lb E2 r2 =>
  k M2 s2 as σ H2 x y da db (λd=>R d s2) Q Lb (E2.rep L1 r1) r2 q2 λd rd M' H' v L' E' rv=>kk d s2 rd M' H' v L' ((E1.trans L1.base E2).trans Lb.base E') rv]]
theorem VX{r:R2}{C:D->D->(D->Prop)->Prop}(k:MU X c r C){σ:St}{H:Hp}{Q:VK}:tN X.K c (Dt C ta tb) σ H Q->j6 r (tE X.K c ta) (tE X.K c tb) σ H Q:=λzz=>cQ zz λM s as R L q kk =>
 #[M,s,as,_,L,q,λda s1 q1 M1 H1 x L1 E1 r1=>#[M1,s1,as,_,L1,q1,λdb s2 q2 M2 H2 y Lb E2 r2 =>
  k M2 s2 as σ H2 x y da db (λd=>R d s2) Q Lb (E2.rep L1 r1) r2 q2 λd rd p o hp ro=>j7 L Lb (E1.trans L1.base E2) hp ro (kk d s2 rd)]]
theorem c8{op:Operator}{r:R2}{C:D->D->(D->Prop)->Prop}(ho:jt X (Os op) r)(k:su X c r C)(ha:DE X c a ta)(hb:DE X c b tb):DE X c (.BinOp a op b pos) (Dt C ta tb):=#[(du ho ha.pe hb.pe).imp λ_ _ _=>Gm k]
theorem fD{op:Operator}{r:R2}{C:D->D->(D->Prop)->Prop}(ho:jt X (Os op) r)(k:MU X c r C)(ha:DE X c a ta)(hb:DE X c b tb):DN X c (.BinOp a op b pos) (Dt C ta tb):=#[(du ho ha.pe hb.pe).imp λ_ _ _=>VX k]
theorem eD{op:CmpOp}{r:R2}{C:D->D->(D->Prop)->Prop}(ho:jt X (Ix op) r)(k:su X c r C)(ha:DE X c a ta)(hb:DE X c b tb)(hm:behindInMarks op b=false):DE X c (.Compare a [op] [b] pos) (Dt C ta tb):=#[(IC ho ha.pe hb.pe hm).imp λ_ _ _=>Gm k]
theorem EH{r:R2}{C:D->D->(D->Prop)->Prop}(ho:ND X r)(k:su X c r C)(ha:DE X c a ta)(hb:DE X c b tb)(hs:mT b):DE X c (.Subscript a b pos) (Dt C ta tb):=#[(Es ho ha.pe hb.pe hs).imp λ_ _ _=>Gm k]
def nI(t:aU):mH:=λs Q=>t s λd s1=>∃ k,d=.bl k/\Q k s1
theorem ky{t:aU}{t':TE}(h:∀ {σ H Q},tE X.K c t σ H Q->t' σ H Q){σ:St}{H:Hp}{Q:Bool->Hp->Prop}:tT X.K c (nI t) σ H Q->t7 t' σ H Q:=λzz=>cQ zz λM s as R L q kk =>
 h #[M,s,as,_,L,q,λd s1 z3r M' H' v L' E' rv=>by
  let(k,e,r):=z3r;subst e;exact#[k,rv,kk k s1 r M' H' L' E']]
theorem aK{op:CmpOp}{r:R2}{C:D->D->(D->Prop)->Prop}(ho:jt X (Ix op) r)(k:su X c r C)(ha:DE X c a ta)(hb:DE X c b tb)(hm:behindInMarks op b=false):DT X c (.Compare a [op] [b] pos) (nI (Dt C ta tb)) :=
 #[(iN ho ha.pe hb.pe hm).imp λ_ _ _=>ky (Gm k)]
theorem iK(h:DE X c e te)(he:∀ whole,isTrue e X.env whole=(do let v <- whole;standAt e.pos;holding [v] (truthy v)):=by intro _;rfl):DT X c e (nI te):=#[(K7 h.pe he).imp λ_ _ _=>ky λq=>q]
def QQ(t:mH):mH:=λs Q=>t s λb s1=>Q (not b) s1
theorem iQ{t:mH}(h:DT X c e t):DT X c (.UnaryOp .Not e pos) (QQ t):=#[(Mw h.pt).imp λσ H Q zz=>cQ zz λM s as R L q k=>#[M,s,as,_,L,q,λb s1 r M' H' L' E'=>k _ s1 r M' H' L' E']]
def R9(t u:mH):mH:=λs Q=>t s λb s1=>if b=true then u s1 Q else Q false s1
def torD(t u:mH):mH:=λs Q=>t s λb s1=>if b=true then Q true s1 else u s1 Q
theorem DW.dt{t:mH}(h:DW X c e t):DT X c e t:=#[h.pw.pt]
section
variable{tA tB:mH}{rest:!Ch}
theorem pZ(h:DT X c a tA):DW X c (.BoolOp .And [a] pos) tA:=#[pw_and1 h.pt]
theorem nv(h:DT X c a tA):DW X c (.BoolOp .Or [a] pos) tA:=#[pw_or1 h.pt]
theorem vA(ha:DT X c a tA)(hb:DW X c (.BoolOp .And (b::rest) pos) tB):DW X c (.BoolOp .And (a::b::rest) pos) (R9 tA tB):=#[(pw_and ha.pt hb.pw).imp λσ H Q zz=>cQ zz λM s as R L q k =>
 #[M,s,as,_,L,q,λx s1 r M1 H1 L1 E1=>by
  cases x with
  | true=>exact rM #[M1,s1,as,_,L1,(by simpa using r),λy s2 r2 M2 H2 Lb E2=>k y s2 r2 M2 H2 Lb (E1.trans L1.base E2)]
  | false=>exact va (k false s1 (by simpa using r) M1 H1 L1 E1)]]
theorem k7(ha:DT X c a tA)(hb:DW X c (.BoolOp .Or (b::rest) pos) tB):DW X c (.BoolOp .Or (a::b::rest) pos) (torD tA tB):=#[(pw_or ha.pt hb.pw).imp λσ H Q zz=>cQ zz λM s as R L q k =>
 #[M,s,as,_,L,q,λx s1 r M1 H1 L1 E1=>by
  cases x with
  | true=>exact rM (k true s1 (by simpa using r) M1 H1 L1 E1)
  | false=>exact va #[M1,s1,as,_,L1,(by simpa using r),λy s2 r2 M2 H2 Lb E2=>k y s2 r2 M2 H2 Lb (E1.trans L1.base E2)]]]
def Ug(ta tb:aU):aU:=λs Q=>ta s λx s1=>∃ k,x=.bl k/\if k=true then tb s1 Q else Q (.bl false) s1
def PZ(ta:aU):aU:=λs Q=>ta s λx s1=>∃ k,x=.bl k/\Q (.bl (not k)) s1
theorem qQ{op}(h:DE X c a ta):DE X c (.BoolOp op [a] pos) ta:=#[Ki h.pe]
theorem jz(ha:DE X c a ta)(hb:DE X c (.BoolOp .And (b::rest) pos) tb):DE X c (.BoolOp .And (a::b::rest) pos) (Ug ta tb):=#[(LG ha.pe hb.pe).imp λσ H Q zz=>cQ zz λM s as R L q k =>
 #[M,s,as,_,L,q,λx s1 z4r M1 H1 v L1 E1 rv=>by
  let(b,e,r):=z4r;subst e;show#[b,rv,?_];cases b with
  | true=>exact rM #[M1,s1,as,_,L1,(by simpa using r),λy s2 r2 M2 H2 w Lb E2 rw=>k y s2 r2 M2 H2 w Lb (E1.trans L1.base E2) rw]
  | false=>exact va (k (.bl false) s1 (by simpa using r) M1 H1 _ L1 E1 U)]]
theorem Oy(ha:DE X c a ta):DE X c (.UnaryOp .Not a pos) (PZ ta):=#[(M9 ha.pe).imp λσ H Q zz=>cQ zz λM s as R L q k =>
 #[M,s,as,_,L,q,λx s1 z5r M1 H1 v L1 E1 rv=>by
  let(b,e,r):=z5r;subst e;exact#[b,rv,k _ s1 r M1 H1 _ L1 E1 U]]]
def Wd(t:mH)(ta tb:aU):aU:=λs Q=>t s λk s1=>if k=true then ta s1 Q else tb s1 Q
theorem zT{e:Ch}(hc:DT X c e tA)(ha:DE X c a ta)(hb:DE X c b tb):DE X c (.IfExp e a b pos) (Wd tA ta tb):=#[(CK hc.pt ha.pe hb.pe).imp λσ H Q zz=>cQ zz λM s as R L q k =>
 #[M,s,as,_,L,q,λx s1 r M1 H1 L1 E1=>by
  cases x with
  | true=>exact rM #[M1,s1,as,_,L1,(by simpa using r),λy s2 r2 M2 H2 w Lb E2 rw=>k y s2 r2 M2 H2 w Lb (E1.trans L1.base E2) rw]
  | false=>exact va #[M1,s1,as,_,L1,(by simpa using r),λy s2 r2 M2 H2 w Lb E2 rw=>k y s2 r2 M2 H2 w Lb (E1.trans L1.base E2) rw]]]
end
end
section
variable{K:Frag}{c:Ent}{M M' M1:AC->Prop}{s s' s1:DS}{as:!AC}{σ:St}{H H' H1:Hp}{a p:AC}{o:HO}{d:D}{v:V}
theorem d9.refl:d9 M H M H:=λb m=>#[m,λ_ e=>e]
theorem d9.trans{M2:AC->Prop}{H2:Hp}(g1:d9 M H M1 H1)(g2:d9 M1 H1 M2 H2):d9 M H M2 H2:=λb m=>#[(g2 b (g1 b m).1).1,λo e=>(g2 b (g1 b m).1).2 o ((g1 b m).2 o e)]
theorem Ext.grow(E:Ext c as M s H M' s' H')(L:aG K c M s as σ H):d9 M H M' H':=λb m=>#[E.sub b m,λo e=>E.Fo L b o m e]
theorem d9.vo(G:d9 M H M' H'){ds:!D}{vs:!V}(r:aE K H M ds vs):aE K H' M' ds vs:=aE.mono (λb m=>(G b m).1) (λb o m e=>(G b m).2 o e) ds vs r
theorem qN.grow{R:gX}{E:Ends}(k:qN K c M H R E)(G:d9 M H M1 H1):qN K c M1 H1 R E :=
 #[λs as M' σ H' r L g=>k.nx s as M' σ H' r L (G.trans g),λs as M' σ H' r L g=>k.bk s as M' σ H' r L (G.trans g),λs as M' σ H' r L g=>k.ct s as M' σ H' r L (G.trans g),k.rt,k.rf,k.rs]
def DS.set(s:DS)(i:Nat)(x:Sl):DS:=#[s.sl.set i x,s.os]
def DS.put(s:DS)(k:Nat)(d:D):DS:=#[s.sl,s.os.set k (some d)]
theorem bw{α:Type}{l:!α}{i j:Nat}{x y:α}(h:(l.set i x)[j]?=some y):(i=j/\j < l.length/\y=x)\/(i≠j/\l[j]?=some y):=by
 by_cases e:i=j
 .subst e;by_cases hl:i < l.length
  .rw[aaE hl] at h;exact .inl #[U,hl,(aaJ h).symm]
  .rw[abr (by rw[aaL];cbv)] at h;cases h
 .rw[aas e] at h;exact .inr #[e,h]
theorem aG.Dq(L:aG K c M s as σ H)(i:Nat)(r:Rep K H M d v):aG K c M (s.set i (.dat d)) as (σ.set i (some v)) H where
 base:=L.base
 len:=by change (s.sl.set i _).length=_;rw[aaL,aaL];exact L.len
 dA:=L.dA
 dat:=λj e h=>by
  rcases bw h with ⟨rfl,hl,q⟩ | ⟨ne,q⟩
  .cases q;exact#[v,aaE (by rw[<- L.len];exact hl),r]
  .let(w,h1,h2):=L.dat j e q;exact#[w,by rw[aas ne];exact h1,h2]
 own:=λj k h=>by
  rcases bw h with ⟨rfl,hl,q⟩ | ⟨ne,q⟩
  .cases q
  .let(w,h1,h2):=L.own j k q;exact#[w,h1,by rw[aas ne];exact h2]
 obj:=L.obj
 inj:=L.inj
 lt:=L.lt
def noRef(k:Nat):Nat->!Sl->Bool
 | _,[]=>true
 | 0,_::r=>noRef k (r.length+1) r
 | i+1,.own j::r=>(j != k)&&noRef k i r
 | i+1,_::r=>noRef k i r
theorem nH{k:Nat}:∀ {l:!Sl} {i j:Nat},l.length<=i->noRef k i l=true->l[j]?≠some (.own k)
 | [],i,j,hl,h,e=>by simp at e
 | x::r,0,j,hl,h,e=>by simp at hl
 | x::r,i+1,0,hl,h,e=>by
  simp at e;subst e;simp[noRef] at h
 | x::r,i+1,j+1,hl,h,e=>by
  show nH (l:=r) (i:=i) (j:=j) (by simpa using hl) ?_ (by simpa using e);cases x with
  | own q=>simp[noRef] at h;exact h.2
  | no=>exact h
  | dat q=>exact h
theorem xn{k:Nat}:∀ {l:!Sl} {i j:Nat},noRef k i l=true->i≠j->l[j]?≠some (.own k)
 | [],i,j,h,ne,e=>by simp at e
 | x::r,0,0,h,ne,e=>ne U
 | x::r,0,j+1,h,ne,e=>by
  have e':r[j]?=some (.own k):=by simpa using e
  exact nH (l:=r) (i:=r.length+1) (by cbv) h e'
 | x::r,i+1,0,h,ne,e=>by
  simp at e;subst e;simp[noRef] at h
 | x::r,i+1,j+1,h,ne,e=>by
  show xn (l:=r) (i:=i) (j:=j) ?_ (by cbv) (by simpa using e);cases x with
  | own q=>simp[noRef] at h;exact h.2
  | no=>exact h
  | dat q=>exact h
theorem aG.Np(L:aG K c M s as σ H)(i k:Nat)(hk:k < s.os.length)(nr:noRef k i s.sl=true)(ha:H a=some o)(r:cy K H M d o)(nm:¬ M a)(ng:¬ c.g.own a)(nw:¬ dO s as a)(h0:c.H0 a=none)(jN:c.g.kK.length<=k) :
  aG K c M #[s.sl.set i (.own k),s.os.set k (some d)] (as.set k a) (σ.set i (some (.ref a))) H where
 base:=L.base
 len:=by change (s.sl.set i _).length=_;rw[aaL,aaL];exact L.len
 dA:=by change (as.set k a).length=(s.os.set k _).length;rw[aaL,aaL];exact L.dA
 dat:=λj e h=>by
  rcases bw h with ⟨rfl,hl,q⟩ | ⟨ne,q⟩
  .cases q
  .let(w,h1,h2):=L.dat j e q;exact#[w,by rw[aas ne];exact h1,h2]
 own:=λj l h=>by
  rcases bw h with ⟨rfl,hl,q⟩ | ⟨ne,q⟩
  .cases q;exact#[a,aaE (by rw[L.dA];exact hk),aaE (by rw[<- L.len];exact hl)]
  .let(w,h1,h2):=L.own j l q;show#[w,?_,by rw[aas ne];exact h2];have:k≠l:=λz=>by
    subst z;exact xn nr ne q
   rw[aas this];exact h1
 obj:=λl e b h1 h2=>by
  rcases bw h1 with ⟨rfl,hl,q⟩ | ⟨ne,q⟩
  .cases q;rw[aaE (by rw[L.dA];exact hl)] at h2;cases h2;exact#[#[o,ha,r],nm,ng,h0]
  .rw[aas ne] at h2;exact L.obj l e b q h2
 inj:=λl m e f b h1 h2 g1 g2=>by
  rcases bw h1 with ⟨rfl,hl,q⟩ | ⟨ne,q⟩
  .rcases bw h2 with ⟨rfl,hl',q'⟩ | ⟨ne',q'⟩
   .rfl
   .rw[aaE (by rw[L.dA];exact hl)] at g1;cases g1;rw[aas ne'] at g2;exact absurd #[m,f,q',g2] nw
  .rcases bw h2 with ⟨rfl,hl',q'⟩ | ⟨ne',q'⟩
   .rw[aaE (by rw[L.dA];exact hl')] at g2;cases g2;rw[aas ne] at g1;exact absurd #[l,e,q,g1] nw
   .rw[aas ne] at g1;rw[aas ne'] at g2;exact L.inj l m e f b q q' g1 g2
 lt:=λl b h=>by
  have h1:=L.lt l b h;have hl:l < c.g.kK.length:=(aaf.mp h).1;rw[aas (by cbv)];exact h1
theorem aG.jw{d0:D}{k:Nat}(L:aG K c M s as σ H)(hk:s.os[k]?=some (some d0))(ha:as[k]?=some a)(r:cy K H M d o):aG K c M (s.put k d) as σ (upd H a o):=by
 let((o0,q0,r0),nm,ng,h0):=L.obj k d0 a hk ha;have kp:∀ b u,b≠a->H b=some u->upd H a o b=some u:=λb u ne e=>by rw[aA ne];exact e
 have km:∀ b u,M b->H b=some u->upd H a o b=some u:=λb u m e=>kp b u (λz=>nm (z▸m)) e;show#[#[c.g.loc H _ L.base.nZ λb u g e=>kp b u (λz=>g.elim (λg=>ng (z▸g)) λ#[φ,f]=>by subst f;rw[z,q0] at e;cases e;exact r0.next) e,λb u e g=>?_,λb m=>?_,L.base.mo,L.base.m0,L.base.mn],L.len,?_,λi e h=>?_,L.own,λl e b h1 h2=>?_,λl m e f b h1 h2 g1 g2=>?_,L.lt]
 .exact kp b u (λz=>by rw[z,h0] at e;cases e) (L.base.fr b u e g)
 .let(u,e):=L.base.md b m;exact#[u,km b u m e]
 .show as.length=(s.os.set k _).length;rw[aaL];exact L.dA
 .let(w,h1,h2):=L.dat i e h;exact#[w,h1,Rep.mono (λ_ m=>m) km e w h2]
 .rcases bw h1 with ⟨rfl,hl,q⟩ | ⟨ne,q⟩
  .cases q;rw[ha] at h2;cases h2;exact#[#[o,aD,r.mono (λ_ m=>m) km],nm,ng,h0]
  .let((u,q1,q2),q3):=L.obj l e b q h2;show#[#[u,kp b u (λz=>?_) q1,q2.mono (λ_ m=>m) km],q3];subst z;exact ne (L.inj k l d0 e b hk q ha h2)
 .have back:∀ {l:Nat} {e:D},(s.put k d).os[l]?=some (some e)->∃ e',s.os[l]?=some (some e'):=λ{l e} h=>by
   rcases bw h with ⟨rfl,hl,q⟩ | ⟨ne,q⟩
   .exact#[d0,hk]
   .exact#[e,q]
  let(e',q1):=back h1;let(f',q2):=back h2;exact L.inj l m e' f' b q1 q2 g1 g2
theorem Ext.jw{d0:D}{k:Nat}(hk:s.os[k]?=some (some d0))(ha:as[k]?=some a):Ext c as M s H M (s.put k d) (upd H a o) where
 sub:=λ_ m=>m
 new:=λ_ m=>.inl m
 keep:=λb u e g w=>by
  have ne:b≠a:=λz=>by
   subst z;exact w #[k,d0,hk,ha]
  rw[aA ne];exact e
 iG:=λb z6r=>by
  let(l,e,h1,h2):=z6r;rcases bw h1 with ⟨rfl,hl,q⟩ | ⟨ne,q⟩
  .exact#[k,d0,hk,h2]
  .exact#[l,e,q,h2]
theorem aG.slot{i k:Nat}{d0:D}(L:aG K c M s as σ H)(hi:s.sl[i]?=some (.own k))(hk:s.os[k]?=some (some d0)):∃ a o,as[k]?=some a/\σ[i]?=some (some (.ref a))/\H a=some o/\cy K H M d0 o:=by
 let(a,h1,h2):=L.own i k hi;let((o,q1,q2),_):=L.obj k d0 a hk h1;exact#[a,o,h1,h2,q1,q2]
end
section
variable{X:Cx}{c:Ent}{a b e:Ch}{es:!Ch}{ta tb te:aU}{st:Ev}{qv:!Ev}{t u:iF}{pos:Pos}
def K5:iF:=λR s=>R.nx s
def gX.nxt(R:gX)(f:DS->Prop):gX:={ R with nx:=f }
def OD(t u:iF):iF:=λR s=>t (R.nxt (u R)) s
theorem aO:pK X c [] K5:=#[uC.imp λE σ H zz=>cQ zz λM s as R L q k=>k.nx s as M σ H q L .refl]
theorem ag(h1:pE X c st t)(h2:pK X c qv u):pK X c (st::qv) (OD t u):=#[(bT h1.ps h2.ps).imp λE σ H zz=>cQ zz λM s as R L q k =>
 #[M,s,as,{ R with nx:=u R },L,q,#[λs' as' M' σ' H' r L' G=>#[M',s',as',R,L',r,k.grow G],k.bk,k.ct,k.rt,k.rf,k.rs]]]
theorem aq(h1:pE X c st t):pK X c [st] t:=#[kf h1.ps]
theorem fh:pK X c qv (λ_ _=>False):=#[Bo.imp λE σ H zz=>cQ zz λM s as R L q k=>q.elim]
def DQ(te:aU):iF:=λR s=>te s λ_ s1=>R.nx s1
theorem aR(he:DE X c e te)(hs:(swapsWith e none pos.line X.env=pure false)⁻¹):pE X c (.Expr e pos) (DQ te):=#[(Hj he.pe hs).imp λE σ H zz=>cQ zz λM s as R L q k =>
 #[M,s,as,_,L,q,λd s1 r M' H' v L' E' rv=>k.nx s1 as M' σ H' r L' (E'.grow L)]]
def II(te:aU):iF:=λR s=>te s λd _=>R.rt d
theorem aV(he:DE X c e te):pE X c (.Return (some e) pos) (II te):=#[(nU he.pe).imp λE σ H zz=>cQ zz λM s as R L q k =>
 #[M,s,as,_,L,q,λd s1 r M' H' v L' E' rv=>k.rt d M' H' v r L'.base rv]]
def Lh(te:aU):iF:=λR s=>te s λd _=>R.rf d
theorem Lu(he:DN X c e te):pE X c (.Return (some e) pos) (Lh te):=#[(nU he.pe).imp λE σ H zz=>cQ zz λM s as R L q k =>
 #[M,s,as,_,L,q,λd s1 r M' H' a o L' E' ha ro nm ng nw h0 hn=>k.rf d M' H' a o r L'.base ha ro nm ng h0]]
def VP(tc:mH)(t u:iF):iF:=λR s=>tc s λb s1=>if b=true then t R s1 else u R s1
theorem cv{x:Ch}{l r:!Ev}{tc:mH}(hc:DT X c x tc)(ha:pK X c l t)(hb:pK X c r u):pE X c (.If x l r pos) (VP tc t u):=#[(JA hc.pt ha.ps hb.ps).imp λE σ H zz=>cQ zz λM s as R L q k =>
 #[M,s,as,_,L,q,λb s1 r M' H' L' E'=>by
  cases b with
  | true=>exact rM #[M',s1,as,R,L',by simpa using r,k.grow (E'.grow L)]
  | false=>exact va #[M',s1,as,R,L',by simpa using r,k.grow (E'.grow L)]]]
def Ed(i:Nat)(te:aU):iF:=λR s=>te s λd s1=>R.nx (s1.set i (.dat d))
theorem Mp{i:Nat}{YN:TE}(h:∀ {σ H Q},tE X.K c te σ H Q->YN σ H Q){E:Ends}{σ:St}{H:Hp}:tS X.K c (Ed i te) E σ H->j5 YN (et i) E σ H:=λzz=>cQ zz λM s as R L q k =>
 h #[M,s,as,_,L,q,λd s1 r M' H' v L' E' rv=>k.nx _ as M' _ H' r (L'.Dq i rv) (E'.grow L)]
theorem oK{i:Nat}(h:PS X st (j5 (tE X.K c te) (et i))):pE X c st (Ed i te):=#[h.imp λE σ H=>Mp λq=>q]
def ltB{α:Type}:Nat->!α->Bool
 | 0,[]=>false
 | _+1,[]=>false
 | 0,_::_=>true
 | k+1,_::r=>ltB k r
theorem zr{α:Type}:∀ {k:Nat} {l:!α},ltB k l=true->k < l.length
 | 0,[],h=>by cases h
 | _+1,[],h=>by cases h
 | 0,_::_,_=>by simp
 | k+1,_::r,h=>by
  have:=zr (k:=k) (l:=r) h;simp;cbv
def D0(i k:Nat)(te:aU):iF:=λR s=>te s λd s1=>(ltB k s1.os=true/\noRef k i s1.sl=true)/\R.nx #[s1.sl.set i (.own k),s1.os.set k (some d)]
theorem Md{i k:Nat}(h:PS X st (j5 (tN X.K c te) (et i)))(jN:c.g.kK.length<=k:=by first | exact aax _ | exact aah _ | exact ab5 (aax _)):pE X c st (D0 i k te):=#[h.imp λE σ H zz=>cQ zz λM s as R L q kk =>
 #[M,s,as,_,L,q,λd s1 #[#[hk,nr],r] M' H' a o L' E' ha ro nm ng nw h0 hn=>kk.nx _ _ M' _ H' r (L'.Np i k (zr hk) nr ha ro nm ng nw h0 jN) (E'.grow L)]]
abbrev o7:=D->DS->(DS->Prop)->Prop
abbrev vP:=!D->DS->(DS->Prop)->Prop
def tG(K:Frag)(c:Ent)(n:Nat)(g:o7):TG:=λv σ H Q=>∃ M s as d R,aG K c M s as σ H/\Rep K H M d v/\g d s R/\∀ s',R s'->∀ σ',aG K c M s' as σ' H->(∀ i,n<=i->σ'[i]?=σ[i]?)->s'.os=s.os->Q σ' H
def Zm(K:Frag)(c:Ent)(n:Nat)(g:vP):Dy:=λvs σ H Q=>∃ M s as ds R,aG K c M s as σ H/\aE K H M ds vs/\g ds s R/\∀ s',R s'->∀ σ',aG K c M s' as σ' H->(∀ i,n<=i->σ'[i]?=σ[i]?)->s'.os=s.os->Q σ' H
structure DG(X:Cx)(c:Ent)(n:Nat)(tg:Ch)(g:o7):Prop where
 pg:PG X tg (tG X.K c n g)
structure NV(X:Cx)(c:Ent)(n:Nat)(ts:!Ch)(g:vP):Prop where
 pg:Hn X ts (Zm X.K c n g)
theorem _root_.L2.PG.imp{tg:Ch}{t t':TG}(h:PG X tg t)(w:∀ v σ H Q,t' v σ H Q->t v σ H Q):PG X tg t':=λTW s σ H v u Q I r q=>h TW s σ H v u Q I r (w v σ H Q q)
theorem _root_.L2.Hn.imp{tg:!Ch}{t t':Dy}(h:Hn X tg t)(w:∀ v σ H Q,t' v σ H Q->t v σ H Q):Hn X tg t':=λTW s σ H v u Q I r q=>h TW s σ H v u Q I r (w v σ H Q q)
section
variable{n:Nat}{tg:Ch}{Bx:!Ch}{g:o7}{gs:vP}
def ve(i:Nat):o7:=λd s Q=>Q (s.set i (.dat d))
theorem hJ{i:Nat}(h:PG X tg (et i))(hi:i < n):DG X c n tg (ve i):=#[h.imp λv σ H Q z4q=>by let(M,s,as,d,R,L,r,q,k):=z4q;exact k _ q _ (L.Dq i r) (λj hj=>aas (by cbv)) U]
def Qd:vP:=λds s Q=>ds=[]/\Q s
def LV(g:o7)(gs:vP):vP:=λds s Q=>∃ d r,ds=d::r/\g d s λs1=>gs r s1 Q
theorem bj:NV X c n [] Qd:=#[Hr.imp λv σ H Q z5q=>by
 let(M,s,as,ds,R,L,r,(e,q),k):=z5q;subst e;exact#[r,k s q σ L (λ_ _=>rfl) U]]
theorem au(h1:DG X c n tg g)(h2:NV X c n Bx gs)(hs:((assignEach (tg::Bx) X.env).map (·.2)=assign tg X.env::(assignEach Bx X.env).map (·.2))⁻¹):NV X c n (tg::Bx) (LV g gs) :=
 #[(CI h1.pg h2.pg hs).imp λv σ H Q z6q=>by
   let(M,s,as,ds,R,L,r,(d,dr,e,q),k):=z6q;subst e;let(x,xr,rfl,r1,r2):=r;exact#[x,xr,U,M,s,as,d,_,L,r1,q,λs1 q1 σ1 L1 e1 o1=>#[M,s1,as,dr,R,L1,r2,q1,λs2 q2 σ2 Lb e2 o2=>k s2 q2 σ2 Lb (λi hi=>(e2 i hi).trans (e1 i hi)) (o2.trans o1)]]]
def PD(m:Nat)(gs:vP):o7:=λd s Q=>∃ ds,d=.tup ds/\ds.length=m/\gs ds s Q
theorem bo{k m:Nat}(hc:X.calm=true)(h:NV X c n Bx gs)(hn:((assignEach Bx X.env).length=m)⁻¹)(fC:((assignEach Bx X.env).findIdx? (·.1)=none)⁻¹):DG X c n (.Tuple Bx k pos) (PD m gs) :=
 #[(Nk hc h.pg hn fC).imp λv σ H Q z7q=>by
   let(M,s,as,d,R,L,r,(ds,e,hl,q),kk):=z7q;subst e;let(a,xs,rfl,t,r):=r;exact#[a,xs,U,t.sq,r.length.trans hl,M,s,as,ds,R,L,r,q,kk]]
def Ui(te:aU)(g:o7):iF:=λR s=>te s λd s1=>g d s1 R.nx
theorem fP(he:DE X c e te)(hg:DG X c n tg g)(hs:(swapsWithSole [tg] e pos.line X.env=pure false)⁻¹)(hw:(swappedStores [tg] e X.env=pure none)⁻¹)(h1:((assignEach [tg] X.env).map (·.2)=[assign tg X.env])⁻¹):pE X c (.Assign [tg] e pos) (Ui te g):=#[(vj he.pe hg.pg hs hw h1).imp λE σ H zz=>cQ zz λM s as R L q k =>
 #[M,s,as,_,L,q,λd s1 r M' H' v L' E' rv=>#[M',s1,as,d,_,L',rv,r,λs2 q2 σ2 Lb _ _=>k.nx s2 as M' σ2 H' q2 Lb (E'.grow L)]]]
end
def Zo(K:Frag)(M:AC->Prop)(H:Hp)(d:D)(x:V)(H':Hp):Prop :=
 (H'=H/\Rep K H M d x)\/∃ p o,H p=none/\H'=upd H p o/\Rep K H' (λb=>M b\/b=p) d x
def MO(K:Frag)(M:AC->Prop)(H:Hp)(ds:!D)(J:It):Prop:=∀ M1 H1,d9 M H M1 H1 ->
 (∀ i,ds.length<=i->J.stop i H1)/\∀ i d,ds[i]?=some d->J.go i H1/\∀ x H2,J.Ny i H1 x H2->Zo K M1 H1 d x H2
def tI(K:Frag)(c:Ent)(t:eQ):TI:=λσ H R=>∃ M s as R0,aG K c M s as σ H/\t s R0/\∀ ds s',R0 ds s'->∀ M' H' J,aG K c M' s' as σ H'->Ext c as M s H M' s' H'->MO K M' H' ds J->ds.length<=FS->R J H'
structure DI(X:Cx)(c:Ent)(tg iter:Ch)(t:eQ):Prop where
 pi:PI X tg iter (tI X.K c t)
def mB(g:o7)(tb:iF)(R:gX):!D->DS->Prop
 | [],s=>R.nx s
 | x::xs,s=>g x s λs1=>tb { R with nx:=λs'=>mB g tb R xs s',ct:=λs'=>mB g tb R xs s',bk:=R.nx } s1
def Jo(ti:eQ)(g:o7)(tb:iF):iF:=λR s=>ti s λxs s1=>mB g tb R xs s1
theorem drop_cons{α:Type}{l:!α}{i:Nat}{x:α}(h:l[i]?=some x):l.drop i=x::l.drop (i+1):=by
 let(hl,e):=aaf.mp h;rw[abe hl,e]
theorem S9{n:Nat}{tg iter:Ch}{body:!Ev}{ti:eQ}{g:o7}{tb:iF}(hp:PassesOwn (model X.prog X.w) X.A X.env X.xe)(hc:X.calm=true)(hi:DI X c tg iter ti)(hg:DG X c n tg g)(hb:pK X c body tb)(hs:acj iter X.env:=by intro _;rfl):pE X c (.For tg iter body [] pos) (Jo ti g tb):=#[(EL hp hc hi.pi hg.pg hb.ps hs).imp λE σ H zz=>cQ zz λM s as R L q k=>by
 show#[M,s,as,_,L,q,λxs s1 q1 M1 H1 J L1 E1 io hlen=>?_];show#[λi m σ' H'=>i<=xs.length/\m=xs.length - i/\∃ M' s' as',aG X.K c M' s' as' σ' H'/\d9 M1 H1 M' H'/\mB g tb R (xs.drop i) s',#[_,aax _,U,M1,s1,as,L1,.refl,q1],?_];rintro i m σ' H' ⟨hi,rfl,M',s',as',L',G',q'⟩;let(h1,h2):=io M' H' G';by_cases jN:i < xs.length
 .refine .inr ?_;have hx:xs[i]?=some xs[i]:=aaq jN;let(hgo,hy):=h2 i _ hx;rw[drop_cons hx] at q';have next:∀ s2 as2 M2 σ2 H2,mB g tb R (xs.drop (i+1)) s2->aG X.K c M2 s2 as2 σ2 H2->d9 M1 H1 M2 H2->∃ m',m' < xs.length - i/\(i+1<=xs.length/\m'=xs.length - (i+1)/\∃ M' s' as',aG X.K c M' s' as' σ2 H2/\d9 M1 H1 M' H2/\mB g tb R (xs.drop (i+1)) s') :=
   λs2 as2 M2 σ2 H2 f L2 G2=>#[xs.length - (i+1),by cbv,jN,U,M2,s2,as2,L2,G2,f]
  show#[hgo,λσ2 H2=>∃ s2 as2 M2,mB g tb R (xs.drop (i+1)) s2/\aG X.K c M2 s2 as2 σ2 H2/\d9 M1 H1 M2 H2,λσ2 H2 z8q=>by let(s2,as2,M2,f,L2,G2):=z8q;exact next s2 as2 M2 σ2 H2 f L2 G2,λx H2 y=>?_];have go:∀ M2,aG X.K c M2 s' as' σ' H2->Rep X.K H2 M2 xs[i] x->d9 M1 H1 M2 H2->d9 M H M2 H2->tG X.K c n g x σ' H2 λσ2 H2=>tS X.K c tb { nx:=λσ2 H2=>∃ s2 as2 M2,mB g tb R (xs.drop (i+1)) s2/\aG X.K c M2 s2 as2 σ2 H2/\d9 M1 H1 M2 H2,rt:=E.rt,bk:=E.nx,ct:=λσ2 H2=>∃ s2 as2 M2,mB g tb R (xs.drop (i+1)) s2/\aG X.K c M2 s2 as2 σ2 H2/\d9 M1 H1 M2 H2 } σ2 H2:=λM2 L2 r2 G2 G0 =>
   #[M2,s',as',_,_,L2,r2,q',λs3 q3 σ3 L3 _ _=>#[M2,s3,as',_,L3,q3,#[λs4 as4 M4 σ4 H4 f L4 G4=>#[s4,as4,M4,f,L4,G2.trans G4],λs4 as4 M4 σ4 H4 f L4 G4=>k.nx s4 as4 M4 σ4 H4 f L4 (G0.trans G4),λs4 as4 M4 σ4 H4 f L4 G4=>#[s4,as4,M4,f,L4,G2.trans G4],k.rt,k.rf,k.rs]]]
  rcases hy x H2 y with ⟨rfl,r⟩ | ⟨p,o,hp,rfl,r⟩
  .exact go M' L' r G' ((E1.grow L).trans G')
  .have G2:d9 M' H' (λb=>M' b\/b=p) (upd H' p o):=λb mb=>#[.inl mb,λu e=>by rw[aA (aI e hp)];exact e];exact go _ (L'.fresh hp) r (G'.trans G2) (((E1.grow L).trans G').trans G2)
 .have e:i=xs.length:=by cbv
  subst e;rw[List.drop_length] at q';exact .inl #[h1 _ (aah _),k.nx s' as' M' σ' H' q' L' ((E1.grow L).trans G')]]
def Gx(tc:mH)(tb:iF):iF:=λR s=>∃ W:Nat->DS->Prop,(∃ m,W m s)/\∀ m s,W m s->tc s λb s1=>if b=true then tb { R with nx:=λs'=>∃ m',m' < m/\W m' s',ct:=λs'=>∃ m',m' < m/\W m' s',bk:=R.nx } s1 else R.nx s1
theorem Ao{x:Ch}{body:!Ev}{tc:mH}{tb:iF}(hp:PassesOwn (model X.prog X.w) X.A X.env X.xe)(hc:DT X c x tc)(hb:pK X c body tb):pE X c (.While x body [] pos) (Gx tc tb):=#[(xc hp hc.pt hb.ps).imp λE σ H z9q=>by
 let(M,s,as,R,L,(W,(m0,w0),turn),k):=z9q;show#[λm σ' H'=>∃ M' s' as',aG X.K c M' s' as' σ' H'/\d9 M H M' H'/\W m s',#[m0,M,s,as,L,.refl,w0],?_];rintro m σ' H' ⟨M',s',as',L',G',w'⟩;show#[M',s',as',_,L',turn m s' w',λb s1 q1 M1 H1 L1 E1=>?_];cases b with
 | true =>
  show rM #[λσ2 H2=>∃ s2 as2 M2,(∃ m',m' < m/\W m' s2)/\aG X.K c M2 s2 as2 σ2 H2/\d9 M H M2 H2,λσ2 H2 z0q=>by let(s2,as2,M2,(m',hm,w2),L2,G2):=z0q;exact#[m',hm,M2,s2,as2,L2,G2,w2],?_];have G1:=G'.trans (E1.grow L');exact#[M1,s1,as',{ R with nx:=λs'=>∃ m',m' < m/\W m' s',ct:=λs'=>∃ m',m' < m/\W m' s',bk:=R.nx },L1,by simpa using q1,#[λs4 as4 M4 σ4 H4 f L4 G4=>#[s4,as4,M4,f,L4,G1.trans G4],λs4 as4 M4 σ4 H4 f L4 G4=>k.nx s4 as4 M4 σ4 H4 f L4 (G1.trans G4),λs4 as4 M4 σ4 H4 f L4 G4=>#[s4,as4,M4,f,L4,G1.trans G4],k.rt,k.rf,k.rs]]
 | false=>exact va (k.nx s1 as' M1 σ' H1 (by simpa using q1) L1 (G'.trans (E1.grow L')))]
end
abbrev ace:=!D->(D->Prop)->Prop
def cR(K:Frag)(g:AQ)(t:ace):Sp:=λvs H Q _=>∃ M ds R,Base #[g,M,H] M H/\aE K H M ds vs/\t ds R/\∀ d,R d->∀ M' H' v,Base #[g,M,H] M' H'->Rep K H' M' d v->Q v H'
def FZ(K:Frag)(g:AQ)(t:ace):Sp:=λvs H Q _=>∃ M ds R,Base #[g,M,H] M H/\aE K H M ds vs/\t ds R/\∀ d,R d->∀ M' H' a o,Base #[g,M,H] M' H'->H' a=some o->cy K H' M' d o->¬ M' a->¬ g.own a->H a=none->Q (.ref a) H'
section
variable{K:Frag}{c:Ent}{M M' M1:AC->Prop}{s s' s1:DS}{as:!AC}{σ:St}{H H' H1:Hp}
theorem Base.here(B:Base c M H):Base #[c.g,M,H] M H:=#[B.nZ,λ_ _ e _=>e,B.md,B.mo,λ_ m=>m,λ_ m=>.inl m]
theorem Base.pq(B:Base c M H):Base #[.no,M,H] M H:=#[trivial,λ_ _ e _=>e,B.md,λ_ _ h=>h,λ_ m=>m,λ_ m=>.inl m]
theorem Base.uP(B:Base c M H)(B':Base #[.no,M,H] M' H'):Base #[c.g,M,H] M' H' where
 nZ:=c.g.loc H H' B.nZ λb o _ e=>B'.fr b o e λz=>z
 fr:=λb o e _=>B'.fr b o e λz=>z
 md:=B'.md
 mo:=λb m g=>by
  rcases B'.mn b m with m | n | ⟨xs,n⟩
  .exact B.mo b m g
  .let(o,e):=c.g.LX H b B.nZ g;have n:H b=none:=n;rw[n] at e;cases e
  .exact c.g.nt H b xs B.nZ g n
 m0:=B'.m0
 mn:=B'.mn
theorem aG.after(L:aG K c M s as σ H)(B:Base #[c.g,M,H] M' H'):aG K c M' s as σ H' where
 base:=#[B.nZ,λb o e g=>B.fr b o (L.base.fr b o e g) g,B.md,B.mo,λb m=>B.m0 b (L.base.m0 b m),λb m=>by
  rcases B.mn b m with m | n | ⟨xs,n⟩
  .exact L.base.mn b m
  .exact .inr (.inl (L.base.qw n))
  .have n:H b=some (.tup xs):=n;show .inr ?_;cases e:c.H0 b with
   | none=>exact .inl e
   | some o =>
    have:=L.base.fr b o e λg=>c.g.nt H b xs L.base.nZ g n;rw[n] at this;cases this;exact .inr #[xs,e]]
 len:=L.len
 dA:=L.dA
 dat:=λi d e=>by
  let(v,h1,h2):=L.dat i d e;exact#[v,h1,Rep.mono B.m0 (λb o m e=>B.fr b o e (L.base.mo b m)) d v h2]
 own:=L.own
 obj:=λk d a h1 h2=>by
  let((o,q1,q2),nm,ng,h0):=L.obj k d a h1 h2;show#[#[o,B.fr a o q1 ng,q2.mono B.m0 λb o m e=>B.fr b o e (L.base.mo b m)],λm=>?_,ng,h0];rcases B.mn a m with m | n | ⟨xs,n⟩
  .exact nm m
  .have n:H a=none:=n;rw[n] at q1;cases q1
  .have n:H a=some (.tup xs):=n;rw[n] at q1;cases q1;exact q2.Fl
 inj:=L.inj
 lt:=L.lt
theorem Ext.after(B:Base #[c.g,M,H] M' H'):Ext c as M s H M' s H':=#[B.m0,λb m=>by
 rcases B.mn b m with m | n
 .exact .inl m
 .exact .inr (.inl n),λb o e g _=>B.fr b o e g,λ_ h=>h]
end
section
variable{X:Cx}{c:Ent}{k:Nat}{f:AC}{fd:Go}{ps:!Str}{t:ace}{x:Str}{p pos:Pos}{e:Ch}{es:!Ch}{ta:eQ}
def iL(t:ace)(ta:eQ):aU:=λs Q=>ta s λds s1=>t ds λd=>Q d s1
theorem Bs{σ:St}{H:Hp}{Q:VK}{n:Nat}{E:XK}:tE X.K c (iL t ta) σ H Q->AA (cR X.K c.g t) [] E (tA X.K c n ta) σ H Q:=λzz=>cQ zz λM s as R L q kk =>
 #[M,s,as,_,L,q,λds s1 q1 M1 H1 vs L1 E1 r1 hl=>#[M1,ds,_,L1.base.here,by rw[aal];exact r1,q1,λd rd M' H' v B rv=>kk d s1 rd M' H' v (L1.after B) (E1.trans L1.base (Ext.after B)) rv]]
theorem HA{σ:St}{H:Hp}{Q:VK}{n:Nat}{E:XK}:tE X.K c (iL t ta) σ H Q->AA (cR X.K .no t) [] E (tA X.K c n ta) σ H Q:=λzz=>cQ zz λM s as R L q kk =>
 #[M,s,as,_,L,q,λds s1 q1 M1 H1 vs L1 E1 r1 hl=>#[M1,ds,_,L1.base.pq,by rw[aal];exact r1,q1,λd rd M' H' v B rv=>kk d s1 rd M' H' v (L1.after (L1.base.uP B)) (E1.trans L1.base (Ext.after (L1.base.uP B))) rv]]
theorem Fq{K:Frag}{as:!AC}{M M1 M':AC->Prop}{s s1:DS}{σ:St}{H H1 H':Hp}{a:AC}(L:aG K c M s as σ H)(L1:aG K c M1 s1 as σ H1)(E1:Ext c as M s H M1 s1 H1)(B:Base #[c.g,M1,H1] M' H')(ng:¬ c.g.own a)(hn:H1 a=none) :
  ¬ dO s1 as a/\c.H0 a=none/\(H a=none\/dO s as a):=by
 show#[λw=>?_,L1.base.qw hn,?_]
 .let(_,_,_,u,e):=L1.nM w;rw[hn] at e;cases e
 .cases q:H a with
  | none=>exact .inl U
  | some u =>
   by_cases w:dO s as a
   .exact .inr w
   .have:=E1.keep a u q ng w;rw[hn] at this;cases this
theorem EC{σ:St}{H:Hp}{Q:VK}{n:Nat}{E:XK}:tN X.K c (iL t ta) σ H Q->AA (FZ X.K .no t) [] E (tA X.K c n ta) σ H Q:=λzz=>cQ zz λM s as R L q kk =>
 #[M,s,as,_,L,q,λds s1 q1 M1 H1 vs L1 E1 r1 hl=>#[M1,ds,_,L1.base.pq,by rw[aal];exact r1,q1,λd rd M' H' a o B ha ro nm ng hn=>by
  have ng':¬ c.g.own a:=λg=>by
   let(u,e):=c.g.LX H1 a L1.base.nZ g;rw[hn] at e;cases e
  let(z1,z2,z3):=Fq L L1 E1 (L1.base.uP B) ng' hn;exact kk d s1 rd M' H' a o (L1.after (L1.base.uP B)) (E1.trans L1.base (Ext.after (L1.base.uP B))) ha ro nm ng' z1 z2 z3]]
section
variable(hr:b4 k X.A)(hg:Gl X x)(hm:X.mg x=some (.ref f))(hk:keepIn X.K (.ref f)=true)(hb:Binds X.K fd ps [])(ha:DA X c (e::es) ta)
include hr hg hm hk hb ha
theorem MH(F:bZ X.prog X.w X.K X.mg X.base aP k f fd ps (cR X.K c.g t))(jf: ~~~(ach x))(he:(acf X.env e es)⁻¹)(fe:(acg X.env pos es)⁻¹) :
  DE X c (.Call (.Name x p) (e::es) [] pos) (iL t ta):=#[(kB F hr hg hm hk hb .nil (E:=E0) iA ha.pa jf he fe).imp λ_ _ _=>Bs]
theorem Gp(F:bZ X.prog X.w X.K X.mg X.base aP k f fd ps (cR X.K .no t))(jf: ~~~(ach x))(he:(acf X.env e es)⁻¹)(fe:(acg X.env pos es)⁻¹) :
  DE X c (.Call (.Name x p) (e::es) [] pos) (iL t ta):=#[(kB F hr hg hm hk hb .nil (E:=E0) iA ha.pa jf he fe).imp λ_ _ _=>HA]
theorem Ia(F:bZ X.prog X.w X.K X.mg X.base aP k f fd ps (FZ X.K .no t))(jf: ~~~(ach x))(he:(acf X.env e es)⁻¹)(fe:(acg X.env pos es)⁻¹) :
  DN X c (.Call (.Name x p) (e::es) [] pos) (iL t ta):=#[(kB F hr hg hm hk hb .nil (E:=E0) iA ha.pa jf he fe).imp λ_ _ _=>EC]
end
end
def eo(n nos:Nat)(ds:!D):DS:=#[ds.map .dat++List.replicate (n - ds.length) .no,List.replicate nos none]
theorem lJ{K:Frag}{g:AQ}{M:AC->Prop}{H:Hp}{N:!Str}{nos:Nat}{ds:!D}{vs:!V}(B:Base #[g,M,H] M H)(r:aE K H M ds vs)(hg:g.kK=[]):aG K #[g,M,H] M (eo N.length nos ds) (List.replicate nos 0) (L2.start N vs) H where
 base:=B
 len:=by
  have:=r.length;change (ds.map Sl.dat++List.replicate (N.length - ds.length) Sl.no).length=(vs.map some++List.replicate (N.length - vs.length) none).length;simp[this]
 dA:=by simp[eo]
 dat:=λi d h=>by
  have hl:=r.length;by_cases hi:i < ds.length
  .have h':(ds.map Sl.dat)[i]?=some (.dat d):=by
    rw[eo,List.getElem?_append_left (by simpa using hi)] at h;exact h
   rw[aaG] at h';let(e,h1,h2):=aaI.mp h';cases h2;let(v,q1,q2):=r.get h1;show#[v,?_,q2];rw[L2.start,List.getElem?_append_left (by simp;cbv),List.getElem?_map,q1]
   rfl
  .rw[eo,List.getElem?_append_right (by simpa using hi)] at h;have:=aaf.mp h;let(_,e):=this;simp at e
 own:=λi k h=>by
  by_cases hi:i < ds.length
  .rw[eo,List.getElem?_append_left (by simpa using hi),List.getElem?_map] at h;let(e,h1,h2):=aaI.mp h;cases h2
  .rw[eo,List.getElem?_append_right (by simpa using hi)] at h;let(_,e):=aaf.mp h;simp at e
 obj:=λk d a h=>by
  let(_,e):=aaf.mp h;simp[eo] at e
 inj:=λk l d e a h=>by
  let(_,e):=aaf.mp h;simp[eo] at e
 lt:=λk a h=>by
  have h:g.kK[k]?=some a:=h;rw[hg] at h;cases h
section
variable{P:Fa}{w:FB}{K:Frag}{mg:Str->Option AT}{base:Db}
theorem Qz{x qual:Str}{st:Ev}{f:AC}{fd:Go}{N ps:!Str}{k nos:Nat}{g:AQ}{t:ace}(F:tH K x qual st f fd)(S:ax N ps (ai st))(len:∀ ds R,t ds R->ds.length=ps.length)(hb:∀ (a8:AT) (A:Fr) (outer:!Env) (s:Cl) (H:Hp) (E:XK) (M:AC->Prop),b4 k (A.deeper (envOfC qual (ai st) ↑s f a8)) ->
   ∃ tb,pK (jr aP P w K mg base N qual (ai st) f a8 A outer s H E).wo #[g,M,H] (aL st) tb/\∀ ds R,t ds R->tb { nx:=λ_=>R .bx,rt:=R } (eo N.length nos ds))(hg:(g.kK=[])⁻¹):bZ P w K mg base aP (k+1) f fd ps (cR K g t):=by
 show F.ok S (λvs H Q E h=>?_) λa8 A outer s H vs Q E hr h=>?_
 .let(M,ds,R,B,r,q,_):=h;rw[r.length];exact len ds R q
 .let(M,ds,R,B,r,q,kk):=h;let(tb,h1,h2):=hb a8 A outer s H E M hr;exact#[_,h1.ps,M,_,_,_,lJ B r hg,h2 ds R q,#[λs as M' σ H' r L _=>kk .bx r M' H' .bx L.base U,λ_ _ _ _ _ z=>z.elim,λ_ _ _ _ _ z=>z.elim,λd M' H' v r B' rv=>kk d r M' H' v B' rv,λ_ _ _ _ _ z=>z.elim,λ_ _ _ _ _ _ _ z=>z.elim]]
theorem fnN{x qual:Str}{st:Ev}{f:AC}{fd:Go}{N ps:!Str}{k nos:Nat}{g:AQ}{t:ace}(F:tH K x qual st f fd)(S:ax N ps (ai st))(len:∀ ds R,t ds R->ds.length=ps.length)(hb:∀ (a8:AT) (A:Fr) (outer:!Env) (s:Cl) (H:Hp) (E:XK) (M:AC->Prop),b4 k (A.deeper (envOfC qual (ai st) ↑s f a8)) ->
   ∃ tb,pK (jr aP P w K mg base N qual (ai st) f a8 A outer s H E).wo #[g,M,H] (aL st) tb/\∀ ds R,t ds R->tb { nx:=λ_=>False,rt:=λ_=>False,rf:=R } (eo N.length nos ds))(hg:(g.kK=[])⁻¹):bZ P w K mg base aP (k+1) f fd ps (FZ K g t):=by
 show F.ok S (λvs H Q E h=>?_) λa8 A outer s H vs Q E hr h=>?_
 .let(M,ds,R,B,r,q,_):=h;rw[r.length];exact len ds R q
 .let(M,ds,R,B,r,q,kk):=h;let(tb,h1,h2):=hb a8 A outer s H E M hr;exact#[_,h1.ps,M,_,_,_,lJ B r hg,h2 ds R q,#[λ_ _ _ _ _ z=>z.elim,λ_ _ _ _ _ z=>z.elim,λ_ _ _ _ _ z=>z.elim,λ_ _ _ _ z=>z.elim,λd M' H' a o r B' ha ro nm ng h0=>kk d r M' H' a o B' ha ro nm ng h0,λ_ _ _ _ _ _ _ z=>z.elim]]
end
section
variable{K:Frag}{c:Ent}{M M' M1 M3 M6:AC->Prop}{s s' s1 s6:DS}{as:!AC}{σ σ4:St}{H H' H1 H3 H6:Hp}{a p q:AC}{o:HO}{d:D}{v:V}
def iC(nt:Nat)(us:!Nat)(s:DS):DS:=#[List.replicate nt .no++us.map λj=>s.sl.getD j .no,s.os]
theorem sR{nt:Nat}{us:!Nat}{i:Nat}{x:Sl}(hx:x≠.no)(h:(iC nt us s).sl[i]?=some x):∃ j,us[i - nt]?=some j/\nt<=i/\s.sl[j]?=some x:=by
 by_cases hi:i < nt
 .rw[iC,List.getElem?_append_left (by simpa using hi)] at h;let(_,e):=aaf.mp h;simp at e;exact absurd e.symm hx
 .rw[iC,List.getElem?_append_right (by simpa using hi)] at h;simp only[List.length_replicate] at h;rw[aaG] at h;let(j,h1,h2):=aaI.mp h;show#[j,h1,by cbv,?_];rw[abP] at h2;cases e:s.sl[j]? with
  | none=>rw[e] at h2;exact absurd h2.symm hx
  | some y=>rw[e] at h2;exact congrArg some h2
theorem xO{nt:Nat}{us:!Nat}{i j:Nat}{v:V}(hj:us[i - nt]?=some j)(hi:nt<=i)(h:σ[j]?=some (some v)):(L2.lift nt us σ)[i]?=some (some v):=by
 rw[L2.lift,List.getElem?_append_right (by simpa using hi),List.length_replicate,List.getElem?_map,hj,Option.map_some,h]
 rfl
theorem aG.inner(L:aG K c M s as σ H)(nt:Nat)(us:!Nat):aG K c M (iC nt us s) as (L2.lift nt us σ) H where
 base:=L.base
 len:=by simp[iC,L2.lift]
 dA:=L.dA
 dat:=λi d h=>by
  let(j,h1,h2,h3):=sR (by intro z;cases z) h;let(v,g1,g2):=L.dat j d h3;exact#[v,xO h1 h2 g1,g2]
 own:=λi k h=>by
  let(j,h1,h2,h3):=sR (by intro z;cases z) h;let(v,g1,g2):=L.own j k h3;exact#[v,g1,xO h1 h2 g2]
 obj:=L.obj
 inj:=L.inj
 lt:=L.lt
theorem aG.outer(L:aG K c M s as σ H)(E:Ext c as M s1 H M6 s6 H6)(hs:s1.os=s.os)(L6:aG K c M6 s6 as σ4 H6):aG K c M6 #[s.sl,s6.os] as σ H6 where
 base:=L6.base
 len:=L.len
 dA:=L6.dA
 dat:=λi d h=>by
  let(v,g1,g2):=L.dat i d h;have E':Ext c as M s H M6 s6 H6:=#[E.sub,λb m=>by
   rcases E.new b m with h | h | ⟨k,e,h1,h2⟩
   .exact .inl h
   .exact .inr (.inl h)
   .exact .inr (.inr #[k,e,by rw[<- hs];exact h1,h2]),λb o e g w=>E.keep b o e g λ#[k,e,h1,h2]=>w #[k,e,by rw[<- hs];exact h1,h2],λb w=>by
   let(k,e,h1,h2):=E.iG b w;exact#[k,e,by rw[<- hs];exact h1,h2]]
  exact#[v,g1,E'.rep L g2]
 own:=L.own
 obj:=L6.obj
 inj:=L6.inj
 lt:=L6.lt
theorem Ext.os{s2 Yw:DS}(E:Ext c as M s H M' s' H')(hs:s.os=s2.os)(F1:s'.os=Yw.os):Ext c as M s2 H M' Yw H':=#[E.sub,λb m=>by
   rcases E.new b m with h | h | ⟨k,e,h1,h2⟩
   .exact .inl h
   .exact .inr (.inl h)
   .exact .inr (.inr #[k,e,by rw[<- hs];exact h1,h2]),λb o e g w=>E.keep b o e g λ#[k,e,h1,h2]=>w #[k,e,by rw[<- hs];exact h1,h2],λb z7r=>by
   let(k,e,h1,h2):=z7r;let(k,e,h1,h2):=E.iG b #[k,e,by rw[F1];exact h1,h2];exact#[k,e,by rw[<- hs];exact h1,h2]]
theorem aG.wr{ys:!V}(L:aG K c M s as σ H)(hq:H q=some (.lst ys))(nm:¬ M q)(ng:¬ c.g.own q)(nw:¬ dO s as q)(h0:c.H0 q=none):aG K c M s as σ (upd H q o):=by
 have kp:∀ b u,b≠q->H b=some u->upd H q o b=some u:=λb u ne e=>by rw[aA ne];exact e
 have km:∀ b u,M b->H b=some u->upd H q o b=some u:=λb u m e=>kp b u (λz=>nm (z▸m)) e;show#[#[c.g.loc H _ L.base.nZ λb u g e=>kp b u (λz=>g.elim (λg=>ng (z▸g)) λ#[φ,f]=>by subst f;rw[z,hq] at e;cases e) e,λb u e g=>kp b u (λz=>by rw[z,h0] at e;cases e) (L.base.fr b u e g),λb m=>?_,L.base.mo,L.base.m0,L.base.mn],L.len,L.dA,λi e h=>?_,L.own,λl e b h1 h2=>?_,L.inj,L.lt]
 .let(u,e):=L.base.md b m;exact#[u,km b u m e]
 .let(w,h1,h2):=L.dat i e h;exact#[w,h1,Rep.mono (λ_ m=>m) km e w h2]
 .let((u,q1,q2),q3):=L.obj l e b h1 h2;show#[#[u,kp b u (λz=>?_) q1,q2.mono (λ_ m=>m) km],q3];subst z;exact nw #[l,e,h1,h2]
theorem Ext.wr(hn:H q=none)(E:Ext c as M s H M' s' H'):Ext c as M s H M' s' (upd H' q o):=#[E.sub,E.new,λb u e g w=>by
 rw[aA (aI e hn)];exact E.keep b u e g w,E.iG]
theorem EG(L:aG K c M s as σ H)(E1:Ext c as M s H M1 s1 H1)(ng:¬ c.g.own a)(hn:H1 a=none):H a=none\/dO s as a:=by
 cases q:H a with
 | none=>exact .inl U
 | some u =>
  by_cases w:dO s as a
  .exact .inr w
  .have:=E1.keep a u q ng w;rw[hn] at this;cases this
end
def cE(nt:Nat)(us:!Nat)(g:o7)(ti:mH)(te:aU):!D->!D->DS->(!D->DS->Prop)->Prop
 | [],acc,s,Q=>Q acc s
 | x::xs,acc,s,Q=>g x (iC nt us s) λs1=>ti s1 λb s2=>if b=true then te s2 λy s3=>cE nt us g ti te xs (acc++[y]) #[s.sl,s3.os] Q else cE nt us g ti te xs acc #[s.sl,s2.os] Q
def qB(nt:Nat)(us:!Nat)(tx:eQ)(g:o7)(ti:mH)(te:aU):aU:=λs Q=>tx s λxs s1=>cE nt us g ti te xs [] s1 λys s2=>Q (.lst ys) s2
structure S0(X:Cx)(c:Ent)(ifs:!Ch)(t:mH):Prop where
 Y7:Nz X ifs (tT X.K c t)
section
variable{X:Cx}{c:Ent}{e:Ch}{pos:Pos}
def dq:mH:=λs Q=>Q true s
theorem bY:S0 X c [] dq:=#[λTW s σ H Q I z4q=>by let(M,s',as,R,L,q,k):=z4q;exact Ap TW s σ H Q I (k true s' q M H L .refl)]
theorem jb{t:mH}(h:DT X c e t):S0 X c [e] t:=#[AF h.pt]
end
section
variable{X:Cx}{c:Ent}{ts:!Str}{us:!Nat}{scope:Scope}{tg elt iter:Ch}{ifs:!Ch}{pos:Pos}{tx:eQ}{g:o7}{ti:mH}{te:aU}
def J5(X:Cx)(c:Ent)(as:!AC)(M1:AC->Prop)(s1:DS)(H1:Hp)(σ:St)(A:AC)(xs:!D)(nt:Nat)(us:!Nat)(g:o7)(ti:mH)(te:aU)(R:D->DS->Prop)(m i:Nat)(ys:!V)(H2:Hp):Prop:=i<=xs.length/\m=xs.length - i/\ys.length<=i/\∃ M' s' zs,aG X.K c M' s' as σ H2/\Ext c as M1 s1 H1 M' s' H2/\H2 A=some (.lst ys)/\aE X.K H2 M' zs ys/\¬ M' A/\cE nt us g ti te (xs.drop i) zs s' λys s2=>R (.lst ys) s2
theorem AR{σ:St}{H:Hp}{Q:VK}:tN X.K c (qB ts.length us tx g ti te) σ H Q->xw ts.length us (tI X.K c tx) (tG X.K c ts.length g) (tT X.K c ti) (tE X.K c te) σ H Q:=λzz=>cQ zz λM s as R L q k=>by
 show#[M,s,as,_,L,q,λxs s1 q1 M1 H1 J L1 E1 io hlen=>?_];intro A hA;let(n1,n2,n3,n4):=notM L1 hA;show#[λi m ys H2=>J5 X c as M1 s1 H1 σ A xs ts.length us g ti te R m i ys H2,
  #[_,aax _,U,aah _,M1,s1,[],L1.laid hA,Ext.laid hA,aD,U,n1,q1],?_]
 rintro i m ys H2 ⟨hi,rfl,hy,M',s',zs,L',E',hD,rz,nm,q'⟩;have nw:∀ {G9:DS},(∀ b,dO G9 as b->dO s' as b)->¬ dO G9 as A:=λh w=>n3 (E'.iG A (h A w));show#[hD,?_];have G':d9 M1 H1 M' H2:=E'.grow L1;let(h1,h2):=io M' H2 G';by_cases jN:i < xs.length
 .refine .inr ?_;have hx:xs[i]?=some xs[i]:=aaq jN;let(hgo,hyl):=h2 i _ hx;rw[drop_cons hx] at q';show#[hgo,by cbv,λx H3 y=>?_];have go:∀ M3,aG X.K c M3 s' as σ H3->Rep X.K H3 M3 xs[i] x->Ext c as M' s' H2 M3 s' H3->H3 A=some (.lst ys)->¬ M3 A->tG X.K c ts.length g x (L2.lift ts.length us σ) H3 λσ4 H4=>EX (L2.lift ts.length us σ) σ4/\tT X.K c ti σ4 H4 λb H5 =>
    if b=true then tE X.K c te σ4 H5 λy H6=>H6 A=some (.lst ys)/\∃ m',m' < xs.length - i/\J5 X c as M1 s1 H1 σ A xs ts.length us g ti te R m' (i+1) (ys++[y]) (upd H6 A (.lst (ys++[y])))
    else ∃ m',m' < xs.length - i/\J5 X c as M1 s1 H1 σ A xs ts.length us g ti te R m' (i+1) ys H5:=by
   intro M3 L3 r3 E3 hD3 nm3;show#[M3,_,as,_,_,L3.inner ts.length us,r3,q',λs4 q4 σ4 L4 e4 o4=>#[λj v hj=>?_,M3,s4,as,_,L4,q4,λb s5 r5 M5 H5 L5 E5=>?_]]
   .by_cases hjn:j < ts.length
    .rw[L2.lift,List.getElem?_append_left (by simpa using hjn)] at hj;let(_,e):=aaf.mp hj;simp at e
    .rw[e4 j (by cbv)];exact hj
   .have E5':Ext c as M3 s' H3 M5 #[s'.sl,s5.os] H5:=E5.os o4 U;have L5':aG X.K c M5 #[s'.sl,s5.os] as σ H5:=L3.outer E5 o4 L5;have F5:Ext c as M' s' H2 M5 #[s'.sl,s5.os] H5:=E3.trans L3.base E5';have hD5:H5 A=some (.lst ys):=E5'.keep A _ hD3 n2 (nw λ_ h=>h);have nm5:¬ M5 A:=λm=>by
     rcases E5'.new A m with m | (m | ⟨_,m⟩) | m
     .exact nm3 m
     .rw[hD3] at m;cases m
     .rw[hD3] at m;cases m
     .exact nw (λ_ h=>h) m
    cases b with
    | false =>
     rw[if_neg aau] at r5;show va ?_;exact#[xs.length - (i+1),by cbv,jN,U,by cbv,M5,_,zs,L5',E'.trans L'.base F5,hD5,F5.vo L' rz,nm5,r5]
    | true =>
     rw[if_pos U] at r5;show rM ?_;show#[M5,s5,as,_,L5,r5,λy s6 r6 M6 H6 v L6 E6 rv=>?_];have E6':Ext c as M5 #[s'.sl,s5.os] H5 M6 #[s'.sl,s6.os] H6:=E6.os U U;have L6':aG X.K c M6 #[s'.sl,s6.os] as σ H6:=L5'.outer E6 U L6;have F6:Ext c as M' s' H2 M6 #[s'.sl,s6.os] H6:=F5.trans L5'.base E6';have hD6:H6 A=some (.lst ys):=E6'.keep A _ hD5 n2 (nw F5.iG);have nm6:¬ M6 A:=λm=>by
      rcases E6'.new A m with m | (m | ⟨_,m⟩) | m
      .exact nm5 m
      .rw[hD5] at m;cases m
      .rw[hD5] at m;cases m
      .exact nw F5.iG m
     have kM:∀ b u,M6 b->H6 b=some u->upd H6 A (.lst (ys++[v])) b=some u:=λb u mb e=>by
      have ne:b≠A:=λz=>by
       subst z;exact nm6 mb
      rw[aA ne];exact e
     show#[hD6,xs.length - (i+1),by cbv,jN,U,by simp;cbv,M6,_,zs++[y],L6'.wr hD6 nm6 n2 (nw F6.iG) n4,(E'.trans L'.base F6).wr hA,aD,?_,nm6,r6];exact aE.mono (λ_ h=>h) kM _ _ ((F6.vo L' rz).append (aE.one rv))
  rcases hyl x H3 y with ⟨rfl,r⟩ | ⟨p,o,hp,rfl,r⟩
  .exact go M' L' r .refl hD nm
  .have hpA:A≠p:=aI hD hp;exact go _ (L'.fresh hp) r (Ext.fresh hp) (by rw[aA hpA];exact hD) λm=>by
    rcases m with m | m
    .exact nm m
    .exact hpA m
 .have e:i=xs.length:=by cbv
  subst e;rw[List.drop_length] at q';show .inl #[h1 _ (aah _),k _ s' q' M' H2 A _ L' (E1.trans L1.base E') hD rz nm n2 (nw λ_ h=>h) n4 (EG L E1 n2 hA)]
theorem Nf(S:bQ X ts us scope)(hc:X.calm=true)(hi:DI X c tg iter tx)(hg:∀ C s H fp,DG (X.comp ts us scope C s H fp) c ts.length tg g)(Ek:∀ C s H fp,S0 (X.comp ts us scope C s H fp) c ifs ti)(he:∀ C s H fp,DE (X.comp ts us scope C s H fp) c elt te)(hs:acj iter X.env:=by intro _;rfl):DN X c (.ListComp elt [#[tg,iter,ifs,0]] scope pos) (qB ts.length us tx g ti te) :=
 #[(As S hc hi.pi (λC s H fp=>(hg C s H fp).pg) (λC s H fp=>(Ek C s H fp).Y7) (λC s H fp=>(he C s H fp).pe) hs).imp λ_ _ _=>AR]
theorem ou{i:Nat}{x:Str}{px Fj:Pos}(hN:X.N.Nodup)(A1:X.N[i]?=some x)(hx:X.env.scope.names.lookup x=some .local)(S:bQ X ts us scope)(hc:X.calm=true)(hi:DI X c tg iter tx)(hg:∀ C s H fp,DG (X.comp ts us scope C s H fp) c ts.length tg g)(Ek:∀ C s H fp,S0 (X.comp ts us scope C s H fp) c ifs ti)(he:∀ C s H fp,DE (X.comp ts us scope C s H fp) c elt te)(Sf:(swapsWith (.ListComp elt [#[tg,iter,ifs,0]] scope pos) (some (.Name x px)) Fj.line X.env=pure true)⁻¹)(hs:acj iter X.env:=by intro _;rfl):PS X (.Assign [.Name x px] (.ListComp elt [#[tg,iter,ifs,0]] scope pos) Fj) (j5 (tN X.K c (qB ts.length us tx g ti te)) (et i)) :=
 (zW hN A1 hx S hc hi.pi (λC s H fp=>(hg C s H fp).pg) (λC s H fp=>(Ek C s H fp).Y7) (λC s H fp=>(he C s H fp).pe) Sf hs).imp λE σ H q=>AR q
theorem ud{i:Nat}{st:Ev}{te:aU}(h:PS X st (j5 (tN X.K c te) (et i))):PS X st (j5 (tE X.K c te) (et i)):=h.imp λE σ H zz=>cQ zz λM s as R L q k =>
 #[M,s,as,R,L,q,λd s' r M' H' a o L' E ha ro nm ng nw h0 hn =>
  k d s' r _ H' (.ref a) (L'.grown ha ng nw h0) (E.plus hn) ((ro.mono (λ_ h=>.inl h) λ_ _ _ e=>e).rep ha (.inr U))]
end
end DL
namespace HT
open PySem PyProof.Rows
variable{prog:Fa}{w:FB}{A:Fr}{E:acb}{s:Cl}
theorem kH{t sl:AC}{items:Array AT}{vl vu:AT}{lo hi:Option Int}{Q:acb}(ht:IsTup s.heap t items)(hs:s.heap.IsSliceOf sl vl vu .none)(pl:IsPart vl lo)(pu:IsPart vu hi)(hw:cc items.size 0 lo=0/\cc items.size items.size hi=items.size)(h:Q (.ref t) s):EQ (model prog w) A (getItem (.ref t) (.ref sl)) Q E s:=by
 let(os,qZ,hcs,hds):=id hs;have hTs:s.TypeIs (.ref sl) "slice":=#[os,qZ,hcs];unfold getItem
 try with_reducible show KB ?_
 first | show Da (GE ?_) | skip
 show Da (wpAny_sequenceKey ht.typeIs () ?_);show Da (wpAny_callSpecial?_slot (name:=Str.ofString "__getitem__") ht.typeIs PyProof.Rows.slot_tuple_getitem
  (SZ PyProof.Rows.slot_tuple_getitem ht.typeIs entry_tuple_getitem ?_ (args_tuple_getitem _ _)))
 change EQ _ _ (GT.Tuple.tupleItemsOf (.ref t) >>= _) _ _ s;show Da (tupleItemsOf_ ht ?_);show Da (wpAny_typeOf hTs ?_);rw[if_pos ()];show Da (ie hs pl pu ?_);have hno:(((cc items.size 0 lo:Nat):Int) == 0&&(1:Int) == 1&&(cc items.size items.size hi - cc items.size 0 lo) == items.size)=true:=by
  rw[hw.1,hw.2];simp
 change EQ _ _ (if (((cc items.size 0 lo:Nat):Int) == 0&&(1:Int) == 1&&(cc items.size items.size hi - cc items.size 0 lo) == items.size)=true then _ else _) _ _ s;rw[if_pos hno];show Da (m:=GT.Tuple.tupleIsExact (.ref t)) (Da (wpAny_typeOf ht.typeIs (GE ?_)));rw[if_pos ()];exact Da (wpAny_rule (GE #[_,U,GE h]))
end HT
namespace L2
open PySem PySem.Spec PyProof.Rows
section
variable{X:Cx}
def So(K:Frag):V->Option Int->Option Int->Hp->VK->Prop:=λx lo hi H Q=>∃ a xs,x=.ref a/\iu K H a xs /\
 ((HT.cc xs.length 0 lo=0/\HT.cc xs.length xs.length hi=xs.length)->Q (.ref a) H)/\(¬ (HT.cc xs.length 0 lo=0/\HT.cc xs.length xs.length hi=xs.length)->∀ p,H p=none->Q (.ref p) (upd H p (.tup (qb xs lo hi))))
theorem GQ:PF X (So X.K):=by
 intro TW s σ H x v vl vu lo hi sl Q I rx hs pl pu h;let(a,xs,rfl,hx,q1,q2):=h;by_cases hw:HT.cc xs.length 0 lo=0/\HT.cc xs.length xs.length hi=xs.length
 .cases rx;let(its,r,ht,hz):=I.tuple hx;have hlen:its.toArray.size=xs.length:=by rw[aaC];exact r.length.symm
  exact#["tuple",_,PyProof.Rows.slot_tuple_getitem.lookup,ht.typeIs,HT.kH ht hs pl pu (by rw[hlen];exact hw) #[.ref a,H,I,U,q1 hw]]
 .exact Kb TW s σ H _ v vl vu lo hi sl Q I rx hs pl pu #[a,xs,U,hx,hw,q2 hw]
def XE(K:Frag)(tl:TE):TI:=λσ H R=>tl σ H λx H1=>∃ a,x=.ref a/\((∃ xs,dN K H1 a xs/\(xs.length<=FS->R (Ly K a) H1))\/∃ xs,iu K H1 a xs/\(xs.length<=FS->R (YQ K a) H1))
theorem Mu{tg l:Ch}{tl:TE}(hl:PE X l tl):PI X tg l (XE X.K tl):=by
 intro TW s σ H R I h;show cb (hl TW s σ H _ I h) λv s1 zz=>el2 zz λx H1 I1 r1 q1=>?_;let(a,e,q1):=q1;subst e;cases r1;have fp:∀ b∈[↑s1],jZ X TW H1 b:=λb hb=>by
  have e:b=↑s1:=by simpa using hb
  subst e;exact I1.u7 (aah _) (I1.bM.fresh (aah _))
 rcases q1 with ⟨xs,hq,q⟩ | ⟨xs,hq,q⟩
 .let(its,rv,p,hz):=I1.list hq;show wpAny_pyIter_list p.isList ?_;exact#[↑s1,[↑s1],_,_,H1,U,I1.kept (t':=s1.toks) λb o e=>aae _ e,tK a _,#[_,aat _ U,U,U],fp,q hz]
 .let(its,rv,p,hz):=I1.tuple hq;show wpAny_pyIter_tuple (show s1.heap.IsTuple a its.toArray from p) ?_;exact#[↑s1,[↑s1],_,_,H1,U,I1.kept (t':=s1.toks) λb o e=>aae _ e,zo a _,#[_,aat _ U,U,U],fp,q hz]
end
end L2
namespace DL
open PySem PySem.Spec L2
open PyProof.Rows hiding St
section
variable{X:Cx}{c:Ent}
def cI(P:Int->Int->Prop)(f:Int->Int->Int):D->D->(D->Prop)->Prop:=λa b k=>∃ i j,a=.int i/\b=.int j/\P i j/\k (.int (f i j))
def XJ(f:Int->Int->Int):D->D->(D->Prop)->Prop:=λa b k=>∃ i j,a=.int i/\b=.int j/\k (.int (f i j))
def YH(f:Int->Int->Bool):D->D->(D->Prop)->Prop:=λa b k=>∃ i j,a=.int i/\b=.int j/\k (.bl (f i j))
theorem F0{P:Int->Int->Prop}{f:Int->Int->Int}:su X c (rI P λi j=>.int (f i j)) (cI P f):=λM s as σ H x y dx dy k Q L rx ry z8r kk=>by
 let(i,j,e1,e2,hp,hk):=z8r;subst e1;subst e2;exact#[i,j,rx,ry,hp,kk _ hk M H _ L .refl U]
theorem jG{f:Int->Int->Int}:su X c (uX λi j=>.int (f i j)) (XJ f):=λM s as σ H x y dx dy k Q L rx ry z9r kk=>by
 let(i,j,e1,e2,hk):=z9r;subst e1;subst e2;exact#[i,j,rx,ry,kk _ hk M H _ L .refl U]
theorem yA{f:Int->Int->Bool}:su X c (uX λi j=>.bl (f i j)) (YH f):=λM s as σ H x y dx dy k Q L rx ry z0r kk=>by
 let(i,j,e1,e2,hk):=z0r;subst e1;subst e2;exact#[i,j,rx,ry,kk _ hk M H _ L .refl U]
def fv:D->V
 | .bx=>.bx
 | .bl b=>.bl b
 | .int i=>.int i
 | .str x=>.str x
 | .ty n=>.ty n
 | .bJ a=>.ref a
 | _=>.ref 0
def gp:D->Bool
 | .bx=>true
 | .bl _=>true
 | .int _=>true
 | .str _=>true
 | _=>false
theorem Rep.flat{K:Frag}{H:Hp}{M:AC->Prop}{d:D}{v:V}(f:gp d=true)(r:Rep K H M d v):v=fv d:=by
 cases d<;>first | exact r | (cases f)
theorem qL{d:D}(f:gp d=true):kX (fv d)=true:=by
 cases d<;>first | rfl | (cases f)
theorem aE.flat{K:Frag}{H:Hp}{M:AC->Prop}:∀ {ds:!D} {vs:!V},ds.all gp=true->aE K H M ds vs->vs=ds.map fv/\vs.all kX=true
 | [],vs,f,r=>by
  have r:vs=[]:=r;subst r;exact#[U,U]
 | d::ds,vs,f,r=>by
  let(x,xr,rfl,r1,r2):=r;rw[List.all_cons,aaT] at f;let(h1,h2):=aE.flat f.2 r2;have e:=r1.flat f.1;subst e;exact#[by rw[aao,h1],by rw[List.all_cons,h2,qL f.1];rfl]
def YJ:D->D->(D->Prop)->Prop:=λa b k=>(gp a=true/\gp b=true/\D4 (fv a) (fv b)=true)/\k (.bl (decide (fv a=fv b)))
def ZE:D->D->(D->Prop)->Prop:=λa b k=>(gp a=true/\gp b=true/\D4 (fv a) (fv b)=true)/\k (.bl (not (decide (fv a=fv b))))
theorem cz:su X c WY YJ:=λM s as σ H x y dx dy k Q L rx ry z1r kk=>by
 let((f1,f2,hs),hk):=z1r;have e1:=rx.flat f1;have e2:=ry.flat f2;subst e1;subst e2;exact#[hs,kk _ hk M H _ L .refl U]
theorem zK:su X c YV ZE:=λM s as σ H x y dx dy k Q L rx ry z2r kk=>by
 let((f1,f2,hs),hk):=z2r;have e1:=rx.flat f1;have e2:=ry.flat f2;subst e1;subst e2;exact#[hs,kk _ hk M H _ L .refl U]
def cIn(neg:Bool):D->D->(D->Prop)->Prop:=λa b k=>∃ ds,(b=.lst ds\/b=.tup ds)/\(gp a=true/\ds.all gp=true)/\k (.bl (if neg then (not (BE (fv a) (ds.map fv))) else BE (fv a) (ds.map fv)))
theorem okIn{neg:Bool}:su X c (NO X.K neg) (cIn neg):=λM s as σ H x y dx dy k Q L rx ry z3r kk=>by
 let(ds,hb,(f1,f2),hk):=z3r;have e1:=rx.flat f1;subst e1;have go:∀ {p xs},aE X.K H M ds xs->(dN X.K H p xs\/iu X.K H p xs)->NO X.K neg (fv dx) (.ref p) H Q:=λ{p xs} r h=>by
  let(e,f):=r.flat f2;show#[p,xs,U,h,qL f1,f,?_];rw[e];exact kk _ hk M H _ L .refl U
 rcases hb with rfl | rfl
 .let(p,xs,rfl,(m,h),r):=ry;exact go r (.inl (.of h))
 .let(p,xs,rfl,h,r):=ry;exact go r (.inr h.sq)
theorem aE.at{K:Frag}{H:Hp}{M:AC->Prop}{ds:!D}{vs:!V}{i:Int}{d:D}(r:aE K H M ds vs)(h:iD ds i=some d):∃ v,iD vs i=some v/\Rep K H M d v:=by
 unfold iD at h ⊢;rw[r.length];cases e:yd ds.length i with
 | none=>rw[e] at h;cases h
 | some j =>
  rw[e] at h;exact r.get h
def LJ:D->D->(D->Prop)->Prop:=λa b k=>∃ ds i d,a=.tup ds/\b=.int i/\iD ds i=some d/\k d
def Ml:D->D->(D->Prop)->Prop:=λa b k=>∃ ds i d,a=.lst ds/\b=.int i/\iD ds i=some d/\k d
def V6:D->D->(D->Prop)->Prop:=λa b k=>∃ z i ch,a=.str z/\b=.int i/\z.length<=FS/\iD z.cps.toList i=some ch/\k (.str #[#v[ch]])
theorem Qt:su X c (Ov X.K) LJ:=λM s as σ H x y dx dy k Q L rx ry z4r kk=>by
 let(ds,i,d,e1,e2,h,hk):=z4r;subst e1;subst e2;let(p,xs,rfl,t,r):=rx;let(v,h1,h2):=r.at h;exact#[p,xs,i,v,U,ry,t.sq,h1,kk _ hk M H _ L .refl h2]
theorem Tp:su X c (Le X.K) Ml:=λM s as σ H x y dx dy k Q L rx ry z5r kk=>by
 let(ds,i,d,e1,e2,h,hk):=z5r;subst e1;subst e2;let(p,xs,rfl,(m,t),r):=rx;let(v,h1,h2):=r.at h;exact#[p,xs,i,v,U,ry,.of t,h1,kk _ hk M H _ L .refl h2]
theorem C8:su X c SM V6:=λM s as σ H x y dx dy k Q L rx ry z6r kk=>by
 let(z,i,ch,e1,e2,hz,h,hk):=z6r;subst e1;subst e2;exact#[z,i,ch,rx,ry,hz,h,kk _ hk M H _ L .refl U]
def W7:D->D->(D->Prop)->Prop:=λa b k=>∃ xs ys,a=.lst xs/\b=.lst ys/\xs.length+ys.length<=FS/\k (.lst (xs++ys))
theorem dw:MU X c RS W7:=λM s as σ H x y dx dy k Q L rx ry z7r kk=>by
 let(xs,ys,e1,e2,hl,hk):=z7r;subst e1;subst e2;let(p,vs,rfl,(m,t),r):=rx;let(p',vs',rfl,(m',t'),r'):=ry;exact#[p,p',vs,vs',U,U,t,t',by rw[r.length,r'.length];exact hl,λq hq=>kk _ hk q _ hq (r.append r')]
def OR:D->D->(D->Prop)->Prop:=λa b k=>∃ xs ys,a=.tup xs/\b=.tup ys/\xs≠[]/\xs.length+ys.length<=FS/\k (.tup (xs++ys))
theorem Ef:su X c (Jh X.K) OR:=λM s as σ H x y dx dy k Q L rx ry z8r kk=>by
 let(xs,ys,e1,e2,hn,hl,hk):=z8r;subst e1;subst e2;let(p,vs,rfl,t,r):=rx;let(p',vs',rfl,t',r'):=ry;show#[p,p',vs,vs',U,U,t.sq,t'.sq,λz=>?_,by rw[r.length,r'.length];exact hl,λz=>?_,λz q hq=>?_]
 .have:=r.length;rw[z] at this;exact hn (aaO this.symm)
 .have:=r'.length;rw[z] at this;have e:ys=[]:=aaO this.symm;subst e;rw[aal] at hk;exact kk _ hk M H _ L .refl #[p,vs,U,t,r]
 .exact kk _ hk _ _ _ (L.fresh hq) (Ext.fresh hq) #[q,vs++vs',U,#[.inr U,aD],kj hq (r.append r')]
abbrev HK:=DS->(Option Int->DS->Prop)->Prop
def tO(K:Frag)(c:Ent)(t:HK):TO:=λσ H Q=>∃ M s as R,aG K c M s as σ H/\t s R/\∀ o s',R o s'->∀ M' H',aG K c M' s' as σ H'->Ext c as M s H M' s' H'->Q o H'
structure DO(X:Cx)(c:Ent)(e:Option Ch)(t:HK):Prop where
 po:PO X e (tO X.K c t)
theorem _root_.L2.PO.imp{e:Option Ch}{t t':TO}(h:PO X e t)(w:∀ σ H Q,t' σ H Q->t σ H Q):PO X e t':=λTW s σ H Q I q=>h TW s σ H Q I (w σ H Q q)
def Yp:HK:=λs Q=>Q none s
def LY(te:aU):HK:=λs Q=>te s λd s1=>∃ i,d=.int i/\Q (some i) s1
theorem cU:DO X c none Yp:=#[Hf.imp λσ H Q zz=>cQ zz λM s as R L q k=>k none s q M H L .refl]
theorem bC{e:Ch}{te:aU}(h:DE X c e te):DO X c (some e) (LY te):=#[(uK h.pe).imp λσ H Q zz=>cQ zz λM s as R L q k =>
 #[M,s,as,_,L,q,λd s1 z9r M' H' v L' E' rv=>by
  let(i,e,r):=z9r;subst e;exact#[i,rv,k (some i) s1 r M' H' L' E']]]
def cutD(xs:!D)(lo hi:Option Int):!D:=(xs.drop (HT.cc xs.length 0 lo)).take (HT.cc xs.length xs.length hi - HT.cc xs.length 0 lo)
theorem aE.cut{K:Frag}{H:Hp}{M:AC->Prop}{ds:!D}{vs:!V}(lo hi:Option Int)(r:aE K H M ds vs):aE K H M (cutD ds lo hi) (qb vs lo hi):=by
 unfold cutD qb;rw[r.length];exact (r.drop _).take _
def Qy(te:aU)(tl th:HK)(k:!D->Option Int->Option Int->(D->Prop)->D->Prop):aU:=λs Q=>te s λa s1=>tl s1 λl s2=>th s2 λu s3=>∃ ds,k ds l u (λd=>Q d s3) a
def ZN:!D->Option Int->Option Int->(D->Prop)->D->Prop:=λds l u Q a=>a=.lst ds/\Q (.lst (cutD ds l u))
def slT:!D->Option Int->Option Int->(D->Prop)->D->Prop:=λds l u Q a=>a=.tup ds/\Q (.tup (cutD ds l u))
theorem cW{e:Ch}{lo hi:Option Ch}{te:aU}{tl th:HK}{p2 pos:Pos}(he:DE X c e te)(hl:DO X c lo tl)(hu:DO X c hi th):DN X c (.Subscript e (.Slice lo hi none p2) pos) (Qy te tl th ZN):=#[(mR z9 he.pe hl.po hu.po).imp λσ H Q zz=>cQ zz λM s as R L q k =>
 #[M,s,as,_,L,q,λd s1 q1 M1 H1 v L1 E1 rv=>#[M1,s1,as,_,L1,q1,λl s2 q2 M2 H2 Lb E2=>#[M2,s2,as,_,Lb,q2,λu s3 q3 M3 H3 Lc E3=>by
  let(ds,e,q):=q3;subst e;have E13:=E2.trans Lb.base E3;let(p,xs,rfl,(m,t),r):=E13.rep L1 rv;exact#[p,xs,U,.of t,λb hb=>j7 (d:=.lst _) L Lc (E1.trans L1.base E13) hb (r.cut l u) (k _ s3 q)]]]]]
theorem gy{e:Ch}{lo hi:Option Ch}{te:aU}{tl th:HK}{p2 pos:Pos}(he:DE X c e te)(hl:DO X c lo tl)(hu:DO X c hi th):DE X c (.Subscript e (.Slice lo hi none p2) pos) (Qy te tl th slT):=#[(mR GQ he.pe hl.po hu.po).imp λσ H Q zz=>cQ zz λM s as R L q k =>
 #[M,s,as,_,L,q,λd s1 q1 M1 H1 v L1 E1 rv=>#[M1,s1,as,_,L1,q1,λl s2 q2 M2 H2 Lb E2=>#[M2,s2,as,_,Lb,q2,λu s3 q3 M3 H3 Lc E3=>by
  let(ds,e,q):=q3;subst e;have E13:=E2.trans Lb.base E3;have E0:=E1.trans L1.base E13;let(p,xs,rfl,t,r):=E13.rep L1 rv;show#[p,xs,U,t.sq,λhw=>?_,λhw b hb=>?_]
  .have e:cutD ds l u=ds:=by
    unfold cutD;rw[<- r.length,hw.1,hw.2,List.drop_zero,r.length,Nat.sub_zero,List.take_length]
   rw[e] at q;exact k _ s3 q M3 H3 _ Lc E0 #[p,xs,U,t,r]
  .exact k _ s3 q _ _ _ (Lc.fresh hb) (E0.trans Lc.base (Ext.fresh hb)) #[b,_,U,#[.inr U,aD],kj hb (r.cut l u)]]]]]
def Xf:D->(D->Prop)->Prop:=λa k=>∃ ds,a=.lst ds/\k (.lst ds.reverse)
theorem JT{e st:Ch}{te:aU}{p2 pos:Pos}(he:DE X c e te)(fC:PE X st (tC (.int (-1)))):DN X c (.Subscript e (.Slice none none (some st) p2) pos) (t1D Xf te):=#[(CF he.pe fC).imp λσ H Q zz=>cQ zz λM s as R L q k =>
 #[M,s,as,_,L,q,λd s1 z0r M1 H1 v L1 E1 rv=>by
  let(ds,e,q1):=z0r;subst e;let(p,xs,rfl,(m,t),r):=rv;exact#[p,xs,U,.of t,λb hb=>j7 (d:=.lst _) L L1 E1 hb r.reverse (k _ s1 q1)]]]
def mZ(C:ace)(t:eQ):aU:=λs Q=>t s λds s1=>C ds λd=>Q d s1
def Cg(X:Cx)(c:Ent)(r:!V->Hp->VK->Prop)(C:ace):Prop:=∀ (M:AC->Prop) (s:DS) (as:!AC) (σ:St) (H:Hp) (xs:!V) (ds:!D) (k:D->Prop) (Q:VK),aG X.K c M s as σ H->aE X.K H M ds xs->C ds k ->
 (∀ d,k d->∀ M' H' v,aG X.K c M' s as σ H'->Ext c as M s H M' s H'->Rep X.K H' M' d v->Q v H')->r xs H Q
def FC(X:Cx)(c:Ent)(r:!V->Hp->VK->Prop)(C:ace):Prop:=∀ (M:AC->Prop) (s:DS) (as:!AC) (σ:St) (H:Hp) (xs:!V) (ds:!D) (k:D->Prop) (Q:VK),aG X.K c M s as σ H->aE X.K H M ds xs->C ds k ->
 (∀ d,k d->∀ p o,H p=none->cy X.K H M d o->Q (.ref p) (upd H p o))->r xs H Q
section
variable{x:Str}{p pos:Pos}{e:Ch}{es:!Ch}{t:eQ}{id T:String}{r:!V->Hp->VK->Prop}{C:ace}
theorem IV{n:Nat}(k:Cg X c r C){σ:St}{H:Hp}{Q:VK}:tE X.K c (mZ C t) σ H Q->Ag r (tA X.K c n t) σ H Q:=λzz=>cQ zz λM s as R L q kk =>
 #[M,s,as,_,L,q,λds s1 q1 M1 H1 vs L1 E1 r1 hl=>k M1 s1 as σ H1 vs ds (λd=>R d s1) Q L1 r1 q1 λd rd M' H' v L' E' rv=>kk d s1 rd M' H' v L' (E1.trans L1.base E') rv]
theorem MA{n:Nat}(k:FC X c r C){σ:St}{H:Hp}{Q:VK}:tN X.K c (mZ C t) σ H Q->Ag r (tA X.K c n t) σ H Q:=λzz=>cQ zz λM s as R L q kk =>
 #[M,s,as,_,L,q,λds s1 q1 M1 H1 vs L1 E1 r1 hl=>k M1 s1 as σ H1 vs ds (λd=>R d s1) Q L1 r1 q1 λd rd p o hp ro=>j7 L L1 E1 hp ro (kk d s1 rd)]
theorem cK(hc:fk X (.builtin id) r)(k:Cg X c r C)(hg:Gl X x)(hm:X.mg x=none)(hv:bootBuiltins x=some (.builtin id))(ha:DA X c (e::es) t)(hn: ~~~(x≠"__name__"))(jf: ~~~(ach x))(he:(acf X.env e es)⁻¹)(fe:(acg X.env pos es)⁻¹):DE X c (.Call (.Name x p) (e::es) [] pos) (mZ C t):=#[(jL hc hg hm hv ha.pa hn jf he fe).imp λ_ _ _=>IV k]
theorem fJ(hc:fk X (.type T) r)(k:Cg X c r C)(hg:Gl X x)(hm:X.mg x=none)(hv:bootBuiltins x=some (.type T))(ha:DA X c (e::es) t)(hn: ~~~(x≠"__name__"))(jf: ~~~(ach x))(he:(acf X.env e es)⁻¹)(fe:(acg X.env pos es)⁻¹):DE X c (.Call (.Name x p) (e::es) [] pos) (mZ C t):=#[(ny hc hg hm hv ha.pa hn jf he fe).imp λ_ _ _=>IV k]
theorem jR(hc:fk X (.type T) r)(k:FC X c r C)(hg:Gl X x)(hm:X.mg x=none)(hv:bootBuiltins x=some (.type T))(ha:DA X c (e::es) t)(hn: ~~~(x≠"__name__"))(jf: ~~~(ach x))(he:(acf X.env e es)⁻¹)(fe:(acg X.env pos es)⁻¹):DN X c (.Call (.Name x p) (e::es) [] pos) (mZ C t):=#[(ny hc hg hm hv ha.pa hn jf he fe).imp λ_ _ _=>MA k]
end
theorem dZ{K:Frag}{H:Hp}{M:AC->Prop}{d:D}{vs:!V}(r:aE K H M [d] vs):∃ v,vs=[v]/\Rep K H M d v:=by
 let(x,xr,rfl,r1,r2):=r;have r2:xr=[]:=r2;subst r2;exact#[x,U,r1]
theorem uo{K:Frag}{H:Hp}{M:AC->Prop}{d e:D}{vs:!V}(r:aE K H M [d,e] vs):∃ v w,vs=[v,w]/\Rep K H M d v/\Rep K H M e w:=by
 let(x,xr,rfl,r1,r2):=r;let(y,rfl,r3):=dZ r2;exact#[x,y,U,r1,r3]
def Cu:ace:=λas k=>∃ ds,(as=[.lst ds]\/as=[.tup ds])/\k (.int ds.length)
theorem Su:Cg X c (λxs H Q=>∃ p ys,xs=[.ref p]/\(dN X.K H p ys\/iu X.K H p ys)/\Q (.int ys.length) H) Cu:=λM s as σ H xs ds k Q L r z1r kk=>by
 let(es,hb,hk):=z1r;rcases hb with rfl | rfl
 .let(v,rfl,p,ys,rfl,(m,h),r'):=dZ r;show#[p,ys,U,.inl (.of h),?_];rw[r'.length];exact kk _ hk M H _ L .refl U
 .let(v,rfl,p,ys,rfl,h,r'):=dZ r;show#[p,ys,U,.inr h.sq,?_];rw[r'.length];exact kk _ hk M H _ L .refl U
def Oj:ace:=λas k=>∃ z,as=[.str z]/\z.length<=FS/\k (.int z.length)
theorem LK:Cg X c (λxs H Q=>∃ z,xs=[.str z]/\z.length<=FS/\Q (.int z.length) H) Oj:=λM s as σ H xs ds k Q L r z2r kk=>by
 let(z,e,hz,hk):=z2r;subst e;let(v,rfl,e):=dZ r;have e:v=.str z:=e;subst e;exact#[z,U,hz,kk _ hk M H _ L .refl U]
def V7:ace:=λas k=>∃ i j,as=[.int i,.int j]/\k (.int (if j > i then j else i))
theorem IP:Cg X c (λxs H Q=>∃ i j,xs=[.int i,.int j]/\Q (.int (if j > i then j else i)) H) V7:=λM s as σ H xs ds k Q L r z3r kk=>by
 let(i,j,e,hk):=z3r;subst e;let(v,w,rfl,e1,e2):=uo r;have e1:v=.int i:=e1;have e2:w=.int j:=e2;subst e1;subst e2;exact#[i,j,U,kk _ hk M H _ L .refl U]
def Uw:ace:=λas k=>(∃ i,as=[.int i]/\k (.int i))\/∃ b,as=[.bl b]/\k (.int (if b then 1 else 0))
theorem lj:Cg X c (λxs H Q=>(∃ i,xs=[.int i]/\Q (.int i) H)\/∃ k,xs=[.bl k]/\Q (.int (if k then 1 else 0)) H) Uw:=λM s as σ H xs ds k Q L r h kk=>by
 rcases h with ⟨i,rfl,hk⟩ | ⟨i,rfl,hk⟩
 .let(v,rfl,e1):=dZ r;have e1:v=.int i:=e1;subst e1;exact .inl #[i,U,kk _ hk M H _ L .refl U]
 .let(v,rfl,e1):=dZ r;have e1:v=.bl i:=e1;subst e1;exact .inr #[i,U,kk _ hk M H _ L .refl U]
def Oq:ace:=λas k=>∃ ds,(as=[.lst ds]\/as=[.tup ds])/\k (.lst ds)
theorem xK:FC X c (λxs H Q=>∃ p ys,xs=[.ref p]/\(dN X.K H p ys\/iu X.K H p ys)/\∀ l,H l=none->Q (.ref l) (upd H l (.lst ys))) Oq:=λM s as σ H xs ds k Q L r z4r kk=>by
 let(es,hb,hk):=z4r;rcases hb with rfl | rfl
 .let(v,rfl,p,ys,rfl,(m,h),r'):=dZ r;exact#[p,ys,U,.inl (.of h),λl hl=>kk _ hk l _ hl r']
 .let(v,rfl,p,ys,rfl,h,r'):=dZ r;exact#[p,ys,U,.inr h.sq,λl hl=>kk _ hk l _ hl r']
def J7:ace:=λas k=>∃ ds,(as=[.lst ds]\/as=[.tup ds])/\k (.tup ds)
theorem NZ:Cg X c (λxs H Q=>∃ p ys,xs=[.ref p]/\((dN X.K H p ys/\∀ l,H l=none->Q (.ref l) (upd H l (.tup ys)))\/(iu X.K H p ys/\Q (.ref p) H))) J7:=λM s as σ H xs ds k Q L r z5r kk=>by
 let(es,hb,hk):=z5r;rcases hb with rfl | rfl
 .let(v,rfl,p,ys,rfl,(m,h),r'):=dZ r;exact#[p,ys,U,.inl #[.of h,λl hl=>kk _ hk _ _ _ (L.fresh hl) (Ext.fresh hl) #[l,ys,U,#[.inr U,aD],kj hl r']]]
 .let(v,rfl,p,ys,rfl,h,r'):=dZ r;exact#[p,ys,U,.inr #[h.sq,kk _ hk M H _ L .refl #[p,ys,U,h,r']]]
def VY:ace:=λas k=>∃ bs:!Bool,as=[.lst (bs.map .bl)]/\k (.bl (bs.all id))
theorem Al{K:Frag}{H:Hp}{M:AC->Prop}:∀ {bs:!Bool} {vs:!V},aE K H M (bs.map .bl) vs->vs=bs.map V.bl
 | [],vs,r=>r
 | b::bs,vs,r=>by
  let(x,xr,rfl,r1,r2):=r;have r1:x=.bl b:=r1;rw[r1,Al r2,aao]
theorem PJ:Cg X c (λxs H Q=>∃ (p:AC) (bs:!Bool),xs=[.ref p]/\dN X.K H p (bs.map V.bl)/\Q (.bl (bs.all id)) H) VY:=λM s as σ H xs ds k Q L r z6r kk=>by
 let(bs,e,hk):=z6r;subst e;let(v,rfl,p,ys,rfl,(m,h),r'):=dZ r;rw[Al r'] at h;exact#[p,bs,U,.of h,kk _ hk M H _ L .refl U]
def Uj(te:aU):eQ:=λs Q=>te s λd s1=>∃ ds,(d=.lst ds\/d=.tup ds)/\Q ds s1
theorem aZ{tg e:Ch}{te:aU}(he:DE X c e te):DI X c tg e (Uj te):=#[λTW s σ H R I zz=>cQ zz λM s0 as R0 L q k=>Mu he.pe TW s σ H R I
 #[M,s0,as,_,L,q,λd s1 z7r M1 H1 v L1 E1 rv=>by
  let(ds,hd,q1):=z7r;rcases hd with rfl | rfl
  .let(p,xs,rfl,(m,h),r):=rv;show#[p,U,.inl #[xs,.of h,λhl=>k ds s1 q1 M1 H1 _ L1 E1 (λM2 H2 G=>?_) (by rw[<- r.length];exact hl)]];have h2:H2 p=some (.lst xs):=(G p m).2 _ h;have r2:=G.vo r;show#[λi hi=>#[xs,.of h2,by rw[r.length];exact hi],λi d hd=>?_];let(v,g1,g2):=r2.get hd;show#[#[xs,v,.of h2,g1],λx H3 #[e,hx]=>.inl #[e,?_]];have:=hx xs (.of h2);rw[g1] at this;cases this;exact g2
  .let(p,xs,rfl,h,r):=rv;show#[p,U,.inr #[xs,h.sq,λhl=>k ds s1 q1 M1 H1 _ L1 E1 (λM2 H2 G=>?_) (by rw[<- r.length];exact hl)]];have h2:iu X.K H2 p xs:=(h.mono (λb m=>(G b m).1) λb o m e=>(G b m).2 o e).sq;have r2:=G.vo r;show#[λi hi=>#[xs,h2,by rw[r.length];exact hi],λi d hd=>?_];let(v,g1,g2):=r2.get hd;show#[#[xs,v,h2,g1],λx H3 #[e,hx]=>.inl #[e,?_]];have:=hx xs h2;rw[g1] at this;cases this;exact g2]]
def dh(lo:Int)(n:Nat):!D:=(List.range n).map λi=>.int (lo+(i:Nat))
def IM(t:eQ):eQ:=λs Q=>t s λds s1=>∃ j:Int,ds=[.int j]/\(-(2 ^ 62)<=j/\j<=16777216)/\Q (dh 0 j.toNat) s1
theorem Ee{K:Frag}{M:AC->Prop}{H:Hp}{lo:Int}{n:Nat}:MO K M H (dh lo n) (Vv lo n):=λM1 H1 G =>
 #[λi hi=>by
  change n<=i;simpa [dh] using hi,λi d hd=>by
  unfold dh at hd;rw[aaG] at hd;let(j,h1,h2):=aaI.mp hd;let(hl,e):=aaf.mp h1;simp at hl e;subst e;subst h2;exact#[hl,λx H2 #[e,hx]=>.inl #[e,hx]]]
section
variable{tg a b:Ch}{t:eQ}{p pos:Pos}
theorem dI(hg:Gl X "range")(hm:X.mg "range"=none)(ha:DA X c [a] t)(hs:(Gc [a] X.env=[(false,eval a X.env)])⁻¹):DI X c tg (.Call (.Name "range" p) [a] [] pos) (IM t):=#[λTW s σ H R I zz=>cQ zz λM s0 as R0 L q k=>By hg hm ha.pa hs TW s σ H R I
 #[M,s0,as,_,L,q,λds s1 z8r M1 H1 vs L1 E1 r _=>by
  let(j,e,(h1,h2),q1):=z8r;subst e;let(v,rfl,e):=dZ r;have e:v=.int j:=e;subst e;exact#[j,U,h1,by cbv,k _ s1 q1 M1 H1 _ L1 E1 Ee (by simp[dh,FS];cbv)]]]
end
end
section
variable{X:Cx}{c:Ent}
def Vp:D->Bool
 | .lst _=>true
 | _=>false
def BY:D->Bool
 | .i7 _ _=>true
 | .oV _ _=>true
 | _=>false
theorem uT{K:Frag}{H:Hp}{M:AC->Prop}{d:D}{o:HO}(h:Vp d=true)(r:cy K H M d o):∃ xs,o=.lst xs:=by
 cases d<;>first | (cases h;done) | (cases o<;>first | exact#[_,U] | exact r.elim)
def Xy(i:Nat)(C:D->!D->(D->D->Prop)->Prop)(ta:eQ):aU:=λs Q=>∃ k d0,s.sl[i]?=some (.own k)/\s.os[k]?=some (some d0)/\Vp d0=true/\ta s λds s1=>∃ d1,s1.os[k]?=some (some d1)/\C d1 ds λdr d2=>Q dr (s1.put k d2)
def FW(X:Cx)(r:V->!V->Hp->VK->Prop)(C:D->!D->(D->D->Prop)->Prop):Prop:=∀ (M:AC->Prop) (H:Hp) (a:AC) (o:HO) (d1:D) (ds:!D) (vs:!V) (k:D->D->Prop) (Q:VK),H a=some o->cy X.K H M d1 o->aE X.K H M ds vs->¬ M a->C d1 ds k ->
 (∀ dr d2,k dr d2->∀ o' v,cy X.K H M d2 o'->Rep X.K H M dr v->Q v (upd H a o'))->r (.ref a) vs H Q
theorem OO{i n:Nat}{r:V->!V->Hp->VK->Prop}{C:D->!D->(D->D->Prop)->Prop}{ta:eQ}(ok:FW X r C){σ:St}{H:Hp}{Q:VK}:tE X.K c (Xy i C ta) σ H Q->Ze X.K "list" r (b8 i) (tA X.K c n ta) σ H Q:=λz9q=>by
 let(M,s,as,R,L,(k,d0,h1,h2,h3,q),kk):=z9q;let(a,o,g1,g2,g3,g4):=L.slot h1 h2;let(xs,rfl):=uT h3 g4;show#[.ref a,g2,.inl #[U,xs,.of g3],M,s,as,_,L,q,λds s1 z0q M1 H1 vs L1 E1 r1 hl=>?_];let(d1,e1,q1):=z0q;let((o1,f1,f2),nm,ng,h0):=L1.obj k d1 a e1 g1;show ok M1 H1 a o1 d1 ds vs _ Q f1 f2 r1 nm q1 λdr d2 hk o' v ro rv=>?_;have E2:Ext c as M1 s1 H1 M1 (s1.put k d2) (upd H1 a o'):=Ext.jw e1 g1;exact kk dr _ hk M1 _ v (L1.jw e1 g1 ro) (E1.trans L1.base E2) (E2.rep L1 rv)
def IL:eQ:=λs Q=>Q [] s
section
variable{o e:Ch}{es:!Ch}{i:Nat}{t:eQ}{name:Str}{apos cH:Pos}{id:String}{r:V->!V->Hp->VK->Prop}{C:D->!D->(D->D->Prop)->Prop}
theorem zE(slot:Slot "list" name id)(BQ:typeOf (.builtin id)=pure (.type "method_descriptor"))(hm:Nw X id r)(ok:FW X r C)(ho:PE X o (b8 i))(ha:DA X c (e::es) t)(gA:(attributeBase o name X.env (eval o X.env)=eval o X.env)⁻¹)(qt:(((IR cH (Gc (e::es) X.env)).all (λx=>(not x.1))&&(P3 cH (Re [] X.env)).all (λx=>x.1.isSome)
   && decide ((e::es).length+([]:!Ps).length+(if ([]:!Ps).isEmpty then 0 else 1) < 30))=true)⁻¹)(gz:((apos.endLine == cH.line)=true)⁻¹)(hs:(acf X.env e es)⁻¹)(gw:((IR cH (Gc es X.env)).any (·.1)=false)⁻¹) :
  DE X c (.Call (.Attribute o name apos) (e::es) [] cH) (Xy i C t):=#[(Bb abk slot BQ hm ho ha.pa gA qt gz hs gw).imp λ_ _ _=>OO ok]
end
def TH:D->!D->(D->D->Prop)->Prop:=λd ds k=>∃ xs x,d=.lst xs/\ds=[x]/\xs.length < FS/\k .bx (.lst (xs++[x]))
theorem Bj:FW X A8 TH:=λM H a o d ds vs k Q ha ro rv nm z9r kk=>by
 let(xs,x,e1,e2,hl,hk):=z9r;subst e1;subst e2;cases o with
 | lst ys =>
  have ro:aE X.K H M xs ys:=ro;let(v,rfl,rx):=dZ rv;exact#[a,ys,v,U,U,ha,by rw[ro.length];exact hl,kk _ _ hk _ _ (show cy X.K H M (.lst _) (.lst _) from ro.append (.one rx)) U]
 | _=>exact ro.elim
def Ye:D->!D->(D->D->Prop)->Prop:=λd ds k=>∃ xs ys,d=.lst xs/\ds=[.lst ys]/\xs.length+ys.length<=FS/\k .bx (.lst (xs++ys))
theorem xi:FW X AE Ye:=λM H a o d ds vs k Q ha ro rv nm z0r kk=>by
 let(xs,ys,e1,e2,hl,hk):=z0r;subst e1;subst e2;cases o with
 | lst us =>
  have ro:aE X.K H M xs us:=ro;let(v,rfl,b,zs,rfl,(m,hb),rz):=dZ rv;exact#[a,b,us,zs,U,U,ha,hb,by rw[ro.length,rz.length];exact hl,kk _ _ hk _ _ (show cy X.K H M (.lst _) (.lst _) from ro.append rz) U]
 | _=>exact ro.elim
theorem aE.snoc{K:Frag}{H:Hp}{M:AC->Prop}:∀ {ds:!D} {x:D} {vs:!V},aE K H M (ds++[x]) vs->∃ us v,vs=us++[v]/\aE K H M ds us/\Rep K H M x v
 | [],x,vs,r=>by
  let(v,rfl,h):=dZ r;exact#[[],v,U,U,h]
 | d::ds,x,vs,r=>by
  let(y,yr,rfl,r1,r2):=r;let(us,v,rfl,h1,h2):=aE.snoc (ds:=ds) r2;exact#[y::us,v,U,#[y,us,U,r1,h1],h2]
def Yl:D->!D->(D->D->Prop)->Prop:=λd ds k=>∃ xs x,d=.lst (xs++[x])/\ds=[]/\k x (.lst xs)
theorem Cm:FW X Nd Yl:=λM H a o d ds vs k Q ha ro rv nm z1r kk=>by
 let(xs,x,e1,e2,hk):=z1r;subst e1;subst e2;cases o with
 | lst us =>
  let(ws,v,rfl,r1,r2):=aE.snoc (show aE X.K H M (xs++[x]) us from ro);have rv:vs=[]:=rv;subst rv;show#[a,ws++[v],v,U,U,ha,by simp,?_];rw[List.dropLast_concat];exact kk _ _ hk _ _ (show cy X.K H M (.lst _) (.lst _) from r1) r2
 | _=>exact ro.elim
def KA:D->!D->(D->D->Prop)->Prop:=λd ds k=>∃ xs i j x,d=.lst xs/\ds=[.int i]/\(-(2 ^ 63)<=i/\i < 2 ^ 63)/\seqIndex? i xs.length=some j/\xs[j]?=some x/\k x (.lst (xs.eraseIdx j))
theorem vb:FW X EJ KA:=λM H a o d ds vs k Q ha ro rv nm z2q kk=>by
 let(xs,i,j,x,e1,e2,(h1,h2),h3,h4,hk):=z2q;subst e1;subst e2;cases o with
 | lst us =>
  have ro:aE X.K H M xs us:=ro;let(v,rfl,e):=dZ rv;have e:v=.int i:=e;subst e;let(w,g1,g2):=ro.get h4;exact#[a,us,i,j,w,U,U,ha,h1,h2,by rw[ro.length];exact h3,g1,kk _ _ hk _ _ (show cy X.K H M (.lst _) (.lst _) from ro.eraseIdx j) g2]
 | _=>exact ro.elim
def LR(i:Nat)(te ti:aU):iF:=λR s=>te s λd s1=>∃ k,s1.sl[i]?=some (.own k)/\ti s1 λdi s2=>∃ xs z j,s2.os[k]?=some (some (.lst xs))/\di=.int z/\yd xs.length z=some j/\R.nx (s2.put k (.lst (xs.set j d)))
theorem HF{i:Nat}{st:Ev}{te ti:aU}(h:PS X st (j5 (tE X.K c te) (MM (b8 i) (tE X.K c ti) Fy))):pE X c st (LR i te ti):=#[h.imp λE σ H zz=>cQ zz λM s as R L q kk =>
 #[M,s,as,_,L,q,λd s1 z3q M1 H1 v L1 E1 rv=>by
  let(k,h1,q1):=z3q;let(a,g1,g2):=L1.own i k h1;show#[.ref a,g2,M1,s1,as,_,L1,q1,λdi s2 z4q M2 H2 w Lb E2 rw=>?_];let(xs,z,j,h2,e,hj,q2):=z4q;subst e;let((o,f1,f2),nm,ng,h0):=Lb.obj k _ a h2 g1;cases o with
  | lst us =>
   have f2:aE X.K H2 M2 xs us:=f2;have rw:w=.int z:=rw;subst rw;have rv2:=E2.rep L1 rv;have hG:d9 M H M2 (upd H2 a (.lst (us.set j v))):=(E1.grow L).trans ((E2.grow L1).trans ((Ext.jw (c:=c) (M:=M2) (d:=.lst (xs.set j d)) h2 g1).grow Lb));exact#[a,us,z,j,U,U,f1,by rw[f2.length];exact hj,kk.nx _ as M2 σ _ q2 (Lb.jw h2 g1 (show cy X.K H2 M2 (.lst _) (.lst _) from f2.set rv2 j)) hG]
  | _=>exact f2.elim]]
theorem wB{α β:Type}{l:!α}{m:!β}(h:l.length=m.length):l.isEmpty=m.isEmpty:=by
 cases l<;>cases m<;>first | rfl | simp at h
def fO(k:Nat)(d:D):Sl->Sl
 | .own j=>if j=k then .dat d else .own j
 | x=>x
def DS.freeze(s:DS)(k:Nat)(d:D):DS:=#[s.sl.map (fO k d),s.os.set k none]
def S7(i:Nat):aU:=λs Q=>∃ k d,s.sl[i]?=some (.own k)/\s.os[k]?=some (some d)/\Q d (s.freeze k d)
theorem WK{i:Nat}{e:Ch}(h:PE X e (b8 i)):DE X c e (S7 i):=#[h.imp λσ H Q z6q=>by
 let(M,s,as,R,L,(k,d,h1,h2,q),kk):=z6q;let(a,o,g1,g2,g3,g4):=L.slot h1 h2;let(_,nm,ng,h0):=L.obj k d a h2 g1;show#[_,g2,?_];have mk:∀ b u,M b->H b=some u->H b=some u:=λ_ _ _ e=>e;have ra:Rep X.K H (λb=>M b\/b=a) d (.ref a):=(g4.mono (λ_ m=>.inl m) mk).rep g3 (.inr U);have qZ:∀ {l:Nat} {e:D},(s.freeze k d).os[l]?=some (some e)->l≠k/\s.os[l]?=some (some e):=λ{l e} h=>by
  rcases bw h with ⟨rfl,hl,q⟩ | ⟨ne,q⟩
  .cases q
  .exact#[λz=>ne z.symm,q]
 show kk d _ q (λb=>M b\/b=a) H (.ref a) #[#[L.base.nZ,L.base.fr,λb m=>?_,λb m=>?_,λb m=>.inl (L.base.m0 b m),λb m=>?_],?_,?_,λj e he=>?_,λj l hj=>?_,λl e b e1 e2=>?_,λl m e f b e1 e2 f1 f2=>?_,L.lt] #[λ_ m=>.inl m,λb m=>?_,λ_ _ e _ _=>e,λb z7q=>by let(l,e,e1,e2):=z7q;exact#[l,e,(qZ e1).2,e2]] ra
 .rcases m with m | rfl
  .exact L.base.md b m
  .exact#[o,g3]
 .rcases m with m | rfl
  .exact L.base.mo b m
  .exact ng
 .rcases m with m | rfl
  .exact L.base.mn b m
  .exact .inr (.inl h0)
 .show (s.sl.map _).length=_;rw[aaa];exact L.len
 .show as.length=(s.os.set k none).length;rw[aaL];exact L.dA
 .have he:(s.sl.map (fO k d))[j]?=some (.dat e):=he;rw[aaG] at he;let(x,hx,hy):=aaI.mp he;cases x with
  | no=>cases hy
  | dat y =>
   cases hy;let(v,w1,w2):=L.dat j e hx;exact#[v,w1,Rep.mono (λ_ m=>.inl m) mk e v w2]
  | own l =>
   replace hy:(if l=k then Sl.dat d else Sl.own l)=.dat e:=hy
   by_cases z:l=k
   .rw[if_pos z] at hy;cases hy;subst z;let(b,w1,w2):=L.own j l hx;rw[g1] at w1;cases w1;exact#[_,w2,ra]
   .rw[if_neg z] at hy;cases hy
 .have hj:(s.sl.map (fO k d))[j]?=some (.own l):=hj;rw[aaG] at hj;let(x,hx,hy):=aaI.mp hj;cases x with
  | no=>cases hy
  | dat y=>cases hy
  | own l' =>
   replace hy:(if l'=k then Sl.dat d else Sl.own l')=.own l:=hy
   by_cases z:l'=k
   .rw[if_pos z] at hy;cases hy
   .rw[if_neg z] at hy;cases hy;exact L.own j l hx
 .let(ne,e1'):=qZ e1;let((u,w1,w2),w3,w4):=L.obj l e b e1' e2;show#[#[u,w1,w2.mono (λ_ m=>.inl m) mk],λm=>?_,w4];rcases m with m | rfl
  .exact w3 m
  .exact ne (L.inj l k e d b e1' h2 e2 g1)
 .exact L.inj l m e f b (qZ e1).2 (qZ e2).2 f1 f2
 .rcases m with m | rfl
  .exact .inl m
  .exact .inr (.inr #[k,d,h2,g1])]
def Rz(i:Nat):aU:=λs Q=>∃ k xs,s.sl[i]?=some (.own k)/\s.os[k]?=some (some (.lst xs))/\Q (.int xs.length) s
theorem MC{i:Nat}{e:Ch}(h:PE X e (Ag (λxs H Q=>∃ p ys,xs=[.ref p]/\(dN X.K H p ys\/iu X.K H p ys)/\Q (.int ys.length) H) (qA (b8 i) yY))):DE X c e (Rz i):=#[h.imp λσ H Q z8q=>by
 let(M,s,as,R,L,(k,xs,h1,h2,q),kk):=z8q;let(a,o,g1,g2,g3,g4):=L.slot h1 h2;cases o with
 | lst us =>
  have g4:aE X.K H M xs us:=g4;show#[_,g2,a,us,U,.inl (.of g3),?_];rw[g4.length];exact kk _ s q M H _ L .refl U
 | _=>exact g4.elim]
def XR(i:Nat)(ti:aU):aU:=λs Q=>∃ k,s.sl[i]?=some (.own k)/\ti s λdi s1=>∃ xs z d,s1.os[k]?=some (some (.lst xs))/\di=.int z/\iD xs z=some d/\Q d s1
theorem TM{i:Nat}{e:Ch}{ti:aU}(h:PE X e (j6 (Le X.K) (b8 i) (tE X.K c ti))):DE X c e (XR i ti):=#[h.imp λσ H Q z9q=>by
 let(M,s,as,R,L,(k,h1,q),kk):=z9q;let(a,g1,g2):=L.own i k h1;show#[_,g2,M,s,as,_,L,q,λdi s1 z0q M1 H1 v L1 E1 rv=>?_];let(xs,z,d,e1,e2,e3,q1):=z0q;subst e2;have rv:v=.int z:=rv;subst rv;let((o,f1,f2),nm,ng,h0):=L1.obj k _ a e1 g1;cases o with
 | lst us =>
  have f2:aE X.K H1 M1 xs us:=f2;let(w,w1,w2):=f2.at e3;exact#[a,us,z,w,U,U,.of f1,w1,kk _ s1 q1 M1 H1 w L1 E1 w2]
 | _=>exact f2.elim]
def Bp:D->Option Key
 | .int i=>some (.inl i)
 | .str x=>some (.inr x)
 | _=>none
def tY:!D->Option (!Key)
 | []=>some []
 | d::r=>match Bp d,tY r with
  | some k,some ks=>some (k::ks)
  | _,_=>none
theorem mE{K:Frag}{H:Hp}{M:AC->Prop}{d:D}{k:Key}{v:V}(h:Bp d=some k)(r:Rep K H M d v):v=kV k:=by
 cases d<;>first | (cases h;exact r) | cases h
theorem nJ{K:Frag}{H:Hp}{M:AC->Prop}:∀ {ds:!D} {ks:!Key} {vs:!V},tY ds=some ks->aE K H M ds vs->vs=ks.map kV
 | [],ks,vs,h,r=>by
  cases h;exact r
 | d::ds,ks,vs,h,r=>by
  let(x,xr,rfl,r1,r2):=r;unfold tY at h;cases e1:Bp d with
  | none=>rw[e1] at h;cases h
  | some k =>
   cases e2:tY ds with
   | none=>rw[e1,e2] at h;cases h
   | some l =>
    rw[e1,e2] at h;cases h;rw[mE e1 r1,nJ e2 r2,aao]
section
variable{κ:Type}[DecidableEq κ]
def bA:!κ->!D->κ->Option D
 | k::ks,d::ds,q=>if k=q then some d else bA ks ds q
 | _,_,_=>none
def rS(ks:!κ)(q:κ):Bool:=ks.any λk=>decide (k=q)
def o9:!κ->!D->κ->D->!D
 | k::ks,d::ds,q,x=>(if k=q then x else d)::o9 ks ds q x
 | _,_,_,_=>[]
def dj(ks:!κ)(q:κ):!κ:=if rS ks q=true then ks else ks++[q]
def dB(ks:!κ)(vs:!D)(q:κ)(x:D):!D:=if rS ks q=true then o9 ks vs q x else vs++[x]
variable{K:Frag}{H:Hp}{M:AC->Prop}
theorem pP{q:κ}:∀ {kvs:!(κ×V)} {ks:!κ} {vs:!D},kvs.map (·.1)=ks->aE K H M vs (kvs.map (·.2))->(gG kvs q=none/\bA ks vs q=none)\/∃ v d,gG kvs q=some v/\bA ks vs q=some d/\Rep K H M d v
 | [],ks,vs,h,r=>by
  subst h;exact .inl #[U,by cases vs<;>rfl]
 | p::kvs,ks,vs,h,r=>by
  subst h;cases vs with
  | nil=>exact absurd (show (p::kvs).map (·.2)=[] from r) (by simp)
  | cons d ds =>
   let(x,xr,e,r1,r2):=r;rw[aao] at e;cases e;by_cases z:p.1=q
   .refine .inr #[p.2,d,gq z,?_,r1];change (if p.1=q then some d else _)=_;rw[if_pos z]
   .rw[ef z];have e2:bA (((p::kvs).map (·.1))) (d::ds) q=bA (kvs.map (·.1)) ds q:=by
     change (if p.1=q then some d else _)=_;rw[if_neg z]
    rw[e2];exact pP U r2
theorem has_any{q:κ}:∀ {kvs:!(κ×V)},(kvs.any λkv=>decide (kv.1=q))=rS (kvs.map (·.1)) q
 | []=>rfl
 | p::kvs=>by
  unfold rS;rw[abu,aao,abu,has_any (kvs:=kvs)]
  rfl
theorem CB{q:κ}{x:D}{y:V}(ry:Rep K H M x y){kvs:!(κ×V)}{vs:!D}(r:aE K H M vs (kvs.map (·.2))):(putK kvs q y).map (·.1)=dj (kvs.map (·.1)) q/\aE K H M (dB (kvs.map (·.1)) vs q x) ((putK kvs q y).map (·.2)):=by
 unfold putK dj dB;rw[has_any];by_cases h:rS (kvs.map (·.1)) q=true
 .rw[if_pos h,if_pos h,if_pos h];clear h;show#[?_,?_]
  .rw[aan];show abD λp _=>?_;change (if p.1=q then (p.1,y) else p).1=p.1;split<;>rfl
  .induction kvs generalizing vs with
   | nil =>
    cases vs with
    | nil=>rfl
    | cons d ds =>
     let(_,_,e,_):=r;cases e
   | cons p kvs ih =>
    cases vs with
    | nil=>exact absurd (show (p::kvs).map (·.2)=[] from r) (by simp)
    | cons d ds =>
     let(v,vr,e,r1,r2):=r;rw[aao] at e;cases e;show#[_,_,U,?_,ih r2];change Rep K H M (if p.1=q then x else d) (if p.1=q then (p.1,y) else p).2;by_cases z:p.1=q
     .rw[if_pos z,if_pos z];exact ry
     .rw[if_neg z,if_neg z];exact r1
 .rw[if_neg h,if_neg h,if_neg h];rw[aai,aai];exact#[U,r.append (.one ry)]
end
def BF(d dy:D)(k:Option D->Prop):Prop:=(∃ ks vs q,d=.i7 ks vs/\Bp dy=some q/\k (bA ks vs q))\/∃ ks vs ts q,d=.oV ks vs/\dy=.tup ts/\tY ts=some q/\k (bA ks vs q)
def KQ(d dy x:D)(k:D->Prop):Prop:=(∃ ks vs q,d=.i7 ks vs/\Bp dy=some q/\ks.length < FS/\k (.i7 (dj ks q) (dB ks vs q x)))\/∃ ks vs ts q,d=.oV ks vs/\dy=.tup ts/\tY ts=some q/\ks.length < FS/\k (.oV (dj ks q) (dB ks vs q x))
theorem vR{H:Hp}{M:AC->Prop}{d dy:D}{k:Option D->Prop}{a:AC}{o:HO}{y:V}(h:BF d dy k)(ha:H a=some o)(ro:cy X.K H M d o)(ry:Rep X.K H M dy y):∃ ov od,ij H a y ov/\k od/\((ov=none/\od=none)\/∃ v e,ov=some v/\od=some e/\Rep X.K H M e v):=by
 rcases h with ⟨ks,vs,q,rfl,hq,hk⟩ | ⟨ks,vs,ts,q,rfl,rfl,hq,hk⟩
 .cases o with
  | dK kvs =>
   let(e,r):=(show kvs.map (·.1)=ks/\aE X.K H M vs (kvs.map (·.2)) from ro);have ey:=mE hq ry;subst ey;show#[_,_,ij.k ha,hk,?_];rcases pP (q:=q) e r with ⟨h1,h2⟩ | ⟨v,x,h1,h2,h3⟩
   .exact .inl #[h1,h2]
   .exact .inr #[v,x,h1,h2,h3]
  | _=>exact ro.elim
 .cases o with
  | dT kvs =>
   let(e,r):=(show kvs.map (·.1)=ks/\aE X.K H M vs (kvs.map (·.2)) from ro);let(b,xs,rfl,(m,hb),rx):=ry;have ex:=nJ hq rx;subst ex;show#[_,_,ij.t ha hb,hk,?_];rcases pP (q:=q) e r with ⟨h1,h2⟩ | ⟨v,x,h1,h2,h3⟩
   .exact .inl #[h1,h2]
   .exact .inr #[v,x,h1,h2,h3]
  | _=>exact ro.elim
theorem Ae{H:Hp}{M:AC->Prop}{d dy x:D}{k:D->Prop}{a:AC}{o:HO}{y z:V}(h:KQ d dy x k)(ha:H a=some o)(ro:cy X.K H M d o)(ry:Rep X.K H M dy y)(rz:Rep X.K H M x z):∃ d2 o2,nY H a y z (upd H a o2)/\k d2/\cy X.K H M d2 o2:=by
 rcases h with ⟨ks,vs,q,rfl,hq,hl,hk⟩ | ⟨ks,vs,ts,q,rfl,rfl,hq,hl,hk⟩
 .cases o with
  | dK kvs =>
   let(e,r):=(show kvs.map (·.1)=ks/\aE X.K H M vs (kvs.map (·.2)) from ro);subst e;have ey:=mE hq ry;subst ey;exact#[_,_,nY.k ha (by simpa using hl),hk,(show cy X.K H M (.i7 _ _) (.dK _) from CB rz r)]
  | _=>exact ro.elim
 .cases o with
  | dT kvs =>
   let(e,r):=(show kvs.map (·.1)=ks/\aE X.K H M vs (kvs.map (·.2)) from ro);subst e;let(b,xs,rfl,(m,hb),rx):=ry;have ex:=nJ hq rx;subst ex;exact#[_,_,nY.t ha hb (by simpa using hl),hk,(show cy X.K H M (.oV _ _) (.dT _) from CB rz r)]
  | _=>exact ro.elim
def Ke(i:Nat)(ty tv:aU):iF:=λR s=>tv s λd s1=>∃ k,s1.sl[i]?=some (.own k)/\ty s1 λdy s2=>∃ d1,s2.os[k]?=some (some d1)/\KQ d1 dy d λd2=>R.nx (s2.put k d2)
theorem kq{i:Nat}{st:Ev}{ty tv:aU}(h:PS X st (sI (b8 i) (tE X.K c ty) (tE X.K c tv))):pE X c st (Ke i ty tv):=#[h.imp λE σ H zz=>cQ zz λM s as R L q kk =>
 #[M,s,as,_,L,q,λd s1 z2r M1 H1 v L1 E1 rv=>by
  let(k,h1,q1):=z2r;let(a,g1,g2):=L1.own i k h1;show#[.ref a,g2,M1,s1,as,_,L1,q1,λdy s2 #[d1,h2,q2] M2 H2 w Lb E2 rw=>?_];let((o,f1,f2),nm,ng,h0):=Lb.obj k _ a h2 g1;let(d2,o2,p1,p2,p3):=Ae q2 f1 f2 rw (E2.rep L1 rv);exact#[a,_,U,p1,kk.nx _ as M2 σ _ p2 (Lb.jw h2 g1 p3) ((E1.grow L).trans ((E2.grow L1).trans ((Ext.jw (c:=c) (M:=M2) (d:=d2) h2 g1).grow Lb)))]]]
theorem Rep.dc{K:Frag}{H:Hp}{M:AC->Prop}{d:D}{v:V}(h:BY d=true)(r:Rep K H M d v):∃ a o,v=.ref a/\H a=some o/\cy K H M d o:=by
 cases d<;>first | (cases h;done) | (let(a,kvs,e,(m,ha),h1,h2):=r;exact#[a,_,e,ha,h1,h2])
def JJ(td ty:aU):aU:=λs Q=>td s λd s1=>ty s1 λdy s2=>BY d=true/\BF d dy λod=>∃ x,od=some x/\Q x s2
theorem eO{e:Ch}{td ty:aU}(h:PE X e (k9 (tE X.K c td) (tE X.K c ty))):DE X c e (JJ td ty):=#[h.imp λσ H Q zz=>cQ zz λM s as R L q kk =>
 #[M,s,as,_,L,q,λd s1 q1 M1 H1 v L1 E1 rv=>#[M1,s1,as,_,L1,q1,λdy s2 z3r M2 H2 y Lb E2 ry=>by
  let(hd,q2):=z3r;let(a,o,rfl,f1,f2):=(E2.rep L1 rv).dc hd;let(ov,od,w1,(x,e2,w2),w3):=vR q2 f1 f2 ry;subst e2;rcases w3 with ⟨rfl,z⟩ | ⟨v,x,rfl,z,rx⟩
  .cases z
  .cases z;exact#[a,v,U,w1,kk _ s2 w2 M2 H2 v Lb (E1.trans L1.base E2) rx]]]]
def xR(neg:Bool)(ty td:aU):aU:=λs Q=>ty s λdy s1=>td s1 λd s2=>BY d=true/\BF d dy λod=>Q (.bl (if neg then (not od.isSome) else od.isSome)) s2
def Ka:aU:=λs Q=>Q (.i7 [] []) s
def KY:aU:=λs Q=>Q (.oV [] []) s
theorem iT{pos:Pos}:DN X c (.Dict [] [] pos) Ka:=#[DY.imp λσ H Q zz=>cQ zz λM s as R L q k=>λp hp=>j7 (d:=.i7 [] []) L L .refl hp (show cy X.K H M (.i7 [] []) (.dK []) from #[U,U]) (k _ s q)]
theorem Gw{pos:Pos}:DN X c (.Dict [] [] pos) KY:=#[Cz.imp λσ H Q zz=>cQ zz λM s as R L q k=>λp hp=>j7 (d:=.oV [] []) L L .refl hp (show cy X.K H M (.oV [] []) (.dT []) from #[U,U]) (k _ s q)]
end
end DL
namespace IY
open PySem Sem
open PySem.AutoSeq1 (wpAny_loadPart')
section
variable{prog:Fa}{w:FB}{A:Fr}{E:acb}{s:Cl}
theorem ni{it t:AC}{i:Nat}{items:Array AT}{x:AT}{Q:acb}(hit:s.heap.IsTupleIter it t i)(ht:s.heap.IsTuple t items)(hx:items[i]?=some x)(hQ:∀ h',h'.IsTupleIter it t (i+1)->Db.SameBut it s.heap h'->Q x { s with heap:=h' }) :
  EQ (model prog w) A (GT.SmallTypes.nextOf (.ref it)) Q E s:=by
 let(o,ho,hc,hd):=id hit;let(ol,hol,_,nl,hdl):=ht;unfold GT.SmallTypes.nextOf;show Da (wpAny_callSpecial?_slot (name:=Str.ofString "__next__") hit.typeIs F.slot_tuple_iterator_next
  (SZ F.slot_tuple_iterator_next hit.typeIs F.entry_tuple_iterator_next ?_ (F.args_tuple_iterator_next_1 _)))
 change EQ _ _ (field (.ref it) 0 >>= _) _ _ s;show Da (NE ho hd (x:=.ref t) U ?_);change EQ _ _ (if (AT.ref t == AT.none)=true then _ else _) _ _ s;rw[if_neg (show ¬ ((AT.ref t == AT.none)=true) from aau)];change EQ _ _ (field (.ref it) 1 >>= _) _ _ s;show Da (NE ho hd (x:=.int i 0) U ?_);change EQ _ _ (seqItems? (.ref t) >>= _) _ _ s;show Da (Rs hol hdl ?_);simp only[Int.toNat_natCast,hx];show Da (wpAny_setField ho hd (by simp) (GE #[x,U,GE (hQ _ ?_ (Db.SameBut.update ..))]));exact#[_,abG _ ho (Obj.isFreed_of_fields (Obj.data_mapFields hd _)),(Obj.cls_mapFields ..).trans hc,by
  rw[Obj.data_mapFields hd];simp[SC]]
theorem eV{it t:AC}{i:Nat}{items:Array AT}{Q:acb}(hh:A.handled=none)(hit:s.heap.IsTupleIter it t i)(ht:s.heap.IsTuple t items)(hx:items[i]?=none)(hE:∀ h' e,Db.ExtBut it s.heap h'->(∃ o,h'.get? e=some o/\o.cls=.type "StopIteration")->E (.ref e) { s with heap:=h' }) :
  EQ (model prog w) A (GT.SmallTypes.nextOf (.ref it)) Q E s:=by
 let(o,ho,hc,hd):=id hit;let(ol,hol,_,nl,hdl):=ht;unfold GT.SmallTypes.nextOf;show Da (wpAny_callSpecial?_slot (name:=Str.ofString "__next__") hit.typeIs F.slot_tuple_iterator_next
  (SZ F.slot_tuple_iterator_next hit.typeIs F.entry_tuple_iterator_next ?_ (F.args_tuple_iterator_next_1 _)))
 change EQ _ _ (field (.ref it) 0 >>= _) _ _ s;show Da (NE ho hd (x:=.ref t) U ?_);change EQ _ _ (if (AT.ref t == AT.none)=true then _ else _) _ _ s;rw[if_neg (show ¬ ((AT.ref t == AT.none)=true) from aau)];change EQ _ _ (field (.ref it) 1 >>= _) _ _ s;show Da (NE ho hd (x:=.int i 0) U ?_);change EQ _ _ (seqItems? (.ref t) >>= _) _ _ s;show Da (Rs hol hdl ?_);simp only[Int.toNat_natCast,hx];show Da (wpAny_rule (Da (wpAny_setField ho hd (by simp) ?_)));change EQ _ _ (newExc (.type "StopIteration") [] >>= _) _ _ _;show Da ?_;simp only[newExc,newTuple];show Da (ST ?_ (by size_fits));show Da (m:=firstArgMember _ _) (wpAny_of_eq (a:=AT.none) (by first | rfl | (simp only[firstArgMember];rfl)) ?_);show ST ?_ (by size_fits);simp only[raiseNew];show Da (wpAny_handled ?_)
 first | rw[show A.in1.handled=none from hh] | rw[hh]
 show Da (GE (wpAny_throw ?_));exact hE _ _ (((Db.SameBut.update ..).extBut.push _).push _) #[_,aat _ U,U]
theorem og{e it l:AC}{i:Nat}{items:Array AT}{old:AT}{Q:Option AT->Cl->Prop}(hh:A.handled=none)(he:IsEnum s.heap e it i old)(hit:s.heap.IsTupleIter it l i)(hl:s.heap.IsTuple l items)(hx:items[i]?=none)(hQ:∀ h',Db.ExtBut it s.heap h'->Q none { s with heap:=h' }):EQ (model prog w) A (pyNext (.ref e)) Q E s:=by
 have hT:s.TypeIs (.ref e) "enumerate":=#[_,he,U];unfold pyNext;show Da (wpAny_attempt (wpAny_callSpecial?_slot (name:=Str.ofString "__next__") hT F.slot_enumerate_next
  (SZ F.slot_enumerate_next hT F.entry_enumerate_next ?_ (F.args_enumerate_next_1 _))))
 change EQ _ _ (field (.ref e) 2 >>= _) _ _ _;show Da (NE he U (x:=.ref it) U ?_);show Da (eV hh hit hl hx λh' x he' hx'=>?_);let(o,ho,hc):=hx';show Da (wpAny_isInstance (T:="StopIteration") (b:=true) #[o,ho,hc] isSubtype_stop ?_);exact GE (hQ _ he')
theorem D5(hh:A.handled=none)(it l:AC)(pC:l≠it)(items:Array AT) :
  Draws prog w A it [it,l] items.size (λi v=>items[i]?=some v) (λi h=>h.IsTupleIter it l i/\h.IsTuple l items) where
 live:=λ_ _ st=>let #[o,ho,_]:=st.1;#[o,ho]
 frame:=λ_ _ _ st hk=>#[st.1.at λo e=>hk it (by simp) o e,let #[o,e,r]:=st.2;#[o,hk l (by simp) o e,r]]
 item:=λi s Q E hi st hQ=>by
  show ni st.1 st.2 (x:=items[i]) (by simp[hi]) λh' hit' F1=>?_;exact hQ _ h' s.toks (by simp[hi]) #[hit',let #[o,e,r]:=st.2;#[o,F1.extBut l o pC e,r]] F1
 done:=λs Q E st hE=>eV hh st.1 st.2 (by simp) hE
theorem j2(l:AC)(items:Array AT)(n:Nat)(X0:Option AC)(sl:Array (Option AT)) :
  Meets (GT.«enumerate.__new__» #[[.type "enumerate",.ref l],[]]) (λ_ R s=>s.heap.get? l=some { cls:=.type "tuple",dict:=X0,data:=.seq items n,slots:=sl } /\
   R (.ok (.ret (.ref (s.heap.push { cls:=.type "tuple_iterator",data:=.fields #v[.ref l,.int 0 0] }).objs.size)))
    { s with heap:=(s.heap.push { cls:=.type "tuple_iterator",data:=.fields #v[.ref l,.int 0 0] }).push { cls:=.type "enumerate",data:=.fields #v[.none,.bool false,.ref ↑s,SC 0,.none,.none] } }) :=
 .of_wp λprog w A R s h=>by
  let(hp,g,d,tk,os):=s;let(hl,h):=h;have hsub:=sub_enumerate;have hL:Db.IsTuple (Cl.heap #[hp,g,d,tk,os]) l items:=#[_,hl,U,n,U]
  wp_walk using wpAny_loadPart' hl
  show wpAny_stack_any λst=>GE ?_;split
  .rename_i c _ _ _ _ _
   cases (c == AT.type "enumerate")
   .wp_walk using wpAny_loadPart' hl,wpAny_pyIter_tuple hL
    exact#[_,U,h]
   .wp_walk using wpAny_loadPart' hl,wpAny_pyIter_tuple hL
    exact#[_,U,h]
  .wp_walk using wpAny_loadPart' hl,wpAny_pyIter_tuple hL
   exact#[_,U,h]
theorem j4{l:AC}{items:Array AT}{Q:acb}(hL:s.heap.IsTuple l items)(h:∀ h',IsEnum h' (↑s+1) ↑s 0 .none->h'.IsTupleIter ↑s l 0->h'.objs.size=↑s+2 ->
   (∀ b o,s.heap.get? b=some o->h'.get? b=some o)->Q (.ref (↑s+1)) { s with heap:=h' }) :
  EQ (model prog w) A (call (.type "enumerate") [.ref l]) Q E s:=by
 let((c,X0,dt,sl),hl,hc,n,hd):=hL
 replace hc:c=.type "tuple":=hc
 replace hd:dt=.seq items n:=hd
 subst hc hd;show callType_new F.called_enumerate () (F.typeCall_enumerate_1 _) (F.newCall_enumerate_1 _) (λobj=>F.args_object_init_2 obj _) F.entry_enumerate_new
  (j2 l items n X0 sl) #[hl,?_]
 have hz:(s.heap.push { cls:=.type "tuple_iterator",data:=.fields #v[.ref l,.int 0 0] }).objs.size=↑s+1:=aaV ..;change _/\_;rw[hz];have he:IsEnum ((s.heap.push { cls:=.type "tuple_iterator",data:=.fields #v[.ref l,.int 0 0] }).push
   { cls:=.type "enumerate",data:=.fields #v[.none,.bool false,.ref ↑s,SC 0,.none,.none] }) (↑s+1) ↑s 0 .none:=by
  have:=aat (s.heap.push { cls:=.type "tuple_iterator",data:=.fields #v[.ref l,.int 0 0] })
   (o:={ cls:=.type "enumerate",data:=.fields #v[.none,.bool false,.ref ↑s,SC 0,.none,.none] }) U
  rw[hz] at this;exact this
 show#[#[_,he,U],h _ he #[_,aae _ (aat _ U),U,U] (by rw[aaV,hz]) λb o x=>aae _ (aae _ x)]
end
end IY
namespace L2
open PySem PySem.Spec
open PyProof.Rows hiding St
def vY(K:Frag)(tup:Bool)(H:Hp)(a:AC)(xs:!V):Prop:=if tup=true then iu K H a xs else dN K H a xs
def Vj(K:Frag)(tup:Bool)(a:AC):It :=
 #[λi H=>∃ xs x,vY K tup H a xs/\xs[i]?=some x,λi H x H'=>∃ p,H p=none/\x=.ref p/\∀ xs,vY K tup H a xs->∃ y,xs[i]?=some y/\H'=upd H p (.tup [.int i,y]),λi H=>∃ xs,vY K tup H a xs/\xs.length<=i]
section
variable{P:Fa}{w:FB}{K:Frag}
theorem pX{X:Cx}{TW:acd}{σ:St}{H:Hp}{s:Cl}{a:AC}{tup:Bool}{xs ys:!V}(I:Inv X TW σ H s)(h:vY X.K tup H a xs)(h':vY X.K tup H a ys):ys=xs:=by
 cases tup with
 | true=>exact I.uf (show iu X.K H a ys from h') h
 | false=>exact I.wM (show dN X.K H a ys from h') h
theorem Inv.Bd{X:Cx}{TW:acd}{σ:St}{H:Hp}{s:Cl}{h':Db}{t':Nat}{fp:!AC}{a:AC}{o:HO}(I:Inv X TW σ H s)(k:∀ b u,b∉fp->s.heap.get? b=some u->h'.get? b=some u)(hf:∀ b∈fp,jZ X TW H b)(hp:↑s<=a)(new:cO X.prog X.w (upd H a o) h' a o):Inv X TW σ (upd H a o) { s with heap:=h',toks:=t' }:=by
 have hn:H a=none:=I.bM.fresh hp;have nit:∀ b u,H b=some u->b∉fp:=λb u e z=>by rw[(hf b z).1] at e;cases e
 have up:∀ b u,H b=some u->upd H a o b=some u:=λb u e=>by rw[aA (aI e hn)];exact e
 show I.step (g':=s.gens) (d':=s.drawn) (ch:=fp) (λb hb=>?_) (λb ob _ _ hc e _=>k b ob hc e) (λb ob _ _ hc e _=>#[ob.slots,k b ob hc e]) (λb ob _ e n=>?_)
  (λb ob hc e=>#[ob,k b ob hc e]) (λb xs e=>up b _ e) (λb ob u e=>up b _ e) (λb ps e=>#[#v[],by rw[up b _ e];simp]) (λm hm=>?_) (λb u e=>?_) I.bare
 .let(f0,f1,f2,f3,f4,f5):=hf b hb;exact#[f3,f1,f4,f5]
 .rw[aA (aaD (aay (aar e) hp))];exact n
 .let(ob,es,ep,ho,r):=hm;exact#[ob,es,ep,k _ ob (λz=>(hf _ z).2.1 U) ho,r]
 .by_cases hb:b=a
  .subst hb;rw[aD] at e;cases e;exact new
  .rw[aA hb] at e;show (I.bM b u e).ym (λq v hq w=>k q v ?_ w) (λq w=>up q _ w) λq _ w=>up q _ w;rcases hq with z | z
   .rw[z];exact nit b u e
   .exact nit q _ z
theorem Inv.mP{X:Cx}{TW:acd}{σ:St}{H:Hp}{s:Cl}{h':Db}{t':Nat}{fp:!AC}(I:Inv X TW σ H s)(k:∀ b u,b∉fp->s.heap.get? b=some u->h'.get? b=some u)(hf:∀ b∈fp,jZ X TW H b) :
  Inv X TW σ H { s with heap:=h',toks:=t' }:=by
 have nit:∀ b u,H b=some u->b∉fp:=λb u e z=>by rw[(hf b z).1] at e;cases e
 show I.step (g':=s.gens) (d':=s.drawn) (ch:=fp) (λb hb=>?_) (λb ob _ _ hc e _=>k b ob hc e) (λb ob _ _ hc e _=>#[ob.slots,k b ob hc e]) (λb ob _ e n=>n)
  (λb ob hc e=>#[ob,k b ob hc e]) (λb xs e=>e) (λb ob u e=>e) (λb ps e=>#[#v[],by rw[e];simp]) (λm hm=>?_) (λb u e=>?_) I.bare
 .let(f0,f1,f2,f3,f4,f5):=hf b hb;exact#[f3,f1,f4,f5]
 .let(ob,es,ep,ho,r):=hm;exact#[ob,es,ep,k _ ob (λz=>(hf _ z).2.1 U) ho,r]
 .refine (I.bM b u e).ym (λq v hq w=>k q v ?_ w) (λq w=>w) λq _ w=>w;rcases hq with z | z
  .rw[z];exact nit b u e
  .exact nit q _ z
def lB(tup:Bool)(h:Db)(it a:AC)(i:Nat):Prop:=if tup=true then h.IsTupleIter it a i else h.IsListIter it a i
theorem lB.at{tup:Bool}{h h':Db}{it a:AC}{i:Nat}(x:lB tup h it a i)(k:∀ o,h.get? it=some o->h'.get? it=some o):lB tup h' it a i:=by
 cases tup with
 | true=>exact Db.IsTupleIter.at (show h.IsTupleIter it a i from x) k
 | false=>exact Db.IsListIter.at (show h.IsListIter it a i from x) k
theorem lB.obj{tup:Bool}{h:Db}{it a:AC}{i:Nat}(x:lB tup h it a i):∃ o,h.get? it=some o/\∀ v,o.data≠.cell v:=by
 cases tup with
 | true =>
  let(o,e,c,d):=(show h.IsTupleIter it a i from x);exact#[o,e,λv z=>by rw[d] at z;cases z]
 | false =>
  let(o,e,c,d):=(show h.IsListIter it a i from x);exact#[o,e,λv z=>by rw[d] at z;cases z]
theorem tZ(tup:Bool){elts:!Ch}{k:Nat}{mS:Pos}(a it e:AC)(Ve:e≠it):Turn P w K (.Tuple elts k mS) (Vj K tup a) [e,it] e (λi h=>(∃ old,IsEnum h e it i old)/\lB tup h it a i) where
 mem:=by simp
 obj:=λi h st b hb=>by
  rcases aaj.mp hb with rfl | hb
  .let((old,he),_):=st;exact#[_,he,λv z=>by
    have z':Data.fields _=Data.cell v:=z;cases z']
  .rw[aag.mp hb];exact st.2.obj
 keep:=λi h h' st kk=>#[let #[old,he]:=st.1;#[old,kk e (by simp) _ he],st.2.at λo x=>kk it (by simp) o x]
 item:=by
  intro X hP hw hK hc i TW s σ H E I hf st hg;subst hP hw hK;let((old,he),hit):=st;let(f0,f1,f2,f3,f4,f5):=hf e (by simp);let(g0,g1,g2,g3,g4,g5):=hf it (by simp);let(xs,x,hq,hx):=hg;have hd:(X.A.in1).handled=none:=I.ok.hd hc;have helt:e < ↑s:=aar he;have fin:∀ (u:AT) (h':Db) (tk:Nat),RelV x u->IsEnumOut h' e it ((i:Int)+1) u ↑s->lB tup h' it a (i+1)->h'.get? ↑s=some { cls:=.type "tuple",data:=.seq #v[.int i tk,u] }->h'.objs.size=↑s+1 ->
    (∀ b o,b≠e->b≠it->s.heap.get? b=some o->h'.get? b=some o)->(∀ zs,vY X.K tup H a zs->zs=xs) ->
    ∃ v,some (AT.ref ↑s)=some v/\EQ (model X.prog X.w) X.A (letOwnedTupleGo (.Tuple elts k mS) (.ref e) v) (λ_ s2=>∃ x H',Inv X TW σ H' s2/\RelV x v/\(Vj X.K tup a).Ny i H x H'/\((∃ old,IsEnum s2.heap e it (i+1:Nat) old)/\lB tup s2.heap it a (i+1))/\∀ b∈[e,it],H' b=none) E { s with heap:=h',toks:=tk+1 }:=by
   intro u h' tk ru ho F1 hT hsz hk hinj;show#[_,U,?_];show wpAny_letOwnedTupleGo_enum (s:={ s with heap:=h',toks:=tk+1 }) ho λh2 Vs xX=>?_;have hkeep:∀ b o,b≠e->b≠it->s.heap.get? b=some o->h2.get? b=some o:=λb o h1 h2' h3=>(xX.2 b h1).trans (hk b o h1 h2' h3);have hTe:↑s≠e:=abz helt;have hfr:H ↑s=none:=I.bM.fresh (aah _);have I1:Inv X TW σ (upd H ↑s (.tup [.int i,x])) { s with heap:=h2,toks:=tk+1 } :=
    Inv.Bd I (λb o hb q=>hkeep b o (λz=>hb (by simp[z])) (λz=>hb (by simp[z])) q) hf (Nat.le_refl _)
     #[by change 2<=FS;decide,[.int i tk,u],.cons #[tk,U] (.cons ru .nil),#[_,(xX.2 _ hTe).trans hT,U,_,U,U]]
   show#[.ref ↑s,_,I1,U,#[↑s,hfr,U,λzs hz=>#[x,by rw[hinj zs hz];exact hx,U]],#[#[u,by simpa using Vs],F1.at λo y=>(xX.2 it Ve.symm).trans y],λb hb=>?_];have hb':b < ↑s:=by
    rcases aaj.mp hb with rfl | hb
    .exact helt
    .rw[aag.mp hb];let(o,y,_):=hit.obj;exact aar y
   rw[aA (aaD hb')];exact (hf b hb).1
  have hef:e∉[it,a]:=λhm=>by
   rcases aaj.mp hm with z | hm
   .exact Ve z
   .have z:e=a:=aag.mp hm;subst z;cases tup with
    | false =>
     let(_,_,p,_):=I.list (show dN X.K H e xs from hq);let(o,_,e1,c1,_):=p;rw[he] at e1;cases e1;exact absurd c1 (by change ¬ AT.type "enumerate"=AT.type "list";decide)
    | true =>
     let(_,_,p,_):=I.tuple (show iu X.K H e xs from hq);let(o,e1,c1,_):=p;rw[he] at e1;cases e1;exact absurd c1 (by change ¬ AT.type "enumerate"=AT.type "tuple";decide)
  have hai:a≠it:=λz=>by
   subst z;cases tup with
   | false =>
    let(_,_,p,_):=I.list (show dN X.K H a xs from hq);let(o,_,e1,c1,_):=p;let(o',e2,c2,_):=(show s.heap.IsListIter a a i from hit);rw[e1] at e2;cases e2;rw[c1] at c2;exact absurd c2 ()
   | true =>
    let(_,_,p,_):=I.tuple (show iu X.K H a xs from hq);let(o,e1,c1,_):=p;let(o',e2,c2,_):=(show s.heap.IsTupleIter a a i from hit);rw[e1] at e2;cases e2;rw[c1] at c2;exact absurd c2 ()
  cases tup with
  | true =>
   let(its,rv,p,hz):=I.tuple (show iu X.K H a xs from hq);let(u,hu,ru):=rv.get hx;have hi:i < its.toArray.size:=by
    have:=(aaf.mp hu).1;simpa using this
   show wpAny_pyNext_enum_itemD (IY.D5 hd it a hai its.toArray) he #[hit,p] hi Ve hef λy h' tk hy ho F1 hT hsz hk=>?_;have e:y=u:=by
    have hy':its[i]?=some y:=by simpa using hy
    rw[hu] at hy';exact (aaJ hy').symm
   subst e;exact fin y h' tk ru ho F1.1 hT hsz hk λzs hz=>pX I hq hz
  | false =>
   let(its,rv,p,hz):=I.list (show dN X.K H a xs from hq);let(u,hu,ru):=rv.get hx;have hi:i < its.toArray.size:=by
    have:=(aaf.mp hu).1;simpa using this
   show wpAny_pyNext_enum_itemD (Draws.list hd it a hai its.toArray) he #[hit,p.isList] hi Ve hef λy h' tk hy ho F1 hT hsz hk=>?_;have e:y=u:=by
    have hy':its[i]?=some y:=by simpa using hy
    rw[hu] at hy';exact (aaJ hy').symm
   subst e;exact fin y h' tk ru ho F1.1 hT hsz hk λzs hz=>pX I hq hz
 done:=by
  intro X hP hw hK hc i TW s σ H E I hf st hg;subst hP hw hK;let((old,he),hit):=st;let(xs,hq,hx):=hg;have hd:(X.A.in1).handled=none:=I.ok.hd hc;cases tup with
  | true =>
   let(its,rv,p,hz):=I.tuple (show iu X.K H a xs from hq);have hn:its.toArray[i]?=none:=by
    have:=rv.length;simp;cbv
   exact IY.og (I.ok.hd hc) he hit p hn λh' eb=>#[U,Inv.mP (t':=s.toks) I (λb o hb q=>eb b o (λz=>hb (by simp[z])) q) hf]
  | false =>
   let(its,rv,p,hz):=I.list (show dN X.K H a xs from hq);have hn:its.toArray[i]?=none:=by
    have:=rv.length;simp;cbv
   exact wpAny_pyNext_enum_end (I.ok.hd hc) he hit p.isList hn λh' eb=>#[U,Inv.mP (t':=s.toks) I (λb o hb q=>eb b o (λz=>hb (by simp[z])) q) hf]
 self:=λ_ _ _ _ _ st h=>by
  let((old,he),_):=st;exact wpAny_pyIter_enum he h
section
variable{X:Cx}
def TJ(K:Frag)(t:TA):TI:=λσ H R=>t σ H λvs H1=>∃ a tup xs,vs=[.ref a]/\vY K tup H1 a xs/\(xs.length<=FS->R (Vj K tup a) H1)
theorem GU{elts:!Ch}{k:Nat}{mS p pos:Pos}{a:Ch}{t:TA}(hg:Gl X "enumerate")(hm:X.mg "enumerate"=none)(ha:PA X [a] t)(hs:(Gc [a] X.env=[(false,eval a X.env)])⁻¹):PI X (.Tuple elts k mS) (.Call (.Name "enumerate" p) [a] [] pos) (TJ X.K t):=by
 intro TW s σ H R I h;show Call_ (j9 I hg hm (u:=.type "enumerate") (-()) (PyProof.Rows.callWith_type1 (cb (ha pos TW s σ H _ I h) λus s1 zz=>el2 zz λvs H1 I1 r1 q1=>?_) hs U));let(a,tup,xs,e,hq,q):=q1;subst e;let(u,rfl,ru):=Vals.one r1;cases ru;have fp:∀ b∈[↑s1+1,↑s1],jZ X TW H1 b:=λb hb=>by
  have hle:↑s1<=b:=by
   rcases aaj.mp hb with rfl | hb
   .cbv
   .rw[aag.mp hb];exact aah _
  exact I1.u7 hle (I1.bM.fresh hle)
 cases tup with
 | true =>
  let(its,rv,pp,hz):=I1.tuple (show iu X.K H1 a xs from hq);show IY.j4 (items:=its.toArray) pp λh' he hit hsz hk=>?_;show wpAny_pyIter_enum he ?_;exact#[↑s1+1,_,_,_,H1,U,I1.kept (t':=s1.toks) hk,tZ true a ↑s1 (↑s1+1) (Nat.succ_ne_self _),#[#[_,he],hit],fp,q hz]
 | false =>
  let(its,rv,pp,hz):=I1.list (show dN X.K H1 a xs from hq);show call_enumerate_list (items:=its.toArray) pp.isList λh' he hit hsz hk=>?_;show wpAny_pyIter_enum he ?_;exact#[↑s1+1,_,_,_,H1,U,I1.kept (t':=s1.toks) hk,tZ false a ↑s1 (↑s1+1) (Nat.succ_ne_self _),#[#[_,he],hit],fp,q hz]
end
end
end L2
namespace DL
open PySem PySem.Spec L2
open PyProof.Rows hiding St
section
variable{X:Cx}{c:Ent}
def oX(ds:!D):!D:=(List.range ds.length).zipWith (λi d=>.tup [.int (i:Nat),d]) ds
def J4(t:eQ):eQ:=λs Q=>t s λas s1=>∃ ds,(as=[.lst ds]\/as=[.tup ds])/\Q (oX ds) s1
theorem BS{ds:!D}{i:Nat}{d:D}(h:(oX ds)[i]?=some d):∃ x,ds[i]?=some x/\d=.tup [.int i,x]:=by
 unfold oX at h;rw[ab9] at h;cases e:ds[i]? with
 | none =>
  rw[e] at h;cases e2:(List.range ds.length)[i]? with
  | none=>rw[e2] at h;cases h
  | some j=>rw[e2] at h;cases h
 | some x =>
  have hl:=(aaf.mp e).1;rw[e,List.getElem?_range hl] at h;cases h;exact#[x,U,U]
theorem nR{ds:!D}:(oX ds).length=ds.length:=by simp[oX]
theorem yU{elts:!Ch}{k:Nat}{mS p pos:Pos}{a:Ch}{t:eQ}(hg:Gl X "enumerate")(hm:X.mg "enumerate"=none)(ha:DA X c [a] t)(hs:(Gc [a] X.env=[(false,eval a X.env)])⁻¹):DI X c (.Tuple elts k mS) (.Call (.Name "enumerate" p) [a] [] pos) (J4 t) :=
 #[λTW s σ H R I zz=>cQ zz λM s0 as R0 L q k=>GU hg hm ha.pa hs TW s σ H R I
  #[M,s0,as,_,L,q,λads s1 z4r M1 H1 vs L1 E1 rv _=>by
   let(ds,hd,q1):=z4r;have go:∀ {a tup xs},aE X.K H1 M1 ds xs->(∀ M2 H2,d9 M1 H1 M2 H2->vY X.K tup H2 a xs/\aE X.K H2 M2 ds xs)->MO X.K M1 H1 (oX ds) (Vj X.K tup a):=λ{a tup xs} r h M2 H2 G=>by
    let(h2,r2):=h M2 H2 G;show#[λi hi=>#[xs,h2,by rw[r.length];rw[nR] at hi;exact hi],λi d hd=>?_];let(y,hy,rfl):=BS hd;let(v,g1,g2):=r2.get hy;show#[#[xs,v,h2,g1],λx H3 #[b,hb,ex,hx]=>.inr ?_];let(w,w1,w2):=hx xs h2;rw[g1] at w1;cases w1;subst w2;exact#[b,_,hb,U,b,_,ex,#[.inr U,aD],#[_,_,U,U,_,_,U,zL hb g2,U]]
   rcases hd with rfl | rfl
   .let(v,rfl,a,xs,rfl,(m,h),r):=dZ rv;exact#[a,false,xs,U,.of h,λhl=>k _ s1 q1 M1 H1 _ L1 E1 (go r λM2 H2 G=>#[.of ((G a m).2 _ h),G.vo r]) (by rw[nR,<- r.length];exact hl)]
   .let(v,rfl,a,xs,rfl,h,r):=dZ rv;exact#[a,true,xs,U,h.sq,λhl=>k _ s1 q1 M1 H1 _ L1 E1 (go r λM2 H2 G=>#[(h.mono (λb m=>(G b m).1) λb o m e=>(G b m).2 o e).sq,G.vo r]) (by rw[nR,<- r.length];exact hl)]]]
end
mutual
noncomputable def toP:D->Fk
 | .bx=>.none
 | .bl b=>.bool b
 | .int i=>.int i
 | .str x=>.str x
 | .tup ds=>.tuple (toPs ds)
 | .lst ds=>.list (toPs ds)
 | .bJ _=>.none
 | .ty _=>.none
 | .i7 _ _=>.none
 | .oV _ _=>.none
 | .HI _ _=>.none
 | .ob _ _ _=>.none
noncomputable def toPs:!D->!Fk
 | []=>[]
 | d::ds=>toP d::toPs ds
end
mutual
noncomputable def iP:D->Bool
 | .bx=>true
 | .bl _=>true
 | .int _=>true
 | .str x=>Fk.strOk x
 | .tup ds=>lK ds
 | .lst ds=>lK ds
 | .bJ _=>false
 | .ty _=>false
 | .i7 _ _=>false
 | .oV _ _=>false
 | .HI _ _=>false
 | .ob _ _ _=>false
noncomputable def lK:!D->Bool
 | []=>true
 | d::ds=>iP d&&lK ds
end
mutual
theorem lI:∀ d:D,iP d=true->(toP d).canLay0=true
 | .bx,_=>rfl
 | .bl _,_=>rfl
 | .int _,_=>rfl
 | .str x,h=>by
  change Fk.canLay0 (.str x)=true;simpa [Fk.canLay0,iP] using h
 | .tup ds,h=>by
  change Fk.canLay0 (.tuple (toPs ds))=true;simpa [Fk.canLay0] using vK ds h
 | .lst ds,h=>by
  change Fk.canLay0 (.list (toPs ds))=true;simpa [Fk.canLay0] using vK ds h
 | .bJ _,h=>by cases h
 | .ty _,h=>by cases h
 | .i7 _ _,h=>by cases h
 | .oV _ _,h=>by cases h
 | .HI _ _,h=>by cases h
 | .ob _ _ _,h=>by cases h
theorem vK:∀ ds:!D,lK ds=true->Fk.canLayAll0 (toPs ds)=true
 | [],_=>rfl
 | d::ds,h=>by
  have h:(iP d&&lK ds)=true:=h;rw[aaT] at h;change Fk.canLayAll0 (toP d::toPs ds)=true;simp[Fk.canLayAll0,lI d h.1,vK ds h.2]
end
section
variable{X:Cx}{TW:acd}{σ:St}{H:Hp}{s:Cl}{M:AC->Prop}
mutual
theorem gv(I:Inv X TW σ H s):∀ (d:D) (v:V) (u:AT),iP d=true->Rep X.K H M d v->RelV v u->∃ as,Reads s.heap u (toP d) as
 | .bx,v,u,_,r,q=>by
  have r:v=.bx:=r;subst r;cases (show u=AT.none from q);exact#[_,.none]
 | .bl b,v,u,_,r,q=>by
  have r:v=.bl b:=r;subst r;cases (show u=AT.bool b from q);exact#[_,.bool b]
 | .int i,v,u,_,r,q=>by
  have r:v=.int i:=r;subst r;let(t,rfl):=(show ∃ t,u=AT.int i t from q);exact#[_,.int i t]
 | .str x,v,u,_,r,q=>by
  have r:v=.str x:=r;subst r;let(t,rfl):=(show ∃ t,u=AT.str x t from q);exact#[_,.str x t]
 | .tup ds,v,u,h,r,q=>by
  let(a,xs,rfl,(m,ha),r):=r;cases (show u=AT.ref a from q);let(_,its,rv,o,e,hc,n,hd,_):=I.bM a _ ha;let(as,hr):=om I ds xs its h r rv;exact#[_,.tuple e hc hd (by simpa using hr)]
 | .lst ds,v,u,h,r,q=>by
  let(a,xs,rfl,(m,ha),r):=r;cases (show u=AT.ref a from q);let(_,its,n,rv,e):=I.bM a _ ha;let(as,hr):=om I ds xs its h r rv;exact#[_,.list e U U (by simpa using hr)]
 | .bJ _,v,u,h,r,q=>by cases h
 | .ty _,v,u,h,r,q=>by cases h
 | .i7 _ _,v,u,h,r,q=>by cases h
 | .oV _ _,v,u,h,r,q=>by cases h
 | .HI _ _,v,u,h,r,q=>by cases h
 | .ob _ _ _,v,u,h,r,q=>by cases h
theorem om(I:Inv X TW σ H s):∀ (ds:!D) (vs:!V) (us:!AT),lK ds=true->aE X.K H M ds vs->Vals vs us->∃ as,ReadsAll s.heap us (toPs ds) as
 | [],vs,us,_,r,q=>by
  have r:vs=[]:=r;subst r;cases q;exact#[_,.nil]
 | d::ds,vs,us,h,r,q=>by
  have h:(iP d&&lK ds)=true:=h;rw[aaT] at h;let(x,xr,rfl,r1,r2):=r;cases q with
  | cons q1 q2 =>
   let(as,h1):=gv I d x _ h.1 r1 q1;let(bs,h2):=om I ds xr _ h.2 r2 q2;exact#[_,.cons h1 h2]
end
end
def F7(a b:D):Bool:=Fk.eqv (toP a) (toP b)
def d3(d:D):Nat:=(toP d).depth
section
variable{X:Cx}{c:Ent}
def E9(K:Frag)(neg:Bool):R2:=λx y H Q=>∃ M dx dy,Rep K H M dx x/\Rep K H M dy y/\iP dx=true/\iP dy=true/\(d3 dx<=150\/d3 dy<=150)/\Q (.bl (if neg then (not (F7 dx dy)) else F7 dx dy)) H
theorem ub{m n u:Nat}(h:m<=150\/n<=150)(hu:u+150 < cLine):u+min m n < cLine:=by
 have:min m n<=150:=by cbv
 cbv
theorem zy(hu:X.A.units+150 < cLine):jt X (Ix .Eq) (E9 X.K false):=by
 intro TW s σ H x y v u Q I rx ry h;let(M,dx,dy,r1,r2,o1,o2,hd,q):=h;let(as,h1):=gv I dx x v o1 r1 rx;let(bs,h2):=gv I dy y u o2 r2 ry;exact SeqAt.compareEq_reads h1 h2 (lI dx o1) (lI dy o2) (ub hd hu) #[.bl _,H,I,U,q]
theorem vD(hu:X.A.units+150 < cLine):jt X (Ix .NotEq) (E9 X.K true):=by
 intro TW s σ H x y v u Q I rx ry h;let(M,dx,dy,r1,r2,o1,o2,hd,q):=h;let(as,h1):=gv I dx x v o1 r1 rx;let(bs,h2):=gv I dy y u o2 r2 ry;exact SeqAt.compareNe_reads h1 h2 (lI dx o1) (lI dy o2) (ub hd hu) #[.bl _,H,I,U,q]
def WE(neg:Bool):D->D->(D->Prop)->Prop:=λa b k=>(iP a=true/\iP b=true/\(d3 a<=150\/d3 b<=150))/\k (.bl (if neg then (not (F7 a b)) else F7 a b))
theorem tD{neg:Bool}:su X c (E9 X.K neg) (WE neg):=λM s as σ H x y dx dy k Q L rx ry #[#[o1,o2,hd],hk] kk=>#[M,dx,dy,rx,ry,o1,o2,hd,kk _ hk M H _ L .refl U]
mutual
theorem eqv_refl:∀ d:D,Fk.eqv (toP d) (toP d)=true
 | .bx=>rfl
 | .bl b=>by change Fk.eqv (.bool b) (.bool b)=true;simp[Fk.eqv]
 | .int i=>by change Fk.eqv (.int i) (.int i)=true;simp[Fk.eqv]
 | .str x=>by change Fk.eqv (.str x) (.str x)=true;simp[Fk.eqv]
 | .tup ds=>by change Fk.eqv (.tuple (toPs ds)) (.tuple (toPs ds))=true;simpa [Fk.eqv] using nX ds
 | .lst ds=>by change Fk.eqv (.list (toPs ds)) (.list (toPs ds))=true;simpa [Fk.eqv] using nX ds
 | .bJ _=>rfl
 | .ty _=>rfl
 | .i7 _ _=>rfl
 | .oV _ _=>rfl
 | .HI _ _=>rfl
 | .ob _ _ _=>rfl
theorem nX:∀ ds:!D,Fk.eqvAll (toPs ds) (toPs ds)=true
 | []=>rfl
 | d::ds=>by change Fk.eqvAll (toP d::toPs ds) (toP d::toPs ds)=true;simp[Fk.eqvAll,eqv_refl d,nX ds]
end
theorem jS(d:D):F7 d d=true:=eqv_refl d
def Nb:D->String->Option Bool
 | .int _,T=>if T="int" then some true else if T="bool"\/T="str"\/T="list"\/T="tuple" then some false else none
 | .bl _,T=>if T="int"\/T="bool" then some true else if T="str"\/T="list"\/T="tuple" then some false else none
 | .str _,T=>if T="str" then some true else if T="bool"\/T="int"\/T="list"\/T="tuple" then some false else none
 | .tup _,T=>if T="tuple" then some true else if T="bool"\/T="int"\/T="list"\/T="str" then some false else none
 | .lst _,T=>if T="list" then some true else if T="bool"\/T="int"\/T="tuple"\/T="str" then some false else none
 | _,_=>none
def Q3(K:Frag):!V->Hp->VK->Prop:=λxs H Q=>∃ M d v T b,xs=[v,.ty T]/\Rep K H M d v/\Nb d T=some b/\Q (.bl b) H
theorem eL:fk X (.builtin "isinstance") (Q3 X.K):=by
 intro TW s σ H xs us Q I r h;let(M,d,v,T,b,rfl,rd,hb,q):=h;let(u,t,rfl,ru,rt):=r.two;cases (show t=AT.type T from rt);have fin:∀ n,EP X TW σ Q (.bool b) { s with toks:=n }:=λn=>#[.bl b,H,I.tok n,U,q];have fin0:EP X TW σ Q (.bool b) s:=#[.bl b,H,I,U,q];cases d with
 | int i =>
  cases (show v=.int i from rd);let(t,rfl):=ru
  replace hb:(if T="int" then some true else if T="bool"\/T="str"\/T="list"\/T="tuple" then some false else none)=some b:=hb
  split at hb
  .rename_i e;subst e;cases hb;exact IsiPair.int_int fin0
  .split at hb
   .rename_i e
    cases hb;rcases e with rfl | rfl | rfl | rfl
    .exact IsiPair.int_bool (fin _)
    .exact IsiPair.int_str (fin _)
    .exact IsiPair.int_list (fin _)
    .exact IsiPair.int_tuple (fin _)
   .cases hb
 | bl i =>
  cases (show v=.bl i from rd);cases (show u=AT.bool i from ru)
  replace hb:(if T="int"\/T="bool" then some true else if T="str"\/T="list"\/T="tuple" then some false else none)=some b:=hb
  split at hb
  .rename_i e
   cases hb;rcases e with rfl | rfl
   .exact IsiPair.bool_int fin0
   .exact IsiPair.bool_bool fin0
  .split at hb
   .rename_i e
    cases hb;rcases e with rfl | rfl | rfl
    .exact IsiPair.bool_str (fin _)
    .exact IsiPair.bool_list (fin _)
    .exact IsiPair.bool_tuple (fin _)
   .cases hb
 | str i =>
  cases (show v=.str i from rd);let(t,rfl):=ru
  replace hb:(if T="str" then some true else if T="bool"\/T="int"\/T="list"\/T="tuple" then some false else none)=some b:=hb
  split at hb
  .rename_i e;subst e;cases hb;exact IsiPair.str_str fin0
  .split at hb
   .rename_i e
    cases hb;rcases e with rfl | rfl | rfl | rfl
    .exact IsiPair.str_bool (fin _)
    .exact IsiPair.str_int (fin _)
    .exact IsiPair.str_list (fin _)
    .exact IsiPair.str_tuple (fin _)
   .cases hb
 | tup ds =>
  let(a,xs,rfl,(m,ha),r):=rd;cases (show u=AT.ref a from ru);let(_,its,rv,o,e,hc,n,hd,_):=I.bM a _ ha
  replace hb:(if T="tuple" then some true else if T="bool"\/T="int"\/T="list"\/T="str" then some false else none)=some b:=hb
  split at hb
  .rename_i e';subst e';cases hb;exact IsiPair.tuple_tuple e hc fin0
  .split at hb
   .rename_i e'
    cases hb;rcases e' with rfl | rfl | rfl | rfl
    .exact IsiPair.tuple_bool e hc (fin _)
    .exact IsiPair.tuple_int e hc (fin _)
    .exact IsiPair.tuple_list e hc (fin _)
    .exact IsiPair.tuple_str e hc (fin _)
   .cases hb
 | lst ds =>
  let(a,xs,rfl,(m,ha),r):=rd;cases (show u=AT.ref a from ru);let(_,its,n,rv,e):=I.bM a _ ha
  replace hb:(if T="list" then some true else if T="bool"\/T="int"\/T="tuple"\/T="str" then some false else none)=some b:=hb
  split at hb
  .rename_i e';subst e';cases hb;exact IsiPair.list_list e rfl fin0
  .split at hb
   .rename_i e'
    cases hb;rcases e' with rfl | rfl | rfl | rfl
    .exact IsiPair.list_bool e U (fin _)
    .exact IsiPair.list_int e U (fin _)
    .exact IsiPair.list_tuple e U (fin _)
    .exact IsiPair.list_str e U (fin _)
   .cases hb
 | _=>simp[Nb] at hb
def XA:ace:=λas k=>∃ d T b,as=[d,.ty T]/\Nb d T=some b/\k (.bl b)
theorem mO:Cg X c (Q3 X.K) XA:=λM s as σ H xs ds k Q L r z5r kk=>by
 let(d,T,b,e,hb,hk):=z5r;subst e;let(v,w,rfl,r1,r2):=uo r;have r2:w=.ty T:=r2;subst r2;exact#[M,d,v,T,b,U,r1,hb,kk _ hk M H _ L .refl U]
end
end DL
namespace IY
open PySem
section
variable{prog:Fa}{w:FB}{A:Fr}{E:acb}{s:Cl}{T:String}{r d:AC}{n:Nat}{P:Nat->AT->Prop}{OK:Db->Prop}
end
end IY
namespace L2
open PySem PySem.Spec
open PyProof.Rows hiding St
section
variable{X:Cx}
theorem Hi{P:Fa}{w:FB}{k:Key}{u:AT}(h:(cu P w).is k u=true):RelV (kV k) u:=by
 obtain⟨i,t,rfl,rfl⟩ | ⟨x,t,rfl,rfl⟩:=cf (k:=k) (v:=u) h
 .exact#[t,U]
 .exact#[t,U]
end
end L2
namespace DL
open PySem PySem.Spec L2
open PyProof.Rows hiding St
section
variable{X:Cx}{c:Ent}
def kD:Key->D
 | .inl i=>.int i
 | .inr x=>.str x
end
end DL
namespace DL
open PySem PySem.Spec L2
set_option genSizeOf true in set_option genInjectivity true in inductive Fm where
 | nm (x:Str) | num (i:Int) | op (s:Str) | nq | lt (x:Str) | mk (c:Str) | ask (f:Str) | FY (r:Str) (hs:!(Str×!Str)) | new (k:Str) (hs:!(Str×!Str))
set_option genSizeOf true in set_option genInjectivity true in inductive Tm where
 | node (f:Fm) (ks:!Tm)
def Tm.kids:Tm->!Tm
 | .node _ ks=>ks
def Fm.ar:Fm->Nat->Bool
 | .nm _,n=>n == 0
 | .num _,n=>n == 0
 | .op _,n=>n == 2
 | .nq,n=>n == 3
 | .lt _,n=>n == 2
 | .mk _,_=>true
 | .ask _,n=>1<=n
 | .FY _ hs,n=>n == hs.length+1&&hs.all λh=>h.2.length<=8
 | .new _ hs,n=>n == hs.length&&hs.all λh=>h.2.length<=8
mutual
noncomputable def Tm.wf:Tm->Bool
 | .node f ks=>f.ar ks.length&&RB ks
noncomputable def RB:!Tm->Bool
 | []=>true
 | t::r=>t.wf&&RB r
end
mutual
noncomputable def Tm.size:Tm->Nat
 | .node _ ks=>bh ks+1
noncomputable def bh:!Tm->Nat
 | []=>0
 | t::r=>t.size+bh r
end
mutual
noncomputable def Tm.dep:Tm->Nat
 | .node _ ks=>wz ks+1
noncomputable def wz:!Tm->Nat
 | []=>0
 | t::r=>max t.dep (wz r)
end
def Q9(ns:!Str):!D:=ns.map .str
def VR(h:Str×!Str)(k:D):D:=.tup [.str h.1,.tup (Q9 h.2),k]
def Fx:!(Str×!Str)->!D->!D
 | h::hs,k::ks=>VR h k::Fx hs ks
 | _,_=>[]
def asm:Fm->!D->D
 | .nm x,_=>.tup [.str "name",.str x]
 | .num i,_=>.tup [.str "num",.int i]
 | .op s,ks=>.tup (.str "op"::.str s::ks)
 | .nq,ks=>.tup (.str "zero"::ks)
 | .lt x,ks=>.tup (.str "let"::.str x::ks)
 | .mk c,ks=>.tup [.str "make",.str c,.tup ks]
 | .ask f,ks=>.tup [.str "ask",ks.headD .bx,.str f,.tup ks.tail]
 | .FY r hs,ks=>.tup [.str "case",ks.headD .bx,.str r,.tup (Fx hs ks.tail)]
 | .new k hs,ks=>.tup [.str "new",.str k,.tup (Fx hs ks)]
mutual
noncomputable def toD:Tm->D
 | .node f ks=>asm f (toDs ks)
noncomputable def toDs:!Tm->!D
 | []=>[]
 | t::r=>toD t::toDs r
end
theorem toDs_map:∀ ks:!Tm,toDs ks=ks.map toD
 | []=>rfl
 | t::r=>by rw[toDs,toDs_map r,aao]
theorem toDs_len(ks:!Tm):(toDs ks).length=ks.length:=by rw[toDs_map,aaa]
theorem kx{b:Bool}{A B:Prop}(h:b=false)(q:B):if b=true then A else B:=by
 subst h;exact va q
theorem n5{b:Bool}{A B:Prop}(h:b=true)(q:A):if b=true then A else B:=by
 subst h;exact rM q
theorem len0{α:Type}{l:!α}(h:l.length=0):l=[]:=aaO h
theorem Ig{α:Type}{l:!α}(h:1<=l.length):∃ a r,l=a::r:=by
 cases l with
 | nil=>simp at h
 | cons a r=>exact#[a,r,U]
theorem XC{α:Type}{l:!α}(h:l.length=2):∃ a b,l=[a,b]:=by
 let(a,r,rfl):=Ig (l:=l) (by cbv);let(b,r',rfl):=Ig (l:=r) (by simp at h;cbv);have:r'=[]:=len0 (by simpa using h);subst this;exact#[a,b,U]
theorem aH:16000000<=FS:=by decide
theorem size_eq(t:Tm):t.size=bh t.kids+1:=by
 cases t
 rfl
theorem size_pos(t:Tm):0 < t.size:=by rw[size_eq];cbv
theorem cC{α:Type}{x:α}{r:!α}:iD (x::r) 0=some x:=pW (j:=0) U
theorem qD{g:o7}{tb:iF}{R:gX}(I:!D->DS->Prop)(h0:∀ s,I [] s->R.nx s)(h1:∀ x xs s (N:DS->Prop),I (x::xs) s->(∀ s',I xs s'->N s')->g x s λs1=>tb { R with nx:=N,ct:=N,bk:=R.nx } s1):∀ xs s,I xs s->mB g tb R xs s
 | [],s,h=>h0 s h
 | x::xs,s,h=>h1 x xs s _ h λs' h'=>qD I h0 h1 xs s' h'
theorem aQ{α:Type}{nt:Nat}{us:!Nat}{g:o7}{te:aU}(h f:α->D){Q:!D->DS->Prop}{s:DS}:∀ (xs:!α) {acc:!D},(∀ x∈xs,∀ k:D->DS->Prop,(∀ s':DS,s'.os=s.os->k (f x) s')->g (h x) (iC nt us s) λs1=>te s1 k)->Q (acc++xs.map f) s->cE nt us g dq te (xs.map h) acc s Q
 | [],acc,_,q=>by
  rw[aaQ,aal] at q;exact q
 | x::xs,acc,hx,q=>by
  change g (h x) (iC nt us s) λs1=>dq s1 λb s2=>if b=true then te s2 λy s3=>cE nt us g dq te (xs.map h) (acc++[y]) #[s.sl,s3.os] Q else cE nt us g dq te (xs.map h) acc #[s.sl,s2.os] Q;have:=hx x aad (λy s3=>cE nt us g dq te (xs.map h) (acc++[y]) #[s.sl,s3.os] Q) λs' e=>by
   rw[e];show aQ h f xs (λy hy=>hx y (aac _ hy)) ?_;rw[aaz];exact q
  simpa [dq] using this
theorem b5{α:Type}{nt:Nat}{us:!Nat}{g:o7}{ti:mH}{te:aU}(h f:α->D)(p:α->Bool){Q:!D->DS->Prop}{s:DS}:∀ (xs:!α) {acc:!D},
  (∀ x∈xs,∀ k:D->DS->Prop,∀ N:DS->Prop,(p x=true->∀ s':DS,s'.os=s.os->k (f x) s')->(p x=false->∀ s':DS,s'.os=s.os->N s')->g (h x) (iC nt us s) λs1=>ti s1 λb s2=>if b=true then te s2 k else N s2)->Q (acc++(xs.filter p).map f) s->cE nt us g ti te (xs.map h) acc s Q
 | [],acc,_,q=>by
  rw[List.filter_nil,aaQ,aal] at q;exact q
 | x::xs,acc,hx,q=>by
  show hx x aad (λy s3=>cE nt us g ti te (xs.map h) (acc++[y]) #[s.sl,s3.os] Q) (λs2=>cE nt us g ti te (xs.map h) acc #[s.sl,s2.os] Q) (λhp s' e=>?_) λhp s' e=>?_
  .show cE nt us g ti te (xs.map h) (acc++[f x]) #[s.sl,s'.os] Q;rw[e];show b5 h f p xs (λy hy=>hx y (aac _ hy)) ?_;rw[List.filter_cons_of_pos hp] at q;rw[aaz];exact q
  .show cE nt us g ti te (xs.map h) acc #[s.sl,s'.os] Q;rw[e];show b5 h f p xs (λy hy=>hx y (aac _ hy)) ?_;rw[List.filter_cons_of_neg (by rw[hp];exact aau)] at q;exact q
end DL
namespace DL
open PySem PySem.Spec L2
open PyProof.Rows hiding St
section
variable{X:Cx}{c:Ent}
theorem oE{A:Fr}{k:Nat}(hr:b4 k A):A.units+150 < cLine:=by have:=hr.un;cbv
def R8:D->D->(D->Prop)->Prop:=λa b k=>∃ x y,a=.str x/\b=.str y/\(x.length+y.length<=FS)/\k (.str (x++y))
end
theorem rQ{P:Fa}{w:FB}{K:Frag}{mg:Str->Option AT}{base:Db}{k:Nat}{f:AC}{fd:Go}{ps:!Str}{g:AQ}:bZ P w K mg base aP k f fd ps (cR K g λ_ _=>False) :=
 #[λvs H Q E h=>by let(_,_,_,_,_,h,_):=h;exact h.elim,λA outer s H args us vs Q E hr he hb hv h=>by let(_,_,_,_,_,h,_):=h;exact h.elim]
def jj(d:AC):ace:=λds R=>∃ m:Int,ds=[.bJ d,.int m]/\(0 < m/\m < 9223372036854775808)/\∀ r:Int,0<=r->r < m->R (.int r)
theorem G6{P:Fa}{w:FB}{K:Frag}{mg:Str->Option AT}{base:Db}{k:Nat}{f d l:AC}{fd:Go}{ps:!Str}(F:bZ P w K mg base aP k f fd ps cY.yZ):bZ P w K mg base aP k f fd ps (cR K (bg d l) (jj d)) :=
 F.imp λvs H Q E h=>by
  let(M,ds,R,B,r,(m,rfl,(h1,h2),k),kk):=h;let(v,w,rfl,e1,e2):=uo r;cases (show v=.ref d from e1);cases (show w=.int m from e2);show#[d,l,m,U,B.nZ,h1,h2,λq H' q1 q2 A' bt=>kk _ (k q q1 q2) M H' _ #[A',λb o e g=>bt b o e (λz=>g (.inl z)) λz=>g (.inr z),λb m=>?_,B.mo,λ_ m=>m,λ_ m=>.inl m] rfl];let(o,e):=B.md b m;exact#[o,bt b o e (λz=>B.mo b m (.inl z)) λz=>B.mo b m (.inr z)]
section
variable{X:Cx}{c:Ent}
def XI(i:Nat):aU:=λs Q=>(∃ d,s.sl[i]?=some (.dat d)/\Q d s)\/∃ k d,s.sl[i]?=some (.own k)/\s.os[k]?=some (some d)/\Q d (s.freeze k d)
theorem vQ{i:Nat}{e:Ch}(h:PE X e (b8 i)):DE X c e (XI i):=#[λTW s0 σ H Q I zz=>cQ zz λM s as R L q kk=>by
 rcases q with q | q
 .exact (dv (c:=c) h).pe TW s0 σ H Q I #[M,s,as,R,L,q,kk]
 .exact (WK (c:=c) h).pe TW s0 σ H Q I #[M,s,as,R,L,q,kk]]
def QE(neg:Bool)(i:Nat)(tb:aU):aU:=λs Q=>∃ k d0,s.sl[i]?=some (.own k)/\s.os[k]?=some (some d0)/\tb s λb s1=>∃ d,s1.os[k]?=some (some d)/\(iP d=true/\iP b=true/\(d3 d<=150\/d3 b<=150))/\Q (.bl (if neg then (not (F7 d b)) else F7 d b)) s1
theorem LU{neg:Bool}{i:Nat}{tb:aU}{σ:St}{H:Hp}{Q:VK}:tE X.K c (QE neg i tb) σ H Q->j6 (E9 X.K neg) (b8 i) (tE X.K c tb) σ H Q:=λz1q=>by
 let(M,s,as,R,L,(k,d0,h1,h2,q),kk):=z1q;let(a,o,g1,g2,g3,g4):=L.slot h1 h2;show#[_,g2,M,s,as,_,L,q,λb s1 z2q M1 H1 v L1 E1 rv=>?_];let(d,e1,(o1,o2,hd),q1):=z2q;let((o',f1,f2),nm,ng,h0):=L1.obj k _ a e1 g1;exact#[λb=>M1 b\/b=a,d,b,(f2.mono (λ_ m=>.inl m) λ_ _ _ e=>e).rep f1 (.inr U),Rep.mono (λ_ m=>.inl m) (λ_ _ _ e=>e) _ _ rv,o1,o2,hd,kk _ s1 q1 M1 H1 _ L1 E1 U]
theorem Nc{neg:Bool}{i:Nat}{a b:Ch}{op:CmpOp}{tb:aU}{pos:Pos}(ho:jt X (Ix op) (E9 X.K neg))(ha:PE X a (b8 i))(hb:DE X c b tb)(hm:behindInMarks op b=false):DT X c (.Compare a [op] [b] pos) (nI (QE neg i tb)):=#[(iN ho ha hb.pe hm).imp λ_ _ _=>ky LU]
theorem nP:su X c (λx y H Q=>∃ i j,x=.str i/\y=.str j/\i.length+j.length<=FS/\Q (.str (i++j)) H) R8:=λM s as σ H x y dx dy k Q L rx ry z6r kk=>by
 let(i,j,e1,e2,h,hk):=z6r;subst e1;subst e2;exact#[i,j,rx,ry,h,kk _ hk M H _ L .refl U]
def Ua:D->D->(D->Prop)->Prop:=λa b k=>∃ z n,a=.str z/\b=.int n/\MulOk z n/\k (.str (Txt.mul z n))
theorem Cv:su X c (λx y H Q=>∃ z n,x=.str z/\y=.int n/\MulOk z n/\Q (.str (Txt.mul z n)) H) Ua:=λM s as σ H x y dx dy k Q L rx ry z7r kk=>by
 let(i,j,e1,e2,h,hk):=z7r;subst e1;subst e2;exact#[i,j,rx,ry,h,kk _ hk M H _ L .refl U]
def XM(te:aU)(tl th:HK):aU:=λs Q=>te s λa s1=>tl s1 λl s2=>th s2 λu s3=>∃ z,a=.str z/\z.length<=FS/\Q (.str (Txt.slice z l u)) s3
theorem xf{e:Ch}{lo hi:Option Ch}{te:aU}{tl th:HK}{p2 pos:Pos}(he:DE X c e te)(hl:DO X c lo tl)(hu:DO X c hi th):DE X c (.Subscript e (.Slice lo hi none p2) pos) (XM te tl th):=#[(mR Kp he.pe hl.po hu.po).imp λσ H Q zz=>cQ zz λM s as R L q k =>
 #[M,s,as,_,L,q,λd s1 q1 M1 H1 v L1 E1 rv=>#[M1,s1,as,_,L1,q1,λl s2 q2 M2 H2 Lb E2=>#[M2,s2,as,_,Lb,q2,λu s3 q3 M3 H3 Lc E3=>by
  let(z,e,hz,q):=q3;subst e;have E13:=E2.trans Lb.base E3;exact#[z,rv,hz,k _ s3 q M3 H3 _ Lc (E1.trans L1.base E13) U]]]]]
theorem wX{K:Frag}{H:Hp}{M:AC->Prop}:∀ {bs:!Str} {vs:!V},aE K H M (bs.map .str) vs->vs=bs.map V.str
 | [],vs,r=>r
 | b::bs,vs,r=>by
  let(x,xr,rfl,r1,r2):=r;have r1:x=.str b:=r1;rw[r1,wX r2,aao]
def Qa(to:aU)(t:eQ):aU:=λs Q=>to s λa s1=>∃ z,a=.str z/\t s1 λds s2=>∃ zs,ds=[.lst (zs.map .str)]/\(zs.map (·.length)).sum+zs.length * z.length<=16777216/\Q (.str (Txt.join z zs)) s2
theorem KS{o e:Ch}{es:!Ch}{to:aU}{t:eQ}{apos cH:Pos}(ho:DE X c o to)(ha:DA X c (e::es) t)(gA:(attributeBase o "join" X.env (eval o X.env)=eval o X.env)⁻¹)(qt:(((IR cH (Gc (e::es) X.env)).all (λx=>(not x.1))&&(P3 cH (Re [] X.env)).all (λx=>x.1.isSome)
   && decide ((e::es).length+([]:!Ps).length+(if ([]:!Ps).isEmpty then 0 else 1) < 30))=true)⁻¹)(gz:((apos.endLine == cH.line)=true)⁻¹)(hs:(acf X.env e es)⁻¹)(gw:((IR cH (Gc es X.env)).any (·.1)=false)⁻¹) :
  DE X c (.Call (.Attribute o "join" apos) (e::es) [] cH) (Qa to t):=#[(Bb PySem.F.plainAttrs_str PySem.F.slot_str_join PySem.F.type_str_join Hm ho.pe ha.pa gA qt gz hs gw).imp λσ H Q zz=>cQ zz λM s as R L q kk=>by
 show#[M,s,as,_,L,q,λd s1 #[z,e,q1] M1 H1 v L1 E1 rv=>?_];subst e;cases (show v=.str z from rv);show#[U,M1,s1,as,_,L1,q1,λds s2 #[zs,e2,hz,q2] M2 H2 vs L2 E2 rvs hl=>?_];subst e2;let(w,rfl,p,ys,rfl,(m,h),r'):=dZ rvs;rw[wX r'] at h;exact#[z,p,zs,U,U,.of h,hz,kk _ s2 q2 M2 H2 _ L2 (E1.trans L1.base E2) U]]
def Na(zs:!Str):eQ:=λs Q=>Q (zs.map .str) s
theorem tQ{K:Frag}{H:Hp}{M:AC->Prop}:∀ (zs:!Str),aE K H M (zs.map .str) (zs.map V.str)
 | []=>rfl
 | z::zs=>#[_,_,U,U,tQ zs]
theorem GX{es:!Ch}{zs:!Str}(h:vT es=true)(h2:Ab es=zs)(h3:es.length=zs.length):DA X c es (Na zs):=#[(by subst h2;exact (Bc h).imp λσ H Q zz=>cQ zz λM s as R L q k=>k _ s q M H _ L .refl (tQ _) (by rw[aaa];exact h3.symm))]
def UM(neg:Bool)(te:aU)(i:Nat):aU:=λs Q=>te s λa s1=>∃ k ds,s1.sl[i]?=some (.own k)/\s1.os[k]?=some (some (.lst ds))/\(gp a=true/\ds.all gp=true)/\Q (.bl (if neg then (not (BE (fv a) (ds.map fv))) else BE (fv a) (ds.map fv))) s1
theorem Mv{neg:Bool}{i:Nat}{te:aU}{σ:St}{H:Hp}{Q:VK}:tE X.K c (UM neg te i) σ H Q->j6 (NO X.K neg) (tE X.K c te) (b8 i) σ H Q:=λzz=>cQ zz λM s as R L q kk =>
 #[M,s,as,_,L,q,λd s1 z5q M1 H1 v L1 E1 rv=>by
  let(k,ds,h1,h2,(f1,f2),q1):=z5q;let(a,o,g1,g2,g3,g4):=L1.slot h1 h2;cases o with
  | lst us =>
   have g4:aE X.K H1 M1 ds us:=g4;have e1:=rv.flat f1;subst e1;let(e,f):=g4.flat f2;show#[_,g2,a,us,U,.inl (.of g3),qL f1,f,?_];rw[e];exact kk _ s1 q1 M1 H1 _ L1 E1 U
  | _=>exact g4.elim]
theorem Mt{neg:Bool}{i:Nat}{a b:Ch}{op:CmpOp}{ta:aU}{pos:Pos}(ho:jt X (Ix op) (NO X.K neg))(ha:DE X c a ta)(hb:PE X b (b8 i))(hm:behindInMarks op b=false):DT X c (.Compare a [op] [b] pos) (nI (UM neg ta i)):=#[(iN ho ha.pe hb hm).imp λ_ _ _=>ky Mv]
end
end DL
namespace DL
open PySem PySem.Spec L2
section
variable{κ:Type}[DecidableEq κ]
theorem uI{ks:!κ}{q:κ}:rS ks q=true↔q∈ks:=by
 unfold rS;rw[ab6];constructor
 .rintro⟨k,h1,h2⟩;rw[<- of_decide_eq_true h2];exact h1
 .intro h;exact#[q,h,decide_eq_true U]
theorem rH:∀ {ks:!κ} {vs:!D} {q:κ} {x:D} (r:κ),ks.length=vs.length->q∈ks->bA ks (o9 ks vs q x) r=if r=q then some x else bA ks vs r
 | [],vs,q,x,r,_,h=>by cases h
 | k::ks,[],q,x,r,e,_=>by simp at e
 | k::ks,v::vs,q,x,r,e,h=>by
  change (if k=r then some (if k=q then x else v) else bA ks (o9 ks vs q x) r)=if r=q then some x else if k=r then some v else bA ks vs r;by_cases h1:k=r
  .subst h1;rw[if_pos U,if_pos U];by_cases h2:k=q
   .rw[if_pos h2,if_pos h2]
   .rw[if_neg h2,if_neg h2]
  .rw[if_neg h1,if_neg h1];by_cases h3:q∈ks
   .exact rH r (by simpa using e) h3
   .have h4:q=k:=by
     rcases aaj.mp h with h | h
     .exact h
     .exact absurd h h3
    have h5:¬ r=q:=λz=>h1 (h4.symm.trans z.symm);rw[if_neg h5];have:∀ {ks:!κ} {vs:!D},ks.length=vs.length->q∉ks->bA ks (o9 ks vs q x) r=bA ks vs r:=by
     intro ks vs
     induction ks generalizing vs with
     | nil=>intro e _;cases vs<;>first | rfl | simp at e
     | cons k ks ih =>
      intro e hn;cases vs with
      | nil=>simp at e
      | cons v vs =>
       change (if k=r then some (if k=q then x else v) else bA ks (o9 ks vs q x) r)=if k=r then some v else bA ks vs r;have hk:¬ k=q:=λz=>hn (by rw[z];exact aad);rw[if_neg (c:=k=q) hk,ih (by simpa using e) λz=>hn (List.mem_cons_of_mem _ z)]
    exact this (by simpa using e) h3
theorem ue:∀ {ks:!κ} {vs:!D} {q:κ} {x:D} (r:κ),ks.length=vs.length->q∉ks->bA (ks++[q]) (vs++[x]) r=if r=q then some x else bA ks vs r
 | [],[],q,x,r,_,h=>by
  change (if q=r then some x else none)=_;by_cases h1:r=q
  .rw[if_pos h1,if_pos h1.symm]
  .rw[if_neg h1,if_neg (Ne.symm h1)]
   rfl
 | [],_::_,q,x,r,e,_=>by simp at e
 | _::_,[],q,x,r,e,_=>by simp at e
 | k::ks,v::vs,q,x,r,e,h=>by
  change (if k=r then some v else bA (ks++[q]) (vs++[x]) r)=if r=q then some x else if k=r then some v else bA ks vs r;have hk:k≠q:=λz=>h (by rw[z];exact aad);by_cases h1:k=r
  .subst h1;rw[if_pos U,if_neg hk,if_pos U]
  .rw[if_neg h1,if_neg h1];exact ue r (by simpa using e) λz=>h (List.mem_cons_of_mem _ z)
theorem EW{ks:!κ}{vs:!D}{q:κ}{x:D}(r:κ)(e:ks.length=vs.length):bA (dj ks q) (dB ks vs q x) r=if r=q then some x else bA ks vs r:=by
 unfold dj dB;by_cases h:rS ks q=true
 .rw[if_pos h,if_pos h];exact rH r e (uI.mp h)
 .rw[if_neg h,if_neg h];exact ue r e λz=>h (uI.mpr z)
theorem tL:∀ {ks:!κ} {vs:!D} {q:κ} {x:D},ks.length=vs.length->(o9 ks vs q x).length=vs.length
 | [],[],q,x,_=>rfl
 | [],_::_,q,x,e=>by simp at e
 | _::_,[],q,x,e=>by simp at e
 | k::ks,v::vs,q,x,e=>by
  change (o9 ks vs q x).length+1=vs.length+1;rw[tL (by simpa using e)]
theorem Ar{ks:!κ}{vs:!D}{q:κ}{x:D}(e:ks.length=vs.length):(dj ks q).length=(dB ks vs q x).length/\(dj ks q).length<=ks.length+1:=by
 unfold dj dB;by_cases h:rS ks q=true
 .rw[if_pos h,if_pos h,tL e];exact#[e,ab1 _]
 .rw[if_neg h,if_neg h];simp[e]
end
def Fm.strs:Fm->!Str
 | .nm x=>[x]
 | .num _=>[]
 | .op s=>[s]
 | .nq=>[]
 | .lt x=>[x]
 | .mk c=>[c]
 | .ask f=>[f]
 | .FY r hs=>r::(hs.map λh=>h.1::h.2).flatten
 | .new k hs=>k::(hs.map λh=>h.1::h.2).flatten
mutual
noncomputable def Tm.JD:Tm->Bool
 | .node f ks=>f.strs.all Fk.strOk&&EA ks
noncomputable def EA:!Tm->Bool
 | []=>true
 | t::r=>t.JD&&EA r
end
def js(ds:!D):Nat:=Fk.depthAll (toPs ds)
theorem Bv(d:D)(ds:!D):js (d::ds)=max (d3 d) (js ds):=by
 change Fk.depthAll (toP d::toPs ds)=_;simp[Fk.depthAll,js,d3]
theorem Em:js []=0:=by simp[js,toPs,Fk.depthAll]
theorem Hb(ds:!D):d3 (.tup ds)=js ds+1:=by
 change Fk.depth (.tuple (toPs ds))=_;simp[Fk.depth,js]
theorem Ij(x:Str):d3 (.str x)=0:=by simp[d3,toP,Fk.depth]
theorem p7(x:Int):d3 (.int x)=0:=by simp[d3,toP,Fk.depth]
theorem oC{ds:!D}{n:Nat}(h:js ds<=n):d3 (.tup ds)<=n+1:=by rw[Hb];exact ab5 h
theorem lG{d:D}{ds:!D}{n:Nat}(h:d3 d<=n)(k:js ds<=n):js (d::ds)<=n:=by rw[Bv];exact Nat.max_le.mpr #[h,k]
theorem wq{n:Nat}:js []<=n:=by rw[Em];exact aax _
theorem jV{x:Str}{n:Nat}:d3 (.str x)<=n:=by rw[Ij];exact aax _
theorem AV:∀ {ks:!Tm} {n:Nat},(∀ k∈ks,k.dep<=n)->wz ks<=n
 | [],n,_=>aax _
 | t::r,n,h=>by
  have h1:=h t aad;have h2:=AV (n:=n) λk hk=>h k (aac _ hk);change max t.dep (wz r)<=n;cbv
end DL
namespace DL
open PySem PySem.Spec L2
open PyProof.Rows hiding St
def Lw(x:Str):Prop:=∀ ch∈x.cps.toList,97<=ch/\ch<=122
noncomputable instance (x:Str):Decidable (Lw x):=by unfold Lw;infer_instance
theorem Lw.app{x y:Str}(h:Lw x)(k:Lw y):Lw (x++y):=λch hc=>by
 have e:(x++y).cps.toList=x.cps.toList++y.cps.toList:=by change (x.cps++y.cps).toList=_;simp
 rw[e,aaw] at hc;rcases hc with hc | hc
 .exact h ch hc
 .exact k ch hc
theorem Lw.slice{x:Str}(h:Lw x)(l u:Option Int):Lw (Txt.slice x l u):=by
 unfold Txt.slice;split
 .exact h
 .intro ch hc;simp only[List.mem_filterMap] at hc;let(i,_,e):=hc;let(hi,e):=Array.getElem?_eq_some_iff.mp e;exact h ch (by rw[<- e];simp)
theorem xE:∀ (cs:!Nat),(Txt.join ("":Str) (cs.map λc=>(#[#v[c]]:Str))).cps.toList=cs
 | []=>by unfold Txt.join;rw[PySem.StrLaws.glued_eq_join];rfl
 | [c]=>by unfold Txt.join;rw[PySem.StrLaws.glued_eq_join];rfl
 | c::d::r=>by
  have ih:=xE (d::r);have e:(Txt.join ("":Str) ((c::d::r).map λc=>(#[#v[c]]:Str)))=(#[#v[c]]:Str)++("":Str)++Txt.join ("":Str) ((d::r).map λc=>(#[#v[c]]:Str)):=by
   unfold Txt.join;rw[abp,abp]
   rfl
  rw[e];change ((#v[c]++#v[])++(Txt.join ("":Str) ((d::r).map λc=>(#[#v[c]]:Str))).cps).toList=_;rw[Array.toList_append,ih]
  rfl
theorem Lw.strOk{x:Str}(h:Lw x):Fk.strOk x=true:=by
 unfold Fk.strOk;rw[Array.all_eq_true];intro i hi;have:=h x.cps[i] (by simp);simp;cbv
theorem qj{nt:Nat}{us:!Nat}{g:o7}{te:aU}(Pd:D->Prop){Q:!D->DS->Prop}{s:DS}:∀ (xs:!D) {acc:!D},(∀ x∈xs,∀ k:D->DS->Prop,(∀ (y:D) (s':DS),Pd y->s'.os=s.os->k y s')->g x (iC nt us s) λs1=>te s1 k)->(∀ ys:!D,ys.length=xs.length->(∀ y∈ys,Pd y)->Q (acc++ys) s)->cE nt us g dq te xs acc s Q
 | [],acc,_,q=>by
  have:=q [] rfl (λ_ h=>absurd h (by simp));rw[aal] at this;exact this
 | x::xs,acc,hx,q=>by
  have:=hx x aad (λy s3=>cE nt us g dq te xs (acc++[y]) #[s.sl,s3.os] Q) λy s' hy e=>by
   change cE nt us g dq te xs (acc++[y]) #[s.sl,s'.os] Q;rw[e];show qj Pd xs (λz hz=>hx z (aac _ hz)) λys hl hp=>?_;rw[aaz];show q ([y]++ys) (by simp[hl]) λz hz=>?_;rcases aaj.mp hz with rfl | hz
   .exact hy
   .exact hp z hz
  rw[cE];simpa [dq] using this
theorem IB{X:Cx}{qv:!Ev}{t:AC->iF}(h:∀ d l M0 H0,pK X #[bg d l,M0,H0] qv (t d)):pY X qv (λE σ H=>∃ d l M0 H0,tS X.K #[bg d l,M0,H0] (t d) E σ H):=λTW s σ H E I #[d,l,M0,H0,q]=>(h d l M0 H0).ps TW s σ H E I q
theorem KN{K:Frag}{d l:AC}{H:Hp}{t:AC->iF}{E:Ends}{σ:St}{n nos:Nat}(D1:cY.At H d l)(hl:σ.length=n+2)(h1:σ[1]?=some (some (.ref d)))(q:t d { nx:=λ_=>False,rt:=λx=>x=.bl true } #[.no::.dat (.bJ d)::List.replicate n .no,List.replicate nos none])(k:∀ H',E.rt (.bl true) H'):∃ d l M0 H0,tS K #[bg d l,M0,H0] (t d) E σ H:=by
 show#[d,l,λ_=>False,H,λ_=>False,_,List.replicate nos 0,_,?_,q,?_]
 .refine#[#[D1,λb o e _=>e,λb m=>m.elim,λb m=>m.elim,λb m=>m.elim,λb m=>m.elim],by simp[hl],by simp,λi x e=>?_,λi k e=>?_,λk x a e=>?_,λk _ x _ a e=>?_,λk a e=>(nomatch e)]
  .match i,e with
   | 0,e=>simp at e
   | 1,e =>
    simp at e;subst e;exact#[_,h1,U]
   | i+2,e =>
    let(_,e):=aaf.mp e;simp at e
  .match i,e with
   | 0,e=>simp at e
   | 1,e=>simp at e
   | i+2,e =>
    let(_,e):=aaf.mp e;simp at e
  .let(_,e):=aaf.mp e;simp at e
  .let(_,e):=aaf.mp e;simp at e
 .refine#[λ_ _ _ _ _ z=>z.elim,λ_ _ _ _ _ z=>z.elim,λ_ _ _ _ _ z=>z.elim,λx M' H' v r B' rv=>?_,λ_ _ _ _ _ z=>z.elim,λ_ _ _ _ _ _ _ z=>z.elim];cases (show x=.bl true from r);cases (show v=.bl true from rv);exact k H'
def AZ(K:Frag):Sp:=λvs H Q _=>∃ (a:AC) (ns:!Int),vs=[.ref a]/\dN K H a (ns.map V.int)/\ns.length<=63/\∀ H',Q (.bl true) H'
def xg:!Str:=["made","asked","def","tab","cross","to","number"]
def um:!Str:=["zero","let","make","ask","case","new"]
def Nm(x:Str):Prop:=Lw x/\1<=x.length/\x.length<=8/\x∉xg/\x∉um
noncomputable instance (x:Str):Decidable (Nm x):=by unfold Nm;infer_instance
theorem HY:∀ z∈cY.near,Nm z:=by decide+kernel
theorem Gg:∀ z∈xg,(z++("q":Str))∉xg/\(z++("q":Str))∉um/\z.length<=6:=by decide+kernel
theorem Iq:∀ z∈um,(z++("q":Str))∉xg/\(z++("q":Str))∉um/\z.length<=6:=by decide+kernel
theorem fu{w:Str}:∀ {zs:!Str},BE (.str w) (zs.map V.str)=decide (w∈zs)
 | []=>rfl
 | z::zs=>by
  have ih:=fu (w:=w) (zs:=zs);unfold BE at ih ⊢;rw[aao,abu,ih];rw[show Iz (V.str z) (V.str w)=decide (z=w) from U];by_cases h:z=w
  .simp[h]
  .simp[h,Ne.symm h]
def wl(pre post:!Nat)(tn k e:Nat):!Nat:=pre++(97+(tn+7 * k) % 26)::(post++(List.replicate (k % 2) 120++(List.replicate (k / 26) 121++List.replicate e 113)))
theorem Lj{pre post:!Nat}{tn k k' e e':Nat}(h:wl pre post tn k e=wl pre post tn k' e'):k=k':=by
 unfold wl at h;have h:=abY h;injection h with h1 h2;have h2:=abY h2;have h3:k % 26=k' % 26:=by cbv
 have h4:k % 2=k' % 2:=by cbv
 rw[h4] at h2;have h2:=abY h2;have h5:=congrArg (List.count 121) h2;simp[List.count_append,List.count_replicate] at h5;cbv
theorem mQ(x y:Str):(x++y).cps.toList=x.cps.toList++y.cps.toList:=by change (x.cps++y.cps).toList=_;simp
theorem AI{r:Int}(h0:0<=r)(h1:r < 26):iD cY.Sw.cps.toList r=some (97+r.toNat):=by
 have hn:∀ n:Fin 26,cY.Sw.cps.toList[n.val]?=some (97+n.val):=by decide+kernel
 have hj:r.toNat < 26:=by cbv
 have e:(r.toNat:Int)=r:=Int.toNat_of_nonneg h0;have q:=pW (xs:=cY.Sw.cps.toList) (j:=r.toNat) (v:=97+r.toNat) (hn #[r.toNat,hj]);rw[e] at q;exact q
theorem Ax{c:Nat}{n:Int}(h0:0<=n)(h1:n<=2):(Txt.mul (#[#v[c]]:Str) n).cps.toList=List.replicate n.toNat c/\MulOk (#[#v[c]]:Str) n:=by
 have:n=0\/n=1\/n=2:=by cbv
 rcases this with rfl | rfl | rfl
 .exact#[U,U,λh=>absurd () h,λh=>absurd () h]
 .exact#[U,U,λ_ h=>absurd h (by simp),λ_ h=>absurd h (by simp)]
 .exact#[U,U,λ_ _=>by change ¬ ((1:Nat):Int) > (2 ^ 63 - 1) / 2;decide,λ_ _=>by change PySem.Builtin.Str.tooLong (1 * 2)=false;decide]
theorem tP{α:Type}{z:α}:∀ {ws:!α} (i:Nat),ws.Nodup->z∉ws->(ws.set i z).Nodup
 | [],i,h,hz=>by simpa using h
 | w::ws,0,h,hz=>by
  rw[List.set_cons_zero];rw[aaS] at h ⊢;exact#[λm=>hz (aac _ m),h.2]
 | w::ws,i+1,h,hz=>by
  rw[List.set_cons_succ];rw[aaS] at h ⊢;show#[λm=>?_,tP i h.2 λm=>hz (aac _ m)];rcases List.mem_or_eq_of_mem_set m with m | e
  .exact h.1 m
  .exact hz (by rw[<- e];exact aad)
open PySem.Builtin PySem.Builtin.Str in
theorem xv(x:Str)(l u:Option Int):(Txt.slice x l u).length<=(strSliceIndices l u 1 x.length).length:=by
 unfold Txt.slice;split
 .rename_i h
  simp at h;cbv
 .show (List.filterMap _ (strSliceIndices l u 1 x.length)).toArray.size<=_;rw[aaC];exact List.length_filterMap_le _ _
open PySem.Builtin PySem.Builtin.Str in
theorem BP{x:Str}{i:Int}(h0:0<=i)(h1:i<=x.length):(Txt.slice x none (some i)).length+(Txt.slice x (some i) none).length<=x.length:=by
 have a:=xv x none (some i);have b:=xv x (some i) none;have ha:(strSliceIndices none (some i) 1 x.length).length<=i.toNat:=by
  unfold strSliceIndices sliceRange;simp only[show (1:Int) > 0 by decide,if_true,List.length_map,List.length_range]<;>(split<;>(try split)<;>(try split)<;>(try simp only[Int.ediv_one])<;>cbv)
 have hb:(strSliceIndices (some i) none 1 x.length).length<=x.length - i.toNat:=by
  unfold strSliceIndices sliceRange;simp only[show (1:Int) > 0 by decide,if_true,List.length_map,List.length_range]<;>(split<;>(try split)<;>(try split)<;>(try simp only[Int.ediv_one])<;>cbv)
 cbv
def wY(pre post:!Nat)(tn:Nat)(ws:!Str):Prop:=∀ (j:Nat) (w:Str),ws[j]?=some w->Nm w/\∃ e,w.cps.toList=wl pre post tn j e
theorem wY.nodup{pre post:!Nat}{tn:Nat}{ws:!Str}(h:wY pre post tn ws):ws.Nodup:=by
 rw[abQ,List.pairwise_iff_getElem];intro i j hi hj hij e;let(_,e1,h1):=h i ws[i] (aaq hi);let(_,e2,h2):=h j ws[j] (aaq hj);rw[e,h2] at h1;have:=Lj h1;cbv
theorem wY.snoc{pre post:!Nat}{tn:Nat}{ws:!Str}{u:Str}{e:Nat}(h:wY pre post tn ws)(hu:Nm u)(he:u.cps.toList=wl pre post tn ws.length e):wY pre post tn (ws++[u]):=λj w q=>by
 by_cases hj:j < ws.length
 .rw[aa0 hj] at q;exact h j w q
 .rw[aa1 (by cbv)] at q;let(h1,h2):=aaf.mp q;simp at h1;have:j=ws.length:=by cbv
  subst this;simp at h2;subst h2;exact#[hu,e,he]
theorem wY.nm{pre post:!Nat}{tn:Nat}{ws:!Str}(h:wY pre post tn ws):∀ w∈ws,Nm w:=λw m=>by
 let(j,hj,e):=aba m;exact (h j w (by rw[aaq hj,e])).1
def zp(d:AC):ace:=λds R=>∃ m:Int,ds=[.bJ d,.int m]/\(0 < m/\m<=60)/\∀ ws:!Str,ws.length=m.toNat->ws.Nodup->(∀ x∈ws,Nm x)->R (.lst (ws.map .str))
section
variable{X:Cx}{c:Ent}
def vh:D->Bool
 | .bx=>true
 | _=>false
theorem Rep.U8{K:Frag}{H:Hp}{M:AC->Prop}{d:D}{v:V}(r:Rep K H M d v):decide (v=.bx)=vh d:=by
 cases d with
 | bx=>rw[show v=.bx from r];rfl
 | bl b=>rw[show v=.bl b from r];rfl
 | int b=>rw[show v=.int b from r];rfl
 | str b=>rw[show v=.str b from r];rfl
 | bJ b=>rw[show v=.ref b from r];rfl
 | ty b=>rw[show v=.ty b from r];rfl
 | tup _=>let(a,xs,rfl,_):=r;rfl
 | lst _=>let(a,xs,rfl,_):=r;rfl
 | i7 _ _=>let(a,xs,rfl,_):=r;rfl
 | oV _ _=>let(a,xs,rfl,_):=r;rfl
 | HI _ _=>let(a,o,xs,rfl,_):=r;rfl
 | ob _ _ _=>let(a,dx,xs,rfl,_):=r;rfl
def Pg:D->D->(D->Prop)->Prop:=λa b k=>b=.bx/\k (.bl (not (vh a)))
theorem C5:su X c (λx y H Q=>y=.bx/\Q (.bl (not (decide (x=.bx)))) H) Pg:=λM s as σ H x y dx dy k Q L rx ry z8r kk=>by
 let(e,hk):=z8r;subst e;show#[ry,?_];rw[rx.U8];exact kk _ hk M H _ L .refl U
def WI:ace:=λas k=>∃ i j,as=[.int i,.int j]/\k (.int (if j < i then j else i))
theorem Oz:Cg X c (λxs H Q=>∃ i j,xs=[.int i,.int j]/\Q (.int (if j < i then j else i)) H) WI:=λM s as σ H xs ds k Q L r z9r kk=>by
 let(i,j,e,hk):=z9r;subst e;let(v,w,rfl,e1,e2):=uo r;have e1:v=.int i:=e1;have e2:w=.int j:=e2;subst e1;subst e2;exact#[i,j,U,kk _ hk M H _ L .refl U]
end
end DL
namespace PyZ
open PySem Sem
section
variable{prog:Fa}{w:FB}{A:Fr}{E:acb}{s:Cl}{z TI TO i1 i2:AC}{f1 f2:!AC}{n1 n2:Nat}{P1 P2:Nat->AT->Prop}{S1 S2:Nat->Db->Prop}
structure Apart(z TI TO i1 i2:AC)(f1 f2:!AC):Prop where
 TIz:TI≠z
 TOz:TO≠z
 i1z:i1≠z
 i2z:i2≠z
 TITO:TI≠TO
 TIi1:TI≠i1
 TIi2:TI≠i2
 TOi1:TO≠i1
 TOi2:TO≠i2
 z1:z∉f1
 z2:z∉f2
 o1:TO∉f1
 o2:TO∉f2
 a1:i2∉f1
 a2:i1∉f2
structure Zip(S1 S2:Nat->Db->Prop)(z TI TO i1 i2:AC)(f0:AT)(k1 k2:Nat)(h:Db):Prop where
 zip:IsZip h z TI TO f0
 ins:PP h TI (.ref i1) (.ref i2)
 out:∃ a b,PP h TO a b
 SX:S1 k1 h
 Lg:S2 k2 h
theorem but{c:AC}{f:!AC}{h h':Db}{S:Nat->Db->Prop}{it:AC}{n k:Nat}{P:Nat->AT->Prop}(D:Draws prog w A it f n P S)(x:Db.SameBut c h h')(hc:c∉f)(st:S k h):S k h' :=
 D.frame _ _ _ st λb hb o e=>x.extBut _ _ (λq=>hc (q▸hb)) e
theorem next_item{k:Nat}{Q:acb}(X:Apart z TI TO i1 i2 f1 f2)(D1:Draws prog w A i1 f1 n1 P1 S1)(D2:Draws prog w A i2 f2 n2 P2 S2)(Z:Zip S1 S2 z TI TO i1 i2 .none k k s.heap)(h1:k < n1)(h2:k < n2)(hQ:∀ x y h' tk,P1 k x->P2 k y->Zip S1 S2 z TI TO i1 i2 (SC ↑s) (k+1) (k+1) h'->PP h' ↑s x y->h'.objs.size=↑s+1 ->
   (∀ c o,c≠z->c≠TO->c≠i1->c≠i2->s.heap.get? c=some o->h'.get? c=some o)->Q (.ref ↑s) { s with heap:=h',toks:=tk }) :
  EQ (model prog w) A (GT.«zip.__next__» #[[.ref z],[]]) (λfin s'=>∃ v,fin=.done (.ret v)/\Q v s') E s:=by
 let(hz,hTI,(a,b,hTO),t1,t2):=Z;change EQ _ _ (field (.ref z) 2 >>= _) _ _ _;show Da (NE hz U (x:=.bool false) U ?_);change EQ _ _ (field (.ref z) 3 >>= _) _ _ _;show Da (NE hz U (x:=.ref TI) U (Da (Rs hTI U ?_)));change EQ _ _ (GT.SmallTypes.ownedTupleIsFree (.ref z) >>= _) _ _ _;show Da ?_;unfold GT.SmallTypes.ownedTupleIsFree;show Da (NE hz U (x:=.none) U (GE ?_));simp only[if_true];show Da (wpAny_rule (Da (NE hz U (x:=.ref TO) U (Da (wpAny_setField_rec hz (by simp) λha hza sa=>?_)))))
 replace hza:IsZip ha z TI TO .ellipsis:=hza
 show Da ?_;simp only[List.zipIdx_cons,List.zipIdx_nil,List.forIn_cons,List.forIn_nil];show Da (Da (wpAny_onRaise ?_));change EQ _ _ (GT.SmallTypes.nextOf (.ref i1) >>= _) _ _ _;show Da (D1.item k _ _ _ h1 (but D1 sa X.z1 t1) λx hb tk1 px t1b sb=>GE ?_);have ob:PP hb TO a b:=sb.extBut _ _ X.TOi1 (sa.extBut _ _ X.TOz hTO);show Da (Rs ob U (Da (wpAny_updateSeq_pair ob λhc oc sc=>Da (wpAny_letGo (GE ?_)))))
 replace oc:PP hc TO x b:=oc
 show Da (Da (wpAny_onRaise ?_));change EQ _ _ (GT.SmallTypes.nextOf (.ref i2) >>= _) _ _ _;show Da (D2.item k _ _ _ h2 (but D2 sc X.o2 (but D2 sb X.a2 (but D2 sa X.z2 t2))) λy hd tk2 py t2d sd=>GE ?_);have od:PP hd TO x b:=sd.extBut _ _ X.TOi2 oc;show Da (Rs od U (Da (wpAny_updateSeq_pair od λhe oe se=>Da (wpAny_letGo (GE (GE ?_))))))
 replace oe:PP he TO x y:=oe
 show Da (Rs oe U (Da (wpAny_newTuple ?_)));have hsz:he.objs.size=↑s:=by rw[se.1,sd.1,sc.1,sb.1,sa.1]
 have ze:IsZip he z TI TO .ellipsis:=se.extBut _ _ X.TOz.symm (sd.extBut _ _ X.i2z.symm (sc.extBut _ _ X.TOz.symm (sb.extBut _ _ X.i1z.symm hza)));have ke:∀ c o,c≠z->c≠TO->c≠i1->c≠i2->s.heap.get? c=some o->he.get? c=some o:=λc o c1 c2 c3 c4 e =>
  se.extBut _ _ c2 (sd.extBut _ _ c4 (sc.extBut _ _ c2 (sb.extBut _ _ c3 (sa.extBut _ _ c1 e))))
 have t1e:S1 (k+1) he:=but D1 se X.o1 (but D1 sd X.a1 (but D1 sc X.o1 t1b));have t2e:S2 (k+1) he:=but D2 se X.o2 t2d;have hzlt:z < he.objs.size:=aar ze;change EQ _ _ (GT.SmallTypes.ownedTupleHandOut (.ref z) (.ref he.objs.size) >>= _) _ _ _;show Da ?_;unfold GT.SmallTypes.ownedTupleHandOut;have zf:IsZip (he.push { cls:=.type "tuple",data:=.seq #v[x,y] }) z TI TO .ellipsis:=aae _ ze;show Da (wpAny_setField_rec zf (by simp) λhg zg sg=>?_)
 replace zg:IsZip hg z TI TO (SC he.objs.size):=zg
 show wpAny_setField_rec zg (by simp) λhh zh sh=>?_
 replace zh:IsZip hh z TI TO (SC he.objs.size):=zh
 have up:∀ c o,c≠z->he.get? c=some o->hh.get? c=some o:=λc o c1 e=>sh.extBut _ _ c1 (sg.extBut _ _ c1 (aae _ e));have pT:PP hh he.objs.size x y:=sh.extBut _ _ (abz hzlt) (sg.extBut _ _ (abz hzlt) (aat _ U));have z8:hh.objs.size=he.objs.size+1:=by rw[sh.1,sg.1,aaV]
 rw[hsz] at zh pT z8;show GE #[_,U,?_];change Q (.ref he.objs.size) _;rw[hsz];show hQ x y hh _ px py #[zh,up _ _ X.TIz (ke _ _ X.TIz X.TITO X.TIi1 X.TIi2 hTI),#[_,_,up _ _ X.TOz oe],?_,?_] pT z8 λc o c1 c2 c3 c4 e=>up c o c1 (ke c o c1 c2 c3 c4 e)
 .exact D1.frame _ _ _ t1e λq hq o e=>up q o (λr=>X.z1 (r▸hq)) e
 .exact D2.frame _ _ _ t2e λq hq o e=>up q o (λr=>X.z2 (r▸hq)) e
def Ends(prog:Fa)(w:FB)(A:Fr)(it:AC)(S:Db->Prop):Prop:=∀ (s:Cl) (Q:acb) (E:acb),S s.heap ->
  (∀ h' e,Db.ExtBut it s.heap h'->(∃ o,h'.get? e=some o/\o.cls=.type "StopIteration")->E (.ref e) { s with heap:=h' })->EQ (model prog w) A (GT.SmallTypes.nextOf (.ref it)) Q E s
theorem next_end{k:Nat}{Q:PySem.Fin->Cl->Prop}(X:Apart z TI TO i1 i2 f1 f2)(D1:Draws prog w A i1 f1 n1 P1 S1)(D2:Draws prog w A i2 f2 n2 P2 S2)(Z:Zip S1 S2 z TI TO i1 i2 .none k k s.heap)(hk:Ends prog w A i1 (S1 k)\/(k < n1/\Ends prog w A i2 (S2 k)))(hE:∀ h' e tk,(∀ c o,c≠z->c≠TO->c≠i1->c≠i2->s.heap.get? c=some o->h'.get? c=some o)->(∃ o,h'.get? e=some o/\o.cls=.type "StopIteration")->E (.ref e) { s with heap:=h',toks:=tk }) :
  EQ (model prog w) A (GT.«zip.__next__» #[[.ref z],[]]) Q E s:=by
 let(hz,hTI,(a,b,hTO),t1,t2):=Z;change EQ _ _ (field (.ref z) 2 >>= _) _ _ _;show Da (NE hz U (x:=.bool false) U ?_);change EQ _ _ (field (.ref z) 3 >>= _) _ _ _;show Da (NE hz U (x:=.ref TI) U (Da (Rs hTI U ?_)));change EQ _ _ (GT.SmallTypes.ownedTupleIsFree (.ref z) >>= _) _ _ _;show Da ?_;unfold GT.SmallTypes.ownedTupleIsFree;show Da (NE hz U (x:=.none) U (GE ?_));simp only[if_true];show Da (wpAny_rule (Da (NE hz U (x:=.ref TO) U (Da (wpAny_setField_rec hz (by simp) λha hza sa=>?_)))))
 replace hza:IsZip ha z TI TO .ellipsis:=hza
 show Da ?_;simp only[List.zipIdx_cons,List.zipIdx_nil,List.forIn_cons,List.forIn_nil];show Da (Da (wpAny_onRaise ?_));change EQ _ _ (GT.SmallTypes.nextOf (.ref i1) >>= _) _ _ _;rcases hk with d1 | ⟨h1,d2⟩
 rotate_left
 .refine Da (D1.item k _ _ _ h1 (but D1 sa X.z1 t1) λx hb tk1 px t1b sb=>GE ?_);have ob:PP hb TO a b:=sb.extBut _ _ X.TOi1 (sa.extBut _ _ X.TOz hTO);show Da (Rs ob U (Da (wpAny_updateSeq_pair ob λhc oc sc=>Da (wpAny_letGo (GE ?_)))));show Da (Da (wpAny_onRaise ?_));change EQ _ _ (GT.SmallTypes.nextOf (.ref i2) >>= _) _ _ _;show Da (d2 _ _ _ (but D2 sc X.o2 (but D2 sb X.a2 (but D2 sa X.z2 t2))) λhd e sd he=>?_);let(oe,hoe,hce):=he;have zd:IsZip hd z TI TO .ellipsis:=sd _ _ X.i2z.symm (sc.extBut _ _ X.TOz.symm (sb.extBut _ _ X.i1z.symm hza));have hez:e≠z:=λx=>by subst x;rw[zd] at hoe;cases hoe;simp at hce
  exact wpAny_setField_rec zd (by simp) λhf _ sf=>hE hf e _ (λc o c1 c2 c3 c4 x=>sf.extBut _ _ c1 (sd _ _ c4 (sc.extBut _ _ c2 (sb.extBut _ _ c3 (sa.extBut _ _ c1 x))))) #[oe,sf.extBut _ _ hez hoe,hce]
 .refine Da (d1 _ _ _ (but D1 sa X.z1 t1) λhb e sb he=>?_);let(oe,hoe,hce):=he;have zb:IsZip hb z TI TO .ellipsis:=sb _ _ X.i1z.symm hza;have hez:e≠z:=λx=>by subst x;rw[zb] at hoe;cases hoe;simp at hce
  exact wpAny_setField_rec zb (by simp) λhf _ sf=>hE hf e _ (λc o c1 _ c3 _ x=>sf.extBut _ _ c1 (sb _ _ c3 (sa.extBut _ _ c1 x))) #[oe,sf.extBut _ _ hez hoe,hce]
theorem Ic{k:Nat}{Q:Option AT->Cl->Prop}(X:Apart z TI TO i1 i2 f1 f2)(D1:Draws prog w A.in1 i1 f1 n1 P1 S1)(D2:Draws prog w A.in1 i2 f2 n2 P2 S2)(Z:Zip S1 S2 z TI TO i1 i2 .none k k s.heap)(h1:k < n1)(h2:k < n2)(hQ:∀ x y h' tk,P1 k x->P2 k y->Zip S1 S2 z TI TO i1 i2 (SC ↑s) (k+1) (k+1) h'->PP h' ↑s x y->h'.objs.size=↑s+1 ->
   (∀ c o,c≠z->c≠TO->c≠i1->c≠i2->s.heap.get? c=some o->h'.get? c=some o)->Q (some (.ref ↑s)) { s with heap:=h',toks:=tk }):EQ (model prog w) A (pyNext (.ref z)) Q E s:=by
 have hT:s.TypeIs (.ref z) "zip":=#[_,Z.zip,U];unfold pyNext;exact Da (wpAny_attempt (wpAny_callSpecial?_slot (name:=Str.ofString "__next__") hT F.slot_zip_next
  (SZ F.slot_zip_next hT F.entry_zip_next (next_item X D1 D2 Z h1 h2 λx y h' tk a1 a2 a3 a4 a5 a6=>GE (hQ x y h' tk a1 a2 a3 a4 a5 a6)) (F.args_zip_next_1 _))))
theorem LC{k:Nat}{Q:Option AT->Cl->Prop}(X:Apart z TI TO i1 i2 f1 f2)(D1:Draws prog w A.in1 i1 f1 n1 P1 S1)(D2:Draws prog w A.in1 i2 f2 n2 P2 S2)(Z:Zip S1 S2 z TI TO i1 i2 .none k k s.heap)(hk:Ends prog w A.in1 i1 (S1 k)\/(k < n1/\Ends prog w A.in1 i2 (S2 k)))(hQ:∀ h' tk,(∀ c o,c≠z->c≠TO->c≠i1->c≠i2->s.heap.get? c=some o->h'.get? c=some o)->Q none { s with heap:=h',toks:=tk }):EQ (model prog w) A (pyNext (.ref z)) Q E s:=by
 have hT:s.TypeIs (.ref z) "zip":=#[_,Z.zip,U];unfold pyNext;show Da (wpAny_attempt (wpAny_callSpecial?_slot (name:=Str.ofString "__next__") hT F.slot_zip_next
  (SZ F.slot_zip_next hT F.entry_zip_next (next_end X D1 D2 Z hk λh' e tk kk he=>?_) (F.args_zip_next_1 _))))
 let(o,ho,hc):=he;show Da (wpAny_isInstance (T:="StopIteration") (b:=true) #[o,ho,hc] isSubtype_stop ?_);exact GE (hQ _ _ kk)
end
end PyZ
namespace PyZ
open PySem Sem L2
def we(t:Bool)(h:Db)(l:AC)(xs:Array AT):Prop:=if t=true then h.IsTuple l xs else h.IsList l xs
def Ll(t:Bool)(l:AC):Obj:={ cls:=.type (if t=true then "tuple_iterator" else "list_iterator"),data:=.fields #v[.ref l,.int 0 0] }
theorem we.at{t:Bool}{h h':Db}{l:AC}{xs:Array AT}(x:we t h l xs)(k:∀ o,h.get? l=some o->h'.get? l=some o):we t h' l xs:=by
 cases t with
 | true =>
  let(o,e,r):=(show h.IsTuple l xs from x);exact#[o,k o e,r]
 | false=>exact Db.IsList.at (show h.IsList l xs from x) k
section
variable{prog:Fa}{w:FB}{A:Fr}{E:acb}{s:Cl}
theorem Fb{t:Bool}{l:AC}{xs:Array AT}{Q:acb}(hl:we t s.heap l xs)(h:Q (.ref ↑s) { s with heap:=s.heap.push (Ll t l) }):EQ (model prog w) A (pyIter (.ref l)) Q E s:=by
 cases t with
 | true=>exact wpAny_pyIter_tuple (show s.heap.IsTuple l xs from hl) h
 | false=>exact wpAny_pyIter_list (show s.heap.IsList l xs from hl) h
theorem p6(t:Bool)(hh:A.handled=none)(it l:AC)(pC:l≠it)(xs:Array AT):Draws prog w A it [it,l] xs.size (λi v=>xs[i]?=some v) (λi h=>lB t h it l i/\we t h l xs):=by
 cases t with
 | true=>exact IY.D5 hh it l pC xs
 | false=>exact Draws.list hh it l pC xs
end
theorem Ey{prog:Fa}{w:FB}{A:Fr}(t:Bool)(hh:A.handled=none){it l:AC}{xs:Array AT}{k:Nat}(hk:xs.size<=k):Ends prog w A it (λh=>lB t h it l k/\we t h l xs):=λs Q E z0r hE=>by
 let(a,b):=z0r;have hn:xs[k]?=none:=Array.getElem?_eq_none hk;cases t with
 | true=>exact IY.eV hh (show s.heap.IsTupleIter it l k from a) (show s.heap.IsTuple l xs from b) hn hE
 | false=>exact wpAny_nextOf_list_end hh (show s.heap.IsListIter it l k from a) (show s.heap.IsList l xs from b) hn hE
abbrev q1(t1:Bool)(h:Db)(l1:AC):Db:=h.push (Ll t1 l1)
abbrev q2(t1 t2:Bool)(h:Db)(l1 l2:AC):Db:=(q1 t1 h l1).push (Ll t2 l2)
abbrev q3(t1 t2:Bool)(h:Db)(l1 l2:AC):Db:=(q2 t1 t2 h l1 l2).push { cls:=.type "tuple",data:=.seq #v[.ref h.objs.size,.ref (q1 t1 h l1).objs.size] }
abbrev q4(t1 t2:Bool)(h:Db)(l1 l2:AC):Db:=(q3 t1 t2 h l1 l2).push { cls:=.type "tuple",data:=.seq #v[.none,.none] }
abbrev q5(t1 t2:Bool)(h:Db)(l1 l2:AC):Db:=(q4 t1 t2 h l1 l2).push { cls:=.type "zip",data:=.fields #v[.none,.bool false,.bool false,.ref (q2 t1 t2 h l1 l2).objs.size,.ref (q3 t1 t2 h l1 l2).objs.size] }
theorem BR(t1 t2:Bool)(l1 l2:AC)(xs ys:Array AT) :
  Meets (GT.«zip.__new__» #[[.type "zip",.ref l1,.ref l2],[]]) (λ_ R s=>we t1 s.heap l1 xs/\we t2 s.heap l2 ys /\
   R (.ok (.ret (.ref (q4 t1 t2 s.heap l1 l2).objs.size))) { s with heap:=q5 t1 t2 s.heap l1 l2 }) :=
 .of_wp λprog w A R s h=>by
  let(hp,g,d,tk,os):=s;let(Af,Lv,h):=h;have hsub:=sub_zip;have hL1:we t1 (Cl.heap #[hp,g,d,tk,os]) l1 xs:=Af;have hL2:we t2 (Cl.heap #[hp.push (Ll t1 l1),g,d,tk,os]) l2 ys:=we.at Lv λo e=>aae _ e
  wp_walk using Fb hL1,Fb hL2
  exact#[_,U,h]
section
variable{prog:Fa}{w:FB}{A:Fr}{E:acb}{s:Cl}
theorem xQ{t:Bool}{h:Db}{it l:AC}(e:h.get? it=some (Ll t l)):lB t h it l 0:=by
 cases t with
 | true=>exact (show h.IsTupleIter it l 0 from #[_,e,U,U])
 | false=>exact (show h.IsListIter it l 0 from #[_,e,U,U])
theorem CU{t1 t2:Bool}{l1 l2:AC}{xs ys:Array AT}{Q:acb}(Af:we t1 s.heap l1 xs)(Lv:we t2 s.heap l2 ys)(h:∀ h',IsZip h' (↑s+4) (↑s+2) (↑s+3) .none->PP h' (↑s+2) (.ref ↑s) (.ref (↑s+1)) ->
   PP h' (↑s+3) .none .none->lB t1 h' ↑s l1 0->lB t2 h' (↑s+1) l2 0->h'.objs.size=↑s+5 ->
   (∀ c o,s.heap.get? c=some o->h'.get? c=some o)->Q (.ref (↑s+4)) { s with heap:=h' }) :
  EQ (model prog w) A (call (.type "zip") [.ref l1,.ref l2]) Q E s:=by
 show callType_new F.called_zip () (F.typeCall_zip_2 _ _) (F.newCall_zip_2 _ _) (λobj=>F.args_object_init_3 obj _ _) F.entry_zip_new (BR t1 t2 l1 l2 xs ys) #[Af,Lv,?_];have z1:(q1 t1 s.heap l1).objs.size=↑s+1:=aaV ..;have z2:(q2 t1 t2 s.heap l1 l2).objs.size=↑s+2:=by rw[aaV,z1]
 have z3:(q3 t1 t2 s.heap l1 l2).objs.size=↑s+3:=by rw[aaV,z2]
 have z4:(q4 t1 t2 s.heap l1 l2).objs.size=↑s+4:=by rw[aaV,z3]
 have z5:(q5 t1 t2 s.heap l1 l2).objs.size=↑s+5:=by rw[aaV,z4]
 have g5:(q5 t1 t2 s.heap l1 l2).get? (q4 t1 t2 s.heap l1 l2).objs.size=some _:=aat _ U;have g4:(q5 t1 t2 s.heap l1 l2).get? (q3 t1 t2 s.heap l1 l2).objs.size=some _:=aae _ (aat _ U);have g3:(q5 t1 t2 s.heap l1 l2).get? (q2 t1 t2 s.heap l1 l2).objs.size=some _:=aae _ (aae _ (aat _ U));have g2:(q5 t1 t2 s.heap l1 l2).get? (q1 t1 s.heap l1).objs.size=some (Ll t2 l2):=aae _ (aae _ (aae _ (aat _ U)));have g1:(q5 t1 t2 s.heap l1 l2).get? ↑s=some (Ll t1 l1):=aae _ (aae _ (aae _ (aae _ (aat _ U))));change _/\_;rw[z2,z3,z4] at g5;rw[z1,z2] at g3;rw[z3] at g4;rw[z1] at g2;rw[z4];exact#[#[_,g5,U],h _ g5 g3 g4 (xQ g1) (xQ g2) z5 λc o x =>
  aae _ (aae _ (aae _ (aae _ (aae _ x))))]
end
end PyZ
namespace L2
open PySem PySem.Spec PyZ
open PyProof.Rows hiding St
def Y5(K:Frag)(t1 t2:Bool)(a b:AC):It :=
 #[λi H=>∃ xs ys x y,(vY K t1 H a xs/\vY K t2 H b ys)/\xs[i]?=some x/\ys[i]?=some y,
  λi H x H'=>∃ p,H p=none/\x=.ref p/\∀ xs ys,vY K t1 H a xs->vY K t2 H b ys->∃ u v,xs[i]?=some u/\ys[i]?=some v/\H'=upd H p (.tup [u,v]),
  λi H=>∃ xs ys,(vY K t1 H a xs/\vY K t2 H b ys)/\min xs.length ys.length<=i]
section
variable{P:Fa}{w:FB}{K:Frag}
theorem n6{X:Cx}{TW:acd}{σ:St}{H:Hp}{s:Cl}{a:AC}{t:Bool}{xs:!V}(I:Inv X TW σ H s)(h:vY X.K t H a xs):∃ its:!AT,Vals xs its/\we t s.heap a its.toArray/\xs.length<=FS:=by
 cases t with
 | true =>
  let(its,r,p,hz):=I.tuple (show iu X.K H a xs from h);exact#[its,r,p,hz]
 | false =>
  let(its,r,p,hz):=I.list (show dN X.K H a xs from h);exact#[its,r,p.isList,hz]
structure O3(t1 t2:Bool)(z TI TO i1 i2 a b:AC)(i:Nat)(h:Db):Prop where
 zip:IsZip h z TI TO .none
 ins:PP h TI (.ref i1) (.ref i2)
 out:∃ u v,PP h TO u v
 e1:lB t1 h i1 a i
 e2:lB t2 h i2 b i
theorem CT(t1 t2:Bool){elts:!Ch}{k:Nat}{mS:Pos}{z TI TO i1 i2 a b:AC}(Y:Apart z TI TO i1 i2 [i1,a] [i2,b])(ha:a≠i1)(hb:b≠i2):Turn P w K (.Tuple elts k mS) (Y5 K t1 t2 a b) [z,TI,TO,i1,i2] z (O3 t1 t2 z TI TO i1 i2 a b) where
 mem:=by simp
 obj:=λi h st c hc=>by
  simp only[List.mem_cons,List.not_mem_nil,or_false] at hc;rcases hc with rfl | rfl | rfl | rfl | rfl
  .exact#[_,st.zip,λv q=>by
    have q':Data.fields _=Data.cell v:=q;cases q']
  .exact#[_,st.ins,λv q=>by
    have q':Data.seq _ _=Data.cell v:=q;cases q']
  .let(u,v,e):=st.out;exact#[_,e,λv q=>by
    have q':Data.seq _ _=Data.cell v:=q;cases q']
  .exact st.e1.obj
  .exact st.e2.obj
 keep:=λi h h' st kk=>#[kk z (by simp) _ st.zip,kk TI (by simp) _ st.ins,let #[u,v,e]:=st.out;#[u,v,kk TO (by simp) _ e],st.e1.at λo x=>kk i1 (by simp) o x,st.e2.at λo x=>kk i2 (by simp) o x]
 item:=by
  intro X hP hw hK hc i TW s σ H E I hf st hg;subst hP hw hK;let(xs,ys,x,y,(hx,hy),ex,ey):=hg;let(its1,r1,p1,_):=n6 I hx;let(its2,r2,p2,_):=n6 I hy;let(u,hu,ru):=r1.get ex;let(v,hv,rv):=r2.get ey;have hd:(X.A.in1).handled=none:=I.ok.hd hc;show Ic Y (p6 t1 hd i1 a ha its1.toArray) (p6 t2 hd i2 b hb its2.toArray) #[st.zip,st.ins,st.out,#[st.e1,p1],#[st.e2,p2]] ?_ ?_ λu' v' h' tk pu pv Z pT hsz hk=>?_
  .have:=(aaf.mp hu).1;simpa using this
  .have:=(aaf.mp hv).1;simpa using this
  have e1:u'=u:=by
   have q:its1[i]?=some u':=by simpa using pu
   rw[hu] at q;exact (aaJ q).symm
  have e2:v'=v:=by
   have q:its2[i]?=some v':=by simpa using pv
   rw[hv] at q;exact (aaJ q).symm
  subst e1;subst e2;show#[_,U,wpAny_letOwnedTupleGo_zip (s:={ s with heap:=h',toks:=tk }) Z.zip λh2 z2 s2=>?_];have hzlt:z < ↑s:=aar st.zip;have keep:∀ c o,c∉[z,TI,TO,i1,i2]->s.heap.get? c=some o->h2.get? c=some o:=λc o hc q=>by
   simp only[List.mem_cons,List.not_mem_nil,or_false,not_or] at hc;exact s2.extBut _ _ hc.1 (hk c o hc.1 hc.2.2.1 hc.2.2.2.1 hc.2.2.2.2 q)
  have hfr:H ↑s=none:=I.bM.fresh (aah _);have I1:Inv X TW σ (upd H ↑s (.tup [x,y])) { s with heap:=h2,toks:=tk } :=
   Inv.Bd I keep hf (aah _) #[by change 2<=FS;decide,[u',v'],.cons ru (.cons rv .nil),#[_,s2.extBut _ _ (abz hzlt) pT,U,_,U,U]]
  show#[.ref ↑s,_,I1,U,#[↑s,hfr,U,λzs ws q1 q2=>#[x,y,?_,?_,U]],#[z2,s2.extBut _ _ Y.TIz Z.ins,let #[p,q,e]:=Z.out;#[p,q,s2.extBut _ _ Y.TOz e],Z.SX.1.at λo e=>s2.extBut _ _ Y.i1z e,Z.Lg.1.at λo e=>s2.extBut _ _ Y.i2z e],λc hc=>?_]
  .rw[pX I hx q1];exact ex
  .rw[pX I hy q2];exact ey
  .have jN:c < ↑s:=by
    simp only[List.mem_cons,List.not_mem_nil,or_false] at hc;rcases hc with rfl | rfl | rfl | rfl | rfl
    .exact hzlt
    .exact aar st.ins
    .let(_,_,e):=st.out;exact aar e
    .let(o,e,_):=st.e1.obj;exact aar e
    .let(o,e,_):=st.e2.obj;exact aar e
   rw[aA (aaD jN)];exact (hf c hc).1
 done:=by
  intro X hP hw hK hc i TW s σ H E I hf st hg;subst hP hw hK;let(xs,ys,(hx,hy),hm):=hg;let(its1,r1,p1,_):=n6 I hx;let(its2,r2,p2,_):=n6 I hy;have l1:=r1.length;have l2:=r2.length;have hd:(X.A.in1).handled=none:=I.ok.hd hc;show LC Y (p6 t1 hd i1 a ha its1.toArray) (p6 t2 hd i2 b hb its2.toArray) #[st.zip,st.ins,st.out,#[st.e1,p1],#[st.e2,p2]] ?_ λh' tk hk=>#[U,Inv.mP (t':=tk) I (λc o hc q=>?_) hf]
  .by_cases h1:i < its1.length
   .exact .inr #[by simpa using h1,Ey t2 hd (by simp;cbv)]
   .exact .inl (Ey t1 hd (by simp;cbv))
  .simp only[List.mem_cons,List.not_mem_nil,or_false,not_or] at hc;exact hk c o hc.1 hc.2.2.1 hc.2.2.2.1 hc.2.2.2.2 q
 self:=λ_ _ _ _ _ st h=>wpAny_pyIter_zip st.zip h
end
section
variable{X:Cx}
theorem we.lt{t:Bool}{h:Db}{l:AC}{xs:Array AT}(x:we t h l xs):l < h.objs.size:=by
 cases t with
 | true =>
  let(o,e,_):=(show h.IsTuple l xs from x);exact aar e
 | false =>
  let(o,e,_):=(show h.IsList l xs from x);exact aar e
theorem apart_new{n l1 l2:Nat}(h1:l1 < n)(h2:l2 < n):Apart (n+4) (n+2) (n+3) n (n+1) [n,l1] [n+1,l2]:=by
 have ne:∀ (a b:Nat),¬ a=b->¬ ((n+a:Nat):AC)=(n+b:Nat):=λa b h e=>h (Nat.add_left_cancel (show n+a=n+b from e));have nl:∀ {l:Nat} (a:Nat),l < n->¬ ((n+a:Nat):AC)=l:=λ{l} a h e=>abt l (aay h (aap (Nat.le_add_right n a) (Nat.le_of_eq e)));have two:∀ {x a b:AC},¬ x=a->¬ x=b->x∉[a,b]:=λh k z=>(aaj.mp z).elim h λz=>k (aag.mp z);exact#[ne 2 4 (),ne 3 4 (),ne 0 4 (),ne 1 4 (),ne 2 3 (),ne 2 0 (),ne 2 1 (),ne 3 0 (),ne 3 1 (),two (ne 4 0 ()) (nl 4 h1),two (ne 4 1 ()) (nl 4 h2),two (ne 3 0 ()) (nl 3 h1),two (ne 3 1 ()) (nl 3 h2),two (ne 1 0 ()) (nl 1 h1),two (ne 0 1 ()) (nl 0 h2)]
def WL(K:Frag)(t:TA):TI:=λσ H R=>t σ H λvs H1=>∃ a b t1 t2 xs ys,vs=[.ref a,.ref b]/\(vY K t1 H1 a xs/\vY K t2 H1 b ys)/\(xs.length<=FS->R (Y5 K t1 t2 a b) H1)
theorem LH{elts:!Ch}{k:Nat}{mS p pos:Pos}{a b:Ch}{t:TA}(hg:Gl X "zip")(hm:X.mg "zip"=none)(ha:PA X [a,b] t)(hs:(Gc [a,b] X.env=[(false,eval a X.env),(false,eval b X.env)])⁻¹)(xX:(Gc [b] X.env=[(false,eval b X.env)])⁻¹):PI X (.Tuple elts k mS) (.Call (.Name "zip" p) [a,b] [] pos) (WL X.K t):=by
 intro TW s σ H R I h;show Call_ (j9 I hg hm (u:=.type "zip") (-()) (PyProof.Rows.callWith_type1 (cb (ha pos TW s σ H _ I h) λus s1 zz=>el2 zz λvs H1 I1 r1 q1=>?_) (by rw[hs,xX]) (by rw[xX];rfl)));let(l1,l2,t1,t2,xs,ys,e,(hx,hy),q):=q1;subst e;let(u,v,rfl,ru,rv):=Vals.two r1;cases ru;cases rv;let(its1,v1,p1,z1):=n6 I1 hx;let(its2,v2,p2,z2):=n6 I1 hy;have b1:=we.lt p1;have b2:=we.lt p2;show CU p1 p2 λh' hz hI hO e1 e2 hsz hk=>wpAny_pyIter_zip hz ?_;show#[↑s1+4,[↑s1+4,↑s1+2,↑s1+3,↑s1,↑s1+1],_,_,H1,U,I1.kept (t':=s1.toks) hk,
  CT t1 t2 (apart_new b1 b2) (aaD b1) (aaD (Nat.lt_succ_of_lt b2)),#[hz,hI,#[_,_,hO],e1,e2],λc hc=>?_,q z1]
 .have hle:↑s1<=c:=by
   simp only[List.mem_cons,List.not_mem_nil,or_false] at hc;rcases hc with e | e | e | e | e<;>(rw[e];first | exact aah _ | exact Nat.le_add_right _ _)
  exact I1.u7 hle (I1.bM.fresh hle)
end
end L2
namespace DL
open PySem PySem.Spec L2
open PyProof.Rows hiding St
section
variable{X:Cx}{c:Ent}
def uF(xs ys:!D):!D:=xs.zipWith (λx y=>.tup [x,y]) ys
def Ms:D->Option (!D)
 | .lst ds=>some ds
 | .tup ds=>some ds
 | _=>none
def N1(t:eQ):eQ:=λs Q=>t s λas s1=>∃ d e xs ys,as=[d,e]/\(Ms d=some xs/\Ms e=some ys)/\Q (uF xs ys) s1
theorem xk{xs ys:!D}:(uF xs ys).length=min xs.length ys.length:=by simp[uF]
theorem Dl{xs ys:!D}{i:Nat}{d:D}(h:(uF xs ys)[i]?=some d):∃ x y,xs[i]?=some x/\ys[i]?=some y/\d=.tup [x,y]:=by
 unfold uF at h;rw[ab9] at h;cases e:xs[i]? with
 | none=>rw[e] at h;cases h
 | some x =>
  cases e2:ys[i]? with
  | none=>rw[e,e2] at h;cases h
  | some y =>
   rw[e,e2] at h;cases h;exact#[x,y,U,U,U]
theorem A6{K:Frag}{M1:AC->Prop}{H1:Hp}{d:D}{xs:!D}{v:V}(h:Ms d=some xs)(r:Rep K H1 M1 d v):∃ a t vs,v=.ref a/\aE K H1 M1 xs vs/\∀ M2 H2,d9 M1 H1 M2 H2->vY K t H2 a vs/\aE K H2 M2 xs vs:=by
 cases d with
 | lst ds =>
  cases h;let(a,vs,rfl,(m,e),r):=r;exact#[a,false,vs,U,r,λM2 H2 G=>#[dN.of ((G a m).2 _ e),G.vo r]]
 | tup ds =>
  cases h;let(a,vs,rfl,e,r):=r;exact#[a,true,vs,U,r,λM2 H2 G=>#[(e.mono (λb m=>(G b m).1) λb o m e=>(G b m).2 o e).sq,G.vo r]]
 | _=>cases h
theorem Du{elts:!Ch}{k:Nat}{mS p pos:Pos}{a b:Ch}{t:eQ}(hg:Gl X "zip")(hm:X.mg "zip"=none)(ha:DA X c [a,b] t)(hs:(Gc [a,b] X.env=[(false,eval a X.env),(false,eval b X.env)])⁻¹)(xX:(Gc [b] X.env=[(false,eval b X.env)])⁻¹):DI X c (.Tuple elts k mS) (.Call (.Name "zip" p) [a,b] [] pos) (N1 t) :=
 #[λTW s σ H R I zz=>cQ zz λM s0 as R0 L q k=>LH hg hm ha.pa hs xX TW s σ H R I
  #[M,s0,as,_,L,q,λads s1 z1r M1 H1 vs L1 E1 rv _=>by
   let(d,e,xs,ys,ead,(hd,he),q1):=z1r;subst ead;let(u,v,rfl,ru,rw):=uo rv;let(a,t1,us,rfl,r1,g1):=A6 hd ru;let(b,t2,ws,rfl,r2,g2):=A6 he rw;have G0:d9 M1 H1 M1 H1:=λb m=>#[m,λ_ h=>h];show#[a,b,t1,t2,us,ws,U,#[(g1 M1 H1 G0).1,(g2 M1 H1 G0).1],λhl=>k _ s1 q1 M1 H1 _ L1 E1 (λM2 H2 G=>?_) (by rw[xk,<- r1.length];cbv)];let(h1,y1):=g1 M2 H2 G;let(h2,y2):=g2 M2 H2 G;show#[λi hi=>#[us,ws,#[h1,h2],by rw[r1.length,r2.length];rw[xk] at hi;exact hi],λi d hd=>?_];let(x,y,ex,ey,rfl):=Dl hd;let(v1,c1,c2):=y1.get ex;let(v2,c3,c4):=y2.get ey;show#[#[us,ws,v1,v2,#[h1,h2],c1,c3],λx H3 #[b,hb,ex,hx]=>.inr ?_];let(w1,w2,m1,m2,m3):=hx us ws h1 h2;rw[c1] at m1;rw[c3] at m2;cases m1;cases m2;subst m3;exact#[b,_,hb,U,b,_,ex,#[.inr U,aD],#[_,_,U,zL hb c2,_,_,U,zL hb c4,U]]]]
theorem aG.over{K:Frag}{c:Ent}{M:AC->Prop}{s:DS}{as:!AC}{σ:St}{H:Hp}{p:AC}{o:HO}{ys:!(Key×V)}(L:aG K c M s as σ H)(hq:H p=some (.dK ys))(n1:¬ M p)(n2:¬ c.g.own p)(n3:¬ dO s as p)(n4:c.H0 p=none):aG K c M s as σ (upd H p o):=by
 have ne:∀ b,M b->b≠p:=λb m q=>n1 (q▸m);have ng:∀ b,c.g.own b->b≠p:=λb m q=>n2 (q▸m);have n0:∀ b u,c.H0 b=some u->b≠p:=λb u e q=>by rw[q,n4] at e;cases e
 show#[#[c.g.loc H _ L.base.nZ λb u g e=>?_,λb u e g=>?_,λb m=>?_,L.base.mo,L.base.m0,L.base.mn],L.len,L.dA,λi d e=>?_,L.own,λk d a e1 e2=>?_,L.inj,L.lt]
 .rw[aA (g.elim (ng b) λ#[φ,f] z=>by subst f;rw[z,hq] at e;cases e)];exact e
 .rw[aA (n0 b u e)];exact L.base.fr b u e g
 .let(u,e):=L.base.md b m;exact#[u,by rw[aA (ne b m)];exact e]
 .let(v,h1,h2):=L.dat i d e;exact#[v,h1,Rep.mono (λ_ h=>h) (λb u m e=>by rw[aA (ne b m)];exact e) d v h2]
 .let((u,q,r),q1):=L.obj k d a e1 e2;show#[#[u,?_,cy.mono (λ_ h=>h) (λb u m e=>by rw[aA (ne b m)];exact e) r],q1];have na:a≠p:=λz=>n3 #[k,d,e1,z▸e2];rw[aA na];exact q
def yp:!(Str×aU)->eQ
 | [],s,Q=>Q [] s
 | kt::r,s,Q=>kt.2 s λd s1=>yp r s1 λds s2=>Q (d::ds) s2
def Er(K:Frag)(c:Ent)(kP:!(Str×aU)):!(TE×TE):=kP.map λkt=>(tC (.str kt.1),tE K c kt.2)
structure VJ(X:Cx)(c:Ent)(pos:Pos)(keys:!(Option Ch))(values:!Ch)(kP:!(Str×aU)):Prop where
 pp:RV X pos keys values (Er X.K c kP)
 kl:keys.length=kP.length
theorem Iu{pos:Pos}:VJ X c pos [] [] []:=#[AH,U]
theorem qW{pos pk:Pos}{k:Str}{j}{v:Ch}{ks:!(Option Ch)}{vs:!Ch}{te:aU}{kP:!(Str×aU)}(hv:DE X c v te)(hr:VJ X c pos ks vs kP):VJ X c pos (some (.Constant (.str k) j pk)::ks) (v::vs) ((k,te)::kP):=#[mJ d5 hv.pe hr.pp,by rw[aam,aam,hr.kl]]
def mj:!(Str×aU)->!V->!(Key×V)
 | kt::r,v::vs=>(.inr kt.1,v)::mj r vs
 | _,_=>[]
theorem wj{σ:St}{as:!AC}:∀ (kP:!(Str×aU)) {M:AC->Prop} {s:DS} {H:Hp} {R:!D->DS->Prop} {Q:!(V×V)->Hp->Prop},aG X.K c M s as σ H->yp kP s R ->
  (∀ ds s',R ds s'->∀ M' H' vs,aG X.K c M' s' as σ H'->Ext c as M s H M' s' H'->aE X.K H' M' ds vs->ds.length=kP.length->Q ((mj kP vs).map λkv=>(kV kv.1,kv.2)) H')->ql (Er X.K c kP) σ H Q
 | [],M,s,H,R,Q,L,q,k=>k [] s q M H [] L .refl U U
 | kt::r,M,s,H,R,Q,L,q,k=>by
  change tC (.str kt.1) σ H λx H1=>tE X.K c kt.2 σ H1 λy H2=>ql (Er X.K c r) σ H2 λps H3=>Q ((x,y)::ps) H3;show#[M,s,as,_,L,q,λd s1 q1 M1 H1 v L1 E1 rv=>?_];show wj r L1 q1 λds s2 q2 M2 H2 vs Lb E2 rvs hl=>?_;exact k (d::ds) s2 q2 M2 H2 (v::vs) Lb (E1.trans L1.base E2) #[v,vs,U,E2.rep L1 rv,rvs] (by rw[aam,aam,hl])
theorem oA:∀ (more kvs:!(Key×V)),(∀ a∈kvs,∀ b∈more,a.1≠b.1)->(more.map (·.1)).Nodup->hV kvs more=kvs++more
 | [],kvs,_,_=>by simp[hV]
 | b::more,kvs,h,nd=>by
  rw[aao,aaS] at nd;have hp:putK kvs b.1 b.2=kvs++[b]:=by
   unfold putK;rw[if_neg];intro q;let(a,m,e):=ab6.mp q;exact h a m b aad (of_decide_eq_true e)
  change hV (putK kvs b.1 b.2) more=_;rw[hp,oA more (kvs++[b]) (λa ha x hx=>?_) nd.2,aaz]
  .rfl
  .rcases aaw.mp ha with ha | ha
   .exact h a ha x (aac _ hx)
   .rw[aag] at ha;subst ha;exact λe=>nd.1 (e▸aav hx)
theorem qJ:∀ (kP:!(Str×aU)) (vs:!V),vs.length=kP.length->(mj kP vs).map (·.1)=kP.map λkt=>Sum.inr kt.1
 | [],[],_=>rfl
 | [],_::_,h=>by simp at h
 | _::_,[],h=>by simp at h
 | kt::r,v::vs,h=>by rw[mj,List.map_cons,List.map_cons,qJ r vs (by simpa using h)]
theorem rR:∀ (kP:!(Str×aU)) (vs:!V),vs.length=kP.length->(mj kP vs).map (·.2)=vs
 | [],[],_=>rfl
 | [],_::_,h=>by simp at h
 | _::_,[],h=>by simp at h
 | kt::r,v::vs,h=>by rw[mj,List.map_cons,rR r vs (by simpa using h)]
def J1(kP:!(Str×aU)):aU:=λs Q=>yp kP s λds s1=>Q (.i7 (kP.map λkt=>Sum.inr kt.1) ds) s1
theorem LS{pos:Pos}{keys:!(Option Ch)}{values:!Ch}{kP:!(Str×aU)}(h:VJ X c pos keys values kP)(nd:(kP.map λkt=>(Sum.inr kt.1:Key)).Nodup)(iZ:(keys.all (·.isSome)=true)⁻¹)(hl:(keys.length=values.length)⁻¹)(h0:keys≠[]:=by simp)(NJ: ~~~(keys.length<=15)):DN X c (.Dict keys values pos) (J1 kP) :=
 #[(Ai h.pp iZ hl h0 NJ).imp λσ H Q z5q p hp=>by
   let(M,s,as,R,L,q,k):=z5q;let(n1,n2,n3,n4):=notM L hp;show wj kP (L.laid (o:=.dK []) hp) q λds s1 q1 M1 H1 vs L1 E1 rvs hd=>?_;have e1:H1 p=some (.dK []):=E1.keep p _ aD n2 n3;have m1:¬ M1 p:=λm=>by
    rcases E1.new p m with z | (z | ⟨_,z⟩) | z
    .exact n1 z
    .rw[aD] at z;cases z
    .rw[aD] at z;cases z
    .exact n3 z
   have w1:¬ dO s1 as p:=λz=>n3 (E1.iG p z);have hv:vs.length=kP.length:=by rw[rvs.length];exact hd
   have hk:=qJ kP vs hv;show#[e1,mj kP vs,U,?_,?_]
   .have:=congrArg List.length hk;rw[aaa,aaa] at this;rw[this,<- h.kl];exact NJ
   .rw[oA _ [] (λa ha=>absurd ha (by simp)) (by rw[hk];exact nd),List.nil_append];have up:∀ b u,M1 b->H1 b=some u->upd H1 p (.dK (mj kP vs)) b=some u:=λb u m e=>by
     have hb:b≠p:=λq=>m1 (q▸m);rw[aA hb];exact e
    show k _ s1 q1 M1 _ p (.dK (mj kP vs)) (L1.over e1 m1 n2 w1 n4) ?_ aD #[hk,?_] m1 n2 w1 n4 (.inl hp)
    .refine#[E1.sub,λb m=>?_,λb u e g z=>?_,E1.iG]
     .rcases E1.new b m with z | (z | ⟨xs,z⟩) | z
      .exact .inl z
      .by_cases hb:b=p
       .exact .inr (.inl (.inl (hb▸hp)))
       .rw[aA hb] at z;exact .inr (.inl (.inl z))
      .by_cases hb:b=p
       .exact .inr (.inl (.inl (hb▸hp)))
       .rw[aA hb] at z;exact .inr (.inl (.inr #[xs,z]))
      .exact .inr (.inr z)
     .have hb:b≠p:=aI e hp;rw[aA hb];exact E1.keep b u (by rw[aA hb];exact e) g z
    .rw[rR kP vs hv];exact aE.mono (λ_ h=>h) up _ _ rvs]
end
end DL
namespace L2
open PySem PySem.Spec PyProof.Rows
section
variable{X:Cx}
theorem Fz(items:Array AT):slicePick items none none (some 1)=items:=by
 have hb:sliceBounds none none (some 1) items.size=(0,(items.size:Int),1):=by first | rfl | simp[sliceBounds]
 unfold slicePick;rw[hb];change ((sliceRange 0 (items.size:Int) 1).filterMap (items[·]?)).toArray=_;have hr:sliceRange 0 (items.size:Int) 1=List.range items.size:=by
  unfold sliceRange;simp only[show (1:Int) > 0 by decide,if_true];by_cases h:(items.size:Int) > 0
  .simp only[h,if_true];apply List.ext_getElem
   .simp
   .intro i h1 h2;simp
  .have e:items.size=0:=by cbv
   rw[e];simp
 rw[hr,PySem.W.krv_all]
def lW(w:Int){α:Type}(xs:!α):!α:=if w=1 then xs else xs.reverse
def Me(K:Frag)(te tw:TE):TE:=λσ H Q=>te σ H λx H1=>tw σ H1 λy H2=>∃ a xs w,x=.ref a/\y=.int w/\(w=1\/w=-1)/\dN K H2 a xs/\∀ l,H2 l=none->Q (.ref l) (upd H2 l (.lst (lW w xs)))
theorem Cp{e st:Ch}{te tw:TE}{p2 pos:Pos}(he:PE X e te)(fC:PE X st tw):PE X (.Subscript e (.Slice none none (some st) p2) pos) (Me X.K te tw):=by
 intro TW s σ H Q I h;show Subscript_ (cb (he TW s σ H _ I h) λv s1 z3q=>?_);let(x,H1,I1,r1,q1):=z3q;show wpAny_Slice ?_;rw[evalPart_none];show GE ?_;show GE ?_;rw[evalPart_some];show cb (fC TW s1 σ H1 _ I1 q1) λu s2 z4q=>?_;let(y,H2,I2,r2,a,xs,w,ex,ey,hw,hq,q):=z4q;subst ex ey;cases r1;let(t,rfl):=r2;let(its,r,ht,hz):=I2.list hq;have hlen:=r.length;have I3:Inv X TW σ H2 { s2 with heap:=s2.heap.push { cls:=.type "slice",data:=.fields #v[.none,.none,.int w t] } }:=I2.kept (t':=s2.toks) λb ob q=>aae _ q;change EQ (model X.prog X.w) X.A (subscriptTail e (.Slice none none (some st) p2) (.ref a) (.ref ↑s2)) (EP X TW σ Q) X.xe { s2 with heap:=s2.heap.push { cls:=.type "slice",data:=.fields #v[.none,.none,.int w t] } };show tail_any (ops:=[.ref a,.ref ↑s2]) (ht.isList.push _).typeIs slot_list_getitem.lookup ?_ (by with_unfolding_all rfl);have hw0:(some w:Option Int)≠some 0:=by rcases hw with rfl | rfl<;>decide
 show wpAny_getItem_list_slice (ht.isList.push _) (Db.IsSliceOf.new ..) .none .none (.int w t) hw0 ?_ (by rw[aaC];cbv);rcases hw with rfl | rfl
 .rw[Fz];show#[.ref _,_,I3.laid (t':=s2.toks) (o:=.lst xs) (λb ob q=>aae _ q) (aah _) ?_,U,q _ (I3.bM.fresh (aah _))];exact#[hz,its,0,r,aat _ U]
 .rw[PySem.W.krv_pick];show#[.ref _,_,I3.laid (t':=s2.toks) (o:=.lst xs.reverse) (λb ob q=>aae _ q) (aah _) ?_,U,q _ (I3.bM.fresh (aah _))];exact#[by rw[List.length_reverse];exact hz,_,0,by simpa using r.reverse,Db.get?_push_size _ U]
end
end L2
namespace DL
open PySem PySem.Spec L2
open PyProof.Rows hiding St
section
variable{X:Cx}{c:Ent}
def X6:D->D->(D->Prop)->Prop:=λa b k=>∃ ds w,a=.lst ds/\b=.int w/\(w=1\/w=-1)/\k (.lst (lW w ds))
def Xg(C:D->D->(D->Prop)->Prop)(ta tb:aU):aU:=λs Q=>ta s λa s1=>tb s1 λb s2=>C a b λd=>Q d s2
theorem IU{e st:Ch}{te tw:aU}{p2 pos:Pos}(he:DE X c e te)(fC:DE X c st tw):DN X c (.Subscript e (.Slice none none (some st) p2) pos) (Xg X6 te tw):=#[(Cp he.pe fC.pe).imp λσ H Q zz=>cQ zz λM s as R L q k =>
 #[M,s,as,_,L,q,λd s1 q1 M1 H1 v L1 E1 rv=>#[M1,s1,as,_,L1,q1,λd2 s2 z2r M2 H2 v2 Lb E2 rv2=>by
  let(ds,w,e,e2,hw,q2):=z2r;subst e e2;let(p,xs,rfl,(m,t),r):=E2.rep L1 rv;show#[p,xs,w,U,rv2,hw,.of t,λb hb=>j7 (d:=.lst _) L Lb (E1.trans L1.base E2) hb ?_ (k _ s2 q2)];change aE _ _ _ (lW w ds) (lW w xs);unfold lW;split
  .exact r
  .exact r.reverse]]]
end
end DL
namespace PySem.F
end PySem.F
namespace PyZ
open PySem Sem
section
variable{prog:Fa}{w:FB}{A:Fr}{E:acb}{s:Cl}{z TI TO i1 i2:AC}{f1 f2:!AC}{n1 n2:Nat}{P1 P2:Nat->AT->Prop}{S1 S2:Nat->Db->Prop}
end
end PyZ
namespace L2
open PySem PySem.Spec PyZ
open PyProof.Rows hiding St
section
variable{X:Cx}{TW:acd}{σ:St}
end
end L2
namespace DL
open PySem PySem.Spec L2
open PyProof.Rows hiding St
section
variable{X:Cx}{c:Ent}
theorem D7{ty td:aU}{σ:St}{H:Hp}{Q:VK}:tE X.K c (xR false ty td) σ H Q->PX (tE X.K c ty) (tE X.K c td) σ H Q:=λzz=>cQ zz λM s as R L q kk =>
 #[M,s,as,_,L,q,λdy s1 q1 M1 H1 y L1 E1 ry=>#[M1,s1,as,_,L1,q1,λd s2 z3r M2 H2 v Lb E2 rv=>by
  let(hd,q2):=z3r;let(a,o,rfl,f1,f2):=rv.dc hd;let(ov,od,w1,w2,w3):=vR q2 f1 f2 (E2.rep L1 ry);show#[a,ov,U,w1,?_];have e:ov.isSome=od.isSome:=by
   rcases w3 with ⟨rfl,rfl⟩ | ⟨v,x,rfl,rfl,rx⟩<;>rfl
  rw[e];exact kk _ s2 w2 M2 H2 _ Lb (E1.trans L1.base E2) U]]
theorem zj{i o:Ch}{pos:Pos}{ty td:aU}(hu:X.A.units+1 < cLine)(hi:DE X c i ty)(ho:DE X c o td)(h1:(behindInMarks .In o=false)⁻¹):DT X c (.Compare i [.In] [o] pos) (nI (xR false ty td)) :=
 #[(DB (Fu hu hi.pe ho.pe) h1).imp λσ H Q q=>ky D7 q]
end
end DL
namespace DL
open PySem PySem.Spec L2
structure eU where
 name:Str
 fs:!(Str×Str)
structure d6 where
 name:Str
 ps:!(Str×Str)
 res:Str
structure Kd where
 asked:Bool
 name:Str
 bz:!eU
 bN:!d6
structure aW where
 kinds:!Kd
 vars:!Str
 heads:!Str
 inner:Bool
 words:!Str
def bc(b:Bool):Str:=if b=true then "asked" else "made"
def pairD(p:Str×Str):D:=.tup [.str p.1,.str p.2]
def cG(ps:!(Str×Str)):D:=.tup (ps.map pairD)
def eS(m:eU):D:=.tup [.str m.name,cG m.fs]
def eI(a:d6):D:=.tup [.str a.name,cG a.ps,.str a.res]
def sy(k:Kd):D:=.tup [.str (bc k.asked),.str k.name,.tup (k.bz.map eS),.tup (k.bN.map eI)]
def lP(W:aW)(k:Str):Prop:=k="number"\/∃ kd∈W.kinds,kd.bz≠[]/\kd.name=k
def Kk(W:aW)(ns:!Str)(ps:!(Str×Str)):Prop:=ps.length<=3/\ps.map (·.1)=ns.take ps.length/\∀ p∈ps,lP W p.2
structure gf(W:aW):Prop where
 kl:W.kinds.length<=5
 kn:(W.kinds.map Kd.name).Nodup
 kw:∀ k∈W.kinds,Nm k.name/\k.bz.length<=5/\k.bN.length<=5
 mn:(W.kinds.flatMap λk=>k.bz.map eU.name).Nodup
 an:(W.kinds.flatMap λk=>k.bN.map d6.name).Nodup
 mo:∀ k∈W.kinds,∀ m∈k.bz,Nm m.name/\Kk W (W.heads.take 3) m.fs
 ao:∀ k∈W.kinds,∀ a∈k.bN,Nm a.name/\Kk W (W.heads.drop 3) a.ps/\lP W a.res
 ft:∀ k∈W.kinds,∀ m r,k.bz=m::r->∀ p∈m.fs,p.2="number"
 hl:W.heads.length=6
 vl:W.vars.length=15
 nd:(W.heads++W.vars).Nodup
 nm:∀ x∈W.heads++W.vars,Nm x
structure mX(W:aW)(sc:!(Str×Str)):Prop where
 len:sc.length<=15
 nd:(sc.map (·.1)).Nodup
 ok:∀ p∈sc,lP W p.2/\(p.1∈W.heads\/∃ j,j < sc.length/\W.vars[j]?=some p.1)
def xY(W:aW)(sc:!(Str×Str))(ns:!Str):Prop:=ns.Nodup/\(∀ x∈ns,x∉sc.map (·.1))/\∀ x∈ns,x∈W.heads\/∃ j,j < sc.length+ns.length/\W.vars[j]?=some x
inductive so(W:aW)(sc:!(Str×Str)):Str->Fm->!(!(Str×Str)×Str)->Prop
 | nm {x k:Str}:(x,k)∈sc->so W sc k (.nm x) []
 | num {i:Int}:0<=i->i < 1000000->so W sc "number" (.num i) []
 | op {o:Str}:o∈(["+","-","*"]:!Str)->so W sc "number" (.op o) [([],"number"),([],"number")]
 | nq {k:Str}:so W sc k .nq [([],"number"),([],k),([],k)]
 | lt {x k k':Str}:xY W sc [x]->lP W k'->so W sc k (.lt x) [([],k'),([(x,k')],k)]
 | mk {kd:Kd} {m:eU}:kd∈W.kinds->m∈kd.bz->so W sc kd.name (.mk m.name) (m.fs.map λp=>([],p.2))
 | ask {kd:Kd} {a:d6}:kd∈W.kinds->kd.bz≠[]->a∈kd.bN->so W sc a.res (.ask a.name) (([],kd.name)::a.ps.map λp=>([],p.2))
 | FY {k:Str} {kd:Kd} {sub:!(eU×!Str)}:kd∈W.kinds->kd.bz≠[]->kd.asked=false->(sub.map (·.1)).Sublist kd.bz->(∀ p∈sub,p.2.length=p.1.fs.length/\xY W sc p.2) ->
   so W sc k (.FY k (sub.map λp=>(p.1.name,p.2))) (([],kd.name)::sub.map λp=>(p.2.zip (p.1.fs.map (·.2)),k))
 | new {kd:Kd} {sub:!(d6×!Str)}:kd∈W.kinds->kd.bz≠[]->kd.asked=true->(sub.map (·.1)).Sublist kd.bN->(∀ p∈sub,p.2.length=p.1.ps.length/\xY W sc p.2) ->
   so W sc kd.name (.new kd.name (sub.map λp=>(p.1.name,p.2))) (sub.map λp=>(p.2.zip (p.1.ps.map (·.2)),p.1.res))
mutual
noncomputable def Ty(W:aW):!(Str×Str)->Str->Tm->Prop
 | sc,k,.node f ts=>∃ sp,so W sc k f sp/\ek W sc sp ts
noncomputable def ek(W:aW):!(Str×Str)->!(!(Str×Str)×Str)->!Tm->Prop
 | sc,sp,[]=>sp=[]
 | sc,sp,t::ts=>∃ e r,sp=e::r/\Ty W (sc++e.1) e.2 t/\ek W sc r ts
end
theorem ek.len{W:aW}{sc:!(Str×Str)}:∀ {sp:!(!(Str×Str)×Str)} {ts:!Tm},ek W sc sp ts->ts.length=sp.length
 | sp,[],h=>by
  have h:sp=[]:=h;rw[h];rfl
 | sp,t::ts,h=>by
  let(e,r,rfl,_,h):=(show ∃ e r,sp=e::r/\Ty W (sc++e.1) e.2 t/\ek W sc r ts from h);rw[aam,aam,ek.len h]
theorem Ty.mk{W:aW}{sc:!(Str×Str)}{k:Str}{f:Fm}{ts:!Tm}{sp:!(!(Str×Str)×Str)}(h:so W sc k f sp)(r:ek W sc sp ts):Ty W sc k (.node f ts):=#[sp,h,r]
theorem ek.nil{W:aW}{sc:!(Str×Str)}:ek W sc [] []:=rfl
theorem ek.cons{W:aW}{sc ex:!(Str×Str)}{k:Str}{t:Tm}{ts:!Tm}{sp:!(!(Str×Str)×Str)}(h:Ty W (sc++ex) k t)(r:ek W sc sp ts):ek W sc ((ex,k)::sp) (t::ts):=#[(ex,k),sp,U,h,r]
theorem ek.fj{W:aW}{sc:!(Str×Str)}{k:Str}{t:Tm}{ts:!Tm}{sp:!(!(Str×Str)×Str)}(h:Ty W sc k t)(r:ek W sc sp ts):ek W sc (([],k)::sp) (t::ts):=ek.cons (by rw[aal];exact h) r
theorem Nm.ok{x:Str}(h:Nm x):Fk.strOk x=true:=h.1.strOk
theorem Bg{W:aW}(w:gf W){j:Nat}{x:Str}(h:W.vars[j]?=some x):x∈W.vars:=aaK h
theorem xY.nm{W:aW}(w:gf W){sc:!(Str×Str)}{ns:!Str}(b:xY W sc ns):∀ x∈ns,Nm x:=λx hx=>by
 rcases b.2.2 x hx with h | ⟨j,_,h⟩
 .exact w.nm x (aaH _ h)
 .exact w.nm x (aaB _ (Bg w h))
theorem mX.nm{W:aW}(w:gf W){sc:!(Str×Str)}(h:mX W sc):∀ p∈sc,Nm p.1:=λp hp=>by
 rcases (h.ok p hp).2 with h | ⟨j,_,h⟩
 .exact w.nm _ (aaH _ h)
 .exact w.nm _ (aaB _ (Bg w h))
theorem lP.ok{W:aW}(w:gf W){k:Str}(h:lP W k):Fk.strOk k=true:=by
 rcases h with rfl | ⟨kd,hk,_,rfl⟩
 .decide+kernel
 .exact (w.kw kd hk).1.ok
theorem mX.more{W:aW}{sc:!(Str×Str)}(h:mX W sc){ns ks:!Str}(b:xY W sc ns)(hl:ns.length=ks.length)(hk:∀ k∈ks,lP W k)(NJ:sc.length+ns.length<=15):mX W (sc++ns.zip ks):=by
 have e1:(ns.zip ks).map (·.1)=ns:=abn (by cbv);have e2:(ns.zip ks).length=ns.length:=by rw[abh];cbv
 show#[by rw[aab,e2];exact NJ,?_,λp hp=>?_]
 .rw[aai,e1,aaR];exact#[h.nd,b.1,λx hx y hy e=>b.2.1 y hy (e▸hx)]
 .rcases aaw.mp hp with hp | hp
  .let(h1,h2):=h.ok p hp;show#[h1,h2.imp id λ#[j,hj,e]=>#[j,by rw[aab];cbv,e]]
  .have m1:p.1∈ns:=e1▸aav (f:=(·.1)) hp;have m2:p.2∈ks:=by
    have:(ns.zip ks).map (·.2)=ks:=List.map_snd_zip (by cbv);exact this▸aav (f:=(·.2)) hp
   show#[hk _ m2,(b.2.2 p.1 m1).imp id λ#[j,hj,e]=>#[j,by rw[aab,e2];exact hj,e]]
theorem f9{α β:Type}{nt:Nat}{us:!Nat}{g:o7}{te:aU}(h:α->D)(f:β->D)(Rl:α->β->Prop){Q:!D->DS->Prop}{s:DS}:∀ (xs:!α) {acc:!D},(∀ x∈xs,∀ k:D->DS->Prop,(∀ (y:β) (s':DS),Rl x y->s'.os=s.os->k (f y) s')->g (h x) (iC nt us s) λs1=>te s1 k)->(∀ ys:!β,Paired Rl xs ys->Q (acc++ys.map f) s)->cE nt us g dq te (xs.map h) acc s Q
 | [],acc,_,q=>by
  have:=q [] .nil;rw[aaQ,aal] at this;exact this
 | x::xs,acc,hx,q=>by
  have:=hx x aad (λy s3=>cE nt us g dq te (xs.map h) (acc++[y]) #[s.sl,s3.os] Q) λy s' hy e=>by
   change cE nt us g dq te (xs.map h) (acc++[f y]) #[s.sl,s'.os] Q;rw[e];show f9 h f Rl xs (λz hz=>hx z (aac _ hz)) λys hp=>?_;rw[aaz];exact q (y::ys) (.cons hy hp)
  rw[aao,cE];simpa [dq] using this
theorem gD{α β:Type}{F:α->β->Prop}:∀ {l₁:!α} {l₂:!β},Paired F l₁ l₂->l₂.length=l₁.length
 | _,_,.nil=>rfl
 | _,_,.cons _ t=>by rw[aam,aam,gD t]
theorem gu{α β:Type}{F:α->β->Prop}:∀ {l₁:!α} {l₂:!β},Paired F l₁ l₂->∀ y∈l₂,∃ x∈l₁,F x y
 | _,_,.nil,y,h=>nomatch h
 | _,_,.cons r t,y,h=>by
  rcases aaj.mp h with rfl | h
  .exact#[_,aad,r]
  .let(x,hx,q):=gu t y h;exact#[x,aac _ hx,q]
theorem Eh{α β:Type}{F:α->β->Prop}:∀ {l₁:!α} {l₂:!β},Paired F l₁ l₂->∀ {i:Nat} {x:α},l₁[i]?=some x->∃ y,l₂[i]?=some y/\F x y
 | _,_,.nil,i,x,h=>by simp at h
 | _,_,.cons r t,0,x,h=>by
  simp at h;subst h;exact#[_,U,r]
 | _,_,.cons r t,i+1,x,h=>by
  let(y,h1,h2):=Eh t (i:=i) (x:=x) (by simpa using h);exact#[y,by simpa using h1,h2]
theorem vq{β γ:Type}{F:Nat->β->Prop}{v:β->γ}{ns:!γ}(h:∀ i y,F i y->ns[i]?=some (v y)){n:Nat}{ys:!β}(p:Paired F (List.range n) ys):ys.map v=ns.take ys.length:=by
 have hl:=gD p;rw[abw] at hl;apply abZ;intro i;rw[aaG,List.getElem?_take];by_cases hi:i < n
 .let(y,e,f):=Eh p (i:=i) (x:=i) (by simp[hi]);rw[e,if_pos (by cbv),h i y f]
  rfl
 .rw[if_neg (by cbv),abr (by cbv)]
  rfl
theorem FP{α β γ:Type}{F:α->β->Prop}{u:α->γ}{v:β->γ}(h:∀ x y,F x y->v y=u x):∀ {l₁:!α} {l₂:!β},Paired F l₁ l₂->l₂.map v=l₁.map u
 | _,_,.nil=>rfl
 | _,_,.cons r t=>by rw[aao,aao,h _ _ r,FP h t]
theorem qS{α:Type}{f:α->D}{xs:!α}{r:Int}(h0:0<=r)(h1:r < xs.length):∃ x,xs[r.toNat]?=some x/\iD (xs.map f) r=some (f x):=by
 have hj:r.toNat < xs.length:=by cbv
 show#[xs[r.toNat],aaq hj,?_];have e:(r.toNat:Int)=r:=Int.toNat_of_nonneg h0;have q:=pW (xs:=xs.map f) (j:=r.toNat) (v:=f xs[r.toNat]) (by simp[hj]);rw[e] at q;exact q
theorem oq{α:Type}{f:α->D}{xs:!α}{r:Int}(h0:0<=r)(h1:r < xs.length):∃ x,x∈xs/\iD (xs.map f) r=some (f x):=by
 let(x,h,e):=qS (f:=f) h0 h1;exact#[x,aaK h,e]
theorem ji(n:Nat):dh 0 n=(List.range n).map λ(i:Nat)=>D.int (i:Int):=by
 unfold dh;show abD λi _=>?_;rw[Int.zero_add]
theorem d8{α:Type}{f:α->D}{xs:!α}{lo hi:Option Int}:cutD (xs.map f) lo hi=((xs.drop (HT.cc xs.length 0 lo)).take (HT.cc xs.length xs.length hi - HT.cc xs.length 0 lo)).map f:=by
 unfold cutD;rw[aaa,<- List.map_drop,<- List.map_take]
theorem zM{f:Str->D}{ws:!Str}{n:Int}(h0:0<=n)(h1:n<=ws.length):∃ al:!Str,cutD (ws.map f) (some n) none++cutD (ws.map f) none (some n)=al.map f/\al.Perm ws:=by
 have e1:HT.cc ws.length 0 (some n)=n.toNat:=by
  unfold HT.cc;simp only[]
  repeat' split
  all_goals cbv
 have e2:HT.cc ws.length ws.length (some n)=n.toNat:=by
  unfold HT.cc;simp only[]
  repeat' split
  all_goals cbv
 have e3:HT.cc ws.length ws.length none=ws.length:=rfl;have e4:HT.cc ws.length 0 none=0:=rfl;show#[ws.drop n.toNat++ws.take n.toNat,?_,?_]
 .rw[d8,d8,e1,e2,e3,e4,List.drop_zero,Nat.sub_zero,List.map_append,List.take_of_length_le (by simp)]
 .refine List.perm_append_comm.trans ?_;rw[abJ]
def _root_.DL.Sl.pl:Sl->Bool
 | .own _=>false
 | _=>true
theorem bu{k i:Nat}{x:Sl}{r:!Sl}(h:x.pl=true):noRef k (i+1) (x::r)=noRef k i r:=by
 cases x with
 | own j=>cases h
 | _=>rfl
def BJ(xs:!D)(j n:Nat):Prop:=j<=n/\xs=(List.range' j (n - j)).map λ(i:Nat)=>D.int (i:Int)
theorem BJ.init(n:Nat):BJ (dh 0 n) 0 n:=#[aax _,by rw[ji,Nat.sub_zero,List.range_eq_range']]
theorem BJ.nil{j n:Nat}(h:BJ [] j n):j=n:=by
 have:=congrArg List.length h.2;simp at this;have:=h.1;cbv
theorem BJ.cons{x:D}{xs:!D}{j n:Nat}(h:BJ (x::xs) j n):x=.int (j:Int)/\j < n/\BJ xs (j+1) n:=by
 let(h1,h2):=h;have h3:=congrArg List.length h2;simp at h3;have e:n - j=(n - (j+1))+1:=by cbv
 rw[e,List.range'_succ,aao] at h2;injection h2 with h4 h5;exact#[h4,by cbv,by cbv,h5]
def F3(ns ss:!Str)(ps:!(Str×Str)):Prop:=ps.length<=3/\ps.map (·.1)=ns.take ps.length/\∀ p∈ps,p.2∈ss
abbrev ip:!Str:=["number"]
def er(ks:!Kd):!Str:=ks.flatMap λk=>k.bz.map eU.name
def dC(ks:!Kd):!Str:=ks.flatMap λk=>k.bN.map d6.name
structure RP(ws ns:!Str)(k:Kd):Prop where
 m0:k.bz≠[]
 ml:k.bz.length<=5
 al:k.bN.length<=5
 mp:∀ m∈k.bz,F3 ((ws.drop 24).take 3) (ns++ip) m.fs
 mf:∀ m r,k.bz=m::r->∀ p∈m.fs,p.2="number"
 ap:∀ a∈k.bN,F3 ((ws.drop 27).take 3) (ns++ip) a.ps/\a.res∈ns++ip
structure GA(ws ns ML AL:!Str)(ks:!Kd):Prop where
 kl:ks.length<=ns.length
 kn:ks.map Kd.name=ns.take ks.length
 rg:∀ k∈ks,RP ws ns k
 mn:er ks=ML.take (er ks).length
 an:dC ks=AL.take (dC ks).length
 mb:(er ks).length<=5 * ks.length
 ab:(dC ks).length<=5 * ks.length
theorem GA.nil{ws ns ML AL:!Str}:GA ws ns ML AL []:=#[aax _,U,λ_ h=>(nomatch h),U,U,aax _,aax _]
theorem gL(ks:!Kd)(k:Kd):er (ks++[k])=er ks++k.bz.map eU.name:=by simp[er]
theorem gS(ks:!Kd)(k:Kd):dC (ks++[k])=dC ks++k.bN.map d6.name:=by simp[dC]
theorem take_snoc{α:Type}{L A B:!α}(ha:A=L.take A.length)(hb:B=(L.drop A.length).take B.length):A++B=L.take (A++B).length:=by
 rw[aab,List.take_add,<- ha,<- hb]
theorem GA.snoc{ws ns ML AL:!Str}{ks:!Kd}(h:GA ws ns ML AL ks){k:Kd}(r:RP ws ns k)(hk:ns[ks.length]?=some k.name)(hm:k.bz.map eU.name=(ML.drop (er ks).length).take k.bz.length)(ha:k.bN.map d6.name=(AL.drop (dC ks).length).take k.bN.length):GA ws ns ML AL (ks++[k]):=by
 let(jN,e):=aaf.mp hk;show#[by simp;cbv,?_,λx hx=>?_,?_,?_,?_,?_]
 .rw[aai,h.kn,aab,List.take_add]
  congr 1
  change [k.name]=(ns.drop ks.length).take 1;rw[abe jN,e]
  rfl
 .rcases aaw.mp hx with hx | hx
  .exact h.rg x hx
  .rw[aag.mp hx];exact r
 .rw[gL];exact take_snoc h.mn (by rw[aaa];exact hm)
 .rw[gS];exact take_snoc h.an (by rw[aaa];exact ha)
 .have:=h.mb;have:=r.ml;rw[gL,aab,aab,aaa];simp;cbv
 .have:=h.ab;have:=r.al;rw[gS,aab,aab,aaa];simp;cbv
theorem ck{k:Nat}{d:D}{x:Sl}(h:x.pl=true):(fO k d x).pl=true:=by
 cases x with
 | own j=>cases h
 | _=>rfl
structure Mf(ws ns L:!Str)(ms:!eU):Prop where
 nm:ms.map eU.name=L.take ms.length
 mp:∀ m∈ms,F3 ((ws.drop 24).take 3) (ns++ip) m.fs
 mf:∀ m r,ms=m::r->∀ p∈m.fs,p.2="number"
theorem Mf.nil{ws ns L:!Str}:Mf ws ns L []:=#[U,λ_ h=>(nomatch h),λ_ _ h=>by simp at h]
theorem sX{α β:Type}{v:β->α}{L:!α}{ms:!β}{m:β}(h:ms.map v=L.take ms.length)(e:L[ms.length]?=some (v m)):(ms++[m]).map v=L.take (ms++[m]).length:=by
 let(jN,e):=aaf.mp e;rw[aai,h,aab,List.take_add]
 congr 1
 change [v m]=(L.drop ms.length).take 1;rw[abe jN,e]
 rfl
theorem Mf.snoc{ws ns L:!Str}{ms:!eU}(h:Mf ws ns L ms){m:eU}(e:L[ms.length]?=some m.name)(hp:F3 ((ws.drop 24).take 3) (ns++ip) m.fs)(hf:ms=[]->∀ p∈m.fs,p.2="number"):Mf ws ns L (ms++[m]):=by
 show#[sX h.nm e,λx hx=>?_,λx r hx=>?_]
 .rcases aaw.mp hx with hx | hx
  .exact h.mp x hx
  .rw[aag.mp hx];exact hp
 .cases ms with
  | nil =>
   injection hx with e1 e2;subst e1;exact hf U
  | cons y ys =>
   injection hx with e1 e2;subst e1;exact h.mf _ _ U
structure Fv(ws ns L:!Str)(as:!d6):Prop where
 nm:as.map d6.name=L.take as.length
 ap:∀ a∈as,F3 ((ws.drop 27).take 3) (ns++ip) a.ps/\a.res∈ns++ip
theorem Fv.nil{ws ns L:!Str}:Fv ws ns L []:=#[U,λ_ h=>nomatch h]
theorem Fv.snoc{ws ns L:!Str}{as:!d6}(h:Fv ws ns L as){a:d6}(e:L[as.length]?=some a.name)(hp:F3 ((ws.drop 27).take 3) (ns++ip) a.ps)(hr:a.res∈ns++ip):Fv ws ns L (as++[a]):=by
 show#[sX h.nm e,λx hx=>?_];rcases aaw.mp hx with hx | hx
 .exact h.ap x hx
 .rw[aag.mp hx];exact#[hp,hr]
theorem F3.sub{ns ss tt:!Str}{ps:!(Str×Str)}(h:F3 ns ss ps)(hs:∀ x∈ss,x∈tt):F3 ns tt ps:=#[h.1,h.2.1,λp hp=>hs _ (h.2.2 p hp)]
theorem Kj{L:!Str}{n j:Nat}(h:n+j < L.length):∃ x,L[n+j]?=some x/\(L.drop n)[j]?=some x/\seqIndex? 0 (((L.drop (n+j)).map D.str)).length=some 0/\((L.drop (n+j)).map D.str)[0]?=some (.str x)/\((L.drop (n+j)).map D.str).eraseIdx 0=(L.drop (n+(j+1))).map D.str:=by
 show#[L[n+j],aaq h,?_,?_,?_,?_]
 .rw[abE,aaq h]
 .rw[aaa,abl];exact PySem.seqIndex_of () (by cbv)
 .rw[aaG,abE,Nat.add_zero,aaq h]
  rfl
 .rw[List.eraseIdx_zero,<- List.map_tail,List.tail_drop]
  congr 1
theorem A3{r:Int}(h0:0<=r)(h1:r < 2):∃ b:Bool,iD [D.str "made",D.str "asked"] r=some (.str (bc b)):=by
 have:r=0\/r=1:=by cbv
 rcases this with rfl | rfl
 .exact#[false,U]
 .exact#[true,U]
def pj(ws:!Str)(ks:!Kd)(inner:Bool):aW:=#[ks,ws.drop 30,(ws.drop 24).take 6,inner,ws]
theorem qG{ws:!Str}(h:ws.Nodup){n j:Nat}(hn:n<=j){x:Str}(e:ws[j]?=some x):(ws.take n++[x]).Nodup:=by
 let(hj,e):=aaf.mp e;have hs:(ws.take n++[x]).Sublist ws:=by
  have h1:(ws.take n++[x]).Sublist (ws.take n++ws.drop n):=by
   show List.Sublist.append (List.Sublist.refl _) (List.singleton_sublist.mpr ?_);have:(ws.drop n)[j - n]?=some x:=by
    rw[abE,show n+(j - n)=j by cbv,aaq hj,e]
   exact aaK this
  rwa [abJ] at h1
 exact h.sublist hs
theorem jK{α:Type}{f:α->D}:∀ {l:!α},(∀ x∈l,iP (f x)=true)->lK (l.map f)=true
 | [],_=>rfl
 | x::l,h=>by
  change (iP (f x)&&lK (l.map f))=true;rw[h x aad,jK λy hy=>h y (aac _ hy)]
  rfl
theorem Ad{W:aW}(w:gf W){ns:!Str}(hn:∀ x∈ns,Nm x){ps:!(Str×Str)}(h:Kk W ns ps):iP (cG ps)=true:=by
 show jK λp hp=>?_;have h1:p.1∈ns:=by
  have:p.1∈ps.map (·.1):=aav hp;rw[h.2.1] at this;exact aaZ this
 change (Fk.strOk p.1&&(Fk.strOk p.2&&true))=true;rw[(hn _ h1).ok,(h.2.2 p hp).ok w]
 rfl
theorem Gk{W:aW}(w:gf W){k:Kd}(hk:k∈W.kinds):iP (.tup (k.bz.map eS))=true:=by
 show jK λm hm=>?_;let(h1,h2):=w.mo k hk m hm;change (Fk.strOk m.name&&(iP (cG m.fs)&&true))=true;rw[h1.ok,Ad w (λx hx=>w.nm x (aaH _ (aaZ hx))) h2]
 rfl
def things(W:aW):!Kd:=W.kinds.filter λk=>(not k.bz.isEmpty)
theorem jd{W:aW}{k:Kd}:k∈things W↔k∈W.kinds/\k.bz≠[]:=by
 unfold things;rw[aa3];simp
theorem xY.heads{W:aW}(w:gf W){sc:!(Str×Str)}{al:!Str}(p:al.Perm (W.heads.filter λx=>(not (decide (x∈sc.map (·.1))))))(m:Nat):xY W sc (al.take m):=by
 have mem:∀ x∈al.take m,x∈W.heads/\x∉sc.map (·.1):=λx hx=>by
  have:=p.mem_iff.mp (aaZ hx);let(h1,h2):=aa3.mp this;exact#[h1,by simpa using h2]
 show#[?_,λx hx=>(mem x hx).2,λx hx=>.inl (mem x hx).1];have h1:W.heads.Nodup:=(aaR.mp w.nd).1;exact (p.nodup_iff.mpr (h1.sublist List.filter_sublist)).sublist (aaW _ _)
theorem xY.vars{W:aW}(w:gf W){sc:!(Str×Str)}(s:mX W sc){m:Nat}{ns:!Str}(p:Paired (λk x=>W.vars[sc.length+k]?=some x) (List.range m) ns):xY W sc ns:=by
 have hl:=gD p;rw[abw] at hl;have h2:W.vars.Nodup:=(aaR.mp w.nd).2.1;have e:ns=(W.vars.drop sc.length).take ns.length:=by
  have:=vq (v:=id) (ns:=W.vars.drop sc.length) (λi y h=>by rw[abE];exact h) p;simpa using this
 show#[?_,λx hx hs=>?_,λx hx=>?_]
 .rw[e];exact h2.sublist ((aaW _ _).trans (List.drop_sublist _ _))
 .let(k,_,hk):=gu p x hx;let(q,hq,eq):=aak.mp hs;rcases (s.ok q hq).2 with h | ⟨j,hj,ej⟩
  .rw[eq] at h;exact (aaR.mp w.nd).2.2 x h x (aaK hk) U
  .rw[eq] at ej;let(l1,g1):=aaf.mp hk;let(l2,g2):=aaf.mp ej;have:=(abL h2).mp (g1.trans g2.symm);cbv
 .let(k,hk,hv):=gu p x hx;have:=abI.mp hk;exact .inr #[sc.length+k,by cbv,hv]
theorem BG{ws:!Str}:(ws.map D.str).all gp=true:=by
 rw[List.all_map];exact aa9.mpr λ_ _=>rfl
theorem GY{x:Str}{ws:!Str}:BE (fv (.str x)) ((ws.map D.str).map fv)=decide (x∈ws):=by
 rw[aan];exact fu
theorem iz{a b:Str}:decide (fv (.str a)=fv (.str b))=decide (a=b):=by
 change decide (V.str a=V.str b)=_;by_cases h:a=b
 .simp[h]
 .have:¬ V.str a=V.str b:=λe=>h (by injection e);rw[decide_eq_false this,decide_eq_false h]
theorem A4{W:aW}(w:gf W){a b:Kd}(ha:a∈W.kinds)(hb:b∈W.kinds)(e:a.name=b.name):a=b:=by
 let(i,hi,rfl):=aba ha;let(j,hj,rfl):=aba hb;have:=abQ.mp w.kn;have h2:(W.kinds.map Kd.name)[i]'(by simpa using hi)=(W.kinds.map Kd.name)[j]'(by simpa using hj):=by simpa using e
 have:=(abL w.kn).mp h2;subst this
 rfl
theorem lC{α:Type}{p:α->Bool}{a:α}:∀ {l:!α},a∈l->p a=true->(∀ x∈l,p x=true->x=a)->∃ n,l.filter p=List.replicate (n+1) a
 | [],h,_,_=>nomatch h
 | x::l,h,ha,hu=>by
  by_cases hx:p x=true
  .have e:=hu x aad hx;subst e;rw[List.filter_cons_of_pos hx];by_cases hm:x∈l
   .let(n,e):=lC hm ha λy hy=>hu y (aac _ hy);exact#[n+1,by rw[e];rfl]
   .refine#[0,?_];have:l.filter p=[]:=List.filter_eq_nil_iff.mpr λy hy hp=>hm (hu y (aac _ hy) hp▸hy);rw[this]
    rfl
  .rw[List.filter_cons_of_neg hx];show lC ?_ ha λy hy=>hu y (aac _ hy);rcases aaj.mp h with rfl | h
   .exact absurd ha hx
   .exact h
theorem kinds_of{W:aW}(w:gf W){k:Str}(h:lP W k)(hn:k≠"number"):∃ kd∈W.kinds,kd.bz≠[]/\kd.name=k/\∃ n,(W.kinds.filter λx=>decide (x.name=k))=List.replicate (n+1) kd:=by
 rcases h with h | ⟨kd,h1,h2,h3⟩
 .exact absurd h hn
 .exact#[kd,h1,h2,h3,lC h1 (by simpa using h3) λx hx hp=>A4 w hx h1 (by rw[h3];simpa using hp)]
end DL
namespace DL
theorem jn{C G:Prop}(jE:C)(h:C->G):G:=h jE
end DL
namespace DL
open PySem L2
theorem yX{α:Type}{W:aW}{sc:!(Str×Str)}{F:α->Tm->Prop}{v:α->Str}:∀ {ps:!α} {ts:!Tm},Paired F ps ts->(∀ p∈ps,∀ t,F p t->Ty W sc (v p) t)->ek W sc (ps.map λp=>([],v p)) ts
 | _,_,.nil,_=>ek.nil
 | _,_,.cons (a:=p) r t,h=>ek.fj (h _ aad _ r) (yX t λq hq=>h q (aac _ hq))
theorem tM{x:D}{xs:!D}:cutD (x::xs) (some 1) none=xs:=by
 unfold cutD;have e1:HT.cc (x::xs).length 0 (some 1)=1:=by
  unfold HT.cc;simp only[List.length_cons]
  repeat' split
  all_goals cbv
 have e2:HT.cc (x::xs).length (x::xs).length none=(x::xs).length:=rfl;rw[e1,e2,List.drop_succ_cons,List.drop_zero,List.take_of_length_le (by simp)]
theorem qC{f:Fm}{ts:!Tm}{n:Nat}(h:∀ t∈ts,t.dep<=n):(Tm.node f ts).dep<=n+1:=by
 have:=AV h;change wz ts+1<=n+1;cbv
theorem QR(t:Tm):(not (vh (toD t)))=true:=by
 cases t with
 | node f ks=>cases f<;>rfl
end DL
namespace DL
open PySem PySem.Spec L2
theorem so.ar{W:aW}(w:gf W){sc:!(Str×Str)}{k:Str}{f:Fm}{sp:!(!(Str×Str)×Str)}(h:so W sc k f sp):f.ar sp.length=true:=by
 cases h with
 | nm _=>rfl
 | num _ _=>rfl
 | op _=>rfl
 | nq=>rfl
 | lt _ _=>rfl
 | mk _ _=>rfl
 | ask _ _ _=>simp[Fm.ar]
 | @FY _ kd sub h1 h2 h3 h4 h5 =>
  simp only[Fm.ar,List.length_cons,List.length_map,beq_self_eq_true,Bool.true_and,List.all_eq_true,List.mem_map];rintro _ ⟨p,hp,rfl⟩;have hm:p.1∈kd.bz:=h4.subset (aav hp);have:=(w.mo kd h1 p.1 hm).2.1;have:=(h5 p hp).1;simp;cbv
 | @new kd sub h1 h2 h3 h4 h5 =>
  simp only[Fm.ar,List.length_map,beq_self_eq_true,Bool.true_and,List.all_eq_true,List.mem_map];rintro _ ⟨p,hp,rfl⟩;have hm:p.1∈kd.bN:=h4.subset (aav hp);have:=(w.ao kd h1 p.1 hm).2.1.1;have:=(h5 p hp).1;simp;cbv
theorem so.strs{W:aW}(w:gf W){sc:!(Str×Str)}{k:Str}{f:Fm}{sp:!(!(Str×Str)×Str)}(Aj:∀ p∈sc,Fk.strOk p.1=true)(hk:Fk.strOk k=true)(h:so W sc k f sp):f.strs.all Fk.strOk=true/\∀ e∈sp,Fk.strOk e.2=true/\∀ p∈e.1,Fk.strOk p.1=true:=by
 have num:Fk.strOk ("number":Str)=true:=by decide+kernel
 cases h with
 | @nm x _ hx=>exact#[by simp[Fm.strs,Aj _ hx],λ_ h=>by cases h]
 | num _ _=>exact#[U,λ_ h=>by cases h]
 | @op o ho =>
  show#[?_,λe he=>?_]
  .simp only[Fm.strs,List.all_cons,List.all_nil,Bool.and_true]
   revert o
   decide+kernel
  .simp at he;subst he;exact#[num,λ_ h=>by cases h]
 | nq =>
  show#[U,λe he=>?_];simp at he;rcases he with rfl | rfl
  .exact#[num,λ_ h=>by cases h]
  .exact#[hk,λ_ h=>by cases h]
 | @lt x _ k' hb F4 =>
  have hx:=(hb.nm w x (aag.mpr U)).ok;show#[by simp[Fm.strs,hx],λe he=>?_];simp at he;rcases he with rfl | rfl
  .exact#[F4.ok w,λ_ h=>by cases h]
  .exact#[hk,λp hp=>by rw[aag.mp hp];exact hx]
 | @mk kd m h1 h2 =>
  let(m1,m2,m3,m4):=w.mo kd h1 m h2;show#[by simp[Fm.strs,m1.ok],λe he=>?_];let(p,hp,rfl):=aak.mp he;exact#[(m4 p hp).ok w,λ_ h=>by cases h]
 | @ask kd a h1 h2 h3 =>
  let(m1,(m2,m3,m4),m5):=w.ao kd h1 a h3;show#[by simp[Fm.strs,m1.ok],λe he=>?_];rcases aaj.mp he with rfl | he
  .exact#[(w.kw kd h1).1.ok,λ_ h=>by cases h]
  let(p,hp,rfl):=aak.mp he;exact#[(m4 p hp).ok w,λ_ h=>by cases h]
 | @FY _ kd sub h1 h2 h3 h4 h5 =>
  show#[?_,λe he=>?_]
  .simp only[Fm.strs,List.all_cons,hk,Bool.true_and,List.map_map,List.all_flatten,List.all_map,List.all_eq_true];intro p hp;have hm:p.1∈kd.bz:=h4.subset (aav hp);simp only[Function.comp,List.all_cons,(w.mo kd h1 p.1 hm).1.ok,Bool.true_and,List.all_eq_true];exact λx hx=>((h5 p hp).2.nm w x hx).ok
  .rcases aaj.mp he with rfl | he
   .exact#[(w.kw kd h1).1.ok,λ_ h=>by cases h]
   let(p,hp,rfl):=aak.mp he;show#[hk,λq hq=>?_];exact ((h5 p hp).2.nm w _ (aa4 hq).1).ok
 | @new kd sub h1 h2 h3 h4 h5 =>
  show#[?_,λe he=>?_]
  .simp only[Fm.strs,List.all_cons,hk,Bool.true_and,List.map_map,List.all_flatten,List.all_map,List.all_eq_true];intro p hp;have hm:p.1∈kd.bN:=h4.subset (aav hp);simp only[Function.comp,List.all_cons,(w.ao kd h1 p.1 hm).1.ok,Bool.true_and,List.all_eq_true];exact λx hx=>((h5 p hp).2.nm w x hx).ok
  .let(p,hp,rfl):=aak.mp he;have hm:p.1∈kd.bN:=h4.subset (aav hp);show#[(w.ao kd h1 p.1 hm).2.2.ok w,λq hq=>?_];exact ((h5 p hp).2.nm w _ (aa4 hq).1).ok
mutual
theorem Ty.good{W:aW}(w:gf W):∀ (t:Tm) (sc:!(Str×Str)) (k:Str),(∀ p∈sc,Fk.strOk p.1=true)->Fk.strOk k=true->Ty W sc k t->t.wf=true/\t.JD=true
 | .node f ts,sc,k,Aj,hk,h=>by
  let(sp,hf,hr):=(show ∃ sp,so W sc k f sp/\ek W sc sp ts from h);let(s1,s2):=hf.strs w Aj hk;let(g1,g2):=ek.good w ts sc sp Aj s2 hr;show#[?_,?_]
  .show (f.ar ts.length&&RB ts)=true;rw[hr.len,hf.ar w,g1]
   rfl
  .show (f.strs.all Fk.strOk&&EA ts)=true;rw[s1,g2]
   rfl
theorem ek.good{W:aW}(w:gf W):∀ (ts:!Tm) (sc:!(Str×Str)) (sp:!(!(Str×Str)×Str)),(∀ p∈sc,Fk.strOk p.1=true)->(∀ e∈sp,Fk.strOk e.2=true/\∀ p∈e.1,Fk.strOk p.1=true)->ek W sc sp ts->RB ts=true/\EA ts=true
 | [],sc,sp,Aj,hs,h=>#[U,U]
 | t::ts,sc,sp,Aj,hs,h=>by
  let(e,r,rfl,h1,h2):=(show ∃ e r,sp=e::r/\Ty W (sc++e.1) e.2 t/\ek W sc r ts from h);let(e1,e2):=hs e aad;let(a1,a2):=Ty.good w t (sc++e.1) e.2 (λp hp=>(aaw.mp hp).elim (Aj p) (e2 p)) e1 h1;let(b1,b2):=ek.good w ts sc r Aj (λx hx=>hs x (aac _ hx)) h2;exact#[by change (t.wf&&RB ts)=true;rw[a1,b1];rfl,by change (t.JD&&EA ts)=true;rw[a2,b2];rfl]
end
structure PK where
 asked:Bool
 kd:Kd
 tabs:!(!(Str×Tm))
def jU(r:Str×Tm):D:=.tup [.str r.1,toD r.2]
def xh(rs:!(Str×Tm)):D:=.tup (rs.map jU)
def k6(x:eU×!(Str×Tm)):D:=.tup [.str x.1.name,cG x.1.fs,xh x.2]
def kT(x:d6×!(Str×Tm)):D:=.tup [.str x.1.name,cG x.1.ps,.str x.1.res,xh x.2]
def jA(p:PK):!D:=if p.asked=true then (p.kd.bz.zip p.tabs).map k6 else (p.kd.bN.zip p.tabs).map kT
def BL(p:PK):D:=if p.asked=true then .tup (p.kd.bN.map eI) else .tup (p.kd.bz.map eS)
def gj(p:PK):D:=.tup [.str (bc p.asked),.str p.kd.name,BL p,.tup (jA p)]
def fi(p:PK):!(Str×!(Str×Tm)):=(if p.asked=true then p.kd.bz.map eU.name else p.kd.bN.map d6.name).zip p.tabs
def kZ(asked:Bool)(b:Str×!(Str×Tm)):!((Str×Str)×Tm):=b.2.map λr=>(if asked=true then (b.1,r.1) else (r.1,b.1),r.2)
def ents(p:PK):!((Str×Str)×Tm):=(fi p).flatMap (kZ p.asked)
theorem xy{ms:!eU}{ts:!(!(Str×Tm))}(h:ts.length=ms.length){α:Type}(f:eU->α):(ms.zip ts).map (λx=>f x.1)=ms.map f:=by
 have:(ms.zip ts).map Prod.fst=ms:=abn (by cbv);rw[show (λx:eU×!(Str×Tm)=>f x.1)=f∘Prod.fst from U,<- aan,this]
end DL
namespace DL
open PySem L2
theorem eB(b:Bool):decide (fv (.str (bc b))=fv (.str "made"))=(not b):=by cases b<;>decide+kernel
theorem cJ(b:Bool):decide (fv (.str (bc b))=fv (.str "asked"))=b:=by cases b<;>decide+kernel
theorem mD{W:aW}(w:gf W){kd:Kd}(hk:kd∈W.kinds){m:eU}(hm:m∈kd.bz){a:d6}(ha:a∈kd.bN):mX W (m.fs++a.ps):=by
 let(_,m2,m3,m4):=w.mo kd hk m hm;let(_,(a2,a3,a4),_):=w.ao kd hk a ha;have hh:W.heads.take 3++W.heads.drop 3=W.heads:=abJ _ _;have hn:W.heads.Nodup:=(aaR.mp w.nd).1;have hs:((m.fs++a.ps).map (·.1)).Sublist W.heads:=by
  rw[aai,m3,a3];have:=List.Sublist.append (aaW m.fs.length (W.heads.take 3)) (aaW a.ps.length (W.heads.drop 3))
  rwa [hh] at this
 show#[by rw[aab];cbv,hn.sublist hs,λp hp=>#[?_,.inl (hs.subset (aav hp))]];rcases aaw.mp hp with h | h
 .exact m4 p h
 .exact a4 p h
theorem AY{α β:Type}{F:α->β->Prop}:∀ {l₁:!α} {l₂:!β} {a:α} {b:β},Paired F l₁ l₂->F a b->Paired F (l₁++[a]) (l₂++[b])
 | _,_,a,b,.nil,h=>.cons h .nil
 | _,_,a,b,.cons r t,h=>.cons r (AY t h)
end DL
namespace DL
open PySem PySem.Spec L2
theorem jg{α β:Type}{nt:Nat}{us:!Nat}{g:o7}{ti:mH}{te:aU}(h:α->D)(f:β->D)(Rl:α->β->Prop){Q:!D->DS->Prop}{s:DS}:∀ (xs:!α) {acc:!D},
  (∀ x∈xs,∀ (k:D->DS->Prop) (N:DS->Prop),(∀ (y:β) (s':DS),Rl x y->s'.os=s.os->k (f y) s')->(∀ s':DS,s'.os=s.os->N s')->g (h x) (iC nt us s) λs1=>ti s1 λb s2=>if b=true then te s2 k else N s2)->(∀ (sub:!α) (ys:!β),sub.Sublist xs->Paired Rl sub ys->Q (acc++ys.map f) s)->cE nt us g ti te (xs.map h) acc s Q
 | [],acc,_,q=>by
  have:=q [] [] (List.Sublist.refl _) .nil;rw[aaQ,aal] at this;exact this
 | x::xs,acc,hx,q=>by
  show hx x aad (λy s3=>cE nt us g ti te (xs.map h) (acc++[y]) #[s.sl,s3.os] Q) (λs2=>cE nt us g ti te (xs.map h) acc #[s.sl,s2.os] Q) (λy s' hy e=>?_) λs' e=>?_
  .show cE nt us g ti te (xs.map h) (acc++[f y]) #[s.sl,s'.os] Q;rw[e];show jg h f Rl xs (λz hz=>hx z (aac _ hz)) λsub ys hs hp=>?_;rw[aaz];exact q (x::sub) (y::ys) (hs.cons_cons _) (.cons hy hp)
  .show cE nt us g ti te (xs.map h) acc #[s.sl,s'.os] Q;rw[e];exact jg h f Rl xs (λz hz=>hx z (aac _ hz)) λsub ys hs hp=>q sub ys (hs.cons _) hp
theorem sW{α:Type}(w:Int)(xs:!α):(lW w xs).Perm xs:=by
 unfold lW;split
 .exact List.Perm.refl _
 .exact List.reverse_perm _
theorem xS{α β:Type}(f:α->β)(w:Int)(xs:!α):lW w (xs.map f)=(lW w xs).map f:=by
 unfold lW;split
 .rfl
 .rw[ab7]
theorem B9(b:Bool)(x:Str×!(Str×Tm)):(kZ b x).length=x.2.length:=by unfold kZ;rw[List.length_map]
theorem GS{b:Bool}{bs:!(Str×!(Str×Tm))}{e:(Str×Str)×Tm}(h:e∈bs.flatMap (kZ b)):∃ x∈bs,∃ r∈x.2,e=(if b=true then (x.1,r.1) else (r.1,x.1),r.2):=by
 let(x,hx,he):=aaU.mp h;let(r,hr,e):=aak.mp he;exact#[x,hx,r,hr,e.symm]
theorem uc{b:Bool}:∀ {bs:!(Str×!(Str×Tm))},(bs.map (·.1)).Nodup->(∀ x∈bs,(x.2.map (·.1)).Nodup)->((bs.flatMap (kZ b)).map (·.1)).Nodup
 | [],_,_=>abc
 | x::bs,h1,h2=>by
  rw[aao,aaS] at h1;rw[aaX,aai,aaR];show#[?_,uc h1.2 λy hy=>h2 y (aac _ hy),?_]
  .have:=h2 x aad;unfold kZ;rw[aan];rw[abQ,List.pairwise_map] at this ⊢;show this.imp λ{a c} hac e=>hac ?_;cases b with
   | true=>exact (Prod.mk.inj e).2
   | false=>exact (Prod.mk.inj e).1
  .intro k hk k' F4 e;subst e;let(a,ha,rfl):=aak.mp hk;let(c,hc,ec):=aak.mp F4;let(r,hr,rfl):=aak.mp ha;let(y,hy,r2,hr2,rfl):=GS hc;show h1.1 ?_;have:y.1=x.1:=by
    cases b with
    | true=>exact (Prod.mk.inj ec).1
    | false=>exact (Prod.mk.inj ec).2
   rw[<- this];exact aav hy
theorem Ah{b:Bool}:∀ {bs:!(Str×!(Str×Tm))},(∀ x∈bs,x.2.length<=5)->(bs.flatMap (kZ b)).length<=5 * bs.length
 | [],_=>aax _
 | x::bs,h=>by
  have h1:=h x aad;have h2:=Ah (b:=b) λy hy=>h y (aac _ hy);rw[aaX,aab,B9,aam];cbv
theorem uA{W:aW}(w:gf W){kd:Kd}(hk:kd∈W.kinds):(kd.bz.map eU.name).Nodup:=by
 let(a,c,e):=List.append_of_mem hk;have:=w.mn;rw[e,List.flatMap_append,aaX] at this;exact (aaR.mp (aaR.mp this).2.1).1
theorem uH{W:aW}(w:gf W){kd:Kd}(hk:kd∈W.kinds):(kd.bN.map d6.name).Nodup:=by
 let(a,c,e):=List.append_of_mem hk;have:=w.an;rw[e,List.flatMap_append,aaX] at this;exact (aaR.mp (aaR.mp this).2.1).1
theorem kg{W:aW}(w:gf W){kd:Kd}(hk:kd∈W.kinds){m:eU}(hm:m∈kd.bz){a:d6}(ha:a∈kd.bN){t:Tm}(h:Ty W (m.fs++a.ps) a.res t):t.wf=true/\t.JD=true :=
 Ty.good w t _ _ (λp hp=>((DL.mD w hk hm ha).nm w p hp).ok) ((w.ao kd hk a ha).2.2.ok w) h
end DL
namespace DL
open PySem L2
theorem map_one{α:Type}{f:α->Str}{l:!α}(h:(l.map f).Nodup){a b:α}(ha:a∈l)(hb:b∈l)(e:f a=f b):a=b:=by
 let(i,hi,rfl):=aba ha;let(j,hj,rfl):=aba hb;have h2:(l.map f)[i]'(by simpa using hi)=(l.map f)[j]'(by simpa using hj):=by simpa using e
 have:=(abL h).mp h2;subst this
 rfl
theorem lX{α β:Type}{l:!α}{m:!β}{a:α}{b:β}(h:m.length=l.length):(l++[a]).zip (m++[b])=l.zip m++[(a,b)]:=by
 rw[List.zip_append (by cbv)]
 rfl
end DL
namespace Nx
open PySem Sem
open PySem.AutoSeq1 (wpAny_loadPart')
section
variable{prog:Fa}{w:FB}{A:Fr}{E:acb}{s:Cl}
end
end Nx
namespace L2
open PySem PySem.Spec
open PyProof.Rows hiding St
section
variable{P:Fa}{w:FB}{K:Frag}
section
variable{M:Model}{A:Fr}{E:acb}{s:Cl}{env:Env}
end
section
variable{X:Cx}
end
end
end L2
namespace DL
open PySem PySem.Spec L2
open PyProof.Rows hiding St
section
variable{X:Cx}{c:Ent}
end
end DL
namespace Nx
open PySem Sem
theorem ux:typeLookup (.type "list") "keys"=Pure.pure none:=by rw[typeLookup_type,builtinLookup_eq_fast];kernel_rfl
theorem zH:typeLookup (.type "list") "__getattr__"=Pure.pure none:=by rw[typeLookup_type,builtinLookup_eq_fast];kernel_rfl
section
variable{prog:Fa}{w:FB}{A:Fr}{E:acb}{h:Db}{g:Array GenState}{d:Drawn}{t:Nat}{os:OsState}{a:AC}{o:Obj}
theorem rb:isSubtype (.type "AttributeError") (.type "AttributeError")=Pure.pure true:=by rw[isSubtype_type];kernel_rfl
theorem zC(vs:!AT):firstArgMember (.type "AttributeError") vs=Pure.pure .none:=by
 unfold firstArgMember;have e:((Manifest.find? "AttributeError").elim false λt=>t.mro.contains "StopIteration"||t.mro.contains "SystemExit")=false:=by decide+kernel
 simp only[pure_bind,e]
 rfl
theorem yu{α:Type}{h2:Db}{e:AC}{p v:AT}{nm:Str}{sl:Array (Option AT)}{Q:α->Cl->Prop}(hh:A.handled=none)(he:h2.get? e=some #[.type "AttributeError",none,.fields #v[p,.none,.none,.none,.bool false,.none,unsetMember,unsetMember],sl])(hq:∀ h3 t',(∀ b u,b≠e->h2.get? b=some u->h3.get? b=some u)->(∃ u,h3.get? e=some u/\u.cls=.type "AttributeError")->E (.ref e) #[h3,g,d,t',os]) :
  EQ (model prog w) A (mkText nm >>= λn=>noteAttr (.ref e) v n >>= λ_=>raiseNew (.ref e)) Q E #[h2,g,d,t,os]:=by
 have hT:∀ t',(#[h2,g,d,t',os]:Cl).TypeIs (.ref e) "AttributeError":=λ_=>#[_,he,U];have hT1:=hT (t+1);have f6:=rb;unfold noteAttr raiseNew
 repeat (any_goals (first | assumption | wp_step))
 exact hq _ _ (λb u hb x=>(Db.get?_update_ne _ _ _ _ hb).trans x) #[_,abG _ he (Obj.isFreed_of_fields (Obj.data_mapFields U _)),(Obj.cls_mapFields ..).trans U]
theorem yx{α:Type}{v:AT}{nm msg:Str}{Q:α->Cl->Prop}(hh:A.handled=none)(hz:msg.length<=FS)(hq:∀ h' e t',(∀ b u,h.get? b=some u->h'.get? b=some u)->(∃ u,h'.get? e=some u/\u.cls=.type "AttributeError")->E (.ref e) #[h',g,d,t',os]) :
  EQ (model prog w) A (raiseAttrError v nm msg) Q E #[h,g,d,t,os]:=by
 unfold raiseAttrError;simp only[newExc,newTuple];show Da (wpAny_mkStr ?_ hz);show Da (Da (ST ?_ (by size_fits)));show Da (m:=firstArgMember _ _) (wpAny_of_eq (zC _) ?_);show ST ?_ (by size_fits);dsimp only;show yu (sl:=#v[]) hh (aat _ U) λh3 t' k c=>hq h3 _ t' (λb u x=>k b u (aaD (aay (aar x) ?_)) (aae _ (aae _ x))) c;rw[aaV];exact ab1 _
theorem yn{tk:Tok}{items:Array AT}{n:Nat}{sl:Array (Option AT)}{Q:PySem.Fin->Cl->Prop}(hh:A.handled=none)(hx:h.get? a=some #[.type "list",none,.seq items n,sl])(hq:∀ h' e t',(∀ b u,h.get? b=some u->h'.get? b=some u)->(∃ u,h'.get? e=some u/\u.cls=.type "AttributeError")->E (.ref e) #[h',g,d,t',os]) :
  EQ (model prog w) A (GT.«object.__getattribute__» #[[.ref a,.str "keys" tk],[]]) Q E #[h,g,d,t,os]:=by
 have hT:(#[h,g,d,t,os]:Cl).TypeIs (.ref a) "list":=#[_,hx,U];have f4:=ux
 repeat (any_goals (first | assumption | with_reducible show yx hh (-()) hq | wp_step))
theorem Hh{tk:Tok}{items:Array AT}{n:Nat}{sl:Array (Option AT)}{Q:acb}(hh:A.handled=none)(hx:h.get? a=some #[.type "list",none,.seq items n,sl])(hq:∀ h' e t',(∀ b u,h.get? b=some u->h'.get? b=some u)->(∃ u,h'.get? e=some u/\u.cls=.type "AttributeError")->E (.ref e) #[h',g,d,t',os]) :
  EQ (model prog w) A (getAttrBy (.ref a) (.str "keys" tk) false) Q E #[h,g,d,t,os]:=by
 have hT:(#[h,g,d,t,os]:Cl).TypeIs (.ref a) "list":=#[_,hx,U];have f2:=F.slot_list_getattribute.lookup;have f3:=F.slot_list_getattribute.bind (.ref a);have f5:=zH
 repeat (any_goals (first | assumption | wp_step))
 show codeAny_call_builtin F.slot_list_getattribute.plain F.entry_list_ga (F.slot_list_getattribute.check _ _ _ _ _ _ _ _ hT (F.args_list_getattribute_2 _ _) (yn hh hx λh' e t' k c=>?_));let(u,hu,hc):=c;have hT2:(#[h',g,d,t',os]:Cl).TypeIs (.ref e) "AttributeError":=#[u,hu,hc];have f6:=rb;change EQ _ _ (getattributeRaised (.ref a) (.str "keys" tk) (.type "list") (.ref e) none false false) _ _ _;have hE:=hq h' e t' k #[u,hu,hc]
 repeat (any_goals (first | assumption | wp_step))
theorem Gq{items:Array AT}{n:Nat}{sl:Array (Option AT)}{Q:Option AT->Cl->Prop}(hh:A.handled=none)(hx:h.get? a=some #[.type "list",none,.seq items n,sl])(hq:∀ h' t',(∀ b u,h.get? b=some u->h'.get? b=some u)->Q none #[h',g,d,t',os]) :
  EQ (model prog w) A (getAttr? (.ref a) "keys") Q E #[h,g,d,t,os]:=by
 unfold getAttr? getAttrBy?;show Da ?_;have f6:=rb;unfold mkText
 repeat (any_goals (first | assumption | with_reducible apply Hh hh hx | wp_step))
 intro h' e t' k c;let(u,hu,hc):=c;have hT2:(#[h',g,d,t',os]:Cl).TypeIs (.ref e) "AttributeError":=#[u,hu,hc];have hE:=hq h' t' k
 repeat (any_goals (first | assumption | wp_step))
end
end Nx
namespace L2
open PySem PySem.Spec
open PyProof.Rows hiding St
section
variable{X:Cx}{TW:acd}{σ:St}
theorem tV:entryFor table "dict.update.loop"=some GT.«dict.update.loop»:=entryFor_of_tree (by kernel_rfl)
theorem HZ{K:Frag}{H:Hp}{l a:AC}{xs:!V}{o:HO}(e:H a=none)(h:dN K H l xs):dN K (upd H a o) l xs:=by
 rcases h with (h | ⟨u,h⟩) | h
 .exact .inl (.inl (by rw[aA (aI h e)];exact h))
 .exact .inl (.inr #[u,by rw[aA (aI h e)];exact h])
 .exact .inr h
end
end L2
namespace DL
open PySem PySem.Spec L2
section
variable{X:Cx}{c:Ent}
end
end DL
namespace HT
open PySem PySem.Spec PyProof.Rows
open PySem.AutoSeq1
theorem tuple_addW0(l b:AC)(items M8:Array AT)(n n2:Nat)(dd NL:Option AC)(sl NH:Array (Option AT))(hc0:items.isEmpty=true) :
  Meets (GT.«tuple.__add__» #[[.ref l,.ref b],[]]) (λ_ R s=>s.heap.get? l=some #[.type "tuple",dd,.seq items n,sl]/\s.heap.get? b=some #[.type "tuple",NL,.seq M8 n2,NH]/\R (.ok (.ret (.ref b))) s) :=
 .of_wp λprog w A R s h=>by
  let(hp,g,d,tk,os):=s;let(hl,hb,h):=h;have f2:=PySem.AutoSeq1.sub_tuple_tuple
  wp_walk using wpAny_loadPart' hl,wpAny_loadPart' hb
  exact#[_,U,h]
section
variable{prog:Fa}{w:FB}{A:Fr}{E:acb}{s:Cl}
theorem Dg{t b:AC}{ws:!AT}{Q:acb}(ht:IsTup s.heap t ([]:!AT).toArray)(hb:IsTup s.heap b ws.toArray)(h:Q (.ref b) s):EQ (model prog w) A (Os .Add (.ref t) (.ref b)) Q E s:=by
 let((cls,dd,data,sl),ho,hc,n,hd):=id ht;let((cls2,NL,data2,NH),ho2,hc2,n2,hd2):=id hb;simp only at hc hd hc2 hd2;subst hc hd hc2 hd2;exact concat_meets #[_,ho,U] #[_,ho2,U] noFill_tuple_add seq_tuple_add ab2 abX (abV _ _) (tuple_addW0 t b _ ws.toArray n n2 dd NL sl NH U) #[ho,ho2,h]
end
end HT
namespace L2
open PySem PySem.Spec PyProof.Rows
section
variable{X:Cx}
def JL(K:Frag):R2:=λx y H Q=>∃ a b xs ys,x=.ref a/\y=.ref b/\iu K H a xs/\iu K H b ys/\xs.length+ys.length<=FS/\(xs=[]->Q (.ref b) H)/\(xs≠[]->ys=[]->Q (.ref a) H)/\(xs≠[]->ys≠[]->∀ p,H p=none->Q (.ref p) (upd H p (.tup (xs++ys))))
theorem GO:jt X (Os .Add) (JL X.K):=by
 intro TW s σ H x y v u Q I rx ry h;let(a,b,xs,ys,rfl,rfl,ha,hb,hz,q0,q1,q2):=h;by_cases hx:xs=[]
 .cases rx;cases ry;let(its,r1,p1,_):=I.tuple ha;let(its2,r2,p2,_):=I.tuple hb;have e:its=[]:=r1.pV.mpr hx;subst e;exact HT.Dg p1 p2 #[.ref b,H,I,U,q0 hx]
 .exact uG TW s σ H _ _ v u Q I rx ry #[a,b,xs,ys,U,U,ha,hb,hx,hz,q1 hx,q2 hx]
end
end L2
namespace DL
open PySem PySem.Spec L2
section
variable{X:Cx}{c:Ent}
def T1:D->D->(D->Prop)->Prop:=λa b k=>∃ xs ys,a=.tup xs/\b=.tup ys/\xs.length+ys.length<=FS/\k (.tup (xs++ys))
theorem Nn:su X c (JL X.K) T1:=λM s as σ H x y dx dy k Q L rx ry z4r kk=>by
 let(xs,ys,e1,e2,hl,hk):=z4r;subst e1;subst e2;let(p,vs,rfl,t,r):=rx;let(p',vs',rfl,t',r'):=ry;show#[p,p',vs,vs',U,U,t.sq,t'.sq,by rw[r.length,r'.length];exact hl,λz=>?_,λ_ z=>?_,λ_ z q hq=>?_]
 .have:=r.length;rw[z] at this;have e:xs=[]:=aaO this.symm;subst e;rw[aaF] at hk;exact kk _ hk M H _ L .refl #[p',vs',U,t',r']
 .have:=r'.length;rw[z] at this;have e:ys=[]:=aaO this.symm;subst e;rw[aal] at hk;exact kk _ hk M H _ L .refl #[p,vs,U,t,r]
 .exact kk _ hk _ _ _ (L.fresh hq) (Ext.fresh hq) #[q,vs++vs',U,#[.inr U,aD],kj hq (r.append r')]
end
end DL
namespace DL
open PySem PySem.Spec L2
open PyProof.Rows hiding St
section
variable{K:Frag}{H:Hp}{M:AC->Prop}{a:AC}
end
section
variable{X:Cx}{c:Ent}{k:Nat}{f:AC}{fd:Go}{ps:!Str}{t:ace}{x:Str}{p pos:Pos}{e ex:Ch}{te:aU}
end
end DL
namespace DL
open PySem L2
end DL
namespace DL
open PySem PySem.Spec L2
open PyProof.Rows hiding St
section
variable{K:Frag}{d l r:AC}{M:AC->Prop}{H:Hp}
end
section
variable{P:Fa}{w:FB}{K:Frag}{mg:Str->Option AT}{base:Db}{d l r:AC}
end
section
variable{X:Cx}{c:Ent}{st:Ev}{e:Ch}{te:aU}{pos:Pos}
def Q2(te:aU):iF:=λR s=>te s λx s1=>R.rs x s1
theorem lu(he:DE X c e te):pE X c (.Return (some e) pos) (Q2 te):=#[(nU he.pe).imp λE σ H zz=>cQ zz λM s as R L q k =>
 #[M,s,as,_,L,q,λd s1 r M' H' v L' E' rv=>k.rs d s1 as M' σ H' v r L' rv]]
end
section
variable{K:Frag}{c:Ent}{M M':AC->Prop}{s:DS}{as:!AC}{σ:St}{H H':Hp}{d l r:AC}
end
section
variable{X:Cx}{k:Nat}{f d l r:AC}{M0:AC->Prop}{H0:Hp}{fd:Go}{ps:!Str}{x:Str}{p pos:Pos}{e:Ch}{es:!Ch}{ta:eQ}
end
end DL
namespace DL
open PySem PySem.Spec L2
def w3K:!Key:=[.inr "kinds",.inr "vars",.inr "heads"]
def pU(W:aW):D:=.i7 w3K [.lst (W.kinds.map sy),.lst (W.vars.map .str),.lst (W.heads.map .str)]
theorem gC{W:aW}{k:Option D->Prop}(h:k (some (.lst (W.kinds.map sy)))):BY (pU W)=true/\BF (pU W) (.str "kinds") k:=#[U,.inl #[_,_,_,U,U,h]]
theorem Bl{W:aW}{k:Option D->Prop}(h:k (some (.lst (W.vars.map .str)))):BY (pU W)=true/\BF (pU W) (.str "vars") k:=#[U,.inl #[_,_,_,U,U,h]]
theorem yj{W:aW}{k:Option D->Prop}(h:k (some (.lst (W.heads.map .str)))):BY (pU W)=true/\BF (pU W) (.str "heads") k:=#[U,.inl #[_,_,_,U,U,h]]
structure AB(ws:!Str)(ks:!Kd):Prop where
 ex:∃ (ns ML AL:!Str) (v7:!Kd),ns=ws.take ns.length/\1<=ns.length/\ns.length<=3/\ML.Perm ws/\AL.Perm ws/\v7.length=ns.length/\GA ws ns ML AL v7 /\
  (ks=v7\/∃ kd:Kd,ks=v7++[kd]/\kd.bz=[]/\ws[3]?=some kd.name/\kd.bN.length<=2/\Fv ws [] (AL.drop (dC v7).length) kd.bN)
theorem AB.bp{ws:!Str}{ks:!Kd}(inner:Bool)(h:AB ws ks)(hl:ws.length=45)(hn:ws.Nodup)(hm:∀ x∈ws,Nm x):gf (pj ws ks inner):=by
 let(ns,ML,AL,v7,e1,n1,n3,pM,pA,rl,I,hk):=h.ex;have hML:ML.Nodup:=pM.nodup_iff.mpr hn;have hAL:AL.Nodup:=pA.nodup_iff.mpr hn;have rk:v7.map Kd.name=ns:=by rw[I.kn,rl,List.take_length]
 have hh:(ws.drop 24).take 6++ws.drop 30=ws.drop 24:=by
  have:=abJ 6 (ws.drop 24)
  rwa [List.drop_drop] at this
 have h3:((ws.drop 24).take 6).take 3=(ws.drop 24).take 3:=by rw[List.take_take];rfl
 have h4:((ws.drop 24).take 6).drop 3=(ws.drop 27).take 3:=by rw[List.drop_take,List.drop_drop]
 have mem:∀ k∈ks,k∈v7\/(k.bz=[]/\ws[3]?=some k.name/\k.bN.length<=2/\Fv ws [] (AL.drop (dC v7).length) k.bN):=λk hkk=>by
  rcases hk with rfl | ⟨kd,rfl,a,b,c,d⟩
  .exact .inl hkk
  .rcases aaw.mp hkk with z | z
   .exact .inl z
   .rw[aag.mp z];exact .inr #[a,b,c,d]
 have sub:∀ k∈v7,k∈ks:=λk hkk=>by
  rcases hk with rfl | ⟨kd,rfl,_⟩
  .exact hkk
  .exact aaH _ hkk
 have inML:∀ x∈ML,Nm x:=λx hx=>hm x (pM.mem_iff.mp hx);have inAL:∀ x∈AL,Nm x:=λx hx=>hm x (pA.mem_iff.mp hx);have mnm:∀ k∈v7,∀ m∈k.bz,Nm m.name:=λk hkk m hmm=>by
  have:m.name∈er v7:=aaU.mpr #[k,hkk,aav hmm];rw[I.mn] at this;exact inML _ (aaZ this)
 have anm:∀ k∈v7,∀ a∈k.bN,Nm a.name:=λk hkk a haa=>by
  have:a.name∈dC v7:=aaU.mpr #[k,hkk,aav haa];rw[I.an] at this;exact inAL _ (aaZ this)
 have kok:∀ x∈ns++ip,lP (pj ws ks inner) x:=λx hx=>by
  rcases aaw.mp hx with hx | hx
  .rw[<- rk] at hx;let(k,hkk,e):=aak.mp hx;exact .inr #[k,sub k hkk,(I.rg k hkk).m0,e]
  .exact .inl (aag.mp hx)
 have kok0:∀ x∈([]:!Str)++ip,lP (pj ws ks inner) x:=λx hx=>.inl (aag.mp hx);show#[?_,?_,λk hkk=>?_,?_,?_,λk hkk m hmm=>?_,λk hkk a haa=>?_,λk hkk m r e=>?_,?_,?_,?_,λx hx=>?_]
 .rcases hk with rfl | ⟨kd,rfl,_⟩
  .show ks.length<=5;cbv
  .show (v7++[kd]).length<=5;rw[aab];simp;cbv
 .rcases hk with rfl | ⟨kd,rfl,_,b,_⟩
  .show (ks.map Kd.name).Nodup;rw[rk,e1];exact hn.sublist (aaW _ _)
  .show ((v7++[kd]).map Kd.name).Nodup;rw[aai,rk,e1];exact qG hn (by cbv) b
 .rcases mem k hkk with z | ⟨a,b,c,d⟩
  .refine#[?_,(I.rg k z).ml,(I.rg k z).al];have:k.name∈ns:=rk▸aav z;rw[e1] at this;exact hm _ (aaZ this)
  .exact#[hm _ (aaK b),by rw[a];decide,by cbv]
 .have:er ks=er v7:=by
   rcases hk with rfl | ⟨kd,rfl,a,_⟩
   .rfl
   .rw[gL,a,aaQ,aal]
  change (er ks).Nodup;rw[this,I.mn];exact hML.sublist (aaW _ _)
 .show (dC ks).Nodup;rcases hk with rfl | ⟨kd,rfl,_,_,_,d⟩
  .rw[I.an];exact hAL.sublist (aaW _ _)
  .rw[gS];have:=take_snoc (A:=dC v7) (B:=kd.bN.map d6.name) I.an (by rw[aaa];exact d.nm);rw[this];exact hAL.sublist (aaW _ _)
 .rcases mem k hkk with z | ⟨a,_⟩
  .refine#[mnm k z m hmm,?_];let(q1,q2,q3):=(I.rg k z).mp m hmm;exact#[q1,by rw[show (pj ws ks inner).heads.take 3=(ws.drop 24).take 3 from h3];exact q2,λp hp=>kok _ (q3 p hp)]
  .rw[a] at hmm;cases hmm
 .rcases mem k hkk with z | ⟨_,_,_,d⟩
  .refine#[anm k z a haa,?_];let((q1,q2,q3),q4):=(I.rg k z).ap a haa;exact#[#[q1,by rw[show (pj ws ks inner).heads.drop 3=(ws.drop 27).take 3 from h4];exact q2,λp hp=>kok _ (q3 p hp)],kok _ q4]
  .let((q1,q2,q3),q4):=d.ap a haa;show#[?_,#[q1,by rw[show (pj ws ks inner).heads.drop 3=(ws.drop 27).take 3 from h4];exact q2,λp hp=>kok0 _ (q3 p hp)],kok0 _ q4];have:a.name∈k.bN.map d6.name:=aav haa;rw[d.nm] at this;exact inAL _ (abN (aaZ this))
 .rcases mem k hkk with z | ⟨a,_⟩
  .exact (I.rg k z).mf m r e
  .rw[a] at e;cases e
 .show ((ws.drop 24).take 6).length=6;simp[hl]
 .show (ws.drop 30).length=15;simp[hl]
 .show ((ws.drop 24).take 6++ws.drop 30).Nodup;rw[hh];exact hn.sublist (List.drop_sublist _ _)
 .have hx:x∈(ws.drop 24).take 6++ws.drop 30:=hx;rw[hh] at hx;exact hm x (abN hx)
def Fm.fl:Fm->Bool
 | .FY _ _=>false
 | .new _ _=>false
 | _=>true
mutual
noncomputable def Tm.fl:Tm->Bool
 | .node f ts=>f.fl&&yT ts
noncomputable def yT:!Tm->Bool
 | []=>true
 | t::ts=>t.fl&&yT ts
end
theorem vE:∀ {ts:!Tm},(∀ t∈ts,t.fl=true)->yT ts=true
 | [],_=>rfl
 | t::ts,h=>by
  change (t.fl&&yT ts)=true;rw[h t aad,vE λu hu=>h u (aac _ hu)]
  rfl
theorem vS{f:Fm}{ts:!Tm}(hf:f.fl=true)(h:∀ t∈ts,t.fl=true):(Tm.node f ts).fl=true:=by
 change (f.fl&&yT ts)=true;rw[hf,vE h]
 rfl
def szT:!Nat:=[4,4,17,18,35,36,52,53,71,72,73,74,106,107,108,109,143,144]
def sz(r:Nat):Nat:=szT.getD r 144
theorem vn{a b:Nat}(h:a<=b)(hb:b<=17):sz a<=sz b:=by
 have:∀ b,b < 18->∀ a,a < 18->a<=b->sz a<=sz b:=by decide
 exact this b (by cbv) a (by cbv) h
def VD(n q r:Nat):Prop:=n * sz q+1<=sz r
theorem yP{r n:Nat}(h:r<=17)(h2:2<=r)(hn:n<=4):VD n ((r - 1) / max 1 n) r:=by
 have:∀ r,r < 18->2<=r->∀ n,n < 5->n * sz ((r - 1) / max 1 n)+1<=sz r:=by decide
 exact this r (by cbv) h2 n (by cbv)
theorem MK{r:Nat}(h:r<=17)(h2:2<=r):VD 3 (r / 3) r:=by
 have:∀ r,r < 18->2<=r->3 * sz (r / 3)+1<=sz r:=by decide
 exact this r (by cbv) h2
theorem KI{r:Nat}(h:r<=17)(h2:2<=r):VD 2 (r / 2) r:=by
 have:∀ r,r < 18->2<=r->2 * sz (r / 2)+1<=sz r:=by decide
 exact this r (by cbv) h2
theorem qE{m:Nat}:∀ {ts:!Tm},(∀ t∈ts,t.size<=m)->bh ts<=ts.length * m
 | [],_=>aax _
 | t::ts,h=>by
  have h1:=h t aad;have h2:=qE λu hu=>h u (aac _ hu);change t.size+bh ts<=(ts.length+1) * m;rw[Nat.add_mul];cbv
def Tm.rq(n r:Nat)(t:Tm):Prop:=t.dep<=n/\t.size<=sz r/\t.fl=true
theorem nj{f:Fm}{ts:!Tm}{n r q:Nat}(h:∀ t∈ts,t.rq n q)(hb:VD ts.length q r)(hf:(f.fl=true)⁻¹):(Tm.node f ts).rq (n+1) r:=by
 show#[qC λt ht=>(h t ht).1,?_,vS hf λt ht=>(h t ht).2.2];change bh ts+1<=_;exact aap (Nat.add_le_add_right (qE λt ht=>(h t ht).2.1) 1) hb
def Tm.lf(n:Nat)(k:Str)(t:Tm):Prop:=t.dep<=n/\t.size<=4/\(k="number"->t.size<=1)/\t.fl=true
theorem z7{f:Fm}{n:Nat}{k:Str}(hf:(f.fl=true)⁻¹):(Tm.node f []).lf (n+1) k:=#[qC λ_ h=>(nomatch h),by change 0+1<=4;cbv,λ_=>by change 0+1<=1;cbv,vS hf λ_ h=>(nomatch h)]
theorem HN{f:Fm}{ts:!Tm}{n:Nat}{k:Str}(hk:k≠"number")(hl:ts.length<=3)(h:∀ t∈ts,t.lf n "number")(hf:(f.fl=true)⁻¹):(Tm.node f ts).lf (n+1) k:=by
 show#[qC λt ht=>(h t ht).1,?_,λe=>absurd e hk,vS hf λt ht=>(h t ht).2.2.2];change bh ts+1<=4;have h2:=qE λt ht=>(h t ht).2.2.1 U;cbv
theorem Tm.lf.rq{n m r:Nat}{k:Str}{t:Tm}(h:t.lf n k)(hm:n<=m)(hr:r<=17):t.rq m r:=#[aap h.1 hm,aap h.2.1 (vn (aax r) hr),h.2.2.2]
end DL
namespace DL
open PySem L2 PyProof.Rows
abbrev D3:=Str×Ev×!Str
def Own(K:Frag)(mg:Str->Option AT)(d:D3):Prop:=∃ f fd,tH K d.1 d.1 d.2.1 f fd/\mg d.1=some (.ref f)/\Binds K fd d.2.2 []
def C4(P:Fa)(w:FB)(K:Frag)(mg:Str->Option AT)(base:Db)(CX:ya)(d:D3)(k:Nat)(sp:Sp):Prop:=∃ f fd,bZ P w K mg base CX k f fd d.2.2 sp/\tH K d.1 d.1 d.2.1 f fd/\mg d.1=some (.ref f)/\Binds K fd d.2.2 []
section
variable{P:Fa}{w:FB}{K:Frag}{mg:Str->Option AT}{base:Db}{CX:ya}{d:D3}{k:Nat}{sp Ux:Sp}
theorem Own.c(o:Own K mg d)(h:∀ f fd,tH K d.1 d.1 d.2.1 f fd->bZ P w K mg base CX k f fd d.2.2 sp):C4 P w K mg base CX d k sp :=
 let #[f,fd,F,m,b]:=o
 #[f,fd,h f fd F,F,m,b]
theorem C4.imp(c:C4 P w K mg base CX d k sp)(h:∀ f fd,bZ P w K mg base CX k f fd d.2.2 sp->bZ P w K mg base CX k f fd d.2.2 Ux):C4 P w K mg base CX d k Ux :=
 let #[f,fd,G,r]:=c
 #[f,fd,h f fd G,r]
theorem KJ{h:Db}{f:AC}{oc:AT}{od an:Option AC}{F8:Array (Option AT)}{kV doc pm a8 ct:AT}(X:K.In h)(G:h.Ns GM mg)(a:nsIn K GM d.1=some (some (.ref f)))(l:K.lookup f=some #[oc,od,.func (fnOf d.1 d.1 (bF d.2.1) (aL d.2.1) (ai d.2.1) .none kV doc pm an a8 ct),F8])(c:codeIn K a8 d.1=true)(k:keepIn K (.ref f)=true)(b:∀ (kV doc pm:AT) (an:Option AC) (a8 ct:AT) (us:!AT),us.length=d.2.2.length->bindArgs (fnOf d.1 d.1 (bF d.2.1) (aL d.2.1) (ai d.2.1) .none kV doc pm an a8 ct) #[us,[]]=pure (d.2.2.zip us)):Own K mg d :=
 #[f,_,cw l c k,aaA X G a,(cw (st:=d.2.1) l c k).binds b]
end
section
variable{X:Cx}{c:Ent}{d:D3}{k m:Nat}{t:ace}{x:Str}{p pos:Pos}{e:Ch}{es:!Ch}{ta:eQ}
theorem az(hr:b4 m X.A)(G:C4 X.prog X.w X.K X.mg X.base aP d k (cR X.K c.g t))(ha:DA X c (e::es) ta)(hx:(d.1=x)⁻¹)(hk:k<=m:=by ac_rfl)(hg:(Gl X x)⁻¹)(jf: ~~~(ach x))(he:(acf X.env e es)⁻¹)(fe:(acg X.env pos es)⁻¹) :
  DE X c (.Call (.Name x p) (e::es) [] pos) (iL t ta):=by
 subst hx;let(f,fd,G,F,M,b):=G;exact MH (hr.mono hk) hg M F.kp b ha G jf he fe
theorem bE(hr:b4 m X.A)(G:C4 X.prog X.w X.K X.mg X.base aP d k (cR X.K .no t))(ha:DA X c (e::es) ta)(hx:(d.1=x)⁻¹)(hk:k<=m:=by ac_rfl)(hg:(Gl X x)⁻¹)(jf: ~~~(ach x))(he:(acf X.env e es)⁻¹)(fe:(acg X.env pos es)⁻¹) :
  DE X c (.Call (.Name x p) (e::es) [] pos) (iL t ta):=by
 subst hx;let(f,fd,G,F,M,b):=G;exact Gp (hr.mono hk) hg M F.kp b ha G jf he fe
theorem nk(hr:b4 m X.A)(G:C4 X.prog X.w X.K X.mg X.base aP d k (FZ X.K .no t))(ha:DA X c (e::es) ta)(hx:(d.1=x)⁻¹)(hk:k<=m:=by ac_rfl)(hg:(Gl X x)⁻¹)(jf: ~~~(ach x))(he:(acf X.env e es)⁻¹)(fe:(acg X.env pos es)⁻¹) :
  DN X c (.Call (.Name x p) (e::es) [] pos) (iL t ta):=by
 subst hx;let(f,fd,G,F,M,b):=G;exact Ia (hr.mono hk) hg M F.kp b ha G jf he fe
end
theorem dM{N P:!Str}{sc:Scope}(h1:(sc.kind=.function)⁻¹)(h2:(sc.isCoroutine=false)⁻¹)(h3:(sc.isGenerator=false)⁻¹)(h4:N.Nodup:=by decide+kernel)(h5:(N.take P.length=P)⁻¹)(h6:∀ x∈P,sc.names.lookup x=some .local\/sc.names.lookup x=some .cell:=by decide+kernel)(h7:∀ y∈sc.names,y.2≠.free:=by decide+kernel):ax N P sc:=#[h1,h2,h3,h4,h5,h6,h7]
theorem cV{g:o7}{tb:iF}{R:gX}(I:!D->DS->Prop)(h0:∀ s,I [] s->R.nx s)(h1:∀ x xs s (E:gX),I (x::xs) s->(∀ s',I xs s'->E.nx s')->(∀ d,R.rt d->E.rt d)->g x s λs1=>tb E s1):∀ xs s,I xs s->mB g tb R xs s
 | [],s,h=>h0 s h
 | x::xs,s,h=>h1 x xs s { R with nx:=λs'=>mB g tb R xs s',ct:=λs'=>mB g tb R xs s',bk:=R.nx } h (λs' h'=>cV I h0 h1 xs s' h') λ_ h=>h
section
variable{X:Cx}{c:Ent}{x:Str}{pos p:Pos}
theorem vd(i:Nat)(hN:(X.N[i]?=some x)⁻¹)(hv:NF X.env.scope x:=by first | exact Or.inl U | exact Or.inr (Or.inl U) | exact Or.inr (Or.inr U))(hd: ~~~(ach x))(uN: ~~~((x == ("__classdict__":Str))=false)):DE X c (.Name x pos) (MP i):=dv (zw hN hv hd uN)
theorem gN{n:Nat}(i:Nat)(hN:X.N.Nodup)(hi:(X.N[i]?=some x)⁻¹)(hx:Loc X.env.scope x:=by exact Or.inl U)(hf:aci X x:=by ac_nf)(hl: ~~~(i < n)):DG X c n (.Name x pos) (ve i):=hJ (dS hN hi hx hf) hl
theorem gM{n:Nat}(i:Nat)(L:!Str)(hN:L.Nodup:=by decide+kernel)(hL:(X.N=L)⁻¹)(hi:(L[i]?=some x)⁻¹)(hx:Loc X.env.scope x:=by exact Or.inl U)(hf:aci X x:=by ac_nf)(hl: ~~~(i < n)):DG X c n (.Name x pos) (ve i):=hJ (dS (hL▸hN) (hL▸hi) hx hf) hl
theorem sS{e:Ch}{te:aU}(i:Nat)(hN:X.N.Nodup)(he:DE X c e te)(hi:(X.N[i]?=some x)⁻¹)(hx:Loc X.env.scope x:=by exact Or.inl U)(hs:(swapsWith e (some (.Name x p)) pos.line X.env=pure false)⁻¹)(hf:aci X x:=by ac_nf):pE X c (.Assign [.Name x p] e pos) (Ed i te):=oK (gm hN hi hx he.pe hs hf)
theorem sN{e:Ch}{te:aU}(k i:Nat)(hN:X.N.Nodup)(he:DN X c e te)(hi:(X.N[i]?=some x)⁻¹)(hx:Loc X.env.scope x:=by exact Or.inl U)(hs:(swapsWith e (some (.Name x p)) pos.line X.env=pure false)⁻¹)(hf:aci X x:=by ac_nf)(jN:c.g.kK.length<=k:=by first | exact aax _ | exact aah _ | exact ab5 (aax _)):pE X c (.Assign [.Name x p] e pos) (D0 i k te):=Md (gm hN hi hx he.pe hs hf) jN
variable{a b:Ch}{ta tb:aU}
theorem bO(ha:DE X c a ta)(hb:DE X c b tb)(hs:mT b:=by exact λ_ _=>rfl):DE X c (.Subscript a b pos) (Dt LJ ta tb):=EH KW Qt ha hb hs
theorem jv(ha:DE X c a ta)(hb:DE X c b tb)(hs:mT b:=by exact λ_ _=>rfl):DE X c (.Subscript a b pos) (Dt Ml ta tb):=EH AJ Tp ha hb hs
theorem sF{tg iter:Ch}{body:!Ev}{ti:eQ}{g:o7}{tb:iF}(hi:DI X c tg iter ti)(hg:DG X c 1000 tg g)(hb:pK X c body tb)(hc:(X.calm=true)⁻¹)(hp:PassesOwn (model X.prog X.w) X.A X.env X.xe:=by exact PassesOwn.never)(hs:acj iter X.env:=by intro _;rfl):pE X c (.For tg iter body [] pos) (Jo ti g tb):=S9 hp hc hi hg hb hs
theorem B8{e:Ch}{es:!Ch}{t:eQ}{apos cH:Pos}(i:Nat)(ha:DA X c (e::es) t)(hN:(X.N[i]?=some x)⁻¹)(hv:NF X.env.scope x:=by first | exact Or.inl U | exact Or.inr (Or.inl U) | exact Or.inr (Or.inr U))(hd: ~~~(ach x))(uN: ~~~((x == ("__classdict__":Str))=false))(gA:(attributeBase (.Name x p) "append" X.env (eval (.Name x p) X.env)=eval (.Name x p) X.env)⁻¹)(qt:(((IR cH (Gc (e::es) X.env)).all (λx=>(not x.1))&&(P3 cH (Re [] X.env)).all (λx=>x.1.isSome)
   && decide ((e::es).length+([]:!Ps).length+(if ([]:!Ps).isEmpty then 0 else 1) < 30))=true)⁻¹)(gz:((apos.endLine == cH.line)=true)⁻¹)(hs:(acf X.env e es)⁻¹)(gw:((IR cH (Gc es X.env)).any (·.1)=false)⁻¹)(Sf:(swapsWith (.Call (.Attribute (.Name x p) "append" apos) (e::es) [] cH) none pos.line X.env=pure false)⁻¹) :
  pE X c (.Expr (.Call (.Attribute (.Name x p) "append" apos) (e::es) [] cH) pos) (DQ (Xy i TH t)):=aR (zE abA abB hZ Bj (zw hN hv hd uN) ha gA qt gz hs gw) Sf
end
section
variable{X:Cx}{c:Ent}{pos p:Pos}{e:Ch}{es:!Ch}{t:eQ}
theorem dY(hm:X.mg "len"=none)(ha:DA X c (e::es) t)(hg:(Gl X "len")⁻¹)(he:(acf X.env e es)⁻¹)(fe:(acg X.env pos es)⁻¹):DE X c (.Call (.Name "len" p) (e::es) [] pos) (mZ Cu t):=cK fT Su hg hm abK ha () () he fe
theorem i9(hm:X.mg "tuple"=none)(ha:DA X c (e::es) t)(hg:(Gl X "tuple")⁻¹)(he:(acf X.env e es)⁻¹)(fe:(acg X.env pos es)⁻¹):DE X c (.Call (.Name "tuple" p) (e::es) [] pos) (mZ J7 t):=fJ kW NZ hg hm (-()) ha () () he fe
variable{tg elt iter:Ch}{ifs:!Ch}{scope:Scope}{tx:eQ}{g:o7}{ti:mH}{te:aU}
theorem nC(ts:!Str)(us:!Nat)(hi:DI X c tg iter tx)(hg:∀ C s H fp,DG (X.comp ts us scope C s H fp) c ts.length tg g)(Ek:∀ C s H fp,S0 (X.comp ts us scope C s H fp) c ifs ti)(he:∀ C s H fp,DE (X.comp ts us scope C s H fp) c elt te)(S:bQ X ts us scope:=by exact#[U,U,U,U,U,U])(hc:(X.calm=true)⁻¹)(hs:acj iter X.env:=by intro _;rfl):DN X c (.ListComp elt [#[tg,iter,ifs,0]] scope pos) (qB ts.length us tx g ti te):=Nf S hc hi hg Ek he hs
end
section
variable{P:Fa}{w:FB}{K:Frag}{mg:Str->Option AT}{base:Db}{q:D3}{k nos:Nat}{g:AQ}{t:ace}{N:!Str}
theorem Own.d(o:Own K mg q)(S:ax N q.2.2 (ai q.2.1))(len:∀ ds R,t ds R->ds.length=q.2.2.length)(hb:∀ (f:AC) (a8:AT) (A:Fr) (outer:!Env) (s:Cl) (H:Hp) (E:XK) (M:AC->Prop),b4 k (A.deeper (envOfC q.1 (ai q.2.1) ↑s f a8)) ->
   ∃ tb,pK (jr aP P w K mg base N q.1 (ai q.2.1) f a8 A outer s H E).wo #[g,M,H] (aL q.2.1) tb/\∀ ds R,t ds R->tb { nx:=λ_=>R .bx,rt:=R } (eo N.length nos ds))(hg:(g.kK=[])⁻¹):C4 P w K mg base aP q (k+1) (cR K g t):=o.c λf fd F=>Qz F S len (hb f) hg
end
end DL
namespace DL
open PySem PySem.Spec L2
open PyProof.Rows hiding St
section
variable{X:Cx}{k m:Nat}{d l r:AC}{M0:AC->Prop}{H0:Hp}{q:D3}{x:Str}{p pos:Pos}
end
end DL
namespace DL
open PySem L2
theorem eN{α:Type}{g:o7}{tb:iF}{R:gX}(f:α->D)(I:!α->DS->Prop){l:!α}(h0:∀ s,I l s->R.nx s)(h1:∀ dn x td s (E:gX),l=dn++x::td->I dn s->(∀ s',I (dn++[x]) s'->E.nx s')->(∀ d,R.rt d->E.rt d)->g (f x) s λs1=>tb E s1)(s:DS)(h:I [] s):mB g tb R (l.map f) s:=by
 show cV (λxs s=>∃ dn td,l=dn++td/\xs=td.map f/\I dn s) ?_ ?_ _ s #[[],l,U,U,h]
 .rintro s ⟨dn,td,e,hx,hi⟩;cases td with
  | nil=>rw[aal] at e;subst e;exact h0 s hi
  | cons a b=>cases hx
 .rintro x xs s E ⟨dn,td,e,hx,hi⟩ hN hE;cases td with
  | nil=>cases hx
  | cons a td =>
   injection hx with e1 e2;subst e1 e2;exact h1 dn a td s E e hi (λs' hs=>hN s' #[dn++[a],td,by rw[e];simp,U,hs]) hE
section
variable{X:Cx}{c:Ent}{a b:Ch}{ta tb:aU}{pos:Pos}
end
section
open PyProof.Rows
variable{P:Fa}{w:FB}{K:Frag}{mg:Str->Option AT}{base:Db}{q:D3}{k nos:Nat}{g:AQ}{t:ace}{N:!Str}
theorem Own.n(o:Own K mg q)(S:ax N q.2.2 (ai q.2.1))(len:∀ ds R,t ds R->ds.length=q.2.2.length)(hb:∀ (f:AC) (a8:AT) (A:Fr) (outer:!Env) (s:Cl) (H:Hp) (E:XK) (M:AC->Prop),b4 k (A.deeper (envOfC q.1 (ai q.2.1) ↑s f a8)) ->
   ∃ tb,pK (jr aP P w K mg base N q.1 (ai q.2.1) f a8 A outer s H E).wo #[g,M,H] (aL q.2.1) tb/\∀ ds R,t ds R->tb { nx:=λ_=>False,rt:=λ_=>False,rf:=R } (eo N.length nos ds))(hg:(g.kK=[])⁻¹):C4 P w K mg base aP q (k+1) (FZ K g t):=o.c λf fd F=>fnN F S len (hb f) hg
end
end DL
namespace DL
open L2 PySem
section
variable{i j:Nat}{s:DS}{Q:D->DS->Prop}{d a b:D}{k:D->Prop}{ds:!D}{n m:Int}{c:Bool}{B:Bool->Prop}
theorem q_v(h:s.sl[i]?=some (.dat d))(q:Q d s):MP i s Q:=#[d,h,q]
theorem q_bl(q:B c):∃ k,D.bl c=D.bl k/\B k:=#[c,U,q]
theorem q_eq(h:gp a=true/\gp b=true/\D4 (fv a) (fv b)=true)(q:k (.bl (decide (fv a=fv b)))):YJ a b k:=#[h,q]
theorem q_t0{x:D}{r:!D}(q:k x):LJ (.tup (x::r)) (.int 0) k:=#[_,_,_,U,U,cC,q]
theorem q_b0{f:Int->Int->Bool}(q:k (.bl (f n m))):YH f (.int n) (.int m) k:=#[n,m,U,U,q]
theorem q_i0{f:Int->Int->Int}(q:k (.int (f n m))):XJ f (.int n) (.int m) k:=#[n,m,U,U,q]
theorem q_ll(q:k (.int ds.length)):Cu [.lst ds] k:=#[ds,.inl U,q]
theorem q_lt(q:k (.int ds.length)):Cu [.tup ds] k:=#[ds,.inr U,q]
end
end DL
namespace DL
open PySem PySem.Spec L2
open PyProof.Rows hiding St
def gO(rs:!AC):AQ:={ AQ.no with kK:=rs }
def g8(H:Hp)(rs:!AC):Hp:=λb=>if b∈rs then none else H b
theorem gZ{H:Hp}{rs:!AC}{b:AC}(h:b∉rs):g8 H rs b=H b:=if_neg h
theorem vM{H:Hp}{rs:!AC}{b:AC}(h:b∈rs):g8 H rs b=none:=if_pos h
theorem Ho{H:Hp}{rs:!AC}{b:AC}{o:HO}(h:g8 H rs b=some o):b∉rs/\H b=some o:=by
 by_cases q:b∈rs
 .rw[vM q] at h;cases h
 .rw[gZ q] at h;exact#[q,h]
theorem l7{H:Hp}{x:AC}{o:HO}(h:H x=none):g8 (upd H x o) [x]=H:=by
 funext b
 by_cases q:b=x
 .subst q;rw[vM (aag.mpr U),h]
 .rw[gZ (λz=>q (aag.mp z)),aA q]
structure nS(K:Frag)(H:Hp)(M:AC->Prop)(rs:!AC)(cs:!D):Prop where
 inj:∀ (k l:Nat) (r:AC),rs[k]?=some r->rs[l]?=some r->k=l
 len:rs.length=cs.length
 at_:∀ (k:Nat) (r:AC) (d:D),rs[k]?=some r->cs[k]?=some d->¬ M r/\∃ o,H r=some o/\cy K H M d o
def zt:!(Option D)->Option (!D)
 | []=>some []
 | none::_=>none
 | some d::r=>match zt r with
  | some l=>some (d::l)
  | none=>none
theorem FH:∀ {l:!(Option D)} {cs:!D},zt l=some cs->l=cs.map some
 | [],cs,h=>by cases h;rfl
 | none::r,cs,h=>by cases h
 | some d::r,cs,h=>by
  unfold zt at h;cases e:zt r with
  | none=>rw[e] at h;cases h
  | some l=>rw[e] at h;cases h;rw[FH e];rfl
theorem UD{l:!(Option D)}{cs:!D}{n:Nat}(h:zt (l.take n)=some cs):(∀ (k:Nat) (d:D),cs[k]?=some d->l[k]?=some (some d))/\(∀ (k:Nat),k < n->k < l.length->∃ d,cs[k]?=some d/\l[k]?=some (some d))/\cs.length=min n l.length:=by
 have e:=FH h;have hl:cs.length=min n l.length:=by
  have:=congrArg List.length e;rw[aa8,aaa] at this;exact this.symm
 have g:∀ (k:Nat) (d:D),cs[k]?=some d->l[k]?=some (some d):=λk d hk=>by
  have h1:(l.take n)[k]?=some (some d):=by rw[e,aaG,hk];rfl
  rw[List.getElem?_take] at h1;split at h1
  .exact h1
  .cases h1
 show#[g,λk h1 h2=>?_,hl];have hk:k < cs.length:=by cbv
 exact#[cs[k],aaq hk,g k _ (aaq hk)]
abbrev mh:=!AC->!D->!D->(D->!D->Prop)->Prop
def b3(K:Frag)(t:mh):Sp:=λvs H Q _=>∃ rs M ds cs R,Base #[.no,M,H] M H/\nS K H M rs cs/\aE K H M ds vs/\t rs ds cs R /\
 ∀ x jy,R x jy->∀ M' H' v,Base #[.no,M,g8 H rs] M' H'->nS K H' M' rs jy->Rep K H' M' x v->Q v H'
def oh(n nos:Nat)(ds cs:!D):DS:=#[ds.map .dat++List.replicate (n - ds.length) .no,cs.map some++List.replicate nos none]
section
variable{K:Frag}{M M' M0:AC->Prop}{H H' H0:Hp}{rs:!AC}{cs jy:!D}{s:DS}{as:!AC}{σ:St}{nos:Nat}
theorem Base.Bk(B:Base #[gO rs,M0,H0] M H):Base #[.no,M0,H0] M H:=#[B.nZ,B.fr,B.md,B.mo,B.m0,B.mn]
theorem aG.Bk(L:aG K #[gO rs,M0,H0] M s as σ H):aG K #[.no,M0,H0] M s as σ H:=#[L.base.Bk,L.len,L.dA,L.dat,L.own,L.obj,L.inj,λ_ _ h=>(nomatch h)]
theorem yw{k:Nat}{d:D}{a:AC}(hl:rs.length=cs.length)(h1:(cs.map some++List.replicate nos none)[k]?=some (some d))(h2:(rs++List.replicate nos 0)[k]?=some a):cs[k]?=some d/\rs[k]?=some a:=by
 by_cases hk:k < cs.length
 .rw[aa0 (by rw[aaa];exact hk),aaG] at h1;rw[aa0 (by rw[hl];exact hk)] at h2;let(x,q1,q2):=aaI.mp h1;cases q2;exact#[q1,h2]
 .rw[aa1 (by rw[aaa];cbv)] at h1;let(_,e):=aaf.mp h1;simp at e
theorem aG.hold(L:aG K #[.no,M0,H0] M s as σ H)(qZ:s.os=[])(h:nS K H M rs cs)(hn:∀ r∈rs,H0 r=none):aG K #[gO rs,M0,H0] M #[s.sl,cs.map some++List.replicate nos none] (rs++List.replicate nos 0) σ H:=by
 show#[#[L.base.nZ,L.base.fr,L.base.md,L.base.mo,L.base.m0,L.base.mn],L.len,by simp[h.len],L.dat,λi k e=>?_,λk d a e1 e2=>?_,λk l d e a e1 e2 g1 g2=>?_,λk a e=>?_]
 .let(a,z,_):=L.own i k e;have:=(aaf.mp z).1;rw[L.dA,qZ] at this;exact absurd this (Nat.not_lt_zero _)
 .let(q1,q2):=yw h.len e1 e2;let(nm,o):=h.at_ k a d q2 q1;exact#[o,nm,λz=>z,hn a (aaK q2)]
 .exact h.inj k l a (yw h.len e1 g1).2 (yw h.len e2 g2).2
 .have e:rs[k]?=some a:=e;rw[aa0 (aaf.mp e).1];exact e
theorem oR{N:!Str}{ds:!D}{vs:!V}(B:Base #[.no,M,H] M H)(h:nS K H M rs cs)(r:aE K H M ds vs):aG K #[gO rs,M,g8 H rs] M (oh N.length nos ds cs) (rs++List.replicate nos 0) (L2.start N vs) H:=by
 have L0:=lJ (N:=N) (nos:=0) (g:=.no) B r U;have L1:aG K #[.no,M,g8 H rs] M (eo N.length 0 ds) (List.replicate 0 0) (L2.start N vs) H:=#[#[trivial,λb o e _=>(Ho e).2,B.md,λ_ _ z=>z,λ_ m=>m,λ_ m=>.inl m],L0.len,L0.dA,L0.dat,L0.own,λk d a e=>by simp[eo] at e,L0.inj,L0.lt];exact L1.hold U h λr hr=>vM hr
theorem aG.there{n:Nat}(L:aG K #[gO rs,M0,H0] M s as σ H)(hn:rs.length=n):n<=s.os.length:=by
 cases n with
 | zero=>exact aax _
 | succ m =>
  have h:m < rs.length:=by cbv
  have:=(aaf.mp (L.lt m rs[m] (aaq h))).1;rw[L.dA] at this;exact this
theorem aG.at_{n:Nat}(L:aG K #[gO rs,M0,H0] M s as σ H)(hn:rs.length=n)(hc:zt (s.os.take n)=some cs){k:Nat}{r:AC}(h:rs[k]?=some r):∃ d,cs[k]?=some d/\s.os[k]?=some (some d)/\as[k]?=some r:=by
 have hk:k < rs.length:=(aaf.mp h).1;let(d,h1,h2):=(UD hc).2.1 k (by cbv) (aay (by cbv) (L.there hn));exact#[d,h1,h2,L.lt k r h]
theorem aG.held{n:Nat}(L:aG K #[gO rs,M0,H0] M s as σ H)(hn:rs.length=n)(hc:zt (s.os.take n)=some cs):nS K H M rs cs:=by
 show#[λk l r h1 h2=>?_,?_,λk r d h1 h2=>?_]
 .let(d,_,q2,q3):=L.at_ hn hc h1;let(e,_,p2,p3):=L.at_ hn hc h2;exact L.inj k l d e r q2 p2 q3 p3
 .have:=(UD hc).2.2;have:=L.there hn;cbv
 .let(d',q1,q2,q3):=L.at_ hn hc h1;rw[h2] at q1;cases q1;let(o,nm,_):=L.obj k d r q2 q3;exact#[nm,o]
def DS.back(s:DS)(n:Nat)(cs:!D):DS:=#[s.sl,cs.map some++s.os.drop n]
theorem xG{n k:Nat}{x:D}(hl:jy.length=n)(h:(s.back n jy).os[k]?=some (some x)):(k < n/\jy[k]?=some x)\/(n<=k/\s.os[k]?=some (some x)):=by
 have h:(jy.map some++s.os.drop n)[k]?=some (some x):=h;by_cases hk:k < n
 .rw[aa0 (by rw[aaa];cbv),aaG] at h;let(y,q1,q2):=aaI.mp h;cases q2;exact .inl #[hk,q1]
 .rw[aa1 (by rw[aaa];cbv),aaa,hl,abE,show n+(k - n)=k by cbv] at h;exact .inr #[by cbv,h]
theorem aG.given(L:aG K #[gO rs,M0,H0] M s as σ H)(hc:zt (s.os.take rs.length)=some cs)(B:Base #[.no,M,g8 H rs] M' H')(h:nS K H' M' rs jy) :
  aG K #[gO rs,M0,H0] M' (s.back rs.length jy) as σ H'/\Ext #[gO rs,M0,H0] as M s H M' (s.back rs.length jy) H':=by
 have hl:jy.length=rs.length:=h.len.symm;have old:∀ {k:Nat} {x:D},(s.back rs.length jy).os[k]?=some (some x)->∃ y,s.os[k]?=some (some y):=λ{k x} e=>by
  rcases xG hl e with ⟨hk,_⟩ | ⟨_,q⟩
  .let(d,_,q2,_):=L.at_ U hc (aaq hk);exact#[d,q2]
  .exact#[x,q]
 have z0:∀ r∈rs,H0 r=none/\¬ M r/\¬ M' r/\dO s as r:=λr hr=>by
  let(k,hk):=abx hr;let(d,_,q2,q3):=L.at_ U hc hk;let(_,nm,_,h0):=L.obj k d r q2 q3;obtain⟨d',hd'⟩:∃ d',jy[k]?=some d':=#[_,aaq (show k < jy.length by rw[hl];exact (aaf.mp hk).1)];exact#[h0,nm,(h.at_ k r d' hk hd').1,k,d,q2,q3]
 have kp:∀ b u,b∉rs->H b=some u->H' b=some u:=λb u nb e=>B.fr b u (by change g8 H rs b=_;rw[gZ nb];exact e) λz=>z;have km:∀ b u,M b->H b=some u->H' b=some u:=λb u m e=>kp b u (λz=>(z0 b z).2.1 m) e;have nu:∀ b,M' b->M b\/Nu H b:=λb m=>by
  rcases B.mn b m with z | z
  .exact .inl z
  .have z:Nu (g8 H rs) b:=z;unfold Nu at z;rw[gZ λq=>(z0 b q).2.2.1 m] at z;exact .inr z
 show#[#[#[trivial,λb u e g=>kp b u (λz=>?_) (L.base.fr b u e g),B.md,λ_ _ z=>z,λb m=>B.m0 b (L.base.m0 b m),λb m=>?_],L.len,?_,λi x e=>?_,L.own,λk x a h1 h2=>?_,λk l x y a h1 h2 g1 g2=>?_,L.lt],#[B.m0,λb m=>(nu b m).imp id .inl,λb u e _ w=>kp b u (λz=>w (z0 b z).2.2.2) e,λb #[k,x,h1,h2]=>?_]]
 .have e:H0 b=some u:=e;rw[(z0 b z).1] at e;cases e
 .rcases nu b m with m | n | ⟨xs,n⟩
  .exact L.base.mn b m
  .exact .inr (.inl (L.base.qw n))
  .refine .inr ?_;cases e:H0 b with
   | none=>exact .inl e
   | some o =>
    have:=L.base.fr b o e λz=>z;rw[n] at this;cases this;exact .inr #[xs,e]
 .show as.length=(jy.map some++s.os.drop rs.length).length;have:=L.there U;rw[L.dA,aab,aaa,abl,hl];cbv
 .let(v,q1,q2):=L.dat i x e;exact#[v,q1,Rep.mono B.m0 km x v q2]
 .rcases xG hl h1 with ⟨hk,q⟩ | ⟨hk,q⟩
  .have hr:=aaq hk;have e2:=L.lt k _ hr;rw[h2] at e2;injection e2 with e2;let(nm,o):=h.at_ k _ x hr q;have m:=abM hk;rw[<- e2] at nm o m;exact#[o,nm,λz=>z,(z0 a m).1]
  .let((o,q1,q2),nm,ng,hz):=L.obj k x a q h2;have na:a∉rs:=λz=>by
    let(j,hj):=abx z;let(d,_,p2,p3):=L.at_ U hc hj;have:=L.inj j k d x a p2 q p3 h2;have:=(aaf.mp hj).1;cbv
   show#[#[o,kp a o na q1,q2.mono B.m0 km],λm=>?_,ng,hz];rcases nu a m with m | n | ⟨xs,n⟩
   .exact nm m
   .rw[n] at q1;cases q1
   .rw[n] at q1;cases q1;exact q2.Fl
 .let(x',e1):=old h1;let(y',e2):=old h2;exact L.inj k l x' y' a e1 e2 g1 g2
 .let(x',e1):=old h1;exact#[k,x',e1,h2]
theorem qN.Bk{R:gX}{E:Ends}(k:qN K #[.no,M0,H0] M H R E):qN K #[gO rs,M0,H0] M H R E :=
 #[λs as M' σ H' r L=>k.nx s as M' σ H' r L.Bk,λs as M' σ H' r L=>k.bk s as M' σ H' r L.Bk,λs as M' σ H' r L=>k.ct s as M' σ H' r L.Bk,λd M' H' v r B=>k.rt d M' H' v r B.Bk,λd M' H' a o r B=>k.rf d M' H' a o r B.Bk,λd s as M' σ H' v r L=>k.rs d s as M' σ H' v r L.Bk]
end
def HW(n:Nat)(R:D->!D->Prop):gX:={ nx:=λs=>∃ cs,zt (s.os.take n)=some cs/\R .bx cs,rt:=λ_=>False,rs:=λx s=>∃ cs,zt (s.os.take n)=some cs/\R x cs }
section
variable{P:Fa}{w:FB}{K:Frag}{mg:Str->Option AT}{base:Db}
theorem Yg{x qual:Str}{st:Ev}{f:AC}{fd:Go}{N ps:!Str}{k nos n:Nat}{t:mh}(F:tH K x qual st f fd)(S:ax N ps (ai st))(len:∀ rs ds cs R,t rs ds cs R->ds.length=ps.length/\rs.length=n)(hb:∀ (a8:AT) (A:Fr) (outer:!Env) (s:Cl) (H:Hp) (E:XK) (M:AC->Prop) (rs:!AC),b4 k (A.deeper (envOfC qual (ai st) ↑s f a8))->rs.length=n ->
   ∃ tb,pK (jr aP P w K mg base N qual (ai st) f a8 A outer s H E).wo #[gO rs,M,g8 H rs] (aL st) tb/\∀ ds cs R,t rs ds cs R->tb (HW n R) (oh N.length nos ds cs)):bZ P w K mg base aP (k+1) f fd ps (b3 K t):=by
 show F.ok S (λvs H Q E h=>?_) λa8 A outer s H vs Q E hr h=>?_
 .let(rs,M,ds,cs,R,B,hh,r,q,_):=h;rw[r.length];exact (len rs ds cs R q).1
 .let(rs,M,ds,cs,R,B,hh,r,q,kk):=h;have hn:=(len rs ds cs R q).2;let(tb,h1,h2):=hb a8 A outer s H E M rs hr hn;show#[_,h1.ps,M,_,_,_,oR B hh r,h2 ds cs R q,#[λs as M' σ H' #[jy,hc,r'] L _=>?_,λ_ _ _ _ _ z=>z.elim,λ_ _ _ _ _ z=>z.elim,λ_ _ _ _ z=>z.elim,λ_ _ _ _ _ z=>z.elim,λx s as M' σ H' v #[jy,hc,r'] L rv=>?_]]
  .exact kk .bx jy r' M' H' .bx L.base.Bk (L.held hn hc) U
  .exact kk x jy r' M' H' v L.base.Bk (L.held hn hc) rv
theorem Own.o{q:D3}{N:!Str}{k nos n:Nat}{t:mh}(o:Own K mg q)(S:ax N q.2.2 (ai q.2.1))(len:∀ rs ds cs R,t rs ds cs R->ds.length=q.2.2.length/\rs.length=n)(hb:∀ (f:AC) (a8:AT) (A:Fr) (outer:!Env) (s:Cl) (H:Hp) (E:XK) (M:AC->Prop) (rs:!AC),b4 k (A.deeper (envOfC q.1 (ai q.2.1) ↑s f a8))->rs.length=n ->
   ∃ tb,pK (jr aP P w K mg base N q.1 (ai q.2.1) f a8 A outer s H E).wo #[gO rs,M,g8 H rs] (aL q.2.1) tb/\∀ ds cs R,t rs ds cs R->tb (HW n R) (oh N.length nos ds cs)):C4 P w K mg base aP q (k+1) (b3 K t):=o.c λf fd F=>Yg F S len (hb f)
def ia(K:Frag)(C:AC)(qual:Str)(d:D3):Prop:=∃ f fd,tH K d.1 qual d.2.1 f fd/\Meth K C d.1 f/\Binds K fd d.2.2 []
def gi(P:Fa)(w:FB)(K:Frag)(mg:Str->Option AT)(base:Db)(C:AC)(d:D3)(k:Nat)(sp:Sp):Prop:=∃ f fd,bZ P w K mg base aP k f fd d.2.2 sp/\Meth K C d.1 f/\Binds K fd d.2.2 []
theorem ia.o{C:AC}{qual:Str}{q:D3}{N:!Str}{k nos n:Nat}{t:mh}(o:ia K C qual q)(S:ax N q.2.2 (ai q.2.1))(len:∀ rs ds cs R,t rs ds cs R->ds.length=q.2.2.length/\rs.length=n)(hb:∀ (f:AC) (a8:AT) (A:Fr) (outer:!Env) (s:Cl) (H:Hp) (E:XK) (M:AC->Prop) (rs:!AC),b4 k (A.deeper (envOfC qual (ai q.2.1) ↑s f a8))->rs.length=n ->
   ∃ tb,pK (jr aP P w K mg base N qual (ai q.2.1) f a8 A outer s H E).wo #[gO rs,M,g8 H rs] (aL q.2.1) tb/\∀ ds cs R,t rs ds cs R->tb (HW n R) (oh N.length nos ds cs)):gi P w K mg base C q (k+1) (b3 K t):=by
 let(f,fd,F,m,b):=o;exact#[f,fd,Yg F S len (hb f),m,b]
end
section
variable{X:Cx}{k m n:Nat}{rs:!AC}{M0:AC->Prop}{H0:Hp}{q:D3}{x:Str}{p pos apos:Pos}{o e:Ch}{es:!Ch}{ta:eQ}{te tv:aU}{t:mh}{C:AC}{ks:!Str}
def LQ(rs:!AC)(t:mh)(ta:eQ):aU:=λs Q=>ta s λds s1=>∃ cs,zt (s1.os.take rs.length)=some cs/\t rs ds cs λx jy=>Q x (s1.back rs.length jy)
theorem uW{M1:AC->Prop}{H1:Hp}{s1:DS}{as:!AC}{σ:St}{ds cs:!D}{vs:!V}{Q:VK}{E:XK}{R:D->!D->Prop}(L1:aG X.K #[gO rs,M0,H0] M1 s1 as σ H1)(hc:zt (s1.os.take rs.length)=some cs)(r1:aE X.K H1 M1 ds vs)(q1:t rs ds cs R)(kk:∀ x jy,R x jy->∀ M' H' v,aG X.K #[gO rs,M0,H0] M' (s1.back rs.length jy) as σ H'->Ext #[gO rs,M0,H0] as M1 s1 H1 M' (s1.back rs.length jy) H'->Rep X.K H' M' x v->Q v H'):b3 X.K t vs H1 Q E :=
 #[rs,M1,ds,cs,R,L1.base.pq,L1.held U hc,r1,q1,λx jy rx M' H' v B h rv=>kk x jy rx M' H' v (L1.given hc B h).1 (L1.given hc B h).2 rv]
theorem fG(hr:b4 m X.A)(G:C4 X.prog X.w X.K X.mg X.base aP q k (b3 X.K t))(ha:DA X #[gO rs,M0,H0] (e::es) ta)(hx:(q.1=x)⁻¹)(hk:k<=m:=by ac_rfl)(hg:(Gl X x)⁻¹)(jf: ~~~(ach x))(he:(acf X.env e es)⁻¹)(fe:(acg X.env pos es)⁻¹) :
  DE X #[gO rs,M0,H0] (.Call (.Name x p) (e::es) [] pos) (LQ rs t ta):=by
 subst hx;let(f,fd,G,F,hm,hb):=G;exact#[(kB G (hr.mono hk) hg hm F.kp hb .nil (E:=E0) iA ha.pa jf he fe).imp λσ H Q zz=>cQ zz λM s as R L q kk =>
  #[M,s,as,_,L,q,λds s1 #[cs,hc,q1] M1 H1 vs L1 E1 r1 hl=>uW L1 hc (by rw[aal];exact r1) q1 λx jy rx M' H' v L2 E2 rv=>kk x _ rx M' H' v L2 (E1.trans L1.base E2) rv]]
theorem kF:∀ {fs:!(Str×V)} {f:Str},f∉fs.map (·.1)->fs.lookup f=none
 | [],f,h=>rfl
 | (g,x)::r,f,h=>by
  have hb:(f == g)=false:=beq_eq_false_iff_ne.mpr λz=>h (by rw[z];exact aad);simp only[List.lookup,hb];exact kF λz=>h (aac _ z)
def FO(rs:!AC)(k:Nat)(C:AC)(ks:!Str)(te:aU)(t:mh)(ta:eQ):aU:=λs Q=>te s λd s1=>∃ a vs,d=.bJ a/\rs[k]?=some a/\s1.os[k]?=some (some (.ob C ks vs))/\ta s1 λds s2=>∃ cs,zt (s2.os.take rs.length)=some cs/\t rs (d::ds) cs λx jy=>Q x (s2.back rs.length jy)
theorem qM{M:AC->Prop}{H:Hp}{s:DS}{as:!AC}{σ:St}{a:AC}{vs:!D}{j:Nat}(L:aG X.K #[gO rs,M0,H0] M s as σ H)(hr:rs[j]?=some a)(ho:s.os[j]?=some (some (.ob C ks vs))):∃ dx fs,H a=some (.ins C dx fs)/\fs.map (·.1)=ks/\aE X.K H M vs (fs.map (·.2)):=by
 let((o,h1,h2),_):=L.obj j _ a ho (L.lt j a hr);cases o with
 | ins C' dx fs =>
  let(rfl,h3,h4):=h2;exact#[dx,fs,h1,h3,h4]
 | _=>exact h2.elim
theorem b7{pl:Sem Bool}{mm:Str}(j:Nat)(ks:!Str)(c:vL X.K C)(hr:b4 m X.A)(G:gi X.prog X.w X.K X.mg X.base C q k (b3 X.K t))(ho:DE X #[gO rs,M0,H0] o te)(ha:DA X #[gO rs,M0,H0] (e::es) ta)(hx:(q.1=mm)⁻¹)(hk:k<=m:=by ac_rfl)(wg:mm∉ks:=by decide+kernel)(fC:(acf X.env e es)⁻¹)(fe:(acg X.env pos es)⁻¹)(ht:(eval (.Call (.Attribute o mm apos) (e::es) [] pos) X.env=(do
   let ov <- eval o X.env
   standAt apos.atName
   let (f,first) <- holding [ov] (getMethod ov mm pl)
   callWith pos f first (IR pos (Gc (e::es) X.env)) (P3 pos (Re [] X.env))))⁻¹) :
  DE X #[gO rs,M0,H0] (.Call (.Attribute o mm apos) (e::es) [] pos) (FO rs j C ks te t ta):=by
 subst hx;let(f,fd,G,hm,hb):=G;exact#[(Aw ho.pe c hm G (hr.mono hk) hb .nil (E:=E0) iA ha.pa fC fe ht).imp λσ H Q zz=>cQ zz λM s as R L q kk =>
  #[M,s,as,_,L,q,λd s1 z M1 H1 v L1 E1 rv=>by
   let(a,vs,ed,hj,ho,q1):=z;subst ed;have rv:v=.ref a:=rv;subst rv;let(dx,fs,h1,h2,h3):=qM L1 hj ho;show#[a,dx,fs,U,h1,kF (by rw[h2];exact wg),M1,s1,as,_,L1,q1,λds s2 #[cs,hc,q2] M2 H2 vs L2 E2 r2 hl=>?_];exact uW L2 hc (ds:=.bJ a::ds) #[_,_,U,U,by rw[aal];exact r2] q2 λx jy rx M' H' v L3 E3 rv=>kk x _ rx M' H' v L3 ((E1.trans L1.base E2).trans L2.base E3) rv]]
def Js:!Str->Str->Option Nat
 | [],_=>none
 | k::r,f=>if k=f then some 0 else match Js r f with
  | some i=>some (i+1)
  | none=>none
theorem Cr{k f:Str}{r:!Str}{i:Nat}(h:Js (k::r) f=some i):(k=f/\i=0)\/(k≠f/\∃ j,Js r f=some j/\i=j+1):=by
 unfold Js at h;by_cases e:k=f
 .rw[if_pos e] at h;cases h;exact .inl #[e,U]
 .rw[if_neg e] at h;cases q:Js r f with
  | none=>rw[q] at h;cases h
  | some j=>rw[q] at h;cases h;exact .inr #[e,j,U,U]
theorem yF:∀ {fs:!(Str×V)} {f:Str} {i:Nat},Js (fs.map (·.1)) f=some i->fs.lookup f=(fs.map (·.2))[i]?
 | [],f,i,h=>by cases h
 | (g,x)::r,f,i,h=>by
  rcases Cr h with ⟨e,rfl⟩ | ⟨ne,j,hj,rfl⟩
  .have hb:(f == g)=true:=beq_iff_eq.mpr (Eq.symm e);simp only[List.lookup,hb]
   rfl
  .have hb:(f == g)=false:=beq_eq_false_iff_ne.mpr λz=>ne (Eq.symm z);simp only[List.lookup,hb];rw[yF hj]
   rfl
theorem qg(y:V):∀ {fs:!(Str×V)} {f:Str},f∉fs.map (·.1)->iq f y fs=fs++[(f,y)]
 | [],f,h=>rfl
 | (g,x)::r,f,h=>by
  have ne:¬ g=f:=λz=>h (by rw[<- z];exact aad);rw[show iq f y ((g,x)::r)=(if g=f then (g,y)::r else (g,x)::iq f y r) from U,if_neg ne,qg y λz=>h (aac _ z)]
  rfl
def TY(rs:!AC)(k:Nat)(C:AC)(ks:!Str)(i:Nat)(te:aU):aU:=λs Q=>te s λd s1=>∃ a vs y,d=.bJ a/\rs[k]?=some a/\s1.os[k]?=some (some (.ob C ks vs))/\vs[i]?=some y/\Q y s1
theorem cp{f:Str}(j:Nat)(ks:!Str)(i:Nat)(c:vL X.K C)(hn:cx X.K C f)(ho:DE X #[gO rs,M0,H0] o te)(hi:Js ks f=some i:=by decide+kernel)(hb:(attributeBase o f X.env (eval o X.env)=eval o X.env)⁻¹):DE X #[gO rs,M0,H0] (.Attribute o f pos) (TY rs j C ks i te) :=
 #[(DC ho.pe hb).imp λσ H Q zz=>cQ zz λM s as R L q kk=>#[M,s,as,_,L,q,λd s1 z M1 H1 v L1 E1 rv=>by
   let(a,vs,y,ed,hj,ho,hy,q1):=z;subst ed;have rv:v=.ref a:=rv;subst rv;let(dx,fs,h1,h2,h3):=qM L1 hj ho;let(v,h4,h5):=h3.get hy;exact#[a,C,dx,fs,v,U,h1,c,hn,by rw[yF (by rw[h2];exact hi)];exact h4,kk y s1 q1 M1 H1 v L1 E1 h5]]]
def RJ(rs:!AC)(k:Nat)(C:AC)(ks:!Str)(f:Str)(te tv:aU):iF:=λR s=>tv s λy s1=>te s1 λd s2=>∃ a vs,d=.bJ a/\rs[k]?=some a/\s2.os[k]?=some (some (.ob C ks vs))/\R.nx (s2.put k (.ob C (ks++[f]) (vs++[y])))
theorem qz{f:Str}{value:Ch}{pos':Pos}(j:Nat)(ks:!Str)(c:vL X.K C)(hn:cx X.K C f)(ho:DE X #[gO rs,M0,H0] o te)(hv:DE X #[gO rs,M0,H0] value tv)(hi:f∉ks:=by decide+kernel)(hl: ~~~(ks.length < 1000))(hs:(swapsWith value (some (.Attribute o f pos')) pos.line X.env=pure false)⁻¹) :
  pE X #[gO rs,M0,H0] (.Assign [.Attribute o f pos'] value pos) (RJ rs j C ks f te tv) :=
 #[(Ds ho.pe hv.pe hs).imp λE σ H zz=>cQ zz λM s as R L q kk=>#[M,s,as,_,L,q,λy s1 q1 M1 H1 w L1 E1 rw=>#[M1,s1,as,_,L1,q1,λd s2 z M2 H2 v L2 E2 rv=>by
   let(a,vs,ed,hj,ho,q2):=z;subst ed;have rv:v=.ref a:=rv;subst rv;let(dx,fs,h1,h2,h3):=qM L2 hj ho;have g:=qg w (fs:=fs) (f:=f) (by rw[h2];exact hi);show#[a,C,dx,fs,U,h1,c,hn,(by rw[<- aaa (f:=λx:Str×V=>x.1),h2];exact hl),?_];have E3:=(E1.trans L1.base E2).trans L2.base (Ext.jw (d:=.ob C (ks++[f]) (vs++[y])) (o:=.ins C dx (iq f w fs)) ho (L2.lt j a hj));exact kk.nx _ as M2 σ _ q2 (L2.jw ho (L2.lt j a hj) #[U,by rw[g,aai,h2];rfl,by rw[g,aai];exact h3.append (aE.one (E2.rep L1 rw))]) (E3.grow L)]]]
def YI(rs:!AC)(k:Nat)(C:D->!D->(D->D->Prop)->Prop)(te:aU)(ta:eQ):aU:=λs Q=>te s λx s0=>∃ a d0,x=.bJ a/\rs[k]?=some a/\s0.os[k]?=some (some d0)/\Vp d0=true/\ta s0 λds s1=>∃ d1,s1.os[k]?=some (some d1)/\C d1 ds λdr d2=>Q dr (s1.put k d2)
theorem Y9{r:V->!V->Hp->VK->Prop}{CC:D->!D->(D->D->Prop)->Prop}(ok:FW X r CC){M M1:AC->Prop}{H H1:Hp}{s s1:DS}{as:!AC}{σ:St}{a:AC}{d1:D}{ds:!D}{vs:!V}{Q:VK}{R:D->DS->Prop}{j:Nat}(L1:aG X.K #[gO rs,M0,H0] M1 s1 as σ H1)(E1:Ext #[gO rs,M0,H0] as M s H M1 s1 H1)(r1:aE X.K H1 M1 ds vs)(hj:rs[j]?=some a)(e1:s1.os[j]?=some (some d1))(q1:CC d1 ds λdr d2=>R dr (s1.put j d2))(kk:∀ d s',R d s'->∀ M' H' v,aG X.K #[gO rs,M0,H0] M' s' as σ H'->Ext #[gO rs,M0,H0] as M s H M' s' H'->Rep X.K H' M' d v->Q v H'):r (.ref a) vs H1 Q:=by
 have g1:=L1.lt j a hj;let((o1,f1,f2),nm,ng,h0):=L1.obj j d1 a e1 g1;show ok M1 H1 a o1 d1 ds vs _ Q f1 f2 r1 nm q1 λdr d2 hk o' v ro rv=>?_;have E2:Ext #[gO rs,M0,H0] as M1 s1 H1 M1 (s1.put j d2) (upd H1 a o'):=Ext.jw e1 g1;exact kk dr _ hk M1 _ v (L1.jw e1 g1 ro) (E1.trans L1.base E2) (E2.rep L1 rv)
section
variable{name:Str}{cH:Pos}{id:String}{r:V->!V->Hp->VK->Prop}{CC:D->!D->(D->D->Prop)->Prop}
theorem Ay(j:Nat)(slot:Slot "list" name id)(BQ:typeOf (.builtin id)=pure (.type "method_descriptor"))(hm:Nw X id r)(ok:FW X r CC)(ho:DE X #[gO rs,M0,H0] o te)(ha:DA X #[gO rs,M0,H0] (e::es) ta)(gA:(attributeBase o name X.env (eval o X.env)=eval o X.env)⁻¹)(qt:(((IR cH (Gc (e::es) X.env)).all (λx=>(not x.1))&&(P3 cH (Re [] X.env)).all (λx=>x.1.isSome)
   && decide ((e::es).length+([]:!Ps).length+(if ([]:!Ps).isEmpty then 0 else 1) < 30))=true)⁻¹)(gz:((apos.endLine == cH.line)=true)⁻¹)(hs:(acf X.env e es)⁻¹)(gw:((IR cH (Gc es X.env)).any (·.1)=false)⁻¹) :
  DE X #[gO rs,M0,H0] (.Call (.Attribute o name apos) (e::es) [] cH) (YI rs j CC te ta):=#[(Bb abk slot BQ hm ho.pe ha.pa gA qt gz hs gw).imp λσ H Q zz=>cQ zz λM s as R L q kk=>#[M,s,as,_,L,q,λx s0 z M1 H1 v L1 E1 rv=>by
   let(a,d0,ed,hj,h2,h3,q):=z;subst ed;have rv:v=.ref a:=rv;subst rv;let((o,g3,g4),_):=L1.obj j d0 a h2 (L1.lt j a hj);let(xs,rfl):=uT h3 g4;exact#[.inl #[U,xs,.of g3],M1,s0,as,_,L1,q,λds s1 #[d1,e1,q1] M2 H2 vs L2 E2 r2 hl=>Y9 ok L2 (E1.trans L1.base E2) r2 hj e1 q1 kk]]]
theorem yq(j:Nat)(slot:Slot "list" name id)(BQ:typeOf (.builtin id)=pure (.type "method_descriptor"))(hm:Nw X id r)(ok:FW X r CC)(ho:DE X #[gO rs,M0,H0] o te)(gA:(attributeBase o name X.env (eval o X.env)=eval o X.env)⁻¹)(gz:((apos.endLine == cH.line)=true)⁻¹):DE X #[gO rs,M0,H0] (.Call (.Attribute o name apos) [] [] cH) (YI rs j CC te IL) :=
 #[(DR abk slot BQ hm ho.pe gA gz).imp λσ H Q zz=>cQ zz λM s as R L q kk=>#[M,s,as,_,L,q,λx s0 z M1 H1 v L1 E1 rv=>by
   let(a,d0,ed,hj,h2,h3,d1,e1,q1):=z;subst ed;have rv:v=.ref a:=rv;subst rv;let((o,g3,g4),_):=L1.obj j d0 a h2 (L1.lt j a hj);let(xs,rfl):=uT h3 g4;exact#[.inl #[U,xs,.of g3],Y9 (ds:=[]) ok L1 E1 U hj e1 q1 kk]]]
end
def QA(rs:!AC)(k:Nat)(te:aU):mH:=λs Q=>te s λx s0=>∃ a xs,x=.bJ a/\rs[k]?=some a/\s0.os[k]?=some (some (.lst xs))/\Q (not xs.isEmpty) s0
theorem AW(j:Nat)(he:DE X #[gO rs,M0,H0] e te)(hw:∀ whole,isTrue e X.env whole=(do let v <- whole;standAt e.pos;holding [v] (truthy v)):=by intro _;rfl):DT X #[gO rs,M0,H0] e (QA rs j te):=#[(Cw he.pe hw).imp λσ H Q zz=>cQ zz λM s as R L q kk=>#[M,s,as,_,L,q,λx s0 z M1 H1 v L1 E1 rv=>by
 let(a,xs,ed,hj,h2,q):=z;subst ed;have rv:v=.ref a:=rv;subst rv;let((o,g3,g4),_):=L1.obj j _ a h2 (L1.lt j a hj);cases o with
 | lst us =>
  have g4:aE X.K H1 M1 xs us:=g4;show#[(not us.isEmpty),.inl #[us,.of g3,U],?_];rw[wB g4.length];exact kk _ s0 q M1 H1 L1 E1
 | _=>exact g4.elim]]
end
abbrev VA:=(!AC->DS->Prop)->DS->Prop
def Zh(K:Frag)(M0:AC->Prop)(H0:Hp)(rs:!AC)(t:VA):TS:=λE σ H=>∃ M s as R,aG K #[gO rs,M0,H0] M s as σ H/\t R s/\∀ rs s as M' σ H',R rs s->aG K #[gO rs,M0,H0] M' s as σ H'->E.nx σ H'
structure NR(X:Cx)(M0:AC->Prop)(H0:Hp)(rs:!AC)(qv:!Ev)(t:VA):Prop where
 ps:pY X qv (Zh X.K M0 H0 rs t)
section
variable{X:Cx}{M0:AC->Prop}{H0:Hp}{rs:!AC}{st:Ev}{qv:!Ev}{t:iF}{u:VA}{uu:AC->VA}{o value:Ch}{tv:aU}{C:AC}{ks:!Str}{f:Str}{pos pos':Pos}
theorem El:NR X M0 H0 rs [] (λR s=>R rs s):=#[uC.imp λE σ H zz=>cQ zz λM s as R L q k=>k rs s as M σ H q L]
theorem n9(h1:pE X #[gO rs,M0,H0] st t)(h2:NR X M0 H0 rs qv u):NR X M0 H0 rs (st::qv) (λR s=>t { nx:=u R,rt:=λ_=>False } s):=#[(bT h1.ps h2.ps).imp λE σ H zz=>cQ zz λM s as R L q k =>
 #[M,s,as,_,L,q,#[λs' as' M' σ' H' r L' G=>#[M',s',as',R,L',r,k],λ_ _ _ _ _ z=>z.elim,λ_ _ _ _ _ z=>z.elim,λ_ _ _ _ z=>z.elim,λ_ _ _ _ _ z=>z.elim,λ_ _ _ _ _ _ _ z=>z.elim]]]
theorem qi{i:Nat}(j:Nat)(ks:!Str)(c:vL X.K C)(hn:cx X.K C f)(ho:PE X o (b8 i))(hv:DN X #[gO rs,M0,H0] value tv)(h2:∀ a,NR X M0 H0 (rs++[a]) qv (uu a))(hi:f∉ks:=by decide+kernel)(hl: ~~~(ks.length < 1000))(hs:(swapsWith value (some (.Attribute o f pos')) pos.line X.env=pure false)⁻¹) :
  NR X M0 H0 rs (.Assign [.Attribute o f pos'] value pos::qv) (λR s=>tv s λy s1=>∃ x vs,s1.sl[i]?=some (.dat (.bJ x))/\rs[j]?=some x/\s1.os[j]?=some (some (.ob C ks vs))/\(s1.os[rs.length]?=some none/\noRef rs.length s1.sl.length s1.sl=true)/\∀ a,uu a R #[s1.sl,(s1.os.set rs.length (some y)).set j (some (.ob C (ks++[f]) (vs++[.bJ a])))]):=by
 have h3:pY X qv (λE σ H=>∃ a,Zh X.K M0 H0 (rs++[a]) (uu a) E σ H):=λTW s σ H E I #[a,q]=>(h2 a).ps TW s σ H E I q;show#[(bT (Ds ho hv.pe hs) h3).imp λE σ H zz=>cQ zz λM s as R L q k=>#[M,s,as,_,L,q,λy s1 z M1 H1 a o L1 E1 ha ro nm ng nw h0 hn'=>?_]];let(x,vs,hx,hj,hob,(hfree,hnr),q1):=z;let(v,hv1,hv2):=L1.dat i _ hx;have hv2:v=.ref x:=hv2;subst hv2;let(dx,fs,g1,g2,g3):=qM L1 hj hob;have g:=qg (.ref a) (fs:=fs) (f:=f) (by rw[g2];exact hi);have hjl:j < rs.length:=(aaf.mp hj).1;have hnl:rs.length < s1.os.length:=(aaf.mp hfree).1;have hkl:rs.length < as.length:=by rw[L1.dA];exact hnl
 show#[_,hv1,x,C,dx,fs,U,g1,c,hn,(by rw[<- aaa (f:=λx:Str×V=>x.1),g2];exact hl),a,M1,_,as.set rs.length a,R,?_,q1 a,k];have Lm:aG X.K #[gO (rs++[a]),M0,H0] M1 #[s1.sl,s1.os.set rs.length (some y)] (as.set rs.length a) σ H1:=by
  show#[#[L1.base.nZ,L1.base.fr,L1.base.md,L1.base.mo,L1.base.m0,L1.base.mn],L1.len,by simp[L1.dA],L1.dat,λl m e=>?_,λl d b e1 e2=>?_,λl m d e b e1 e2 f1 f2=>?_,λl b e=>?_]
  .let(b,p1,p2):=L1.own l m e;have nm:rs.length≠m:=λz=>by
    subst z;exact nH (aah _) hnr e
   exact#[b,by rw[aas nm];exact p1,p2]
  .rcases bw e1 with ⟨rfl,_,q⟩ | ⟨ne,q⟩
   .cases q;rw[aaE hkl] at e2;cases e2;exact#[#[o,ha,ro],nm,ng,h0]
   .rw[aas ne] at e2;exact L1.obj l d b q e2
  .rcases bw e1 with ⟨rfl,_,q⟩ | ⟨ne,q⟩
   .rcases bw e2 with ⟨rfl,_,q'⟩ | ⟨ne',q'⟩
    .rfl
    .rw[aaE hkl] at f1;cases f1;rw[aas ne'] at f2;exact absurd #[m,e,q',f2] nw
   .rcases bw e2 with ⟨rfl,_,q'⟩ | ⟨ne',q'⟩
    .rw[aaE hkl] at f2;cases f2;rw[aas ne] at f1;exact absurd #[l,d,q,f1] nw
    .rw[aas ne] at f1;rw[aas ne'] at f2;exact L1.inj l m d e b q q' f1 f2
  .have e:(rs++[a])[l]?=some b:=e;by_cases hlr:l < rs.length
   .rw[aa0 hlr] at e;rw[aas (by cbv)];exact L1.lt l b e
   .rw[aa1 (by cbv)] at e;have:l=rs.length:=by
     have:=(aaf.mp e).1;simp at this;cbv
    subst this;rw[Nat.sub_self] at e;cases e;rw[aaE hkl]
 have hob2:(s1.os.set rs.length (some y))[j]?=some (some (.ob C ks vs)):=by rw[aas (by cbv)];exact hob
 exact Lm.jw (s:=#[s1.sl,s1.os.set rs.length (some y)]) hob2 (by rw[aas (by cbv)];exact L1.lt j x hj) #[U,by rw[g,aai,g2];rfl,by rw[g,aai];exact g3.append (aE.one (show Rep X.K H1 M1 (.bJ a) (.ref a) from U))]
end
abbrev Gy:=!D->(!AC->!D->Prop)->Prop
def AS(K:Frag)(C:AC)(t:Gy):Sp:=λvs H Q _=>∃ x dx M ds R ws,vs=.ref x::ws/\H x=some (.ins C dx [])/\Base #[.no,M,H] M H/\¬ M x/\aE K H M ds ws/\t ds R /\
 ∀ rs cs,R rs cs->∀ M' H',Base #[.no,M,g8 H [x]] M' H'->nS K H' M' rs cs->rs[0]?=some x->(∀ r∈rs,g8 H [x] r=none)->Q .bx H'
section
variable{P:Fa}{w:FB}{K:Frag}{mg:Str->Option AT}{base:Db}
theorem VN{x qual:Str}{st:Ev}{f C:AC}{fd:Go}{N ps:!Str}{k nos:Nat}{t:Gy}(F:tH K x qual st f fd)(S:ax N ps (ai st))(len:∀ ds R,t ds R->ds.length+1=ps.length)(hb:∀ (a8:AT) (A:Fr) (outer:!Env) (s:Cl) (H:Hp) (E:XK) (M:AC->Prop) (x:AC),b4 k (A.deeper (envOfC qual (ai st) ↑s f a8)) ->
   ∃ tb,NR (jr aP P w K mg base N qual (ai st) f a8 A outer s H E).wo M (g8 H [x]) [x] (aL st) tb/\∀ ds R,t ds R->tb (λrs s=>rs[0]?=some x/\∃ cs,zt (s.os.take rs.length)=some cs/\R rs cs) (oh N.length nos (.bJ x::ds) [.ob C [] []])):bZ P w K mg base aP (k+1) f fd ps (AS K C t):=by
 show F.ok S (λvs H Q E h=>?_) λa8 A outer s H vs Q E hr h=>?_
 .let(x,dx,M,ds,R,ws,rfl,_,_,_,r,q,_):=h;rw[aam,r.length];exact len ds R q
 .let(x,dx,M,ds,R,ws,rfl,hx,B,nm,r,q,kk):=h;let(tb,h1,h2):=hb a8 A outer s H E M x hr;show#[_,h1.ps,M,_,_,_,oR (nos:=nos) (rs:=[x]) (cs:=[.ob C [] []]) (ds:=.bJ x::ds) B #[λk l r e1 e2=>?_,U,λk r d e1 e2=>?_] #[_,_,U,U,r],h2 ds R q,λrs s as M' σ H' z L=>?_]
  .match k,l,e1,e2 with
   | 0,0,_,_=>rfl
  .match k,e1,e2 with
   | 0,e1,e2 =>
    cases e1;cases e2;exact#[nm,_,hx,U,U,U]
  .let(hx0,cs,hc,hR):=z;show kk rs cs hR M' H' L.base.Bk (L.held U hc) hx0 λr hr=>?_;let(k,hk):=abx hr;let(d,_,q2,q3):=L.at_ U hc hk;exact (L.obj k d r q2 q3).2.2.2
end
section
variable{X:Cx}{k m i nos:Nat}{M0:AC->Prop}{H0:Hp}{q:D3}{x y:Str}{p p2 p3 pos:Pos}{e:Ch}{es:!Ch}{ta:eQ}{t:Gy}{C f:AC}{fd:Go}{ps:!Str}{qv:!Ev}{u:!AC->iF}
theorem Ii(nos:Nat)(Px:L2.Mk X.K C f)(F:bZ X.prog X.w X.K X.mg X.base aP k f fd ps (AS X.K C t))(hr:b4 (k+1) X.A)(hm:X.mg x=some (.ref C))(hb:Binds X.K fd ps [])(hN:X.N.Nodup)(ha:DA X #[.no,M0,H0] (e::es) ta)(h2:∀ rs,pK X #[gO rs,M0,H0] qv (u rs))(hg:(Gl X x)⁻¹)(hi:(X.N[i]?=some y)⁻¹)(hy:Loc X.env.scope y:=by exact Or.inl U)(jf: ~~~(ach x))(he:(acf X.env e es)⁻¹)(fe:((IR p3 (Gc es X.env)).any (·.1)=false)⁻¹)(hs:(swapsWith (.Call (.Name x p2) (e::es) [] p3) (some (.Name y p)) pos.line X.env=pure false)⁻¹)(hf:X.fn y=true\/X.env.scope.names.lookup y=some .local:=by ac_nf) :
  pK X #[.no,M0,H0] (.Assign [.Name y p] (.Call (.Name x p2) (e::es) [] p3) pos::qv) (λR s=>ta s λds s1=>s1.os=[]/\t ds λrs cs=>∀ z,rs[0]?=some z->u rs R #[s1.sl.set i (.dat (.bJ z)),cs.map some++List.replicate nos none]):=by
 have h3:pY X qv (λE σ H=>∃ rs,tS X.K #[gO rs,M0,H0] (u rs) E σ H):=λTW s σ H E I #[rs,q]=>(h2 rs).ps TW s σ H E I q;show#[(bT (gm hN hi hy (vO Px F hr hg hm hb .nil (E:=E0) iA ha.pa jf he fe) hs hf) h3).imp λE σ H zz=>cQ zz λM s as R L q kk=>#[M,s,as,_,L,q,λds s1 z M1 H1 vs L1 E1 r1 hl x dx hx hdx pC=>?_]];let(qZ,q1):=z;have hx':upd H1 dx (.own x) x=none:=by rw[aA (Ne.symm pC)];exact hx
 have Ld:=L1.laid (o:=.own x) hdx;let(nm,_):=notM L1 hx;show#[x,dx,M1,ds,_,vs++[],U,aD,(Ld.laid (o:=.ins C dx []) hx').base.pq,nm,by rw[aal];exact gh hx' (gh hdx r1),q1,λrs cs hR M' H' B' hh h0 hz=>#[U,rs,M',_,rs++List.replicate nos 0,R,?_,hR x h0,?_]]
 .rw[l7 hx'] at B' hz;have L2:=Ld.after B';exact (L2.hold (nos:=nos) qZ hh λr hr=>Ld.base.qw (hz r hr)).Dq i (show Rep X.K H' M' (.bJ x) (.ref x) from U)
 .rw[l7 hx'] at B';exact (kk.grow (((E1.trans L1.base (Ext.laid hdx)).trans Ld.base (Ext.after B')).grow L)).Bk
end
end DL
namespace L2
open PySem PySem.Calls PyProof.Rows PyProof.V PySem.Spec
structure Ci(P:Fa)(w:FB)(K:Frag)(d:AC)(kvs:!(Str×AT)):Prop where
 ob:∃ o,K.lookup d=some o/\o.IsDictOf (strKind P w) kvs
 nm:(d == KM)=false
section
variable{X:Cx}{d:AC}{kvs:!(Str×AT)}
def Ya(d:AC)(kvs:!(Str×AT)):R2:=λx y H Q=>∃ i f,x=.ref d/\y=.str i/\valueAt kvs i=some (.ref f)/\Q (.ref f) H
theorem Ci.dict{TW:acd}{σ:St}{H:Hp}{s:Cl}(h:Ci X.prog X.w X.K d kvs)(I:Inv X TW σ H s):s.heap.DictOf (strKind X.prog X.w) d kvs:=by
 let(o,hk,hd):=h.ob;exact Db.dictOf_iff.mpr #[o,I.xW d o hk,hd]
theorem Xt(h:Ci X.prog X.w X.K d kvs):ND X (Ya d kvs):=by
 intro value slice TW s σ H x y v u Q I rx ry q hs;let(i,f,rfl,rfl,e,q):=q;let(t,rfl):=ry;cases (show v=AT.ref d from rx);exact tail_any (h.dict I).typeIs slot_dict_getitem.lookup (wpAny_getItem_of (strKind_is _ _ _ _) (h.dict I).mapOf e #[.ref f,H,I.tok _,U,q]) hs
def Jq(X:Cx)(k:Nat)(f:AC)(sp:Sp):Prop:=∃ fd ps,bZ X.prog X.w X.K X.mg X.base aP k f fd ps sp/\keepIn X.K (.ref f)=true/\Binds X.K fd ps []
def KU(X:Cx)(k:Nat)(tf:TE)(t:TA):TE:=λσ H Q=>tf σ H λv H1=>∃ f sp,v=.ref f/\Jq X k f sp/\t σ H1 λvs H2=>sp vs H2 Q E0
theorem Eu{k:Nat}{a b e:Ch}{es:!Ch}{p pos:Pos}{tf:TE}{t:TA}(hr:b4 k X.A)(hf:PE X (.Subscript a b p) tf)(ha:PA X (e::es) t)(he:(acf X.env e es)⁻¹)(fe:(acg X.env pos es)⁻¹) :
  PE X (.Call (.Subscript a b p) (e::es) [] pos) (KU X k tf t):=by
 intro TW s σ H Q I h;rw[show eval (.Call (.Subscript a b p) (e::es) [] pos) X.env=(do callWith pos (<- eval (.Subscript a b p) X.env) [] (IR pos (Gc (e::es) X.env)) (P3 pos (Re [] X.env))) from U];show Da (cb (hf TW s σ H _ I h) λv s1 #[x,H1,I1,r,f,sp,e1,#[fd,ps,F,hk,hb],q]=>?_);subst e1;cases (show v=AT.ref f from r);show abU (h₀:=X.base) I1.ok.mod.Nt hk (cb (ha pos TW s1 σ H1 _ I1 q) λus s2 zz=>el2 zz λvs H2 I2 r2 q2=>#[I2.xW,?_]) he fe;exact vJ F hr hb .nil iA I2 r2 (by rw[aal];exact q2)
end
section
variable{X:Cx}
end
end L2
namespace Nx
open PySem Sem
section
variable{prog:Fa}{w:FB}{A:Fr}{E:acb}{h:Db}{g:Array GenState}{d:Drawn}{t:Nat}{os:OsState}{a:AC}{o:Obj}
end
end Nx
namespace L2
open PySem PySem.Spec
open PyProof.Rows hiding St
section
variable{X:Cx}{TW:acd}{σ:St}
def Fn(H:Hp)(x:V)(kv:Key×V):Prop:=∃ p,x=.ref p/\H p=some (.tup [kV kv.1,kv.2])
def kG(m:!(Key×V))(kvs:!(Key×V)):!(Key×V):=kvs.foldl (λm kv=>putK m kv.1 kv.2) m
theorem Fn.up{H:Hp}{x:V}{kv:Key×V}{a:AC}{m m':!(Key×V)}(e:H a=some (.dK m))(h:Fn H x kv):Fn (upd H a (.dK m')) x kv:=by
 let(p,e1,e2):=h;have n1:p≠a:=λz=>by subst z;rw[e] at e2;cases e2
 exact#[p,e1,by rw[aA n1];exact e2]
theorem Fn.new{H:Hp}{x:V}{kv:Key×V}{a:AC}{o:HO}(e:H a=none)(h:Fn H x kv):Fn (upd H a o) x kv:=by
 let(p,e1,e2):=h;exact#[p,e1,by rw[aA (aI e2 e)];exact e2]
theorem zN{H:Hp}{s:Cl}{A:Fr}{E:acb}{a:AC}{k:Key}{v:V}{kr r:AT}{m:!(Key×V)}{Q:Unit->Cl->Prop}(I:Inv X TW σ H s)(e:H a=some (.dK m))(ry:RelV (kV k) kr)(l:m.length < FS)(rv:RelV v r)(h:∀ s',Inv X TW σ (upd H a (.dK (putK m k v))) s'->Db.SameBut a s.heap s'.heap->Q Unit.unit s'):EQ (model X.prog X.w) A (dictSet a kr r) Q E s:=by
 let(z,hd,vs,rel,dd):=xb I.bM e;have hz:vs.length<=FS:=by rw[<- rel.length];exact z
 have hl:(putK m k v).length<=FS:=by have:=fF m k v;cbv
 show wpAny_dictSet_pairs (hsz:=hz) (rX ry) dd λh' dd' hs=>h _ ?_ hs;have he:∃ q,h'.get? a=some q:=let #[q,_,_,hq,_]:=dd';#[q,hq];exact pQ I (by rw[e];exact True.intro) hs he (uU hl hd (rel.put k rv) dd')
end
end L2
namespace DL
open PySem PySem.Spec L2
section
variable{X:Cx}{c:Ent}
theorem yz{kvs:!(Key×V)}{acc:!(Key×V)}(h:((acc++kvs).map (·.1)).Nodup):kG acc kvs=acc++kvs:=by
 induction kvs generalizing acc with
 | nil=>rw[aal];rfl
 | cons kv r ih =>
  change kG (putK acc kv.1 kv.2) r=_;have hv:gG acc kv.1=none:=by
   rw[aai,aaR] at h;cases e:gG acc kv.1 with
   | none=>rfl
   | some v =>
    exfalso;have:kv.1∈acc.map (·.1):=Hv e;exact h.2.2 _ this _ (by simp) U
  rw[l8 kv.2 hv,ih (by rw[aaz];exact h),aaz]
  rfl
theorem CD{K:Frag}{H:Hp}{M:AC->Prop}:∀ {qs:!(Str×D)} {xs:!V},aE K H M (qs.map λq=>.tup [.str q.1,q.2]) xs->∃ kvs:!(Key×V),Paired (Fn H) xs kvs/\kvs.map (·.1)=qs.map (λq=>.inr q.1)/\aE K H M (qs.map (·.2)) (kvs.map (·.2))
 | [],xs,r=>by
  have r:xs=[]:=r;subst r;exact#[[],.nil,U,U]
 | q::qs,xs,r=>by
  let(x,xr,rfl,(p,ys,rfl,t,r1),r2):=r;let(v,w,rfl,rv,rw'):=uo r1;have rv:v=.str q.1:=rv;subst rv;let(kvs,h1,h2,h3):=CD r2;exact#[(.inr q.1,w)::kvs,.cons #[p,U,t.2] h1,by rw[aao,aao,h2],#[w,_,U,rw',h3]]
end
section
variable{X:Cx}{c:Ent}{k i:Nat}{f:AC}{fd:Go}{ps:!Str}{t:ace}{x:Str}{p pos:Pos}{e:Ch}{es:!Ch}{ta:eQ}
end
end DL
namespace L2
open PySem PySem.Spec DL
open PyProof.Rows hiding St
section
variable{X:Cx}
theorem Inv.Xv{TW:acd}{σ:St}{H:Hp}{s:Cl}{a:AC}{kvs:!(Key×V)}(I:Inv X TW σ H s)(h:H a=some (.dK kvs)):∃ o,Inv X TW σ (upd H a (.fO o (.dK kvs))) s:=by
 let(z,y,vs,rel,dd):=xb I.bM h;let(o,es,ep,g,rest):=id dd;exact#[o,Inv.write (x:=a) (e:=a) (o:=.fO o (.dK kvs)) (t':=s.toks) (h':=s.heap) I (by rw[h];exact trivial) (.inl U) (λb u _ e=>e) #[o,g] #[g,z,y,vs,rel,dd]]
def Xh(t:TE):TE:=λσ H Q=>t σ H λv H1=>∃ a kvs,v=.ref a/\H1 a=some (.dK kvs)/\∀ o,Q v (upd H1 a (.fO o (.dK kvs)))
theorem Kx{e:Ch}{t:TE}(h:PE X e t):PE X e (Xh t):=by
 intro TW s σ H Q I h';show cb (h TW s σ H _ I h') λu s1 z=>?_;let(x,H1,I1,r,a,kvs,rfl,ea,q):=z;let(o,IF):=I1.Xv ea;exact#[_,_,IF,r,q o]
def YU(a:AC)(o:Obj)(kvs:!(Key×V)):It :=
 #[λi H=>H a=some (.fO o (.dK kvs))/\i < kvs.length,λi H x H'=>H'=H/\∃ p,kvs[i]?=some p/\x=kV p.1,λi H=>H a=some (.fO o (.dK kvs))/\kvs.length<=i]
theorem Jf{κ:Type}:∀ {kvs:!(κ×V)} {vs:!(κ×AT)} {i:Nat} {p:κ×V},KV kvs vs->kvs[i]?=some p->∃ x,vs[i]?=some (p.1,x)
 | _,_,0,p,.cons r t,e=>by
  cases e
  rename_i b l m
  exact#[b.2,by rw[show p.1=b.1 from r.1];rfl]
 | _,_,i+1,p,.cons r t,e=>by
  let(v,h):=Jf (i:=i) t (by simpa using e);exact#[v,by simpa using h]
theorem wI{TW:acd}{σ:St}{H:Hp}{s:Cl}{a:AC}{o:Obj}{kvs:!(Key×V)}{es:Array SL}{ep:Nat}(I:Inv X TW σ H s)(e:o.data=.dict es ep)(h:H a=some (.fO o (.dK kvs))):∃ vs,KV kvs vs/\(a == KM)=false/\s.heap.DictAt (cu X.prog X.w) a vs ep:=by
 let(g,z,y,vs,rel,o2,NC,ep2,g2,c2,d2,k2):=(show cO X.prog X.w H s.heap a (.fO o (.dK kvs)) from I.bM a _ h);rw[g] at g2;cases g2;rw[e] at d2;cases d2;exact#[vs,rel,y,o,es,g,c2,e,k2]
theorem yQ{P:Fa}{w:FB}{K:Frag}{tg:Ch}{a it:AC}{o:Obj}{kvs:!(Key×V)}{es:Array SL}{ep:Nat}(e:o.data=.dict es ep):Turn P w K tg (YU a o kvs) [it] it (λi h=>h.IsKeyIter it a i kvs.length ep) where
 mem:=by simp
 obj:=λi h st b hb=>by
  obtain rfl:b=it:=by simpa using hb
  let(o,e,c,d):=st;exact#[o,e,λv z=>by rw[d] at z;cases z]
 keep:=λi h h' st k=>by
  let(o,e,r):=st;exact#[o,k it (by simp) o e,r]
 item:=by
  intro X hP hw hK hc i TW s σ H E I hf st hg;subst hP hw hK;let(hu,hl):=hg;let(vs,rel,y,dat):=wI I e hu;let(f0,f1,f2,f3,f4,f5):=hf it (by simp);have hx:kvs[i]?=some kvs[i]:=aaq hl;let(x,hx2):=Jf rel hx;have hn:=rel.length;rw[hn] at st;show wpAny_pyNext_dict_item st dat hx2 λkey h' hk jq sb=>?_;have I1:Inv X TW σ H { s with heap:=h' }:=I.turned (t':=s.toks) (λb o hb e=>(sb.2 b hb).trans e) f0 f1 f3 f4 f5;rw[<- hn] at jq;let(oi,ei,c,d):=id jq;exact#[_,U,Au (s:={ s with heap:=h' }) ei c d () #[kV kvs[i].1,H,I1,Hi hk,#[U,_,hx,U],jq,λb hb=>(hf b hb).1]]
 done:=by
  intro X hP hw hK hc i TW s σ H E I hf st hg;subst hP hw hK;let(hu,hl):=hg;let(vs,rel,y,dat):=wI I e hu;let(f0,f1,f2,f3,f4,f5):=hf it (by simp);have hn:=rel.length;rw[hn] at st;exact wpAny_pyNext_dict_end (I.ok.hd hc) st dat (abr (by cbv)) λh' eb=>#[U,I.turned (t':=s.toks) (λb o hb e=>eb b o hb e) f0 f1 f3 f4 f5]
 self:=λA i s Q E st h=>wpAny_pyIter_keyiter st h
def JY(tl:TE):TI:=λσ H R=>tl σ H λv H1=>∃ a o kvs,v=.ref a/\H1 a=some (.fO o (.dK kvs))/\(kvs.length<=FS->R (YU a o kvs) H1)
theorem EE{tg l:Ch}{tl:TE}(hl:PE X l tl):PI X tg l (JY tl):=by
 intro TW s σ H R I h;show cb (hl TW s σ H _ I h) λv s1 z=>?_;let(x,H1,I1,r1,a,o,kvs,rfl,e,q):=z;cases r1;let(g,z,y,vs,rel,o2,es,ep,g2,c2,d2,k2):=(show cO X.prog X.w H1 s1.heap a (.fO o (.dK kvs)) from I1.bM a _ e);rw[g] at g2;cases g2;show wpAny_pyIter_dict y #[o,es,g,c2,d2,k2] ?_;exact#[↑s1,[↑s1],_,_,H1,U,I1.kept (t':=s1.toks) λb o e=>aae _ e,yQ d2,#[_,aat _ U,U,by rw[rel.length];rfl],λb hb=>by
  obtain rfl:b=↑s1:=by simpa using hb
  exact I1.u7 (aah _) (I1.bM.fresh (aah _)),q z]
end
end L2
namespace DL
open PySem PySem.Spec L2
open PyProof.Rows hiding St
section
variable{X:Cx}{c:Ent}
def Fd(ks:!Key)(vs:!D):D:=.HI (ks.map ([·])) vs
theorem Ec{ks:!Key}{kvs:!(Key×V)}(h:(kvs.map λx=>[x.1])=ks.map ([·])):kvs.map (·.1)=ks:=by
 have:=congrArg (List.map (List.headD · (.inl 0))) h;rw[aan,aan] at this;exact this.trans (abf _)
def Ks(te:aU):eQ:=λs Q=>te s λd s1=>∃ ks vs,d=Fd ks vs/\Q (ks.map kD) s1
theorem HL{tg e:Ch}{te:aU}(he:DE X c e te):DI X c tg e (Ks te):=#[λTW s σ H R I zz=>cQ zz λM s0 as R0 L q k=>EE he.pe TW s σ H R I
 #[M,s0,as,_,L,q,λd s1 z M1 H1 v L1 E1 rv=>by
  let(ks,vs,rfl,q1):=z;let(a,o,kvs,rfl,(m,h),e1,rr):=rv;have e1:=Ec e1;show#[a,o,kvs,U,h,λhz=>k _ s1 q1 M1 H1 _ L1 E1 (λM2 H2 G=>?_) (by rw[aaa,<- e1,aaa];exact hz)];have h2:H2 a=some (.fO o (.dK kvs)):=(G a m).2 _ h;rw[<- e1,aan];show#[λi hi=>#[h2,by rw[aaa] at hi;cbv],λi d hd=>?_];rw[aaG] at hd;let(p,g1,g2):=aaI.mp hd;subst g2;show#[#[h2,(aaf.mp g1).1],λx H3 y=>.inl ?_];let(y1,p',y2,y3):=y;rw[g1] at y2;cases y2;show#[y1,?_];rw[y3];change Rep _ _ _ (kD p.1) (kV p.1);cases p.1<;>rfl]]
def Py(i:Nat):aU:=λs Q=>∃ k ks vs,s.sl[i]?=some (.own k)/\s.os[k]?=some (some (.i7 ks vs))/\Q (Fd ks vs) (s.freeze k (Fd ks vs))
theorem Si{i:Nat}{e:Ch}(h:PE X e (b8 i)):DE X c e (Py i):=#[(Kx h).imp λσ H Q z6q=>by
 let(M,s,as,R,L,(k,ks,vs,h1,h2,q),kk):=z6q;let(a,o,g1,g2,g3,g4):=L.slot h1 h2;let(_,nm,ng,h0):=L.obj k _ a h2 g1;cases o with
 | dK kvs =>
  let(e1,r1):=(show kvs.map (·.1)=ks/\aE X.K H M vs (kvs.map (·.2)) from g4);show#[_,g2,a,kvs,U,g3,λo=>?_];have kp:∀ b u,b≠a->H b=some u->upd H a (.fO o (.dK kvs)) b=some u:=λb u ne e=>by rw[aA ne];exact e
  have mk:∀ b u,M b->H b=some u->upd H a (.fO o (.dK kvs)) b=some u:=λb u m e=>kp b u (λz=>nm (z▸m)) e;have ra:Rep X.K (upd H a (.fO o (.dK kvs))) (λb=>M b\/b=a) (Fd ks vs) (.ref a):=#[a,o,kvs,U,#[.inr U,aD],by rw[<- e1,aan];rfl,aE.mono (λ_ m=>.inl m) mk _ _ r1];have qZ:∀ {l:Nat} {e:D},(s.freeze k (Fd ks vs)).os[l]?=some (some e)->l≠k/\s.os[l]?=some (some e):=λ{l e} h=>by
   rcases bw h with ⟨rfl,hl,q⟩ | ⟨ne,q⟩
   .cases q
   .exact#[λz=>ne z.symm,q]
  have pC:∀ {l:Nat} {e:D} {b:AC},l≠k->s.os[l]?=some (some e)->as[l]?=some b->b≠a:=λne e1 e2 z=>by
   subst z;exact ne (L.inj _ _ _ _ _ e1 h2 e2 g1)
  show kk _ _ q (λb=>M b\/b=a) _ (.ref a) #[#[c.g.loc H _ L.base.nZ λb u g e=>kp b u (λz=>g.elim (λg=>ng (z▸g)) λ#[φ,f]=>by subst f;rw[z,g3] at e;cases e) e,λb u e g=>kp b u (λz=>by rw[z,h0] at e;cases e) (L.base.fr b u e g),λb m=>?_,λb m=>?_,λb m=>.inl (L.base.m0 b m),λb m=>?_],?_,?_,λj e he=>?_,λj l hj=>?_,λl e b e1 e2=>?_,λl m e f b e1 e2 f1 f2=>L.inj l m e f b (qZ e1).2 (qZ e2).2 f1 f2,L.lt] #[λ_ m=>.inl m,λb m=>?_,λb u e _ w=>kp b u (λz=>by subst z;exact w #[k,_,h2,g1]) e,λb z7q=>by let(l,e,e1,e2):=z7q;exact#[l,e,(qZ e1).2,e2]] ra
  .rcases m with m | rfl
   .let(u,e):=L.base.md b m;exact#[u,mk b u m e]
   .exact#[_,aD]
  .rcases m with m | rfl
   .exact L.base.mo b m
   .exact ng
  .rcases m with m | rfl
   .exact L.base.mn b m
   .exact .inr (.inl h0)
  .show (s.sl.map _).length=_;rw[aaa];exact L.len
  .show as.length=(s.os.set k none).length;rw[aaL];exact L.dA
  .have he:(s.sl.map (fO k (Fd ks vs)))[j]?=some (.dat e):=he;rw[aaG] at he;let(x,hx,hy):=aaI.mp he;cases x with
   | no=>cases hy
   | dat y =>
    cases hy;let(v,w1,w2):=L.dat j e hx;exact#[v,w1,Rep.mono (λ_ m=>.inl m) mk e v w2]
   | own l =>
    replace hy:(if l=k then Sl.dat (Fd ks vs) else Sl.own l)=.dat e:=hy
    by_cases z:l=k
    .rw[if_pos z] at hy;cases hy;subst z;let(b,w1,w2):=L.own j l hx;rw[g1] at w1;cases w1;exact#[_,w2,ra]
    .rw[if_neg z] at hy;cases hy
  .have hj:(s.sl.map (fO k (Fd ks vs)))[j]?=some (.own l):=hj;rw[aaG] at hj;let(x,hx,hy):=aaI.mp hj;cases x with
   | no=>cases hy
   | dat y=>cases hy
   | own l' =>
    replace hy:(if l'=k then Sl.dat (Fd ks vs) else Sl.own l')=.own l:=hy
    by_cases z:l'=k
    .rw[if_pos z] at hy;cases hy
    .rw[if_neg z] at hy;cases hy;exact L.own j l hx
  .let(ne,e1'):=qZ e1;let((u,w1,w2),w3,w4):=L.obj l e b e1' e2;show#[#[u,kp b u (pC ne e1' e2) w1,w2.mono (λ_ m=>.inl m) mk],λm=>?_,w4];rcases m with m | m
   .exact w3 m
   .exact pC ne e1' e2 m
  .rcases m with m | rfl
   .exact .inl m
   .exact .inr (.inr #[k,_,h2,g1])
 | _=>exact g4.elim]
def UH(td ty:aU):aU:=λs Q=>td s λd s1=>ty s1 λdy s2=>∃ ks vs q x,d=Fd ks vs/\Bp dy=some q/\bA ks vs q=some x/\Q x s2
theorem zx{e:Ch}{td ty:aU}(h:PE X e (k9 (tE X.K c td) (tE X.K c ty))):DE X c e (UH td ty):=#[h.imp λσ H Q zz=>cQ zz λM s as R L q kk =>
 #[M,s,as,_,L,q,λd s1 q1 M1 H1 v L1 E1 rv=>#[M1,s1,as,_,L1,q1,λdy s2 z M2 H2 y Lb E2 ry=>by
  let(ks,vs,q,x,rfl,hq,hx,q2):=z;let(a,o,kvs,rfl,(m,h),e1,rr):=E2.rep L1 rv;have ey:=mE hq ry;subst ey;rcases pP (q:=q) (Ec e1) rr with ⟨h1,h2⟩ | ⟨v,x',h1,h2,h3⟩
  .rw[hx] at h2;cases h2
  .rw[hx] at h2;cases h2;exact#[a,v,U,.inl #[kvs,q,.inr #[o,h],U,h1.symm],kk _ s2 q2 M2 H2 v Lb (E1.trans L1.base E2) h3]]]]
end
end DL
namespace L2
open PySem PySem.Spec
open PyProof.Rows hiding St
section
variable{X:Cx}
end
end L2
namespace DL
open PySem PySem.Spec L2
open PyProof.Rows hiding St
section
variable{X:Cx}{c:Ent}
end
end DL
namespace L2
open PySem PySem.Spec
open PyProof.Rows hiding St
section
variable{X:Cx}{TW:acd}{σ:St}{H:Hp}
end
end L2
namespace DL
open PySem PySem.Spec L2
section
variable{X:Cx}{c:Ent}
end
end DL
namespace DL
open PySem L2
section
variable{X:Cx}{c:Ent}{a b e:Ch}{pos:Pos}{ta tb tc:aU}
end
end DL
namespace DL
open PySem PySem.Spec L2
open PyProof.Rows hiding St
section
variable{X:Cx}{c:Ent}
theorem Gr{ty td:aU}{σ:St}{H:Hp}{Q:VK}:tE X.K c (xR true ty td) σ H Q->Bh (tE X.K c ty) (tE X.K c td) σ H Q:=λzz=>cQ zz λM s as R L q kk =>
 #[M,s,as,_,L,q,λdy s1 q1 M1 H1 y L1 E1 ry=>#[M1,s1,as,_,L1,q1,λd s2 z5r M2 H2 v Lb E2 rv=>by
  let(hd,q2):=z5r;let(a,o,rfl,f1,f2):=rv.dc hd;let(ov,od,w1,w2,w3):=vR q2 f1 f2 (E2.rep L1 ry);show#[a,ov,U,w1,?_];have e:ov.isSome=od.isSome:=by
   rcases w3 with ⟨rfl,rfl⟩ | ⟨v,x,rfl,rfl,rx⟩<;>rfl
  rw[e];exact kk _ s2 w2 M2 H2 _ Lb (E1.trans L1.base E2) U]]
theorem vw{i o:Ch}{pos:Pos}{ty td:aU}(hu:X.A.units+1 < cLine)(hi:DE X c i ty)(ho:DE X c o td)(h1:(behindInMarks .NotIn o=false)⁻¹):DT X c (.Compare i [.NotIn] [o] pos) (nI (xR true ty td)) :=
 #[(DB (BN hu hi.pe ho.pe) h1).imp λσ H Q q=>ky Gr q]
end
section
variable{X:Cx}{rs:!AC}{M0:AC->Prop}{H0:Hp}{ty td tv:aU}
def KO(rs:!AC)(j:Nat)(td ty tv:aU):iF:=λD s=>tv s λdv s0=>td s0 λd s1=>∃ a,d=.bJ a/\rs[j]?=some a/\ty s1 λdy s2=>∃ dx,s2.os[j]?=some (some dx)/\KQ dx dy dv λd2=>D.nx (s2.put j d2)
theorem uY(j:Nat){st:Ev}(h:PS X st (sI (tE X.K #[gO rs,M0,H0] td) (tE X.K #[gO rs,M0,H0] ty) (tE X.K #[gO rs,M0,H0] tv))):pE X #[gO rs,M0,H0] st (KO rs j td ty tv):=#[h.imp λE σ H zz=>cQ zz λM s as R L q kk =>
 #[M,s,as,_,L,q,λdv s0 q0 Ma Ha v La Ea rv=>#[Ma,s0,as,_,La,q0,λd s1 z M1 H1 u L1 E1 ru=>by
  let(a,ed,hj,q1):=z;subst ed;have ru:u=.ref a:=ru;subst ru;show#[M1,s1,as,_,L1,q1,λdy s2 z2 M2 H2 w Lb E2 rw=>?_];let(dx,h2,q2):=z2;have g1:=Lb.lt j a hj;let((o,f1,f2),nm,ng,h0):=Lb.obj j _ a h2 g1;let(d2,o2,p1,p2,p3):=Ae q2 f1 f2 rw ((E1.trans L1.base E2).rep La rv);exact#[a,_,U,p1,kk.nx _ as M2 σ _ p2 (Lb.jw h2 g1 p3) ((Ea.grow L).trans ((E1.grow La).trans ((E2.grow L1).trans ((Ext.jw (c:=#[gO rs,M0,H0]) (M:=M2) (d:=d2) h2 g1).grow Lb))))]]]]
end
end DL
namespace L2
open PySem PySem.Spec
open PyProof.Rows hiding St
section
variable{X:Cx}{TW:acd}{σ:St}
theorem He{K:Frag}{H:Hp}{l a:AC}{xs:!V}{m:!(Key×V)}{o:HO}(e:H a=some (.dK m))(h:dN K H l xs):dN K (upd H a o) l xs:=by
 rcases h with (h | ⟨u,h⟩) | h
 .exact .inl (.inl (by rw[aA λz=>by subst z;rw[e] at h;cases h];exact h))
 .exact .inl (.inr #[u,by rw[aA λz=>by subst z;rw[e] at h;cases h];exact h])
 .exact .inr h
theorem qP{A:Fr}{E:acb}{a it l:AC}{xs:!V}{Q:Cl->Prop}(hh:A.in1.handled=none):∀ (rest:!(Key×V)) (i:Nat) (acc:!(Key×V)) (H:Hp) (s:Cl),
  Inv X TW σ H s->H a=some (.dK acc)->dN X.K H l xs->Paired (Fn H) (xs.drop i) rest->jZ X TW H it->s.heap.IsListIter it l i->acc.length+rest.length < FS ->
  (∀ s',Inv X TW σ (upd H a (.dK (kG acc rest))) s'->Q s') ->
  codeAny (model X.prog X.w) A (.builtin "dict.update.loop" #[[.ref a,.ref it,SC i,.none],[]]) (wants (λr s2=>r=.none/\Q s2) E) s
 | [],i,acc,H,s,I,ha,hl,hp,hf,hit,hz,q=>by
  have hx:xs.drop i=[]:=aaO (Paired.length hp);let(its,rv,pl,_):=I.list hl;have hn:its.toArray[i]?=none:=by
   have:=rv.length;have:=congrArg List.length hx;simp at this ⊢;cbv
  show codeAny_builtin tV ?_;rw[Fr.under_plain U U];change EQ _ _ (pyNext (.ref it) >>= _) _ _ _;show Da (wpAny_pyNext_list_end hh hit pl.isList hn λh' eb=>?_);have I1:Inv X TW σ H { s with heap:=h' }:=Inv.mP (t':=s.toks) (fp:=[it]) I (λb o hb z=>eb b o (λy=>hb (by simp[y])) z) λb hb=>by rw[List.mem_singleton.mp hb];exact hf
  change EQ _ _ (GT.Dict.addKeywords a [] >>= _) _ _ _;show Da (GE (GE #[U,q _ ?_]));have e:upd H a (.dK (kG acc []))=H:=by
   funext b
   by_cases hb:b=a
   .subst hb;rw[aD,ha]
    rfl
   .rw[aA hb]
  rw[e];exact I1
 | kv::rest,i,acc,H,s,I,ha,hl,hp,hf,hit,hz,q=>by
  have jN:i < xs.length:=by
   have:=Paired.length hp;rw[abl,aam] at this;cbv
  rw[abe jN] at hp;cases hp with
  | cons hx hr =>
  let(p,e1,e2):=hx;let(its,rv,pl,_):=I.list hl;let(u,hu1,ru):=rv.get (show xs[i]?=some xs[i] from aaq jN);rw[e1] at ru;have ru:u=.ref p:=ru;subst ru;show codeAny_builtin tV ?_;rw[Fr.under_plain U U];change EQ _ _ (pyNext (.ref it) >>= _) _ _ _;show Da (wpAny_pyNext_list_item hit pl.isList (by simpa using hu1) λh' hit' hs=>?_);have I1:Inv X TW σ H { s with heap:=h' }:=Inv.mP (t':=s.toks) (fp:=[it]) I (λb o hb z=>(hs.2 b (λy=>hb (by simp[y]))).trans z) λb hb=>by rw[List.mem_singleton.mp hb];exact hf
  let(_,ps,rp,op,g1,g2,nn,g3,_):=(show cO X.prog X.w H h' p (.tup [kV kv.1,kv.2]) from I1.bM p _ e2);let(kr,vr,rfl,rk,rvv):=Vals.two rp;change EQ _ _ (holding [AT.ref p] _ >>= _) _ _ _;show Da (KB (Da (wpAny_tryCatch ?_)));have hT:Cl.TypeIs { s with heap:=h' } (.ref p) "tuple":=#[op,g1,g2];unfold GT.Dict.pairItems;show Da (wpAny_typeOf hT ?_);rw[if_pos ()];show Da (Rs g1 g3 (GE ?_));change EQ _ _ (holding [kr,vr] (dictSet a kr vr)) _ _ _;have hzl:acc.length+(rest.length+1) < FS:=hz;show KB (zN I1 ha rk (by cbv) rvv λs2 I2 xX=>?_);have hia:it≠a:=λz=>by
   subst z;rw[hf.1] at ha;cases ha
  show GE #[Code.quiet_builtin _ (-()),?_];have fe:=fF acc kv.1 kv.2;show qP hh rest (i+1) (putK acc kv.1 kv.2) (upd H a (.dK (putK acc kv.1 kv.2))) s2 I2 aD (He ha hl) (Paired.CG hr λ_ _ z=>Fn.up ha z) #[by rw[aA hia];exact hf.1,hf.2] (hit'.at λo z=>(xX.2 it hia).trans z) (by cbv) λs3 I3=>q s3 ?_;rw[uv] at I3;exact I3
theorem wJ{H:Hp}{s:Cl}{E:acb}{l:AC}{xs:!V}{kvs:!(Key×V)}{Q:acb}(hh:X.A.handled=none)(I:Inv X TW σ H s)(hl:dN X.K H l xs)(hp:Paired (Fn H) xs kvs)(hz:kvs.length < FS)(h:∀ a s',H a=none->Inv X TW σ (upd H a (.dK (kG [] kvs))) s'->Q (.ref a) s'):EQ (model X.prog X.w) X.A (call (.type "dict") [.ref l]) Q E s:=by
 show callType_codes (Q₁:=λobj s₁=>obj=.ref ↑s/\s₁={ s with heap:=s.heap.push { cls:=.type "dict",data:=.dict #v[] } }) PySem.F.kt_called_dict (PySem.F.kt_typeCall_dict_1 _) PySem.F.entry_dict_init (kt_code_dict_new _ #[U,U]) λobj s₁ h₁=>?_;let(rfl,rfl):=h₁;have hfr:H ↑s=none:=I.bM.fresh (aah _);have I1:Inv X TW σ (upd H ↑s (.dK [])) { s with heap:=s.heap.push { cls:=.type "dict",data:=.dict #v[] } }:=I.laid (a:=↑s) (o:=.dK []) (t':=s.toks) (λ_ _ q=>aae _ q) (aah _) (rj s.heap I.big);have hT:Cl.TypeIs { s with heap:=s.heap.push { cls:=.type "dict",data:=.dict #v[] } } (.ref ↑s) "dict":=#[_,aat _ U,U];show#[hT,PySem.F.args_dict_init_2 _ _,?_];unfold GT.«dict.__init__»;show Da ?_;unfold GT.Dict.selfAndRest;show Da (wpAny_notOrdered_dict hT ?_);show GE ?_;change EQ _ _ (GT.Dict.updateFrom "dict.__init__" ↑s (.ref l) [] .none) _ _ _;have Af:dN X.K (upd H ↑s (.dK [])) l xs:=HZ hfr hl;let(its,rv,pl,_):=I1.list Af;let((cl,od,dt,sl),nn,x1,x2,x3,x4):=pl
 replace x2:cl=.type "list":=x2
 replace x3:od=none:=x3
 replace x4:dt=.seq its.toArray nn:=x4
 subst x2 x3 x4;have hTl:Cl.TypeIs { s with heap:=s.heap.push { cls:=.type "dict",data:=.dict #v[] } } (.ref l) "list":=#[_,x1,U];unfold GT.Dict.updateFrom;show Da (wpAny_typeOf hTl ?_);rw[if_pos ()];have hhn:(X.A.in1.in1).handled=none:=hh;show Da (Nx.Gq hhn x1 λh' t' k=>?_);have I2:Inv X TW σ (upd H ↑s (.dK [])) { s with heap:=h',toks:=t' }:=I1.kept (t':=t') k;have hL2:Db.IsList h' l its.toArray:=#[_,k l _ x1,U,nn,U];change EQ _ _ (rule _ >>= _) _ _ _;show Da (wpAny_rule ?_);show Da (wpAny_pyIter_list (s:={ s with heap:=h',toks:=t' }) hL2 ?_);have I3:=I2.kept (h':=h'.push { cls:=.type "list_iterator",data:=.fields #v[.ref l,.int 0 0] }) (t':=t') λb u z=>aae _ z;have jN:↑s < h'.objs.size:=aar (k _ _ (aat _ U));have JQ:upd H ↑s (.dK []) h'.objs.size=none:=by
  rw[aA (abz jN)];exact I.bM.fresh (aby jN)
 show GE #[Code.quiet_builtin _ (-()),?_];show qP (A:=X.A.in1) hh kvs 0 [] (upd H ↑s (.dK [])) _ I3 aD Af (by rw[List.drop_zero];exact Paired.CG hp λ_ _ z=>z.new hfr) (I2.u7 (Nat.le_refl _) JQ) #[_,Db.get?_push_size _ U,U,U] (by simpa using hz) λs' I4=>h _ s' hfr ?_;rw[uv] at I4;exact I4
def Dr(K:Frag):!V->Hp->VK->Prop:=λvs H Q=>∃ l xs kvs,vs=[.ref l]/\dN K H l xs/\Paired (Fn H) xs kvs/\kvs.length < FS/\∀ a,H a=none->Q (.ref a) (upd H a (.dK (kG [] kvs)))
theorem zQ(hc:X.calm=true):fk X (.type "dict") (Dr X.K):=by
 intro TW s σ H xs us Q I r h;let(l,ys,kvs,rfl,hl,hp,hz,q):=h;let(u,rfl,ru):=Vals.one r;cases ru;exact wJ (I.ok.hd hc) I hl hp hz λa s' hn I2=>#[.ref a,_,I2,U,q a hn]
def FJ:!V->Hp->VK->Prop:=λvs H Q=>∃ d kvs,vs=[.ref d]/\H d=some (.dK kvs)/\∀ a,H a=none->Q (.ref a) (upd H a (.dK kvs))
theorem rW:fk X (.type "dict") FJ:=by
 intro TW s σ H xs us Q I r h;let(d,kvs,rfl,hd,q):=h;let(u,rfl,ru):=Vals.one r;cases ru;let(z,hs,vs,rel,dd):=xb I.bM hd;show kt_call_dict hs dd (by rw[<- rel.length];exact z) λh' dd' sb=>#[.ref _,_,I.laid (a:=↑s) (o:=.dK kvs) (h':=h') (t':=s.toks) (λb u e=>?_) (aah _) ?_,U,q _ (I.bM.fresh (aah _))]
 .have hb:b≠↑s:=aaD (aar e);exact (sb.2 b hb).trans (aae _ e)
 .exact uU z (beq_eq_false_iff_ne.mpr λz=>absurd I.big (by rw[<- z];exact abt _)) rel dd'
end
end L2
namespace DL
open PySem PySem.Spec L2
open PyProof.Rows hiding St
section
variable{X:Cx}{c:Ent}
def KH(ds:!D)(k:D->Prop):Prop:=∃ qs:!(Str×D),ds=[.lst (qs.map λq=>.tup [.str q.1,q.2])]/\(qs.map (·.1)).Nodup/\qs.length < FS/\k (.i7 (qs.map λq=>.inr q.1) (qs.map (·.2)))
theorem FE:FC X c (Dr X.K) KH:=λM s as σ H xs ds k Q L r z6r q=>by
 let(qs,e,hn,hz,hk):=z6r;subst e;let(v,rfl,p,ys,rfl,(m,h),r1):=dZ r;let(kvs,h1,h2,h3):=CD r1;have hl:kvs.length=qs.length:=by
  have:=congrArg List.length h2;rw[aaa,aaa] at this;exact this
 show#[p,ys,kvs,U,.of h,h1,by cbv,λa ha=>?_];rw[yz (acc:=[]) (by rw[aaF,h2];exact List.Pairwise.map _ (λa b hab z=>hab (Sum.inr.inj z)) (List.Pairwise.of_map _ (λa b hab=>hab) hn))];exact q _ hk a (.dK kvs) ha #[h2,h3]
def J6(ds:!D)(k:D->Prop):Prop:=∃ ks vs,ds=[.i7 ks vs]/\k (.i7 ks vs)
theorem xa:FC X c FJ J6:=λM s as σ H xs ds k Q L r z7r q=>by
 let(ks,vs,e,hk):=z7r;subst e;let(v,rfl,p,kvs,rfl,(m,h),h1,h2):=dZ r;exact#[p,kvs,U,h,λa ha=>q _ hk a (.dK kvs) ha #[h1,h2]]
end
section
variable{X:Cx}{c:Ent}{o e:Ch}{es:!Ch}{te:aU}{ta tb:eQ}{C:AC}{pos apos:Pos}{k m:Nat}{q:D3}
def NY(C:AC)(ks:!Str)(i:Nat)(te:aU):aU:=λs Q=>te s λd s1=>∃ vs y,d=.ob C ks vs/\vs[i]?=some y/\Q y s1
theorem j8{f:Str}(ks:!Str)(i:Nat)(cl:vL X.K C)(hn:cx X.K C f)(ho:DE X c o te)(hi:Js ks f=some i:=by decide+kernel)(hb:(attributeBase o f X.env (eval o X.env)=eval o X.env)⁻¹):DE X c (.Attribute o f pos) (NY C ks i te) :=
 #[(DC ho.pe hb).imp λσ H Q zz=>cQ zz λM s as R L q kk=>#[M,s,as,_,L,q,λd s1 z M1 H1 v L1 E1 rv=>by
   let(vs,y,ed,hy,q1):=z;subst ed;let(a,dx,fs,rfl,(_,h1),h2,h3):=rv;let(v,h4,h5):=h3.get hy;exact#[a,C,dx,fs,v,U,h1,cl,hn,by rw[yF (by rw[h2];exact hi)];exact h4,kk y s1 q1 M1 H1 v L1 E1 h5]]]
def Ni(C:AC)(ks:!Str)(t:ace)(te:aU)(ta:eQ):aU:=λs Q=>te s λd s1=>∃ vs,d=.ob C ks vs/\ta s1 λds s2=>t (d::ds) λx=>Q x s2
theorem Aa{t:ace}{pl:Sem Bool}{mm:Str}(ks:!Str)(cl:vL X.K C)(hr:b4 m X.A)(G:gi X.prog X.w X.K X.mg X.base C q k (cR X.K .no t))(ho:DE X c o te)(ha:DA X c (e::es) ta)(hx:(q.1=mm)⁻¹)(hk:k<=m:=by ac_rfl)(wg:mm∉ks:=by decide+kernel)(fC:(acf X.env e es)⁻¹)(fe:(acg X.env pos es)⁻¹)(ht:(eval (.Call (.Attribute o mm apos) (e::es) [] pos) X.env=(do
   let ov <- eval o X.env
   standAt apos.atName
   let (f,first) <- holding [ov] (getMethod ov mm pl)
   callWith pos f first (IR pos (Gc (e::es) X.env)) (P3 pos (Re [] X.env))))⁻¹) :
  DE X c (.Call (.Attribute o mm apos) (e::es) [] pos) (Ni C ks t te ta):=by
 subst hx;let(f,fd,G,hm,hb):=G;exact#[(Aw ho.pe cl hm G (hr.mono hk) hb .nil (E:=E0) iA ha.pa fC fe ht).imp λσ H Q zz=>cQ zz λM s as R L q kk =>
  #[M,s,as,_,L,q,λd s1 z M1 H1 v L1 E1 rv=>by
   let(vs,ed,q1):=z;have rv0:=rv;rw[ed] at rv;let(a,dx,fs,rfl,(_,h1),h2,h3):=rv;show#[a,dx,fs,U,h1,kF (by rw[h2];exact wg),M1,s1,as,_,L1,q1,λds s2 q2 M2 H2 vs L2 E2 r2 hl=>?_];exact#[M2,d::ds,_,L2.base.pq,#[_,_,U,E2.rep L1 rv0,by rw[aal];exact r2],q2,λx rx M' H' v B rv=>kk x s2 rx M' H' v (L2.after (L2.base.uP B)) ((E1.trans L1.base E2).trans L2.base (Ext.after (L2.base.uP B))) rv]]]
end
section
variable{K:Frag}{c:Ent}{M M' M1 M2:AC->Prop}{s s1:DS}{as:!AC}{σ:St}{H H1:Hp}{rs:!AC}
theorem aG.KG(L:aG K c M s as σ H)(hs:∀ b,M b->M' b)(hn:∀ b,M' b->M b\/((∃ o,H b=some o)/\¬ c.g.own b/\¬ dO s as b/\Nu c.H0 b)):aG K c M' s as σ H:=by
 have mk:∀ b u,M b->H b=some u->H b=some u:=λ_ _ _ e=>e;show#[#[L.base.nZ,L.base.fr,λb m=>?_,λb m=>?_,λb m=>hs b (L.base.m0 b m),λb m=>?_],L.len,L.dA,λi d e=>?_,L.own,λk d b e1 e2=>?_,L.inj,L.lt]
 .rcases hn b m with m | z
  .exact L.base.md b m
  .exact z.1
 .rcases hn b m with m | z
  .exact L.base.mo b m
  .exact z.2.1
 .rcases hn b m with m | z
  .exact L.base.mn b m
  .exact .inr z.2.2.2
 .let(v,h1,h2):=L.dat i d e;exact#[v,h1,Rep.mono hs mk d v h2]
 .let((u,q,r),q1,q2):=L.obj k d b e1 e2;show#[#[u,q,cy.mono hs mk r],λm=>?_,q2];rcases hn b m with m | z
  .exact q1 m
  .exact z.2.2.1 #[k,d,e1,e2]
theorem Ext.Qo(E:Ext c as M s H M1 s1 H1)(hs:∀ b,M1 b->M2 b)(hn:∀ b,M2 b->M1 b\/H b=none\/dO s as b):Ext c as M s H M2 s1 H1:=#[λb m=>hs b (E.sub b m),λb m=>by
 rcases hn b m with m | z | z
 .exact E.new b m
 .exact .inr (.inl (.inl z))
 .exact .inr (.inr z),E.keep,E.iG]
theorem xC:∀ {rr:!AC} {vs:!D} {ws:!V},aE K H M (rr.map .bJ) ws->rr.length=vs.length->(∀ (k:Nat) (r:AC) (d:D),rr[k]?=some r->vs[k]?=some d->Rep K H M d (.ref r))->aE K H M vs ws
 | [],[],ws,h,_,_=>h
 | r::rr,d::vs,ws,h,hl,hk=>by
  let(x,w,rfl,h1,h2):=h;have h1:x=.ref r:=h1;subst h1;exact#[_,w,U,hk 0 r d U U,xC h2 (Nat.succ.inj hl) λk r' d' e1 e2=>hk (k+1) r' d' e1 e2]
theorem nS.fO{x:AC}{rr:!AC}{C:AC}{ks:!Str}{vs:!D}(h:nS K H M (x::rr) (.ob C ks (rr.map .bJ)::vs))(hs:∀ b,M b->M' b)(hm:∀ r∈x::rr,M' r):Rep K H M' (.ob C ks vs) (.ref x):=by
 have mk:∀ b u,M b->H b=some u->H b=some u:=λ_ _ _ e=>e;let(_,o,h1,h2):=h.at_ 0 x _ U U;cases o with
 | ins C' dx fs =>
  let(rfl,h3,h4):=h2;show#[x,dx,fs,U,#[hm x aad,h1],h3,xC (aE.mono hs mk _ _ h4) (Nat.succ.inj h.len) λk r d e1 e2=>?_];let(_,o,g1,g2):=h.at_ (k+1) r d e1 e2;exact (g2.mono hs mk).rep g1 (hm r (aac _ (aaK e1)))
 | _=>exact h2.elim
end
section
variable{X:Cx}{c:Ent}{k k' m:Nat}{x:Str}{p p2 pos p3:Pos}{e e2:Ch}{es NC:!Ch}{ta tb:eQ}{t:Gy}{C f:AC}{fd:Go}{ps:!Str}{q:D3}{M0:AC->Prop}{H0:Hp}{u:mh}
def K0(C:AC)(ks:!Str)(t:Gy)(ta:eQ):aU:=λs Q=>ta s λds s1=>t ds λrs cs=>∃ x rr vs,rs=x::rr/\cs=.ob C ks (rr.map .bJ)::vs/\Q (.ob C ks vs) s1
theorem AU(ks:!Str)(Px:L2.Mk X.K C f)(F:bZ X.prog X.w X.K X.mg X.base aP k f fd ps (AS X.K C t))(hr:b4 (k+1) X.A)(hm:X.mg x=some (.ref C))(hb:Binds X.K fd ps [])(ha:DA X c (e::es) ta)(hg:(Gl X x)⁻¹)(jf: ~~~(ach x))(he:(acf X.env e es)⁻¹)(fe:(acg X.env pos es)⁻¹):DE X c (.Call (.Name x p) (e::es) [] pos) (K0 C ks t ta):=by
 show#[(vO Px F hr hg hm hb .nil (E:=E0) iA ha.pa jf he fe).imp λσ H Q zz=>cQ zz λM s as R L q kk=>#[M,s,as,_,L,q,λds s1 q1 M1 H1 vs L1 E1 r1 hl x dx hx hdx pC=>?_]];have hx':upd H1 dx (.own x) x=none:=by rw[aA (Ne.symm pC)];exact hx
 have Ld:=L1.laid (o:=.own x) hdx;let(nm,_):=notM L1 hx;show#[x,dx,M1,ds,_,vs++[],U,aD,(Ld.laid (o:=.ins C dx []) hx').base.pq,nm,by rw[aal];exact gh hx' (gh hdx r1),q1,λrs cs hR M' H' B' hh h0 hz=>#[U,?_]];let(x',rr,ws,rfl,rfl,hQ):=hR;cases h0;rw[l7 hx'] at B' hz;have L2:=Ld.after (Ld.base.uP B');have E2:=(E1.trans L1.base (Ext.laid (o:=.own x) hdx)).trans Ld.base (Ext.after (as:=as) (s:=s1) (Ld.base.uP B'));show kk _ s1 hQ (λb=>M' b\/b∈x::rr) H' (.ref x) (L2.KG (λ_ m=>.inl m) λb m=>m.imp id λz=>?_) (E2.Qo (λ_ m=>.inl m) λb m=>m.imp id λz=>?_) (hh.fO (λ_ m=>.inl m) λ_ z=>.inr z)
 .let(_,n1,n2,n3):=notM Ld (hz b z);let(k,hk):=abx z;let(_,o,g,_):=hh.at_ k b _ hk (aaq (by rw[<- hh.len];exact (aaf.mp hk).1));exact#[#[o,g],n1,n2,.inl n3]
 .let(_,n1,n2,n3):=notM Ld (hz b z);cases g:H b with
  | none=>exact .inl U
  | some o =>
   by_cases w:dO s as b
   .exact .inr w
   .have:=(E1.trans L1.base (Ext.laid (o:=.own x) hdx)).keep b o g n1 w;rw[hz b z] at this;cases this
theorem nS.later{K:Frag}{M M':AC->Prop}{H H':Hp}{rs:!AC}{cs:!D}(h:nS K H M rs cs)(hm:∀ b,M b->M' b)(hH:∀ b o,M b\/b∈rs->H b=some o->H' b=some o)(hn:∀ r∈rs,¬ M' r):nS K H' M' rs cs:=#[h.inj,h.len,λk r d e1 e2=>by
 let(_,o,g1,g2):=h.at_ k r d e1 e2;have z:=aaK e1;exact#[hn r z,o,hH r o (.inr z) g1,g2.mono hm λb u m=>hH b u (.inl m)]]
def IA(t:Gy)(u:mh)(ta tb:eQ):aU:=λs Q=>ta s λds s1=>s1.os=[]/\t ds λrs cs=>∀ x,rs[0]?=some x->tb s1 λds2 s2=>s2.os=[]/\u rs (.bJ x::ds2) cs λy _=>Q y s2
theorem ET(Px:L2.Mk X.K C f)(F:bZ X.prog X.w X.K X.mg X.base aP k f fd ps (AS X.K C t))(hr:b4 m X.A)(hm:X.mg x=some (.ref C))(hb:Binds X.K fd ps [])(ha:DA X #[.no,M0,H0] (e::es) ta)(G:C4 X.prog X.w X.K X.mg X.base aP q k' (b3 X.K u))(Wr:DA X #[.no,M0,H0] NC tb){y:Str}(hx:(q.1=y)⁻¹)(hk:k+1<=m:=by ac_rfl)(F4:k'<=m:=by ac_rfl)(hg:(Gl X x)⁻¹)(hg2:(Gl X y)⁻¹)(jf: ~~~(ach x))(V0: ~~~((y == ("__debug__":Str))=false))(he:(acf X.env e es)⁻¹)(fe:(acg X.env pos es)⁻¹)(Vs:(Gc (.Call (.Name x p) (e::es) [] pos::NC) X.env=(false,eval (.Call (.Name x p) (e::es) [] pos) X.env)::Gc NC X.env)⁻¹)(Wb:((IR p3 (Gc NC X.env)).any (·.1)=false)⁻¹) :
  DE X #[.no,M0,H0] (.Call (.Name y p2) (.Call (.Name x p) (e::es) [] pos::NC) [] p3) (IA t u ta tb):=by
 subst hx;let(fg,fdg,G,FG,hmg,hbg):=G;show#[(kB G (hr.mono F4) hg2 hmg FG.kp hbg .nil (E:=E0) iA (dX (vO Px F (hr.mono hk) hg hm hb .nil (E:=E0) iA ha.pa jf he fe) Wr.pa Vs) V0 Vs Wb).imp λσ H Q zz=>cQ zz λM s as R L q kk=>#[M,s,as,_,L,q,λds s1 z M1 H1 vs L1 E1 r1 hl x dx hx hdx pC=>?_]];let(qZ,q1):=z;have hx':upd H1 dx (.own x) x=none:=by rw[aA (Ne.symm pC)];exact hx
 have Ld:=L1.laid (o:=.own x) hdx;let(nm,_):=notM L1 hx;show#[x,dx,M1,ds,_,vs++[],U,aD,(Ld.laid (o:=.ins C dx []) hx').base.pq,nm,by rw[aal];exact gh hx' (gh hdx r1),q1,λrs cs hR M' H' B' hh h0 hz=>#[U,?_]];rw[l7 hx'] at B' hz;have L2:=Ld.after B';have E2:=(E1.trans L1.base (Ext.laid (o:=.own x) hdx)).trans Ld.base (Ext.after (as:=as) (s:=s1) B');show#[M',s1,as,_,L2,hR x h0,λds2 s2 z2 M3 H3 vs2 L3 E3 r3 hl3=>?_];let(hos2,q2):=z2;have now:∀ b,¬ dO s1 as b:=λb #[k,d,h1,_]=>by rw[qZ] at h1;cases h1
 have fre:∀ r∈rs,upd H1 dx (.own x) r=none:=hz;have nm3:∀ r∈rs,¬ M3 r:=λr hr' m3=>by
  let(k,hk):=abx hr';let(n1,o,g1,g2):=hh.at_ k r _ hk (aaq (by rw[<- hh.len];exact (aaf.mp hk).1));rcases E3.new r m3 with z | (z | ⟨xs,z⟩) | z
  .exact n1 z
  .rw[z] at g1;cases g1
  .rw[z] at g1;cases g1;exact g2.Fl
  .exact now r z
 have hh3:nS X.K H3 M3 rs cs:=hh.later E3.sub (λb o _ g=>E3.keep b o g (λz=>z) (now b)) nm3;have L3':aG X.K #[.no,M0,H0] M3 s2 as σ (g8 H3 rs):=by
  have mk:∀ b u,M3 b->H3 b=some u->g8 H3 rs b=some u:=λb u m g=>by rw[gZ λz=>nm3 b z m];exact g
  show#[#[trivial,λb o g _=>?_,λb m=>?_,λ_ _ z=>z,L3.base.m0,L3.base.mn],L3.len,L3.dA,λi d g=>?_,L3.own,λk d b g1 g2=>?_,L3.inj,L3.lt]
  .rw[gZ λz=>?_]
   .exact L3.base.fr b o g λz=>z
   .have:H0 b=none:=Ld.base.qw (fre b z);rw[show H0 b=some o from g] at this;cases this
  .let(o,g):=L3.base.md b m;exact#[o,mk b o m g]
  .let(v,h1,h2):=L3.dat i d g;exact#[v,h1,Rep.mono (λ_ m=>m) mk d v h2]
  .rw[hos2] at g1;cases g1
 show#[rs,M3,.bJ x::ds2,cs,_,L3.base.pq,hh3,#[_,_,U,U,by change aE X.K H3 M3 ds2 (vs2++[]);rw[aal];exact r3],q2,λy jy rx M4 H4 v B4 _ rv=>?_];have L4:=L3'.after B4;show kk y s2 rx M4 H4 v L4 #[λb m=>B4.m0 b (E3.sub b (E2.sub b m)),λb m=>?_,λb o g n1 n2=>?_,λb w=>E1.iG b (E3.iG b w)] rv
 .rcases B4.mn b m with m | z
  .exact (E2.trans L2.base E3).new b m
  .by_cases hbr:b∈rs
   .cases g:H b with
    | none=>exact .inr (.inl (.inl g))
    | some o =>
     by_cases w:dO s as b
     .exact .inr (.inr w)
     .have:=(E1.trans L1.base (Ext.laid (o:=.own x) hdx)).keep b o g (λz=>z) w;rw[fre b hbr] at this;cases this
   .have z:Nu (g8 H3 rs) b:=z;unfold Nu at z;rw[gZ hbr] at z;cases g:H b with
    | none=>exact .inr (.inl (.inl g))
    | some o =>
     by_cases w:dO s as b
     .exact .inr (.inr w)
     .have:=(E2.trans L2.base E3).keep b o g (λz=>z) w;rcases z with z | ⟨xs,z⟩
      .rw[z] at this;cases this
      .rw[z] at this;cases this;exact .inr (.inl (.inr #[xs,g]))
 .have hbr:b∉rs:=λz=>by
   have:=(E1.trans L1.base (Ext.laid (o:=.own x) hdx)).keep b o g n1 n2;rw[fre b z] at this;cases this
  show B4.fr b o ?_ λz=>z;change g8 H3 rs b=some o;rw[gZ hbr];exact (E2.trans L2.base E3).keep b o g n1 n2
theorem eJ{rs:!AC}{o:Ch}{te:aU}{apos:Pos}{pl:Sem Bool}{mm:Str}(j:Nat)(ks:!Str)(cl:vL X.K C)(hr:b4 m X.A)(G:gi X.prog X.w X.K X.mg X.base C q k (b3 X.K u))(ho:DE X #[gO rs,M0,H0] o te)(hx:(q.1=mm)⁻¹)(hk:k<=m:=by ac_rfl)(wg:mm∉ks:=by decide+kernel)(ht:(eval (.Call (.Attribute o mm apos) [] [] pos) X.env=(do
   let ov <- eval o X.env
   standAt apos.atName
   let (f,first) <- holding [ov] (getMethod ov mm pl)
   callWith pos f first (IR pos (Gc [] X.env)) (P3 pos (Re [] X.env))))⁻¹) :
  DE X #[gO rs,M0,H0] (.Call (.Attribute o mm apos) [] [] pos) (FO rs j C ks te u IL):=by
 subst hx;let(f,fd,G,hm,hb):=G;exact#[(D8 ho.pe cl hm G (hr.mono hk) hb .nil (E:=E0) iA ht).imp λσ H Q zz=>cQ zz λM s as R L q kk =>
  #[M,s,as,_,L,q,λd s1 z M1 H1 v L1 E1 rv=>by
   let(a,vs,ed,hj,ho,q1):=z;subst ed;have rv:v=.ref a:=rv;subst rv;let(dx,fs,h1,h2,h3):=qM L1 hj ho;let(cs,hc,q2):=q1;exact#[a,dx,fs,U,h1,kF (by rw[h2];exact wg),uW (E:=E0) L1 hc (ds:=[.bJ a]) #[_,_,U,U,U] q2 λx jy rx M' H' v L3 E3 rv=>kk x _ rx M' H' v L3 (E1.trans L1.base E3) rv]]]
def Gs(rs:!AC)(kvs:!(Str×AT))(t:Str->mh)(ti:aU)(ta:eQ):aU:=λs Q=>ti s λdi s1=>∃ i,di=.str i/\(∃ f,valueAt kvs i=some (.ref f))/\ta s1 λds s2=>∃ cs,zt (s2.os.take rs.length)=some cs/\t i rs ds cs λx jy=>Q x (s2.back rs.length jy)
theorem me{rs:!AC}{d:AC}{kvs:!(Str×AT)}{ti:aU}{ts:Str->mh}{b:Ch}{p p':Pos}{y:Str}(hr:b4 m X.A)(hD:Ci X.prog X.w X.K d kvs)(hm:X.mg y=some (.ref d))(hT:∀ i f,valueAt kvs i=some (.ref f)->Jq X m f (b3 X.K (ts i)))(hi:DE X #[gO rs,M0,H0] b ti)(ha:DA X #[gO rs,M0,H0] (e::es) ta)(hs:mT b:=by exact λ_ _=>rfl)(hg:(Gl X y)⁻¹)(jf: ~~~((y == ("__debug__":Str))=false))(he:(acf X.env e es)⁻¹)(fe:(acg X.env pos es)⁻¹) :
  DE X #[gO rs,M0,H0] (.Call (.Subscript (.Name y p') b p) (e::es) [] pos) (Gs rs kvs ts ti ta) :=
 #[(Eu hr (Es (Xt hD) (HX (v:=.ref d) hg hm U jf) hi.pe hs) ha.pa he fe).imp λσ H Q zz=>cQ zz λM s as R L q kk=>#[M,s,as,_,L,q,λdi s1 z M1 H1 v L1 E1 rv=>by
   let(i,rfl,(f,hf),q1):=z;have rv:v=.str i:=rv;subst rv;exact#[i,f,U,U,hf,f,_,U,hT i f hf,M1,s1,as,_,L1,q1,λds s2 #[cs,hc,q2] M2 H2 vs L2 E2 r2 hl=>uW L2 hc r2 q2 λx jy rx M' H' v L3 E3 rv=>kk x _ rx M' H' v L3 ((E1.trans L1.base E2).trans L2.base E3) rv]]]
end
section
variable{X:Cx}{c:Ent}{ty:aU}{i:Nat}
theorem JX{a b:Ch}{pos:Pos}{td:aU}(hu:X.A.units+1 < cLine)(hi:DE X c a ty)(ho:DE X c b td)(h1:(behindInMarks .In b=false)⁻¹):DE X c (.Compare a [.In] [b] pos) (xR false ty td):=#[(Lp (Fu hu hi.pe ho.pe) h1).imp λσ H Q q=>D7 q]
end
section
variable{X:Cx}{c:Ent}
end
section
variable{X:Cx}{rs:!AC}{M0:AC->Prop}{H0:Hp}{x:Str}{p pos:Pos}
theorem sL{e:Ch}{te:aU}{k:Nat}(jN:rs.length<=k)(i:Nat)(hN:X.N.Nodup)(he:DN X #[gO rs,M0,H0] e te)(hi:(X.N[i]?=some x)⁻¹)(hx:Loc X.env.scope x:=by first | exact Or.inl U | exact Or.inr U)(hs:(swapsWith e (some (.Name x p)) pos.line X.env=pure false)⁻¹)(hf:aci X x:=by ac_nf):pE X #[gO rs,M0,H0] (.Assign [.Name x p] e pos) (D0 i k te):=sN k i hN he hi hx hs hf jN
end
section
variable{P:Fa}{w:FB}{K:Frag}{mg:Str->Option AT}{base:Db}
theorem ia.d{C:AC}{qual:Str}{q:D3}{N:!Str}{k nos:Nat}{t:ace}(o:ia K C qual q)(S:ax N q.2.2 (ai q.2.1))(len:∀ ds R,t ds R->ds.length=q.2.2.length)(hb:∀ (f:AC) (a8:AT) (A:Fr) (outer:!Env) (s:Cl) (H:Hp) (E:XK) (M:AC->Prop),b4 k (A.deeper (envOfC qual (ai q.2.1) ↑s f a8)) ->
   ∃ tb,pK (jr aP P w K mg base N qual (ai q.2.1) f a8 A outer s H E).wo #[.no,M,H] (aL q.2.1) tb/\∀ ds R,t ds R->tb { nx:=λ_=>R .bx,rt:=R } (eo N.length nos ds)):gi P w K mg base C q (k+1) (cR K .no t):=by
 let(f,fd,F,m,b):=o;exact#[f,fd,Qz F S len (hb f),m,b]
end
section
variable{X:Cx}{c:Ent}{pos:Pos}
theorem LL{body:!Ev}{h₀:ExceptHandler}{hs:!ExceptHandler}{t:iF}(hb:pK X.wo c body t):pE X c (.Try body (h₀::hs) [] [] pos) t:=by
 show#[λTW s σ H D I h=>?_];show wpAny_Try_except (KF (hb.ps TW s σ H D (I.rh _) h) (λf s1 h1=>?_) λe s1 hx=>False.elim hx);have h1:=h1.je;cases f with
 | next=>exact wpAny_execs_nil h1
 | brk=>exact h1
 | cont=>exact h1
 | ret u=>exact h1
end
section
variable{X:Cx}{rs:!AC}{M0:AC->Prop}{H0:Hp}{te tv ti:aU}
def Ta(rs:!AC)(k:Nat)(te:aU):aU:=λs Q=>te s λd s1=>∃ a xs,d=.bJ a/\rs[k]?=some a/\s1.os[k]?=some (some (.lst xs))/\Q (.int xs.length) s1
theorem LP(j:Nat){e:Ch}(h:PE X e (Ag (λxs H Q=>∃ p ys,xs=[.ref p]/\(dN X.K H p ys\/iu X.K H p ys)/\Q (.int ys.length) H) (qA (tE X.K #[gO rs,M0,H0] te) yY))):DE X #[gO rs,M0,H0] e (Ta rs j te):=#[h.imp λσ H Q zz=>cQ zz λM s as R L q kk=>#[M,s,as,_,L,q,λd s1 z M1 H1 v L1 E1 rv=>by
 let(a,xs,ed,hj,h2,q1):=z;subst ed;have rv:v=.ref a:=rv;subst rv;let((o,g3,g4),_):=L1.obj j _ a h2 (L1.lt j a hj);cases o with
 | lst us =>
  have g4:aE X.K H1 M1 xs us:=g4;show#[a,us,U,.inl (.of g3),?_];rw[g4.length];exact kk _ s1 q1 M1 H1 _ L1 E1 U
 | _=>exact g4.elim]]
def Uq(rs:!AC)(k:Nat)(te:aU):aU:=λs Q=>te s λd s1=>∃ a xs,d=.bJ a/\rs[k]?=some a/\s1.os[k]?=some (some (.lst xs))/\Q (.tup xs) s1
theorem MD(j:Nat){e:Ch}(h:PE X e (Ag (λxs H Q=>∃ p ys,xs=[.ref p]/\((dN X.K H p ys/\∀ l,H l=none->Q (.ref l) (upd H l (.tup ys)))\/(iu X.K H p ys/\Q (.ref p) H))) (qA (tE X.K #[gO rs,M0,H0] te) yY))):DE X #[gO rs,M0,H0] e (Uq rs j te):=#[h.imp λσ H Q zz=>cQ zz λM s as R L q kk=>#[M,s,as,_,L,q,λd s1 z M1 H1 v L1 E1 rv=>by
 let(a,xs,ed,hj,h2,q1):=z;subst ed;have rv:v=.ref a:=rv;subst rv;let((o,g3,g4),_):=L1.obj j _ a h2 (L1.lt j a hj);cases o with
 | lst us =>
  have g4:aE X.K H1 M1 xs us:=g4;exact#[a,us,U,.inl #[.of g3,λl hl=>kk _ s1 q1 _ _ _ (L1.fresh hl) (E1.trans L1.base (Ext.fresh hl)) #[l,us,U,#[.inr U,aD],kj hl g4]]]
 | _=>exact g4.elim]]
def HR(rs:!AC)(k:Nat)(tv te ti:aU):iF:=λR s=>tv s λd s0=>te s0 λdl s1=>∃ a,dl=.bJ a/\rs[k]?=some a/\ti s1 λdi s2=>∃ xs z j,s2.os[k]?=some (some (.lst xs))/\di=.int z/\yd xs.length z=some j/\R.nx (s2.put k (.lst (xs.set j d)))
theorem xt(m:Nat){st:Ev}(h:PS X st (j5 (tE X.K #[gO rs,M0,H0] tv) (MM (tE X.K #[gO rs,M0,H0] te) (tE X.K #[gO rs,M0,H0] ti) Fy))):pE X #[gO rs,M0,H0] st (HR rs m tv te ti):=#[h.imp λE σ H zz=>cQ zz λM s as R L q kk =>
 #[M,s,as,_,L,q,λd s0 q0 Ma Ha v La Ea rv=>#[Ma,s0,as,_,La,q0,λdl s1 z M1 H1 u L1 E1 ru=>by
  let(a,ed,hj,q1):=z;subst ed;have ru:u=.ref a:=ru;subst ru;show#[M1,s1,as,_,L1,q1,λdi s2 z2 M2 H2 w Lb E2 rw=>?_];let(xs,z,j,h2,e,hij,q2):=z2;subst e;have g1:=Lb.lt m a hj;let((o,f1,f2),nm,ng,h0):=Lb.obj m _ a h2 g1;cases o with
  | lst us =>
   have f2:aE X.K H2 M2 xs us:=f2;have rw:w=.int z:=rw;subst rw;have rv2:=(E1.trans L1.base E2).rep La rv;have hG:d9 M H M2 (upd H2 a (.lst (us.set j v))):=(Ea.grow L).trans ((E1.grow La).trans ((E2.grow L1).trans ((Ext.jw (c:=#[gO rs,M0,H0]) (M:=M2) (d:=.lst (xs.set j d)) h2 g1).grow Lb)));exact#[a,us,z,j,U,U,f1,by rw[f2.length];exact hij,kk.nx _ as M2 σ _ q2 (Lb.jw h2 g1 (show cy X.K H2 M2 (.lst (xs.set j d)) (.lst (us.set j v)) from aE.set rv2 j f2)) hG]
  | _=>exact f2.elim]]]
end
end DL
namespace DL
open PySem PySem.Spec L2
theorem Kv{X:Cx}{c:Ent}:Cg X c (λxs H Q=>∃ p kvs,xs=[.ref p]/\H p=some (.dK kvs)/\Q (.int kvs.length) H) (λas k=>∃ ks vs,as=[.i7 ks vs]/\k (.int ks.length)):=λM s as σ H xs ds k Q L r h kk=>by
 let(ks,vs,e,hk):=h;subst e;let(v,rfl,p,kvs,rfl,(m,h),h1,h2):=dZ r;show#[p,kvs,U,h,?_];rw[show kvs.length=ks.length by rw[<- h1,aaa]];exact kk _ hk M H _ L .refl U
end DL
namespace DL
open PySem L2
section
variable{X:Cx}{c:Ent}{a b e:Ch}{ta tb tc:aU}{pos:Pos}
def Wz(ta tb tc:aU):aU:=λs Q=>ta s λx s1=>∃ i,x=.int i/\tb s1 λy s2=>∃ j,y=.int j/\if i<=j then tc s2 λz s3=>∃ k,z=.int k/\Q (.bl (decide (j < k))) s3 else Q (.bl false) s2
theorem FI(ha:DE X c a ta)(hb:DE X c b tb)(hc:DE X c e tc)(hm:lastMarks [.LtE,.Lt] [b,e]=false:=by with_unfolding_all rfl):DE X c (.Compare a [.LtE,.Lt] [b,e] pos) (Wz ta tb tc):=#[(EN S3 Cs ha.pe hb.pe hc.pe hm).imp λσ H Q zz=>cQ zz λM s as R L q kk =>
 #[M,s,as,_,L,q,λda s1 #[i,e1,q1] M1 H1 x L1 E1 r1=>#[M1,s1,as,_,L1,q1,λdb s2 z8r M2 H2 y Lb E2 r2=>by
  let(j,e2,q2):=z8r;subst e1;subst e2;have r1:x=.int i:=r1;have r2:y=.int j:=r2;subst r1;subst r2;show#[i,j,U,U,_,U,?_];by_cases h:i<=j
  .rw[if_pos h] at q2;rw[if_pos (decide_eq_true h)];show#[M2,s2,as,_,Lb,q2,λdc s3 #[k,e3,q3] M3 H3 z Lc E3 r3=>?_];subst e3;have r3:z=.int k:=r3;subst r3;exact#[j,k,U,U,kk _ s3 q3 M3 H3 _ Lc ((E1.trans L1.base E2).trans Lb.base E3) U]
  .rw[if_neg h] at q2;rw[if_neg (by rw[decide_eq_true_eq];exact h)];exact kk _ s2 q2 M2 H2 _ Lb (E1.trans L1.base E2) U]]]
def SK(K:Frag):R2:=λx y H Q=>∃ M dx ds,Rep K H M dx x/\Rep K H M (.lst ds) y/\iP dx=true/\iP (.lst ds)=true/\d3 dx<=100/\Q (.bl (ds.any λd=>F7 d dx)) H
theorem MV(hu:X.A.units+150 < cLine):jt X (Ix .In) (SK X.K):=by
 intro TW s σ H x y v u Q I rx ry h;let(M,dx,ds,r1,r2,o1,o2,hd,q):=h;let(as,h1):=gv I dx x v o1 r1 rx;let(bs,h2):=gv I (.lst ds) y u o2 r2 ry;have e1:(toP dx).depth=d3 dx:=rfl;have l2:=lI (.lst ds) o2;show SeqAt.in_list_reads (xs:=toPs ds) h2 h1 l2 (lI dx o1) ?_ #[.bl _,H,I,U,?_]
 .rw[e1];have:=Nat.min_le_right (Fk.depthAll (toPs ds)) (d3 dx);cbv
 .have:∀ l:!D,(toPs l).any (λy=>Fk.eqv y (toP dx))=l.any λd=>F7 d dx:=λl=>by
   induction l with
   | nil=>rfl
   | cons d l ih=>change (Fk.eqv (toP d) (toP dx)||(toPs l).any _)=_;rw[ih];rfl
  rw[this];exact q
def XS:D->D->(D->Prop)->Prop:=λa b k=>∃ ds,b=.lst ds/\(iP a=true/\iP b=true/\d3 a<=100)/\k (.bl (ds.any λd=>F7 d a))
theorem Oa:su X c (SK X.K) XS:=λM s as σ H x y dx dy k Q L rx ry z9r kk=>by
 let(ds,e,(o1,o2,hd),hk):=z9r;subst e;exact#[M,dx,ds,rx,ry,o1,o2,hd,kk _ hk M H _ L .refl U]
end
end DL
namespace DF
open PySem PyProof.Rows
variable{prog:Fa}{w:FB}{A:Fr}{E:acb}{s:Cl}
theorem Hx{l:AC}{u0 u1 u2 u3 u4 u5:AT}{Q:!AT->Cl->Prop}(hh:A.handled=none)(hl:s.heap.IsList l #v[u0,u1,u2,u3,u4,u5])(hQ:∀ h',(∀ b o,s.heap.get? b=some o->h'.get? b=some o)->Q [u0,u1,u2,u3,u4,u5] { s with heap:=h' }):EQ (model prog w) A (unpackItems (.ref l) 6 none) Q E s:=by
 have pC:l≠↑s:=by let(o,ho,_):=id hl;exact aaD (aar ho)
 unfold unpackItems;show Da ?_;unfold notIterableAtAll;show Da (wpAny_specialOf hl.typeIs F.slot_list_iter.lookup (GE ?_));simp only[Bool.false_eq_true,if_false];show Da (KB (wpAny_pyIter_list hl ?_));show Da (KB ?_);change EQ _ _ (pyNext (.ref ↑s) >>= _) _ _ _;show Da (wpAny_pyNext_list_item (i:=0) #[_,aat _ U,U,U] (hl.push _) (x:=u0) U λh1 i1 s1=>?_);have l1:h1.IsList l #v[u0,u1,u2,u3,u4,u5]:=(hl.push _).extBut s1.extBut pC;show Da (KB ?_);change EQ _ _ (pyNext (.ref ↑s) >>= _) _ _ _;show Da (wpAny_pyNext_list_item (s:={ s with heap:=h1 }) (i:=1) i1 l1 (x:=u1) U λh2 i2 s2=>?_);have l2:h2.IsList l #v[u0,u1,u2,u3,u4,u5]:=l1.extBut s2.extBut pC;show Da (KB ?_);change EQ _ _ (pyNext (.ref ↑s) >>= _) _ _ _;show Da (wpAny_pyNext_list_item (s:={ s with heap:=h2 }) (i:=2) i2 l2 (x:=u2) U λh3 i3 s3=>?_);have l3:h3.IsList l #v[u0,u1,u2,u3,u4,u5]:=l2.extBut s3.extBut pC;show Da (KB ?_);change EQ _ _ (pyNext (.ref ↑s) >>= _) _ _ _;show Da (wpAny_pyNext_list_item (s:={ s with heap:=h3 }) (i:=3) i3 l3 (x:=u3) U λh4 i4 s4=>?_);have l4:h4.IsList l #v[u0,u1,u2,u3,u4,u5]:=l3.extBut s4.extBut pC;show Da (KB ?_);change EQ _ _ (pyNext (.ref ↑s) >>= _) _ _ _;show Da (wpAny_pyNext_list_item (s:={ s with heap:=h4 }) (i:=4) i4 l4 (x:=u4) U λh5 i5 s5=>?_);have l5:h5.IsList l #v[u0,u1,u2,u3,u4,u5]:=l4.extBut s5.extBut pC;show Da (KB ?_);change EQ _ _ (pyNext (.ref ↑s) >>= _) _ _ _;show Da (wpAny_pyNext_list_item (s:={ s with heap:=h5 }) (i:=5) i5 l5 (x:=u5) U λh6 i6 s6=>?_);have l6:h6.IsList l #v[u0,u1,u2,u3,u4,u5]:=l5.extBut s6.extBut pC;show Da (KB ?_);change EQ _ _ (pure []) _ _ _;show GE (GE (GE (GE (GE (GE (GE ?_))))));rw[if_neg (by simp)];show Da (KB (wpAny_pyNext_list_end (s:={ s with heap:=h6 }) (i:=6) hh i6 l6 U λh7 e7=>?_));simp only[Option.isSome_none,Bool.false_eq_true,if_false];show GE (hQ h7 λb o e=>?_);have hb:b≠↑s:=aaD (aar e);exact e7 b o hb (s6.extBut b o hb (s5.extBut b o hb (s4.extBut b o hb (s3.extBut b o hb (s2.extBut b o hb (s1.extBut b o hb (aae _ e)))))))
end DF
namespace L2
open PySem PySem.Spec PyProof.Rows
section
variable{X:Cx}{pos:Pos}
def UT(K:Frag)(t:Dy):TG:=λv σ H Q=>∃ a x0 x1 x2 x3 x4 x5,v=.ref a/\dN K H a [x0,x1,x2,x3,x4,x5]/\t [x0,x1,x2,x3,x4,x5] σ H Q
theorem HQ{es:!Ch}{k:Nat}{t:Dy}(hc:X.calm=true)(h:Hn X es t)(hn:((assignEach es X.env).length=6)⁻¹)(fC:((assignEach es X.env).findIdx? (·.1)=none)⁻¹):PG X (.Tuple es k pos) (UT X.K t):=by
 intro TW s σ H v u Q I r hw;let(a,x0,x1,x2,x3,x4,x5,rfl,hq,hw):=hw;cases r;let(its,rv0,ht,hz):=I.list hq;obtain⟨v0,l0,rfl,r0,rv1⟩:∃ yy ll,its=yy::ll/\RelV x0 yy/\Vals [x1,x2,x3,x4,x5] ll:=by cases rv0 with | cons a b=>exact#[_,_,U,a,b]
 obtain⟨v1,l1,rfl,r1,rv2⟩:∃ yy ll,l0=yy::ll/\RelV x1 yy/\Vals [x2,x3,x4,x5] ll:=by cases rv1 with | cons a b=>exact#[_,_,U,a,b]
 obtain⟨v2,l2,rfl,r2,rv3⟩:∃ yy ll,l1=yy::ll/\RelV x2 yy/\Vals [x3,x4,x5] ll:=by cases rv2 with | cons a b=>exact#[_,_,U,a,b]
 obtain⟨v3,l3,rfl,r3,rv4⟩:∃ yy ll,l2=yy::ll/\RelV x3 yy/\Vals [x4,x5] ll:=by cases rv3 with | cons a b=>exact#[_,_,U,a,b]
 obtain⟨v4,l4,rfl,r4,rv5⟩:∃ yy ll,l3=yy::ll/\RelV x4 yy/\Vals [x5] ll:=by cases rv4 with | cons a b=>exact#[_,_,U,a,b]
 obtain⟨v5,l5,rfl,r5,rv6⟩:∃ yy ll,l4=yy::ll/\RelV x5 yy/\Vals [] ll:=by cases rv5 with | cons a b=>exact#[_,_,U,a,b]
 obtain rfl:l5=[]:=by cases rv6;rfl
 rw[assign_Tuple];show Da (wpAny_standAt ?_);unfold unpack;rw[hn,fC];show Da (KB (DF.Hx (I.ok.hd hc) ht.isList λh' hx=>?_));have I1:Inv X TW σ H { s with heap:=h' }:=I.kept (t':=s.toks) hx;exact h TW _ σ H _ _ Q I1 rv0 hw
end
end L2
namespace DL
open PySem PySem.Spec L2
open PyProof.Rows hiding St
section
variable{X:Cx}{c:Ent}{n:Nat}{Bx:!Ch}{gs:vP}{pos:Pos}
def Mn(gs:vP):o7:=λd s Q=>∃ x0 x1 x2 x3 x4 x5,d=.lst [x0,x1,x2,x3,x4,x5]/\gs [x0,x1,x2,x3,x4,x5] s Q
theorem MZ{k:Nat}(hc:X.calm=true)(h:NV X c n Bx gs)(hn:((assignEach Bx X.env).length=6)⁻¹)(fC:((assignEach Bx X.env).findIdx? (·.1)=none)⁻¹):DG X c n (.Tuple Bx k pos) (Mn gs) :=
 #[(HQ hc h.pg hn fC).imp λv σ H Q z=>by
   let(M,s,as,d,R,L,r,(x0,x1,x2,x3,x4,x5,e,q),kk):=z;subst e;let(p,xs,rfl,(m,t),r):=r;let(v0,w0,rfl,r0,v1,w1,rfl,r1,v2,w2,rfl,r2,v3,w3,rfl,r3,v4,w4,rfl,r4,v5,w5,rfl,r5,r9):=id r;have r9:w5=[]:=r9;subst r9;exact#[p,v0,v1,v2,v3,v4,v5,U,.of t,M,s,as,[x0,x1,x2,x3,x4,x5],R,L,r,q,kk]]
end
def Ent.len(c:Ent)(rs:!AC):Ent:=#[{ c.g with kK:=rs },c.M0,c.H0]
section
variable{K:Frag}{c:Ent}{M:AC->Prop}{s:DS}{as:!AC}{σ:St}{H:Hp}{rs:!AC}
theorem aG.toL(L:aG K c M s as σ H)(h:∀ (k:Nat) (a:AC),rs[k]?=some a->as[k]?=some a):aG K (c.len rs) M s as σ H:=#[#[L.base.nZ,L.base.fr,L.base.md,L.base.mo,L.base.m0,L.base.mn],L.len,L.dA,L.dat,L.own,L.obj,L.inj,h]
theorem aG.ofL(L:aG K (c.len rs) M s as σ H)(h:c.g.kK=[]):aG K c M s as σ H:=#[#[L.base.nZ,L.base.fr,L.base.md,L.base.mo,L.base.m0,L.base.mn],L.len,L.dA,L.dat,L.own,L.obj,L.inj,λk a e=>by rw[h] at e;cases e]
theorem aG.away{k:Nat}{a:AC}{d:D}(L:aG K c M s as σ H)(hn:noRef k s.sl.length s.sl=true)(hk:s.os[k]?=some (some d))(ha:as[k]?=some a):aG K c (λb=>M b\/b=a) #[s.sl,s.os.set k none] as σ H/\Rep K H (λb=>M b\/b=a) d (.ref a):=by
 let((o,g3,g4),nm,ng,h0):=L.obj k d a hk ha;have L1:aG K c M #[s.sl,s.os.set k none] as σ H:=by
  show#[L.base,L.len,by rw[aaL];exact L.dA,L.dat,L.own,λl e b e1 e2=>?_,λl m e f b e1 e2 f1 f2=>?_,L.lt]
  .rcases bw e1 with ⟨rfl,_,q⟩ | ⟨ne,q⟩
   .cases q
   .exact L.obj l e b q e2
  .rcases bw e1 with ⟨rfl,_,q⟩ | ⟨ne,q⟩
   .cases q
   .rcases bw e2 with ⟨rfl,_,q'⟩ | ⟨ne',q'⟩
    .cases q'
    .exact L.inj l m e f b q q' f1 f2
 show#[L1.grown g3 ng (λ#[l,e,e1,e2]=>?_) h0,(g4.mono (λ_ m=>.inl m) λ_ _ _ e=>e).rep g3 (.inr U)];rcases bw e1 with ⟨rfl,_,q⟩ | ⟨ne,q⟩
 .cases q
 .exact ne (L.inj k l d e a hk q ha e2)
theorem aG.swap{i:Nat}{d d':D}(L:aG K c M s as σ H)(h:s.sl[i]?=some (.dat d))(r:∀ v,Rep K H M d v->Rep K H M d' v):aG K c M #[s.sl.set i (.dat d'),s.os] as σ H:=by
 let(v,h1,h2):=L.dat i d h;have:=L.Dq i (r v h2)
 rwa [show σ.set i (some v)=σ from abZ λj=>by
  by_cases e:i=j
  .subst e;rw[aaE (aaf.mp h1).1,h1]
  .rw[aas e]] at this
end
section
variable{X:Cx}{c:Ent}{i:Nat}{y:Str}{p p1 p2 p3 pos:Pos}{st:Ev}{qv:!Ev}{t:AC->AC->iF}{u:iF}
theorem MX(hl:c.g.kK=[])(hN:X.N.Nodup)(h1:∀ a b,pE X (c.len [a,b]) st (t a b))(h2:pK X c qv u)(hi:(X.N[i]?=some y)⁻¹)(hy:Loc X.env.scope y:=by exact Or.inl U)(hs:(swapsWith (.List [.List [] p1,.List [] p2] p3) (some (.Name y p)) pos.line X.env=pure false)⁻¹)(hf:X.fn y=true\/X.env.scope.names.lookup y=some .local:=by ac_nf) :
  pK X c (.Assign [.Name y p] (.List [.List [] p1,.List [] p2] p3) pos::st::qv) (λR s=>(ltB 1 s.os=true/\i < s.sl.length/\noRef 0 i s.sl=true/\noRef 1 i (s.sl.set i (.own 0))=true) /\
   ∀ a b,t a b { nx:=λs1=>∃ xs ys,s1.sl[i]?=some (.dat (.lst [.bJ a,.bJ b]))/\s1.os[0]?=some (some (.lst xs))/\s1.os[1]?=some (some (.lst ys))/\(noRef 0 s1.sl.length s1.sl=true/\noRef 1 s1.sl.length s1.sl=true)/\u R #[s1.sl.set i (.dat (.lst [.lst xs,.lst ys])),(s1.os.set 0 none).set 1 none],rt:=λ_=>False } #[s.sl.set i (.dat (.lst [.bJ a,.bJ b])),(s.os.set 0 (some (.lst []))).set 1 (some (.lst []))]):=by
 have h3:PS X st (λE σ H=>∃ a b,tS X.K (c.len [a,b]) (t a b) E σ H):=λTW s σ H E I #[a,b,q]=>(h1 a b).ps TW s σ H E I q;show#[(bT (gm hN hi hy (vt (dX (vt gB) (dX (vt gB) gB))) hs hf) (bT h3 h2.ps)).imp λE σ H zz=>cQ zz λM s as R L q kk=>#[by decide,λa ha=>#[by decide,λb hb=>#[show 2<=FS by decide,λz hz=>?_]]]];let((n1,n2,n3,n4),q):=q;have n1:1 < s.os.length:=zr n1;have re:∀ H M,cy X.K H M (.lst []) (.lst []):=λ_ _=>rfl;have La:=L.laid (o:=.lst []) ha;have Lb:=La.laid (o:=.lst []) hb;have hab:a≠b:=λe=>by rw[e,aD] at hb;cases hb
 have ga:upd (upd H a (.lst [])) b (.lst []) a=some (.lst []):=by rw[aA hab];exact aD
 have gb:upd (upd H a (.lst [])) b (.lst []) b=some (.lst []):=aD;have hza:a≠z:=λe=>by rw[<- e,ga] at hz;cases hz
 have hzb:b≠z:=λe=>by rw[<- e,gb] at hz;cases hz
 have Lz:=Lb.fresh (o:=.lst [.ref a,.ref b]) hz;let(ma,na,wa,oa):=notM L ha;let(mb,nb,wb,ob):=notM La hb;have L1:=Lz.Np (a:=a) (o:=.lst []) (d:=.lst []) i 0 (by cbv) n3 (by rw[aA hza];exact ga) (re _ _) (λm=>m.elim ma hza) na wa oa (by rw[hl];exact aax _);have L2:=L1.Np (a:=b) (o:=.lst []) (d:=.lst []) i 1 (by rw[aaL];exact n1) n4 (by rw[aA hzb];exact gb) (re _ _) (λm=>m.elim mb hzb) nb (λz0r=>by
  let(k,e,e1,e2):=z0r;rcases bw e1 with ⟨rfl,_,q⟩ | ⟨ne,q⟩
  .rcases bw e2 with ⟨_,_,q⟩ | ⟨ne,q⟩
   .exact hab q.symm
   .exact ne U
  .rcases bw e2 with ⟨rfl,_,q⟩ | ⟨ne,q2⟩
   .exact ne U
   .exact wb #[k,e,q,q2]) ob (by rw[hl];exact aax _)
 have L3:=L2.Dq (d:=.lst [.bJ a,.bJ b]) (v:=.ref z) i #[z,[.ref a,.ref b],U,#[.inr U,aD],#[_,_,U,U,_,_,U,U,U]];have a1:1 < as.length:=by rw[L.dA];exact n1
 have L4:=L3.toL (rs:=[a,b]) (λk x e=>by
  match k,e with
  | 0,e =>
   cases e;rw[aas (),aaE (by cbv)]
  | 1,e =>
   cases e;rw[aaE (by rw[aaL];exact a1)])
 simp only[DS.set,List.set_set] at L4;show#[a,b,_,_,_,_,L4,q a b,#[λs1 as1 M1 σ1 H1 r L5 G=>?_,λ_ _ _ _ _ z=>z.elim,λ_ _ _ _ _ z=>z.elim,λ_ _ _ _ z=>z.elim,λ_ _ _ _ _ z=>z.elim,λ_ _ _ _ _ _ _ z=>z.elim]];let(xs,ys,r1,r2,r3,(r4,r5),r):=r;have ea:=L5.lt 0 a U;have eb:=L5.lt 1 b U;let(L6,c6):=L5.away r4 r2 ea;let(L7,c7):=L6.away (k:=1) (d:=.lst ys) r5 (by change (s1.os.set 0 none)[1]?=_;rw[aas ()];exact r3) eb;have c6:=Rep.mono (M':=λx=>(M1 x\/x=a)\/x=b) (λ_ m=>.inl m) (λ_ _ _ e=>e) _ _ c6;have L8:=(L7.swap (d':=.lst [.lst xs,.lst ys]) r1 λv hv=>?_).ofL hl
 .refine#[_,_,_,R,L8,r,kk.grow (d9.trans (λx m=>#[.inl m,λo e=>?_]) (G.trans λx m=>#[.inl (.inl m),λo e=>e]))];have e1:upd H a (.lst []) x=some o:=by rw[aA (aI e ha)];exact e
  have e2:upd (upd H a (.lst [])) b (.lst []) x=some o:=by rw[aA (aI e1 hb)];exact e1
  rw[aA (aI e2 hz)];exact e2
 .let(p,us,rfl,hp,(u1,SF,rfl,hu1,u2,zS,rfl,hu2,hu3)):=hv;cases hu1;cases hu2;exact#[p,_,U,hp,#[_,_,U,c6,_,_,U,c7,hu3]]
end
section
variable{X:Cx}{c:Ent}{e o:Ch}{es:!Ch}{te:aU}{ta:eQ}{name:Str}{apos cH:Pos}{id:String}{r:V->!V->Hp->VK->Prop}{CC:D->!D->(D->D->Prop)->Prop}
def tmJ(rs:!AC)(C:D->!D->(D->D->Prop)->Prop)(te:aU)(ta:eQ):aU:=λs Q=>te s λx s0=>∃ k a d0,x=.bJ a/\rs[k]?=some a/\s0.os[k]?=some (some d0)/\Vp d0=true/\ta s0 λds s1=>∃ d1,s1.os[k]?=some (some d1)/\C d1 ds λdr d2=>Q dr (s1.put k d2)
theorem SE(rs:!AC)(hl:c.g.kK=rs)(slot:Slot "list" name id)(BQ:typeOf (.builtin id)=pure (.type "method_descriptor"))(hm:Nw X id r)(ok:FW X r CC)(ho:DE X c o te)(ha:DA X c (e::es) ta)(gA:(attributeBase o name X.env (eval o X.env)=eval o X.env)⁻¹)(qt:(((IR cH (Gc (e::es) X.env)).all (λx=>(not x.1))&&(P3 cH (Re [] X.env)).all (λx=>x.1.isSome)
   && decide ((e::es).length+([]:!Ps).length+(if ([]:!Ps).isEmpty then 0 else 1) < 30))=true)⁻¹)(gz:((apos.endLine == cH.line)=true)⁻¹)(hs:(acf X.env e es)⁻¹)(gw:((IR cH (Gc es X.env)).any (·.1)=false)⁻¹) :
  DE X c (.Call (.Attribute o name apos) (e::es) [] cH) (tmJ rs CC te ta):=#[(Bb abk slot BQ hm ho.pe ha.pa gA qt gz hs gw).imp λσ H Q zz=>cQ zz λM s as R L q kk=>#[M,s,as,_,L,q,λx s0 z M1 H1 v L1 E1 rv=>by
   let(j,a,d0,ed,hj,h2,h3,q):=z;rw[<- hl] at hj;subst ed;have rv:v=.ref a:=rv;subst rv;let((o,g3,g4),_):=L1.obj j d0 a h2 (L1.lt j a hj);let(xs,rfl):=uT h3 g4;show#[.inl #[U,xs,.of g3],M1,s0,as,_,L1,q,λds s1 #[d1,e1,q1] M2 H2 vs L2 E2 r2 hl=>?_];have g1:=L2.lt j a hj;let((o1,f1,f2),nm,ng,h0):=L2.obj j d1 a e1 g1;show ok M2 H2 a o1 d1 ds vs _ Q f1 f2 r2 nm q1 λdr d2 hk o' v ro rv=>?_;have E3:Ext c as M2 s1 H2 M2 (s1.put j d2) (upd H2 a o'):=Ext.jw e1 g1;exact kk dr _ hk M2 _ v (L2.jw e1 g1 ro) ((E1.trans L1.base E2).trans L2.base E3) (E3.rep L2 rv)]]
end
end DL
namespace DL
open PySem PySem.Spec L2
abbrev Sc:=!(Str×Str)
inductive hX where
 | term (t:Tm) (sc:Sc) | want (k:Str) | tell (k:Str) | alike | bind (x:Str) (t:Tm) (sc:Sc)
 | jM (f:Str) (ts:!Tm) (sc:Sc)
def FU(sc:Sc):D:=.i7 (sc.map λp=>Sum.inr p.1) (sc.map λp=>.str p.2)
def Ga:hX->D
 | .term t sc=>.tup [.str "term",toD t,FU sc]
 | .want k=>.tup [.str "want",.str k]
 | .tell k=>.tup [.str "tell",.str k]
 | .alike=>.tup [.str "alike"]
 | .bind x t sc=>.tup [.str "bind",.str x,toD t,FU sc]
 | .jM f ts sc=>.tup [.str "asker",.str f,.tup (toDs ts),FU sc]
def yB(W:aW)(sc:Sc):Prop:=(sc.map (·.1)).Nodup/\∀ p∈sc,p.1∈W.heads++W.vars
def go(W:aW)(g:Str):!hX->!Str->Prop
 | [],ds=>ds=[g]
 | .term t sc::r,ds=>yB W sc/\t.fl=true/\∃ k,lP W k/\Ty W sc k t/\go W g r (ds++[k])
 | .want k::r,ds=>∃ d0,ds=d0++[k]/\go W g r d0
 | .tell k::r,ds=>go W g r (ds++[k])
 | .alike::r,ds=>∃ d0 k,ds=d0++[k,k]/\go W g r (d0++[k])
 | .bind x t sc::r,ds=>yB W sc/\t.fl=true/\∃ d0 k k',ds=d0++[k]/\xY W sc [x]/\lP W k'/\Ty W (sc++[(x,k)]) k' t/\go W g r (d0++[k'])
 | .jM f ts sc::r,ds=>yB W sc/\yT ts=true/\∃ d0 kd a,ds=d0++[Kd.name kd]/\kd∈W.kinds/\a∈kd.bN/\d6.name a=f/\ek W sc (a.ps.map λp=>([],p.2)) ts/\go W g r (d0++[a.res])
theorem i8:∀ {ts:!Tm},yT ts=true->∀ t∈ts,t.fl=true
 | t::ts,h,u,hu=>by
  have h:(t.fl&&yT ts)=true:=h;rw[aaT] at h;rcases aaj.mp hu with rfl | hu
  .exact h.1
  .exact i8 h.2 u hu
theorem dG{f:Fm}{ts:!Tm}(h:(Tm.node f ts).fl=true):f.fl=true/\yT ts=true:=by
 have h:(f.fl&&yT ts)=true:=h;rw[aaT] at h;exact h
def hand(sc:Sc):!Str->!Tm->!hX
 | k::ks,t::ts=>.term t sc::.want k::hand sc ks ts
 | _,_=>[]
theorem uL{W:aW}{g:Str}{sc:Sc}(hs:yB W sc):∀ {ks:!Str} {ts:!Tm} {r:!hX} {ds:!Str},(∀ k∈ks,lP W k)->yT ts=true->ek W sc (ks.map λk=>([],k)) ts->go W g r ds->go W g (hand sc ks ts++r) ds
 | [],[],r,ds,_,_,h,q=>q
 | k::ks,[],r,ds,_,_,h,q=>by
  have h:(k::ks).map (λk=>(([]:Sc),k))=[]:=h;cases h
 | ks,t::ts,r,ds,hk,hf,h,q=>by
  let(e,p,e1,h1,h2):=h;cases ks with
  | nil=>cases e1
  | cons k ks =>
   injection e1 with e1 e2;subst e1 e2;have h1:Ty W (sc++[]) k t:=h1;rw[aal] at h1;have hf:(t.fl&&yT ts)=true:=hf;rw[aaT] at hf;exact#[hs,hf.1,k,hk k aad,h1,ds,U,uL hs (λx hx=>hk x (aac _ hx)) hf.2 h2 q]
theorem vz{W:aW}{sc:Sc}:∀ {sp:!(Sc×Str)} {ts:!Tm},ek W sc sp ts->∀ (j:Nat) (e:Sc×Str),sp[j]?=some e->∃ t,ts[j]?=some t/\Ty W (sc++e.1) e.2 t
 | sp,[],h,j,e,he=>by
  have h:sp=[]:=h;subst h;cases he
 | sp,t::ts,h,j,e,he=>by
  let(e0,r,rfl,h1,h2):=h;cases j with
  | zero=>cases he;exact#[t,U,h1]
  | succ j=>exact vz h2 j e he
theorem uD{W:aW}{sc:Sc}{e:Sc×Str}{sp:!(Sc×Str)}{ts:!Tm}(h:ek W sc (e::sp) ts):∃ t us,ts=t::us/\Ty W (sc++e.1) e.2 t/\ek W sc sp us:=by
 cases ts with
 | nil=>exact nomatch (show (_::_)=[] from h)
 | cons t us =>
  let(e,r',e1,h3,h4):=h;injection e1 with e1 e2;subst e1 e2;exact#[t,us,U,h3,h4]
theorem Lx{W:aW}{sc ex:Sc}{p q:Str}{ts:!Tm}(h:ek W sc [([],p),(ex,q)] ts):∃ a b,ts=[a,b]/\Ty W sc p a/\Ty W (sc++ex) q b:=by
 let(a,us,rfl,h1,h):=uD h;let(b,us,rfl,h2,h):=uD h;cases us with
 | nil=>exact#[a,b,U,aal sc▸h1,h2]
 | cons _ _=>let(_,_,z,_):=h;cases z
theorem Wl{W:aW}{sc:Sc}{p q r:Str}{ts:!Tm}(h:ek W sc [([],p),([],q),([],r)] ts):∃ a b c,ts=[a,b,c]/\Ty W sc p a/\Ty W sc q b/\Ty W sc r c:=by
 let(a,us,rfl,h1,h):=uD h;let(b,c,rfl,h2,h3):=Lx h;exact#[a,b,c,U,aal sc▸h1,h2,aal sc▸h3]
def ZY(W:aW)(g:Str)(sc:Sc)(ts:!Tm)(r:!hX)(ds:!Str):Fm->Prop
 | .nm x=>∃ k,(x,k)∈sc/\go W g r (ds++[k])
 | .num _=>go W g r (ds++[("number":Str)])
 | .op _=>∃ a b,ts=[a,b]/\go W g (.term a sc::.want "number"::.term b sc::.want "number"::.tell "number"::r) ds
 | .nq=>∃ a b c,ts=[a,b,c]/\go W g (.term a sc::.want "number"::.term b sc::.term c sc::.alike::r) ds
 | .lt x=>∃ a b,ts=[a,b]/\go W g (.term a sc::.bind x b sc::r) ds
 | .mk c=>∃ kd m,kd∈W.kinds/\m∈kd.bz/\m.name=c/\ts.length=m.fs.length/\go W g (hand sc (m.fs.map (·.2)) ts++.tell kd.name::r) ds
 | .ask f=>∃ a us,ts=a::us/\go W g (.term a sc::.jM f us sc::r) ds
 | _=>False
theorem iU{W:aW}(w:gf W){g:Str}{sc:Sc}{f:Fm}{ts:!Tm}{r:!hX}{ds:!Str}(h:go W g (.term (.node f ts) sc::r) ds):ZY W g sc ts r ds f:=by
 let(hn,AX,k,hk,(sp,h1,h2),q):=h;have hps:=(dG AX).2;have hpm:=i8 hps;have kd_ok:∀ kd∈W.kinds,kd.bz≠[]->lP W kd.name:=λkd h h'=>.inr #[kd,h,h',U];have n0:lP W "number":=.inl U;have m0:∀ {t:Tm} {l:!Tm},t∈t::l:=aad;have m1:∀ {t u:Tm} {l:!Tm},t∈l->t∈u::l:=aac _;cases h1 with
 | nm h=>exact#[k,h,q]
 | num _ _=>exact q
 | op _ =>
  let(a,b,rfl,e1,e2):=Lx h2;exact#[a,b,U,hn,hpm a m0,_,n0,e1,ds,U,hn,hpm b (m1 m0),_,n0,aal sc▸e2,ds,U,q]
 | nq =>
  let(a,b,c,rfl,e1,e2,e3):=Wl h2;exact#[a,b,c,U,hn,hpm a m0,_,n0,e1,ds,U,hn,hpm b (m1 m0),k,hk,e2,hn,hpm c (m1 (m1 m0)),k,hk,e3,ds,k,by rw[aaz];rfl,q]
 | lt hb F4 =>
  let(a,b,rfl,e1,e2):=Lx h2;exact#[a,b,U,hn,hpm a m0,_,F4,e1,hn,hpm b (m1 m0),ds,_,k,U,hb,hk,e2,q]
 | @mk kd m hkd hm =>
  have hfk:=(w.mo kd hkd m hm).2.2.2;show#[kd,m,hkd,hm,U,by rw[h2.len,aaa],uL hn (λx hx=>?_) hps (by rw[aan];exact h2) q];let(p,hp,rfl):=aak.mp hx;exact hfk p hp
 | @ask kd a hkd JR ha =>
  let(t,us,rfl,h3,h4):=uD h2;exact#[t,us,U,hn,hpm t m0,_,kd_ok kd hkd JR,aal sc▸h3,hn,vE λu hu=>hpm u (m1 hu),ds,kd,a,U,hkd,ha,U,h4,q]
 | FY _ _ _ _ _=>exact nomatch (dG AX).1
 | new _ _ _ _ _=>exact nomatch (dG AX).1
section
variable{W:aW}{g:Str}{sc:Sc}{r:!hX}{ds:!Str}
theorem Dw(w:gf W){f:Str}{ts:!Tm}(h:go W g (.jM f ts sc::r) ds):∃ d0 kd a,ds=d0++[Kd.name kd]/\kd∈W.kinds/\a∈kd.bN/\d6.name a=f/\ts.length=a.ps.length/\go W g (hand sc (a.ps.map (·.2)) ts++.tell a.res::r) d0:=by
 let(hn,hf,d0,kd,a,rfl,hkd,ha,rfl,ht,q):=h;show#[d0,kd,a,U,hkd,ha,U,by rw[ht.len,aaa],uL hn (λx hx=>?_) hf (by rw[aan];exact ht) q];let(p,hp,rfl):=aak.mp hx;exact (w.ao kd hkd a ha).2.1.2.2 p hp
theorem JU{α:Type}[DecidableEq α]:∀ {l m:!α},l.Nodup->(∀ x∈l,x∈m)->l.length<=m.length
 | [],m,_,_=>aax _
 | a::l,m,hn,h=>by
  have hm:=h a aad;have:=JU (l:=l) (m:=m.erase a) (aaS.mp hn).2 λx hx=>(List.mem_erase_of_ne λ(e:x=a)=>(aaS.mp hn).1 (e▸hx)).mpr (h x (aac _ hx));rw[List.length_erase_of_mem hm] at this;have:=List.length_pos_of_mem hm;rw[aam];cbv
theorem yB.len(w:gf W)(h:yB W sc):sc.length<=21:=by
 have:=JU (m:=W.heads++W.vars) h.1 λx hx=>by
  let(p,hp,rfl):=aak.mp hx;exact h.2 p hp
 rw[aaa,aab,w.hl,w.vl] at this;exact this
theorem yB.more{ns ks:!Str}(h:yB W sc)(hb:xY W sc ns)(hl:ns.length=ks.length):yB W (sc++ns.zip ks):=by
 have e1:(ns.zip ks).map (·.1)=ns:=abn (by cbv);show#[?_,λp hp=>?_]
 .rw[aai,e1,aaR];exact#[h.1,hb.1,λx hx y hy e=>hb.2.1 y hy (e▸hx)]
 .rcases aaw.mp hp with hp | hp
  .exact h.2 p hp
  .rcases hb.2.2 p.1 (by rw[<- e1];exact aav hp) with z | ⟨j,_,z⟩
   .exact aaH _ z
   .exact aaB _ (aaK z)
theorem Hu{x:Str}{t:Tm}(h:go W g (.bind x t sc::r) ds):∃ d0 k,ds=d0++[k]/\x∉sc.map (·.1)/\yB W sc/\go W g (.term t (sc++[(x,k)])::r) d0:=by
 let(hn,hf,d0,k,k',rfl,hx,hk,ht,q):=h;exact#[d0,k,U,hx.2.1 x aad,hn,hn.more (ks:=[k]) hx U,hf,k',hk,ht,q]
end
def Rn(c:Nat)(ts:!Tm):Nat:=(ts.map λt=>24 * t.size - 4+c).sum
def wt:hX->Nat
 | .term t _=>24 * t.size - 4
 | .want _=>1
 | .tell _=>1
 | .alike=>1
 | .bind _ t _=>24 * t.size - 4+1
 | .jM _ ts _=>Rn 1 ts+2
def wL(st:!hX):Nat:=(st.map wt).sum
theorem bV(a:hX)(r:!hX):wL (a::r)=wt a+wL r:=by simp[wL]
theorem CP(a b:!hX):wL (a++b)=wL a+wL b:=by simp[wL]
theorem zl{c:Nat}(hc:c<=4):∀ ts:!Tm,Rn c ts<=24 * bh ts
 | []=>aah _
 | t::r=>by
  have:=zl hc r;have:=size_pos t;change 24 * t.size - 4+c+Rn c r<=24 * (t.size+bh r);cbv
theorem uJ(sc:Sc):∀ (ks:!Str) (ts:!Tm),wL (hand sc ks ts)<=Rn 1 ts
 | [],ts=>aax _
 | k::ks,[]=>aax _
 | k::ks,t::ts=>by
  have:=uJ sc ks ts;change wL (.term t sc::.want k::hand sc ks ts)<=24 * t.size - 4+1+Rn 1 ts;rw[bV,bV];change 24 * t.size - 4+(1+_)<=_;cbv
theorem Ls(a:hX):1<=wt a:=by
 cases a with
 | term t _=>have:=size_pos t;change 1<=24 * t.size - 4;cbv
 | want _=>exact aah _
 | tell _=>exact aah _
 | alike=>exact aah _
 | bind _ t _=>exact abT _ _
 | jM _ ts _=>exact aap () (abT 2 _)
theorem yE:∀ st:!hX,st.length<=wL st
 | []=>aah _
 | a::r=>by
  have:=yE r;have:=Ls a;rw[bV];change r.length+1<=_;cbv
section
variable{α:Type}{f:α->Str}{h:α->D}
theorem Iv:∀ {l:!α},(l.map f).Nodup->∀ a∈l,bA (l.map λa=>(Sum.inr (f a):Key)) (l.map h) (Sum.inr (f a))=some (h a)
 | [],_,a,ha=>nomatch ha
 | b::l,hn,a,ha=>by
  rw[aao,aao,bA];rw[aao,aaS] at hn;rcases aaj.mp ha with rfl | ha
  .rw[if_pos U]
  .rw[if_neg λz=>hn.1 (by rw[show f b=f a from Sum.inr.inj z];exact aav ha)];exact Iv hn.2 a ha
theorem YM{x:Str}:∀ {l:!α},x∉l.map f->bA (l.map λa=>(Sum.inr (f a):Key)) (l.map h) (Sum.inr x)=none
 | [],_=>rfl
 | b::l,hn=>by
  rw[aao,aaj,not_or] at hn;rw[aao,aao,bA,if_neg λz=>hn.1 (Sum.inr.inj z).symm];exact YM hn.2
theorem Yv{x:Str}{l:!α}{d:D}(hn:x∉l.map f):dj (l.map λa=>(Sum.inr (f a):Key)) (Sum.inr x)=(l.map λa=>(Sum.inr (f a):Key))++[Sum.inr x]/\dB (l.map λa=>(Sum.inr (f a):Key)) (l.map h) (Sum.inr x) d=l.map h++[d]:=by
 have hb:rS (l.map λa=>(Sum.inr (f a):Key)) (Sum.inr x)=false:=by
  cases e:rS (l.map λa=>(Sum.inr (f a):Key)) (Sum.inr x) with
  | false=>rfl
  | true =>
   let(a,ha,ex):=aak.mp (uI.mp e);exact absurd (by rw[<- show f a=x from Sum.inr.inj ex];exact aav ha) hn
 unfold dj dB;rw[hb];exact#[U,U]
end
def vU:!Str:=["kinds","makers","askers"]
def pJ(ks:!Kd):!(Kd×eU):=ks.flatMap λk=>k.bz.map λm=>(k,m)
def pR(ks:!Kd):!(Kd×d6):=ks.flatMap λk=>k.bN.map λm=>(k,m)
def OI(x:Kd×eU):D:=.tup [.str x.1.name,cG x.2.fs]
def TL(x:Kd×d6):D:=.tup [.str x.1.name,cG x.2.ps,.str x.2.res]
def Vk(ps:!PK):D:=.i7 (ps.map λp=>.inr p.kd.name) (ps.map gj)
def Ep(l:!(Kd×eU)):D:=.i7 (l.map λx=>.inr x.2.name) (l.map OI)
def Dd(l:!(Kd×d6)):D:=.i7 (l.map λx=>.inr x.2.name) (l.map TL)
theorem ki(ks:!Kd):(pJ ks).map (λx=>x.2.name)=ks.flatMap λk=>k.bz.map eU.name:=by
 unfold pJ;rw[ab8]
 congr 1
 funext k
 rw[aan]
 rfl
theorem nN(ks:!Kd):(pR ks).map (λx=>x.2.name)=ks.flatMap λk=>k.bN.map d6.name:=by
 unfold pR;rw[ab8]
 congr 1
 funext k
 rw[aan]
 rfl
theorem zJ{ks:!Kd}{k:Kd}{m:eU}(h:k∈ks)(hm:m∈k.bz):(k,m)∈pJ ks:=aaU.mpr #[k,h,aav hm]
theorem CO{ks:!Kd}{k:Kd}{m:d6}(h:k∈ks)(hm:m∈k.bN):(k,m)∈pR ks:=aaU.mpr #[k,h,aav hm]
def qm:Fm->Str
 | .nm _=>"name" | .num _=>"num" | .op _=>"op" | .nq=>"zero" | .lt _=>"let" | .mk _=>"make" | .ask _=>"ask" | .FY _ _=>"case" | .new _ _=>"new"
def vZ:hX->Str
 | .term _ _=>"term" | .want _=>"want" | .tell _=>"tell" | .alike=>"alike" | .bind _ _ _=>"bind" | .jM _ _ _=>"asker"
theorem Aq{f:Fm}(h:qm f="name"):∃ x,f=.nm x:=by cases f<;>first | exact#[_,U] | (simp only[qm] at h;exact absurd h (-()))
theorem Ei{f:Fm}(h:qm f="num"):∃ x,f=.num x:=by cases f<;>first | exact#[_,U] | (simp only[qm] at h;exact absurd h (-()))
theorem Je{f:Fm}(h:qm f="op"):∃ x,f=.op x:=by cases f<;>first | exact#[_,U] | (simp only[qm] at h;exact absurd h (-()))
theorem EV{f:Fm}(h:qm f="zero"):f=.nq:=by cases f<;>first | exact rfl | (simp only[qm] at h;exact absurd h (-()))
theorem JE{f:Fm}(h:qm f="let"):∃ x,f=.lt x:=by cases f<;>first | exact#[_,U] | (simp only[qm] at h;exact absurd h (-()))
theorem Jy{f:Fm}(h:qm f="make"):∃ x,f=.mk x:=by cases f<;>first | exact#[_,U] | (simp only[qm] at h;exact absurd h (-()))
theorem Ex{f:Fm}(h:qm f="ask"):∃ x,f=.ask x:=by cases f<;>first | exact#[_,U] | (simp only[qm] at h;exact absurd h (-()))
theorem Gi{f:hX}(h:vZ f="term"):∃ x y,f=.term x y:=by cases f<;>first | exact#[_,_,U] | (simp only[vZ] at h;exact absurd h (-()))
theorem Hl{f:hX}(h:vZ f="want"):∃ x,f=.want x:=by cases f<;>first | exact#[_,U] | (simp only[vZ] at h;exact absurd h (-()))
theorem Gn{f:hX}(h:vZ f="tell"):∃ x,f=.tell x:=by cases f<;>first | exact#[_,U] | (simp only[vZ] at h;exact absurd h (-()))
theorem FD{f:hX}(h:vZ f="alike"):f=.alike:=by cases f<;>first | exact rfl | (simp only[vZ] at h;exact absurd h (-()))
theorem GH{f:hX}(h:vZ f="bind"):∃ x y z,f=.bind x y z:=by cases f<;>first | exact#[_,_,_,U] | (simp only[vZ] at h;exact absurd h (-()))
theorem DP{f:hX}(h:vZ f="asker"):∃ x y z,f=.jM x y z:=by cases f<;>first | exact#[_,_,_,U] | (simp only[vZ] at h;exact absurd h (-()))
def nx(W:aW)(g:Str)(tk:hX)(st:!hX)(dn:!Str)(jq:!hX)(Fp:!Str):Prop:=go W g jq Fp/\wL jq < wL (tk::st)/\Fp.length+wL jq<=dn.length+wL (tk::st)
theorem xH(sc:Sc):∀ (fs:!(Str×Str)) (ts:!Tm),hand sc (fs.map (·.2)) ts=(fs.zip ts).flatMap λx=>[.term x.2 sc,.want x.1.2]
 | [],ts=>rfl
 | p::fs,[]=>rfl
 | p::fs,t::ts=>by
  change hX.term t sc::.want p.2::hand sc (fs.map (·.2)) ts=_;rw[xH sc fs ts]
  rfl
theorem Dz{sc:Sc}{x k:Str}(h:x∉sc.map (·.1)):D.i7 (dj (sc.map λp=>(Sum.inr p.1:Key)) (Sum.inr x)) (dB (sc.map λp=>(Sum.inr p.1:Key)) (sc.map λp=>.str p.2) (Sum.inr x) (.str k))=FU (sc++[(x,k)]):=by
 let(h1,h2):=Yv (f:=λp:Str×Str=>p.1) (h:=λp=>.str p.2) (d:=.str k) h;rw[h1,h2];unfold FU;rw[aai,aai]
 rfl
theorem gK(f:Fm)(ts:!Tm)(sc:Sc):wt (.term (.node f ts) sc)=24 * bh ts+20:=by
 change 24 * (bh ts+1) - 4=_;cbv
section
variable{W:aW}{g:Str}{sc:Sc}{st:!hX}{dn:!Str}{ts:!Tm}
theorem UB(w:gf W){x:Str}(h:go W g (.term (.node (.nm x) ts) sc::st) dn):∃ k,(x,k)∈sc/\yB W sc/\nx W g (.term (.node (.nm x) ts) sc) st dn st (dn++[k]):=by
 let(k,h1,h2):=iU w h;show#[k,h1,h.1,h2,?_,?_]<;>rw[bV,gK]<;>(try simp only[List.length_append,List.length_cons,List.length_nil])<;>cbv
theorem ME(w:gf W){x:Int}(h:go W g (.term (.node (.num x) ts) sc::st) dn):nx W g (.term (.node (.num x) ts) sc) st dn st (dn++[("number":Str)]):=by
 show#[iU w h,?_,?_]<;>rw[bV,gK]<;>(try simp only[List.length_append,List.length_cons,List.length_nil])<;>cbv
theorem P9(w:gf W){x:Str}(h:go W g (.term (.node (.op x) ts) sc::st) dn):∃ a b,ts=[a,b]/\nx W g (.term (.node (.op x) ts) sc) st dn ([.term a sc,.want "number",.term b sc,.want "number",.tell "number"]++st) dn:=by
 let(a,b,rfl,h'):=iU w h;have e4:=size_pos a;have e5:=size_pos b;show#[a,b,U,h',?_,?_]<;>simp only[bV,gK,List.cons_append,List.nil_append]<;>simp only[wt,bh]<;>cbv
theorem Lo(w:gf W)(h:go W g (.term (.node .nq ts) sc::st) dn):∃ a b c,ts=[a,b,c]/\nx W g (.term (.node .nq ts) sc) st dn ([.term a sc,.want "number",.term b sc,.term c sc,.alike]++st) dn:=by
 let(a,b,c,rfl,h'):=iU w h;have e4:=size_pos a;have e5:=size_pos b;have e6:=size_pos c;show#[a,b,c,U,h',?_,?_]<;>simp only[bV,gK,List.cons_append,List.nil_append]<;>simp only[wt,bh]<;>cbv
theorem OS(w:gf W){x:Str}(h:go W g (.term (.node (.lt x) ts) sc::st) dn):∃ a b,ts=[a,b]/\nx W g (.term (.node (.lt x) ts) sc) st dn ([.term a sc,.bind x b sc]++st) dn:=by
 let(a,b,rfl,h'):=iU w h;have e4:=size_pos a;have e5:=size_pos b;show#[a,b,U,h',?_,?_]<;>simp only[bV,gK,List.cons_append,List.nil_append]<;>simp only[wt,bh]<;>cbv
theorem TR(w:gf W){c:Str}(h:go W g (.term (.node (.mk c) ts) sc::st) dn):∃ kd m,kd∈W.kinds/\m∈kd.bz/\m.name=c/\ts.length=m.fs.length/\nx W g (.term (.node (.mk c) ts) sc) st dn (hand sc (m.fs.map (·.2)) ts++.tell kd.name::st) dn:=by
 let(kd,m,h1,h2,h3,h4,h'):=iU w h;have e1:=uJ sc (m.fs.map (·.2)) ts;have e2:=zl (c:=1) () ts;show#[kd,m,h1,h2,h3,h4,h',?_,?_]<;>rw[CP,bV,bV,gK]<;>simp only[wt]<;>cbv
theorem MN(w:gf W){f:Str}(h:go W g (.term (.node (.ask f) ts) sc::st) dn):∃ a us,ts=a::us/\nx W g (.term (.node (.ask f) ts) sc) st dn ([.term a sc,.jM f us sc]++st) dn:=by
 let(a,us,rfl,h'):=iU w h;have e2:=zl (c:=1) () us;have e4:=size_pos a;show#[a,us,U,h',?_,?_]<;>simp only[bV,gK,List.cons_append,List.nil_append]<;>simp only[wt,bh]<;>cbv
theorem Hk{k:Str}(h:go W g (.want k::st) dn):∃ d0,dn=d0++[k]/\nx W g (.want k) st dn st d0:=by
 let(d0,rfl,h):=h;show#[d0,U,h,?_,?_]<;>rw[bV]<;>simp only[wt,List.length_append,List.length_cons,List.length_nil]<;>cbv
theorem GN{k:Str}(h:go W g (.tell k::st) dn):nx W g (.tell k) st dn st (dn++[k]):=by
 show#[h,?_,?_]<;>rw[bV]<;>simp only[wt,List.length_append,List.length_cons,List.length_nil]<;>cbv
theorem Cn(h:go W g (.alike::st) dn):∃ d0 k,dn=d0++[k]++[k]/\nx W g .alike st dn st (d0++[k]):=by
 let(d0,k,rfl,h):=h;show#[d0,k,by rw[List.append_assoc];rfl,h,?_,?_]<;>rw[bV]<;>simp only[wt,List.length_append,List.length_cons,List.length_nil]<;>cbv
theorem GD{x:Str}{t:Tm}(h:go W g (.bind x t sc::st) dn):∃ d0 k,dn=d0++[k]/\x∉sc.map (·.1)/\yB W sc/\nx W g (.bind x t sc) st dn ([.term t (sc++[(x,k)])]++st) d0:=by
 let(d0,k,rfl,h1,h2,h'):=Hu h;show#[d0,k,U,h1,h2,h',?_,?_]<;>simp only[bV,List.cons_append,List.nil_append]<;>simp only[wt,List.length_append,List.length_cons,List.length_nil]<;>cbv
theorem C6(w:gf W){f:Str}(h:go W g (.jM f ts sc::st) dn):∃ d0 kd a,dn=d0++[Kd.name kd]/\kd∈W.kinds/\a∈kd.bN/\d6.name a=f/\ts.length=a.ps.length/\nx W g (.jM f ts sc) st dn (hand sc (a.ps.map (·.2)) ts++.tell a.res::st) d0:=by
 let(d0,kd,a,rfl,h1,h2,h3,h4,h'):=Dw w h;have e1:=uJ sc (a.ps.map (·.2)) ts;show#[d0,kd,a,U,h1,h2,h3,h4,h',?_,?_]<;>rw[CP,bV,bV]<;>simp only[wt,List.length_append,List.length_cons,List.length_nil]<;>cbv
end
inductive Wy where
 | uR (n:Nat) | door (n:Nat)
inductive Ln where
 | nm (i:Nat) | num (i:Int) | op (s:Str) | zero (n:Nat) | go (n:Nat) | keep | drop | mk (b:Bool) (c:Str) (n:Nat) | way (w:Wy) (n:Nat) | back | fin | bx
def BD:Wy->!D
 | .uR n=>[.str "jump",.int n]
 | .door n=>[.str "door",.int n]
def Cf:Ln->D
 | .nm i=>.tup [.str "name",.int i]
 | .num i=>.tup [.str "num",.int i]
 | .op s=>.tup [.str "op",.str s]
 | .zero n=>.tup [.str "zero",.int n]
 | .go n=>.tup [.str "go",.int n]
 | .keep=>.tup [.str "keep"]
 | .drop=>.tup [.str "drop"]
 | .mk b c n=>.tup [.str "make",.str (bc b),.str c,.int n]
 | .way w n=>.tup (BD w++[.int n])
 | .back=>.tup [.str "back"]
 | .fin=>.tup [.str "end"]
 | .bx=>.bx
structure kA where
 side:Str->Bool
 way:Str->Wy
def sE(x:Str):!Str->Nat
 | []=>0
 | y::r=>if y=x then 0 else sE x r+1
def jm(c:kA)(sc:!Str):Fm->!Tm->Ln
 | .nm x,_=>.nm (sE x sc)
 | .num i,_=>.num i
 | .op s,_=>.op s
 | .mk m,ts=>.mk (c.side m) m ts.length
 | .ask f,ts=>.way (c.way f) (ts.length - 1)
 | _,_=>.bx
mutual
noncomputable def cd(c:kA)(sc:!Str)(o:Nat):Tm->!Ln
 | .node .nq ts=>Vd c sc o ts
 | .node (.lt x) ts=>Vq c x sc o ts
 | .node f ts=>xP c sc o ts++[jm c sc f ts]
noncomputable def xP(c:kA)(sc:!Str)(o:Nat):!Tm->!Ln
 | []=>[]
 | t::ts=>cd c sc o t++xP c sc (o+(cd c sc o t).length) ts
noncomputable def Vd(c:kA)(sc:!Str)(o:Nat):!Tm->!Ln
 | []=>[]
 | t::ts=>cd c sc o t++NN c sc (o+(cd c sc o t).length) ts
noncomputable def NN(c:kA)(sc:!Str)(o:Nat):!Tm->!Ln
 | []=>[]
 | t::ts=>.zero (o+1+(cd c sc (o+1) t).length+1)::cd c sc (o+1) t++NG c sc (o+1+(cd c sc (o+1) t).length) ts
noncomputable def NG(c:kA)(sc:!Str)(o:Nat):!Tm->!Ln
 | []=>[]
 | t::_=>.go (o+1+(cd c sc (o+1) t).length)::cd c sc (o+1) t
noncomputable def Vq(c:kA)(x:Str)(sc:!Str)(o:Nat):!Tm->!Ln
 | []=>[]
 | t::ts=>cd c sc o t++.keep::VU c (sc++[x]) (o+(cd c sc o t).length+1) ts
noncomputable def VU(c:kA)(sc:!Str)(o:Nat):!Tm->!Ln
 | []=>[]
 | t::_=>cd c sc o t++[.drop]
end
inductive gE where
 | term (t:Tm) (sc:!Str) | row (l:Ln) | split (b e:Tm) (sc:!Str) | other (n:Nat) (e:Tm) (sc:!Str) | join (n:Nat)
def xm(sc:!Str):D:=.i7 (sc.zipIdx.map λp=>.inr p.1) (sc.zipIdx.map λp=>.int (p.2:Nat))
def FK:gE->D
 | .term t sc=>.tup [.str "term",toD t,xm sc]
 | .row l=>.tup [.str "row",Cf l]
 | .split b e sc=>.tup [.str "split",toD b,toD e,xm sc]
 | .other n e sc=>.tup [.str "other",.int n,toD e,xm sc]
 | .join n=>.tup [.str "join",.int n]
def fin(c:kA):!gE->!Ln->!Ln
 | [],co=>co
 | .term t sc::r,co=>fin c r (co++cd c sc co.length t)
 | .row l::r,co=>fin c r (co++[l])
 | .split b e sc::r,co=>fin c r (co++NN c sc co.length [b,e])
 | .other n e sc::r,co=>fin c r (co.set n (.zero (co.length+1))++NG c sc co.length [e])
 | .join n::r,co=>fin c r (co.set n (.go co.length))
section
variable{c:kA}{sc:!Str}{r:!gE}{co:!Ln}
theorem tW:∀ (ts:!Tm) (co:!Ln),fin c (ts.map (λt=>.term t sc)++r) co=fin c r (co++xP c sc co.length ts)
 | [],co=>by rw[xP,aal];rfl
 | t::ts,co=>by
  change fin c (ts.map (λt=>.term t sc)++r) (co++cd c sc co.length t)=_;rw[tW ts,aab,aaz]
  rfl
theorem Hq{a b e:Tm}:fin c (.term (.node .nq [a,b,e]) sc::r) co=fin c (.term a sc::.split b e sc::r) co:=by
 change fin c r (co++(cd c sc co.length a++NN c sc (co.length+(cd c sc co.length a).length) [b,e]))=fin c r ((co++cd c sc co.length a)++NN c sc (co++cd c sc co.length a).length [b,e]);rw[aab,aaz]
theorem Li{x:Str}{a b:Tm}:fin c (.term (.node (.lt x) [a,b]) sc::r) co=fin c (.term a sc::.row .keep::.term b (sc++[x])::.row .drop::r) co:=by
 change fin c r (co++(cd c sc co.length a++.keep::(cd c (sc++[x]) (co.length+(cd c sc co.length a).length+1) b++[.drop])))=fin c r ((((co++cd c sc co.length a)++[.keep])++cd c (sc++[x]) ((co++cd c sc co.length a)++[Ln.keep]).length b)++[.drop]);rw[aab,aab];simp only[List.append_assoc,List.cons_append,List.nil_append,List.length_cons,List.length_nil]
theorem Eo{α:Type}{l m:!α}{x y:α}:(l++x::m).set l.length y=l++y::m:=by
 rw[List.set_append_right _ _ (aah _),Nat.sub_self]
 rfl
theorem BU{b e:Tm}:fin c (.split b e sc::r) co=fin c (.term b sc::.other co.length e sc::r) (co++[.bx]):=by
 change fin c r (co++(.zero (co.length+1+(cd c sc (co.length+1) b).length+1)::cd c sc (co.length+1) b++NG c sc (co.length+1+(cd c sc (co.length+1) b).length) [e]))=fin c r ((co++[Ln.bx]++cd c sc (co++[Ln.bx]).length b).set co.length (.zero ((co++[Ln.bx]++cd c sc (co++[Ln.bx]).length b).length+1))++NG c sc (co++[Ln.bx]++cd c sc (co++[Ln.bx]).length b).length [e]);rw[aab,aab,abb,aaz co [Ln.bx],List.singleton_append,Eo];simp only[List.append_assoc,List.cons_append,List.length_append,List.length_cons,List.length_nil]
theorem Ca{n:Nat}{e:Tm}(hn:n < co.length):fin c (.other n e sc::r) co=fin c (.term e sc::.join co.length::r) ((co++[Ln.bx]).set n (.zero (co.length+1))):=by
 have e1:(co++[Ln.bx]).set n (.zero (co.length+1))=co.set n (.zero (co.length+1))++[Ln.bx]:=List.set_append_left _ _ hn;have e2:(co.set n (.zero (co.length+1))++[Ln.bx]).length=co.length+1:=by rw[aab,aaL];rfl
 have e3:(co.set n (Ln.zero (co.length+1))).length=co.length:=aaL;rw[e1];change fin c r (co.set n (.zero (co.length+1))++(.go (co.length+1+(cd c sc (co.length+1) e).length)::cd c sc (co.length+1) e))=fin c r ((co.set n (.zero (co.length+1))++[Ln.bx]++cd c sc (co.set n (.zero (co.length+1))++[Ln.bx]).length e).set co.length (.go (co.set n (.zero (co.length+1))++[Ln.bx]++cd c sc (co.set n (.zero (co.length+1))++[Ln.bx]).length e).length));rw[e2,aab,e2,aaz,List.singleton_append];generalize co.set n (Ln.zero (co.length+1))=z at e3;rw[<- e3,Eo]
theorem ko:∀ (st:!gE) (co:!Ln),co.length<=(fin c st co).length
 | [],co=>aah _
 | .term t sc::r,co=>aap (by rw[aab];cbv) (ko r _)
 | .row l::r,co=>aap (by rw[aab];cbv) (ko r _)
 | .split b e sc::r,co=>aap (by rw[aab];cbv) (ko r _)
 | .other n e sc::r,co=>aap (by rw[aab,aaL];cbv) (ko r _)
 | .join n::r,co=>aap (by rw[aaL];cbv) (ko r _)
end
def jx(W:aW)(sc:!Str)(t:Tm):Prop:=∃ (s:Sc) (k:Str),s.map (·.1)=sc/\yB W s/\Ty W s k t/\t.fl=true
theorem mz{W:aW}{s:Sc}:∀ {sp:!(Sc×Str)} {ts:!Tm},ek W s sp ts->(∀ e∈sp,e.1=[])->∀ t∈ts,∃ k,Ty W s k t
 | sp,t::ts,h,he,u,hu=>by
  let(e,r,rfl,h1,h2):=h;rcases aaj.mp hu with rfl | hu
  .rw[he e aad,aal] at h1;exact#[_,h1]
  .exact mz h2 (λx hx=>he x (aac _ hx)) u hu
section
variable{W:aW}{sc:!Str}{ts:!Tm}
theorem Cq{x:Str}(h:jx W sc (.node (.nm x) ts)):x∈sc/\sc.Nodup/\ts=[]:=by
 let(s,k,e,hn,(sp,h1,h2),hf):=h;cases h1 with
 | nm hx =>
  show#[by rw[<- e];exact aav hx,by rw[<- e];exact hn.1,?_];have:=h2.len;exact aaO this
theorem AD{i:Int}(h:jx W sc (.node (.num i) ts)):ts=[]/\0<=i/\i < 1000000:=by
 let(s,k,e,hn,(sp,h1,h2),hf):=h;cases h1 with
 | num a b=>exact#[aaO h2.len,a,b]
theorem Ez{o:Str}(h:jx W sc (.node (.op o) ts)):o∈(["+","-","*"]:!Str)/\∃ a b,ts=[a,b]/\jx W sc a/\jx W sc b:=by
 let(s,k,e,hn,(sp,h1,h2),hf):=h;have hpm:=i8 (dG hf).2;cases h1 with
 | op ho =>
  have hl:=h2.len;obtain⟨a,b,rfl⟩:∃ a b,ts=[a,b]:=by
   match ts,hl with
   | [a,b],_=>exact#[a,b,U]
  have iZ:=mz h2 (by simp);let(k1,t1):=iZ a (by simp);let(k2,t2):=iZ b (by simp);exact#[ho,a,b,U,#[s,k1,e,hn,t1,hpm a (by simp)],#[s,k2,e,hn,t2,hpm b (by simp)]]
theorem uQ(h:jx W sc (.node .nq ts)):∃ a b c,ts=[a,b,c]/\jx W sc a/\jx W sc b/\jx W sc c:=by
 let(s,k,e,hn,(sp,h1,h2),hf):=h;have hpm:=i8 (dG hf).2;cases h1 with
 | nq =>
  have hl:=h2.len;obtain⟨a,b,c,rfl⟩:∃ a b c,ts=[a,b,c]:=by
   match ts,hl with
   | [a,b,c],_=>exact#[a,b,c,U]
  have iZ:=mz h2 (by simp);let(k1,t1):=iZ a (by simp);let(k2,t2):=iZ b (by simp);let(k3,t3):=iZ c (by simp);exact#[a,b,c,U,#[s,k1,e,hn,t1,hpm a (by simp)],#[s,k2,e,hn,t2,hpm b (by simp)],#[s,k3,e,hn,t3,hpm c (by simp)]]
theorem yO{x:Str}(h:jx W sc (.node (.lt x) ts)):x∉sc/\∃ a b,ts=[a,b]/\jx W sc a/\jx W (sc++[x]) b:=by
 let(s,k,e,hn,(sp,h1,h2),hf):=h;have hpm:=i8 (dG hf).2;cases h1 with
 | @lt _ _ k' hb F4 =>
  have hl:=h2.len;obtain⟨a,b,rfl⟩:∃ a b,ts=[a,b]:=by
   match ts,hl with
   | [a,b],_=>exact#[a,b,U]
  let(t1,h3):=vz h2 0 _ U;let(t2,h4):=vz h2 1 _ U;cases h3.1;cases h4.1;have e1:=h3.2;rw[aal] at e1;show#[by rw[<- e];exact hb.2.1 x List.mem_cons_self,a,b,U,#[s,_,e,hn,e1,hpm a (by simp)],#[_,_,?_,hn.more (ks:=[k']) hb U,h4.2,hpm b (by simp)]];rw[aai,e]
  rfl
theorem C0{c:Str}(h:jx W sc (.node (.mk c) ts)):∃ kd m,kd∈W.kinds/\m∈Kd.bz kd/\eU.name m=c/\ts.length=m.fs.length/\∀ t∈ts,jx W sc t:=by
 let(s,k,e,hn,(sp,h1,h2),hf):=h;have hpm:=i8 (dG hf).2;cases h1 with
 | @mk kd m h3 h4 =>
  show#[kd,m,h3,h4,U,by rw[h2.len,aaa],λt ht=>?_];let(k1,t1):=mz h2 (λe he=>by let(p,_,rfl):=aak.mp he;rfl) t ht;exact#[s,k1,e,hn,t1,hpm t ht]
theorem Bf{f:Str}(h:jx W sc (.node (.ask f) ts)):∃ a us kd ak,ts=a::us/\kd∈W.kinds/\ak∈Kd.bN kd/\d6.name ak=f/\us.length=ak.ps.length/\∀ t∈ts,jx W sc t:=by
 let(s,k,e,hn,(sp,h1,h2),hf):=h;have hpm:=i8 (dG hf).2;cases h1 with
 | @ask kd ak h3 h4 h5 =>
  have hl:=h2.len;cases ts with
  | nil=>cases hl
  | cons a us =>
   show#[a,us,kd,ak,U,h3,h5,U,by simpa using hl,λt ht=>?_];let(k1,t1):=mz h2 (λe he=>by
    rcases aaj.mp he with rfl | he
    .rfl
    .let(p,_,rfl):=aak.mp he
     rfl) t ht
   exact#[s,k1,e,hn,t1,hpm t ht]
theorem Ej{t:Tm}(h:jx W sc t):t.fl=true:=by
 let(s,k,e,hn,h,hf):=h;exact hf
theorem vx(w:gf W){t:Tm}(h:jx W sc t):sc.length<=21:=by
 let(s,k,e,hn,h,hf):=h;rw[<- e,aaa];exact hn.len w
end
def uM(W:aW)(n:Nat):gE->Prop
 | .term t sc=>jx W sc t
 | .row _=>True
 | .split b e sc=>jx W sc b/\jx W sc e
 | .other m e sc=>m < n/\jx W sc e
 | .join m=>m < n
theorem uM.mono{W:aW}{n m:Nat}(h:n<=m):∀ {t:gE},uM W n t->uM W m t
 | .term t sc,q=>q
 | .row _,q=>q
 | .split b e sc,q=>q
 | .other k e sc,q=>#[aay q.1 h,q.2]
 | .join k,q=>aay q h
def wc:gE->Nat
 | .term t _=>10 * t.size
 | .row _=>1
 | .split b e _=>10 * b.size+10 * e.size+6
 | .other _ e _=>10 * e.size+4
 | .join _=>1
def wC(st:!gE):Nat:=(st.map wc).sum
theorem bH(a:gE)(r:!gE):wC (a::r)=wc a+wC r:=by simp[wC]
theorem MT(a b:!gE):wC (a++b)=wC a+wC b:=by simp[wC]
theorem MJ(a:gE):1<=wc a:=by
 cases a with
 | term t _=>have:=size_pos t;change 1<=10 * t.size;cbv
 | row _=>exact aah _
 | split b e _=>exact aap () (abT 6 _)
 | other _ e _=>exact aap () (abT 4 _)
 | join _=>exact aah _
theorem rG:∀ st:!gE,st.length<=wC st
 | []=>aah _
 | a::r=>by
  have:=rG r;have:=MJ a;rw[bH];change r.length+1<=_;cbv
theorem xT(sc:!Str):∀ ts:!Tm,wC (ts.map λt=>.term t sc)=10 * bh ts
 | []=>rfl
 | t::ts=>by
  rw[aao,bH,xT sc ts];change 10 * t.size+_=10 * (t.size+bh ts);cbv
def nc(W:aW)(c:kA)(F:!Ln)(tk:gE)(st jq:!gE)(E4:!Ln):Prop:=fin c jq E4=F/\(∀ t∈jq,uM W E4.length t)/\wC jq < wC (tk::st)
section
variable{W:aW}{c:kA}{F:!Ln}{st:!gE}{co:!Ln}{sc:!Str}{ts:!Tm}
theorem ur{f:Fm}(hf:fin c (.term (.node f ts) sc::st) co=F)(ho:∀ t∈gE.term (.node f ts) sc::st,uM W co.length t)(hp:∀ t∈ts,jx W sc t)(h:cd c sc co.length (.node f ts)=xP c sc co.length ts++[jm c sc f ts]):nc W c F (.term (.node f ts) sc) st (ts.map (λt=>.term t sc)++.row (jm c sc f ts)::st) co:=by
 show#[?_,λt ht=>?_,?_]
 .rw[tW];change fin c st (co++xP c sc co.length ts++[jm c sc f ts])=F;rw[<- hf];change _=fin c st (co++cd c sc co.length (.node f ts));rw[h,aaz]
 .rcases aaw.mp ht with ht | ht
  .let(u,hu,rfl):=aak.mp ht;exact hp u hu
  .rcases aaj.mp ht with rfl | ht
   .exact True.intro
   .exact ho t (aac _ ht)
 .rw[MT,xT,bH,bH];change 10 * bh ts+(1+wC st) < 10 * (bh ts+1)+wC st;cbv
theorem AN{f:Fm}(hf:fin c (.term (.node f []) sc::st) co=F)(ho:∀ t∈gE.term (.node f []) sc::st,uM W co.length t)(h:cd c sc co.length (.node f [])=[jm c sc f []]):nc W c F (.term (.node f []) sc) st st (co++[jm c sc f []]):=by
 show#[?_,λt ht=>uM.mono (by rw[aab];cbv) (ho t (aac _ ht)),?_]
 .rw[<- hf];change _=fin c st (co++cd c sc co.length (.node f []));rw[h]
 .rw[bH];change wC st < 10 * (0+1)+wC st;cbv
theorem K9{a b e:Tm}(hf:fin c (.term (.node .nq [a,b,e]) sc::st) co=F)(ho:∀ t∈gE.term (.node .nq [a,b,e]) sc::st,uM W co.length t)(ha:jx W sc a)(hb:jx W sc b)(he:jx W sc e):nc W c F (.term (.node .nq [a,b,e]) sc) st (.term a sc::.split b e sc::st) co:=by
 show#[by rw[<- Hq];exact hf,λt ht=>?_,?_]
 .rcases aaj.mp ht with rfl | ht
  .exact ha
  .rcases aaj.mp ht with rfl | ht
   .exact#[hb,he]
   .exact ho t (aac _ ht)
 .rw[bH,bH,bH];change 10 * a.size+(10 * b.size+10 * e.size+6+wC st) < 10 * (a.size+(b.size+(e.size+0))+1)+wC st;cbv
theorem RU{x:Str}{a b:Tm}(hf:fin c (.term (.node (.lt x) [a,b]) sc::st) co=F)(ho:∀ t∈gE.term (.node (.lt x) [a,b]) sc::st,uM W co.length t)(ha:jx W sc a)(hb:jx W (sc++[x]) b):nc W c F (.term (.node (.lt x) [a,b]) sc) st (.term a sc::.row .keep::.term b (sc++[x])::.row .drop::st) co:=by
 show#[by rw[<- Li];exact hf,λt ht=>?_,?_]
 .rcases aaj.mp ht with rfl | ht
  .exact ha
  rcases aaj.mp ht with rfl | ht
  .exact True.intro
  rcases aaj.mp ht with rfl | ht
  .exact hb
  rcases aaj.mp ht with rfl | ht
  .exact True.intro
  exact ho t (aac _ ht)
 .rw[bH,bH,bH,bH,bH];change 10 * a.size+(1+(10 * b.size+(1+wC st))) < 10 * (a.size+(b.size+0)+1)+wC st;cbv
theorem MR{l:Ln}(hf:fin c (.row l::st) co=F)(ho:∀ t∈gE.row l::st,uM W co.length t):nc W c F (.row l) st st (co++[l]) :=
 #[hf,λt ht=>uM.mono (by rw[aab];cbv) (ho t (aac _ ht)),by rw[bH];change wC st < 1+wC st;cbv]
theorem C9{b e:Tm}(hf:fin c (.split b e sc::st) co=F)(ho:∀ t∈gE.split b e sc::st,uM W co.length t):nc W c F (.split b e sc) st (.term b sc::.other co.length e sc::st) (co++[.bx]):=by
 have h0:jx W sc b/\jx W sc e:=ho _ aad;show#[by rw[<- BU];exact hf,λt ht=>?_,?_]
 .rcases aaj.mp ht with rfl | ht
  .exact h0.1
  rcases aaj.mp ht with rfl | ht
  .exact#[by rw[aab];exact ab4 _,h0.2]
  exact uM.mono (by rw[aab];cbv) (ho t (aac _ ht))
 .rw[bH,bH,bH];change 10 * b.size+(10 * e.size+4+wC st) < 10 * b.size+10 * e.size+6+wC st;cbv
theorem ES{n:Nat}{e:Tm}(hf:fin c (.other n e sc::st) co=F)(ho:∀ t∈gE.other n e sc::st,uM W co.length t):n < co.length/\nc W c F (.other n e sc) st (.term e sc::.join co.length::st) ((co++[Ln.bx]).set n (.zero (co.length+1))):=by
 have h0:n < co.length/\jx W sc e:=ho _ aad;show#[h0.1,by rw[<- Ca h0.1];exact hf,λt ht=>?_,?_]
 .rw[aaL,aab];rcases aaj.mp ht with rfl | ht
  .exact h0.2
  rcases aaj.mp ht with rfl | ht
  .exact ab4 _
  exact uM.mono (by cbv) (ho t (aac _ ht))
 .rw[bH,bH,bH];change 10 * e.size+(1+wC st) < 10 * e.size+4+wC st;cbv
theorem ID{n:Nat}(hf:fin c (.join n::st) co=F)(ho:∀ t∈gE.join n::st,uM W co.length t):n < co.length/\nc W c F (.join n) st st (co.set n (.go co.length)):=by
 have h0:n < co.length:=ho _ aad;exact#[h0,hf,λt ht=>by rw[aaL];exact ho t (aac _ ht),by rw[bH];change wC st < 1+wC st;cbv]
end
theorem KP{W:aW}{sc:!Str}{t:Tm}(h:jx W sc t):sc.Nodup:=by
 let(s,k,e,hn,h,hf):=h;rw[<- e];exact hn.1
mutual
theorem iX(c:kA):∀ (t:Tm) (sc:!Str) (o:Nat),(cd c sc o t).length<=2 * t.size
 | .node f ts,sc,o=>by
  have h1:=Az c ts sc o;have h2:=Hw c ts sc o;have hs:Tm.size (.node f ts)=bh ts+1:=rfl;have h3:(xP c sc o ts++[jm c sc f ts]).length=(xP c sc o ts).length+1:=by rw[aab];rfl
  rw[hs];cases f with
  | nq=>change (Vd c sc o ts).length<=_;cbv
  | lt x=>have h4:=Gv c x ts sc o;change (Vq c x sc o ts).length<=_;cbv
  | _=>change (xP c sc o ts++[jm c sc _ ts]).length<=_;cbv
theorem Az(c:kA):∀ (ts:!Tm) (sc:!Str) (o:Nat),(xP c sc o ts).length<=2 * bh ts
 | [],sc,o=>aax _
 | t::ts,sc,o=>by
  have h1:=iX c t sc o;have h2:=Az c ts sc (o+(cd c sc o t).length);have hs:bh (t::ts)=t.size+bh ts:=rfl;rw[xP,aab];cbv
theorem Hw(c:kA):∀ (ts:!Tm) (sc:!Str) (o:Nat),(Vd c sc o ts).length<=2 * bh ts+2
 | [],sc,o=>aax _
 | t::ts,sc,o=>by
  have h1:=iX c t sc o;have h2:=Iy c ts sc (o+(cd c sc o t).length);have hs:bh (t::ts)=t.size+bh ts:=rfl;rw[Vd,aab];cbv
theorem Iy(c:kA):∀ (ts:!Tm) (sc:!Str) (o:Nat),(NN c sc o ts).length<=2 * bh ts+2
 | [],sc,o=>aax _
 | t::ts,sc,o=>by
  have h1:=iX c t sc (o+1);have h2:=GB c ts sc (o+1+(cd c sc (o+1) t).length);have hs:bh (t::ts)=t.size+bh ts:=rfl;rw[NN,aab,aam];cbv
theorem GB(c:kA):∀ (ts:!Tm) (sc:!Str) (o:Nat),(NG c sc o ts).length<=2 * bh ts+1
 | [],sc,o=>aax _
 | t::ts,sc,o=>by
  have h1:=iX c t sc (o+1);have hs:bh (t::ts)=t.size+bh ts:=rfl;rw[NG,aam];cbv
theorem Gv(c:kA)(x:Str):∀ (ts:!Tm) (sc:!Str) (o:Nat),(Vq c x sc o ts).length<=2 * bh ts+2
 | [],sc,o=>aax _
 | t::ts,sc,o=>by
  have h1:=iX c t sc o;have h2:=GF c ts (sc++[x]) (o+(cd c sc o t).length+1);have hs:bh (t::ts)=t.size+bh ts:=rfl;rw[Vq,aab,aam];cbv
theorem GF(c:kA):∀ (ts:!Tm) (sc:!Str) (o:Nat),(VU c sc o ts).length<=2 * bh ts+1
 | [],sc,o=>aax _
 | t::ts,sc,o=>by
  have h1:=iX c t sc o;have hs:bh (t::ts)=t.size+bh ts:=rfl;rw[VU,aab];change _+1<=_;cbv
end
end DL
section
local macro_rules
 | `(tactic|left)=>`(tactic|first|show DL.q_v U ?_|show DL.q_bl ?_|show DL.q_t0 ?_|show DL.q_t1 ?_|show DL.q_t2 ?_|show DL.q_eq #[U,U,U] ?_|show DL.q_b0 ?_|show DL.q_i0 ?_|show DL.q_ll ?_|show DL.q_lt ?_|show#[U,?_]|show#[#[U,U],?_]|show#[#[U,U,U],?_]|show#[.inl U,?_]|show#[.inr U,?_]|show#[DL.cC,?_]|show#[DL.Vz,?_]|show#[DL.VG,?_]|(apply Exists.intro;left)|(show Or.inl ?_;left)|(show Or.inr ?_;left))
local macro_rules
 | `(tactic|right)=>`(tactic|repeat (first|show DL.kx (-()) ?_|show DL.n5 (-()) ?_|left))
section
local macro_rules
 | `(tactic|trivial)=>`(tactic|repeat (first | show DL.kx (-()) ?_ | show DL.n5 (-()) ?_ | show DL.q_v U ?_ | show DL.q_bl ?_ | show DL.q_t0 ?_ | show DL.q_t1 ?_ | show DL.q_t2 ?_ | show DL.q_eq #[U,U,U] ?_ | show DL.q_b0 ?_ | show DL.q_i0 ?_ | show DL.q_ll ?_ | show DL.q_lt ?_ | show#[_,U,?_] | show#[_,_,_,U,U,U,?_] | show#[_,_,_,U,U,DL.cC,?_] | show#[_,_,U,U,?_] | show#[#[U,U,U],?_] | show#[_,.inr U,#[U,U],?_] | show#[_,.inl U,#[U,U],?_] | show#[_,.inr U,?_] | show#[_,.inl U,?_] | show#[_,_,U,U,U,?_] | show .inl #[_,U,?_] | show .inr #[_,_,U,U,?_] | show#[_,_,_,U,U,?_] | show#[#[U,U],?_]))
namespace F2
open PySem L2 DL
abbrev ac0(P w K mg base e n t):=DL.C4 P w K mg base aP e n (DL.cR K .no t)
def top(i:Nat):Ev:=PySem.Challenge.pw_sideturn_k39_what_code_is.main.body.getD i (.Pass #[0,0,0,0])
abbrev oG:Ev:=top 1
abbrev gR:D3:=("makers_in",oG,["kind"])
theorem u9:ax ["kind"] ["kind"] (ai oG):=dM
abbrev oY:Ev:=top 2
abbrev fB:D3:=("askers_in",oY,["kind"])
theorem uV:ax ["kind"] ["kind"] (ai oY):=dM
abbrev k4:Ev:=top 12
abbrev ee:D3:=("plan_handed",k4,["look","wanted","terms","bound","kind"])
theorem dE:ax ["look","wanted","terms","bound","kind","tasks","name","wish","term"] ["look","wanted","terms","bound","kind"] (ai k4):=dM
abbrev oS:Ev:=top 14
abbrev jB:D3:=("look_name",oS,["look","term","bound"])
theorem uZ:ax ["look","term","bound"] ["look","term","bound"] (ai oS):=dM
abbrev rN:Ev:=top 15
abbrev lD:D3:=("look_num",rN,["look","term","bound"])
theorem xV:ax ["look","term","bound"] ["look","term","bound"] (ai rN):=dM
abbrev sO:Ev:=top 16
abbrev n8:D3:=("look_op",sO,["look","term","bound"])
theorem yS:ax ["look","term","bound"] ["look","term","bound"] (ai sO):=dM
abbrev oU:Ev:=top 17
abbrev jD:D3:=("look_zero",oU,["look","term","bound"])
theorem uq:ax ["look","term","bound"] ["look","term","bound"] (ai oU):=dM
abbrev si:Ev:=top 18
abbrev lH:D3:=("look_let",si,["look","term","bound"])
theorem wO:ax ["look","term","bound"] ["look","term","bound"] (ai si):=dM
abbrev oB:Ev:=top 19
abbrev jP:D3:=("look_make",oB,["look","term","bound"])
theorem iH:ax ["look","term","bound","kind","fields"] ["look","term","bound"] (ai oB):=dM
abbrev qk:Ev:=top 20
abbrev lz:D3:=("look_ask",qk,["look","term","bound"])
theorem wA:ax ["look","term","bound"] ["look","term","bound"] (ai qk):=dM
abbrev xU:Ev:=top 21
abbrev oN:D3:=("look_case",xU,["look","term","bound"])
abbrev yi:Ev:=top 22
abbrev qe:D3:=("look_new",yi,["look","term","bound"])
abbrev a9:Ev:=top 24
abbrev fo:D3:=("do_term",a9,["look","task"])
theorem cq:ax ["look","task","word","term","bound"] ["look","task"] (ai a9):=dM
abbrev ua:Ev:=top 26
abbrev nT:D3:=("do_want",ua,["look","task"])
theorem zG:ax ["look","task"] ["look","task"] (ai ua):=dM
abbrev uk:Ev:=top 27
abbrev nz:D3:=("do_tell",uk,["look","task"])
theorem yl:ax ["look","task"] ["look","task"] (ai uk):=dM
abbrev rE:Ev:=top 28
abbrev lh:D3:=("do_alike",rE,["look","task"])
theorem jH:ax ["look","task","other","kind"] ["look","task"] (ai rE):=dM
abbrev tF:Ev:=top 29
abbrev nG:D3:=("do_bind",tF,["look","task"])
theorem el:ax ["look","task","word","name","term","bound","kind","inside"] ["look","task"] (ai tF):=dM
abbrev qx:Ev:=top 30
abbrev lM:D3:=("do_asker",qx,["look","task"])
theorem cB:ax ["look","task","word","asker","terms","bound","kind","owner","params","result"] ["look","task"] (ai qx):=dM
abbrev BI:Ev:=top 31
abbrev sQ:D3:=("do_case",BI,["look","task"])
abbrev bK:Ev:=top 32
abbrev kQ:D3:=("do_row",bK,["look","task"])
abbrev ik:Ev:=top 35
abbrev dU:D3:=("looked_through",ik,["look","term","bound"])
theorem gP:ax ["look","term","bound","task"] ["look","term","bound"] (ai ik):=dM
abbrev fA:Ev:=top 36
abbrev cA:D3:=("kind_of_plain_term",fA,["heads","term"])
theorem ju:ax ["heads","term"] ["heads","term"] (ai fA):=dM
abbrev pb:Ev:=top 38
abbrev gY:D3:=("look_term",pb,["program","term"])
theorem vf:ax ["program","term"] ["program","term"] (ai pb):=dM
abbrev iy:Ev:=top 40
abbrev dP:D3:=("ways_to_askers",iy,["program"])
theorem bB:ax ["program","ways","defs","kind","number","asker"] ["program"] (ai iy):=dM
abbrev ic:Ev:=top 42
abbrev bR:D3:=("tasks_of_terms",ic,["terms","scope"])
theorem lY:ax ["terms","scope"] ["terms","scope"] (ai ic):=dM
abbrev pB:Ev:=top 43
abbrev jF:D3:=("code_name",pB,["coding","term","scope"])
theorem vp:ax ["coding","term","scope"] ["coding","term","scope"] (ai pB):=dM
abbrev rC:Ev:=top 44
abbrev lg:D3:=("code_num",rC,["coding","term","scope"])
theorem wU:ax ["coding","term","scope"] ["coding","term","scope"] (ai rC):=dM
abbrev tJ:Ev:=top 45
abbrev nW:D3:=("code_op",tJ,["coding","term","scope"])
theorem zB:ax ["coding","term","scope"] ["coding","term","scope"] (ai tJ):=dM
abbrev oW:Ev:=top 46
abbrev ka:D3:=("code_zero",oW,["coding","term","scope"])
theorem vN:ax ["coding","term","scope"] ["coding","term","scope"] (ai oW):=dM
abbrev qf:Ev:=top 47
abbrev lr:D3:=("code_let",qf,["coding","term","scope"])
theorem pz:ax ["coding","term","scope","inside"] ["coding","term","scope"] (ai qf):=dM
abbrev oQ:Ev:=top 48
abbrev jQ:D3:=("code_make",oQ,["coding","term","scope"])
theorem mq:ax ["coding","term","scope","row"] ["coding","term","scope"] (ai oQ):=dM
abbrev qX:Ev:=top 49
abbrev lF:D3:=("code_ask",qX,["coding","term","scope"])
theorem o8:ax ["coding","term","scope","row"] ["coding","term","scope"] (ai qX):=dM
abbrev bW:Ev:=top 51
abbrev jl:D3:=("do_term",bW,["coding","task"])
theorem dW:ax ["coding","task","word","term","scope"] ["coding","task"] (ai bW):=dM
abbrev cn:Ev:=top 53
abbrev jJ:D3:=("do_row",cn,["coding","task"])
theorem pL:ax ["coding","task"] ["coding","task"] (ai cn):=dM
abbrev qI:Ev:=top 55
abbrev lA:D3:=("do_split",qI,["coding","task"])
theorem eu:ax ["coding","task","word","then","otherwise","scope","split"] ["coding","task"] (ai qI):=dM
abbrev rD:Ev:=top 56
abbrev lE:D3:=("do_other",rD,["coding","task"])
theorem eC:ax ["coding","task","word","split","otherwise","scope","leave"] ["coding","task"] (ai rD):=dM
abbrev t5:Ev:=top 57
abbrev nE:D3:=("do_join",t5,["coding","task"])
theorem zu:ax ["coding","task"] ["coding","task"] (ai t5):=dM
abbrev o5:Ev:=top 59
abbrev fz:D3:=("code_term",o5,["coding","term","names","last"])
theorem fV:ax ["coding","term","names","last","begin","scope","task"] ["coding","term","names","last"] (ai o5):=dM
abbrev oP:Ev:=top 60
abbrev g7:D3:=("code_cell",oP,["coding","maker","asker","term"])
theorem lS:ax ["coding","maker","asker","term","names"] ["coding","maker","asker","term"] (ai oP):=dM
abbrev mV:Ev:=top 61
abbrev fR:D3:=("code_table",mV,["coding","side","table"])
theorem dg:ax ["coding","side","table","pairs","name","term","maker","asker"] ["coding","side","table"] (ai mV):=dM
abbrev kY:Ev:=top 62
abbrev fc:D3:=("code_tables",kY,["coding","program","side"])
theorem gx:ax ["coding","program","side","told","kind"] ["coding","program","side"] (ai kY):=dM
abbrev sT:Ev:=top 63
abbrev kz:D3:=("code_of",sT,["program","term"])
theorem iM:ax ["program","term","coding","jumps","doors"] ["program","term"] (ai sT):=dM
abbrev qH:Ev:=top 65
abbrev iE:D3:=("_law_deal",qH,["_law_script","_law_base"])
abbrev rL:Ev:=top 66
abbrev bD:D3:=("_law_draw",rL,["_law_deal_here","_law_many"])
abbrev cD:Ev:=top 67
abbrev fw:D3:=("_law_words",cD,["_law_deal_here","_law_many"])
theorem ba:ax ["_law_deal_here","_law_many","_law_letters","_law_core","_law_at","_law_turn","_law_found","_law_k","_law_own","_law_word","_law_near"] ["_law_deal_here","_law_many"] (ai cD):=dM
abbrev oM:Ev:=top 68
abbrev gU:D3:=("_law_pairs",oM,["_law_deal_here","_law_names","_law_some","_law_most"])
theorem m9:ax ["_law_deal_here","_law_names","_law_some","_law_most","_law_many"] ["_law_deal_here","_law_names","_law_some","_law_most"] (ai oM):=dM
abbrev oT:Ev:=top 69
abbrev gW:D3:=("_law_heads",oT,["_law_deal_here","_law_words_here","_law_most"])
theorem aT:ax ["_law_deal_here","_law_words_here","_law_most","_law_found","_law_names","_law_shift","_law_makers_left","_law_askers_left","_law_kk","_law_makers","_law_k","_law_some","_law_askers","_law_params"] ["_law_deal_here","_law_words_here","_law_most"] (ai oT):=dM
abbrev lV:Ev:=top 70
abbrev dR:D3:=("_law_things",lV,["_law_world_here"])
theorem sk:ax ["_law_world_here"] ["_law_world_here"] (ai lV):=dM
abbrev qV:Ev:=top 71
abbrev iR:D3:=("_law_leaf",qV,["_law_deal_here","_law_world_here","_law_scope","_law_kind"])
theorem kb:ax ["_law_deal_here","_law_world_here","_law_scope","_law_kind","_law_own","_law_first"] ["_law_deal_here","_law_world_here","_law_scope","_law_kind"] (ai qV):=dM
abbrev sM:Ev:=top 72
abbrev ib:D3:=("_law_all",sM,["_law_deal_here","_law_world_here","_law_scope","_law_some","_law_room"])
theorem yh:ax ["_law_deal_here","_law_world_here","_law_scope","_law_some","_law_room"] ["_law_deal_here","_law_world_here","_law_scope","_law_some","_law_room"] (ai sM):=dM
abbrev tX:Ev:=top 73
abbrev ix:D3:=("_law_ask",tX,["_law_deal_here","_law_world_here","_law_scope","_law_kind","_law_room"])
theorem cF:ax ["_law_deal_here","_law_world_here","_law_scope","_law_kind","_law_room","_law_some","_law_side","_law_kk","_law_makers","_law_askers","_law_f","_law_params","_law_terms"] ["_law_deal_here","_law_world_here","_law_scope","_law_kind","_law_room"] (ai tX):=dM
abbrev oF:Ev:=top 74
abbrev gT:D3:=("_law_bound",oF,["_law_deal_here","_law_world_here","_law_scope","_law_many"])
theorem iI:ax ["_law_deal_here","_law_world_here","_law_scope","_law_many","_law_some","_law_at"] ["_law_deal_here","_law_world_here","_law_scope","_law_many"] (ai oF):=dM
abbrev qy:Ev:=top 75
abbrev eZ:D3:=("_law_term",qy,["_law_deal_here","_law_world_here","_law_scope","_law_kind","_law_room"])
theorem aS:ax ["_law_deal_here","_law_world_here","_law_scope","_law_kind","_law_room","_law_form","_law_found","_law_a","_law_b","_law_some","_law_other","_law_x","_law_makers","_law_c","_law_fields"] ["_law_deal_here","_law_world_here","_law_scope","_law_kind","_law_room"] (ai qy):=dM
abbrev oO:Ev:=top 76
abbrev gQ:D3:=("_law_world",oO,["_law_deal_here","_law_most"])
theorem mv:ax ["_law_deal_here","_law_most","_law_words_here"] ["_law_deal_here","_law_most"] (ai oO):=dM
abbrev oz:Ev:=top 77
abbrev g6:D3:=("_law_cells",oz,["_law_deal_here","_law_world_here","_law_room"])
theorem bq:ax ["_law_deal_here","_law_world_here","_law_room","_law_found","_law_side","_law_kk","_law_makers","_law_askers","_law_own","_law_c","_law_fields","_law_f","_law_params","_law_result"] ["_law_deal_here","_law_world_here","_law_room"] (ai oz):=dM
abbrev lb:Ev:=top 78
abbrev ff:D3:=("_law_program",lb,["_law_deal_here","_law_world_here","_law_room"])
theorem aJ:ax ["_law_deal_here","_law_world_here","_law_room","_law_found","_law_one","_law_cells_here","_law_side","_law_kk","_law_makers","_law_askers","_law_way","_law_blocks","_law_f","_law_params","_law_result","_law_rows","_law_c","_law_fields"] ["_law_deal_here","_law_world_here","_law_room"] (ai lb):=dM
abbrev j3:Ev:=top 79
abbrev eK:D3:=("_law_doubling",j3,["_law_deal_here"])
theorem ay:ax ["_law_deal_here","_law_words_here","_law_kk","_law_leaf_here","_law_bud","_law_knot","_law_f","_law_n","_law_makers","_law_way","_law_stop","_law_own","_law_great","_law_turn","_law_side","_law_rows","_law_c","_law_fields","_law_again","_law_body","_law_thing","_law_many","_law_program_here","_law_tables"] ["_law_deal_here"] (ai j3):=dM
abbrev rA:Ev:=top 80
abbrev jc:D3:=("_law_pair",rA,["_law_deal_here"])
theorem dH:ax ["_law_deal_here","_law_world_here","_law_program_here","_law_kinds","_law_at","_law_kind","_law_found"] ["_law_deal_here"] (ai rA):=dM
abbrev jo:Ev:=top 81
abbrev c5:D3:=("_law_is_number",jo,["_law_thing","_law_below"])
theorem nV:ax ["_law_thing","_law_below"] ["_law_thing","_law_below"] (ai jo):=dM
abbrev jT:Ev:=top 82
abbrev eE:D3:=("_law_heads_of",jT,["_law_program_here"])
theorem aN:ax ["_law_program_here","_law_makers","_law_askers","_law_side","_law_kk","_law_heads_here","_law_tables","_law_some","_law_other","_law_c","_law_fields","_law_at","_law_f","_law_params"] ["_law_program_here"] (ai jT):=dM
abbrev iB:Ev:=top 83
abbrev dQ:D3:=("_law_line_right",iB,["_law_line","_law_many","_law_makers","_law_leaps","_law_doors"])
theorem gJ:ax ["_law_line","_law_many","_law_makers","_law_leaps","_law_doors","_law_word"] ["_law_line","_law_many","_law_makers","_law_leaps","_law_doors"] (ai iB):=dM
abbrev qF:Ev:=top 84
abbrev iJ:D3:=("_law_told",qF,["_law_tables","_law_many"])
theorem gH:ax ["_law_tables","_law_many","_law_found","_law_table","_law_pair_here"] ["_law_tables","_law_many"] (ai qF):=dM
abbrev l9:Ev:=top 85
theorem d4:ax ["_law_script","_law_deal_here","_law_program_here","_law_term_here","_law_code","_law_makers","_law_askers","_law_blocks","_law_side","_law_kk","_law_heads_here","_law_tables","_law_table","_law_many","_law_leaps","_law_doors"] ["_law_script"] (ai l9):=dM
structure Txt(K:Frag)(mg:Str->Option AT):Prop where
 all:mg "all"=none
 bool:mg "bool"=none
 dict:mg "dict"=none
 enumerate:mg "enumerate"=none
 int:mg "int"=none
 GZ:mg "isinstance"=none
 len:mg "len"=none
 list:mg "list"=none
 max:mg "max"=none
 min:mg "min"=none
 range:mg "range"=none
 rev:mg "reversed"=none
 tuple:mg "tuple"=none
 zip:mg "zip"=none
 str:mg "str"=none
section
variable{P:Fa}{w:FB}{K:Frag}{mg:Str->Option AT}{base:Db}
theorem b9{b b':Bool}{A B:Prop}(h:b=b')(q1:b'=true->A)(q2:b'=false->B):if b=true then A else B:=by
 subst h;cases b with
 | true=>exact rM (q1 U)
 | false=>exact va (q2 U)
theorem B7{ws:!Str}:(ws.map D.str).all gp=true:=by
 rw[List.all_map];exact aa9.mpr λ_ _=>rfl
theorem GC{ws:!Str}:(ws.map D.str).map fv=ws.map V.str:=by
 rw[aan]
 rfl
theorem Ih{zs:!Str}{r:Int}(h0:0<=r)(h1:r < zs.length):∃ z∈zs,iD (zs.map D.str) r=some (.str z):=by
 have hj:r.toNat < zs.length:=by cbv
 show#[zs[r.toNat],abM hj,?_];have e:(r.toNat:Int)=r:=Int.toNat_of_nonneg h0;have q:=pW (xs:=zs.map D.str) (j:=r.toNat) (v:=.str zs[r.toNat]) (by simp[hj]);rw[e] at q;exact q
theorem wZ:∀ (ys:!D),(∀ y∈ys,∃ ch,(97<=ch/\ch<=122)/\y=D.str #[#v[ch]])->∃ cs:!Nat,ys=(cs.map λc=>(#[#v[c]]:Str)).map D.str/\(∀ c∈cs,97<=c/\c<=122)/\cs.length=ys.length
 | [],_=>#[[],U,λ_ h=>absurd h (by simp),U]
 | y::ys,h=>by
  let(ch,hc,e):=h y aad;let(cs,e2,h2,h3):=wZ ys λz hz=>h z (aac _ hz);subst e;show#[ch::cs,by rw[e2];simp,λc hm=>?_,by simp[h3]];rcases aaj.mp hm with rfl | hm
  .exact hc
  .exact h2 c hm
theorem Dk{d l:AC}(eR:C4 P w K mg base aP bD 1 (cR K (bg d l) (jj d)))(F:Own K mg fw)(T:Txt K mg):C4 P w K mg base aP fw 2 (cR K (bg d l) (zp d)):=by
 show F.d (nos:=1) ba (λds R h=>?_) λf a8 A outer s H E M hr=>?_
 .let(m,rfl,_):=h
  rfl
 have hb:aL cD=RC (aL cD) 6 (Fe ((aL cD).getD 6 BO)):=rfl;have ha:vT (Fe ((aL cD).getD 6 BO))=true:=rfl;have hz:Ab (Fe ((aL cD).getD 6 BO))=cY.near:=rfl;have hl3:(Fe ((aL cD).getD 6 BO)).length=cY.near.length:=rfl;generalize Fe ((aL cD).getD 6 BO)=es at hb ha hz hl3;have hn:(es.length<=1000:Bool)=true:=by rw[hl3];decide
 rw[hb];show#[_,(ag (oK (gm (i:=2) ba.nd U (Or.inr U) (DE.pe av)))
 (ag (sS 3 ba.nd (KS av (ae (DN.de (nC ["_law_k"] [2,0] (dI U T.range (ae (az hr eR (ae (vd 0) (ae aj af))) af)) (λ_ _ _ _=>(gM 0 ["_law_k","_law_letters","_law_deal_here"])) (λ_ _ _ _=>bY)
 (λ_ _ _ _=>(EH yI C8 (vd 1) (az hr eR (ae (vd 2) (ae aj af))) (λ_ _=>rfl))))) af)))
 (ag (sS 4 ba.nd (az hr eR (ae (vd 0) (ae (c8 dF jG (cK uz LK U T.len abK (ae (vd 3) af)) aj) af))))
 (ag (sS 5 ba.nd (az hr eR (ae (vd 0) (ae aj af))))
 (ag (sN 0 6 ba.nd (aM af))
 (ag (sF (dI U T.range (ae (vd 1) af)) (gN 7 ba.nd)
 (ag (sS 8 ba.nd (EH yI C8 (vd 2) (c8 hU F0 (c8 dF jG (vd 5) (c8 lq F0 aj (vd 7))) aj) (λ_ _=>rfl)))
 (ag (sS 9 ba.nd (c8 e8 nP (c8 e8 nP (c8 e8 nP (c8 e8 nP (xf (vd 3) cU (bC (vd 4))) (vd 8)) (xf (vd 3) (bC (vd 4)) cU)) (c8 qd Cv av (c8 hU F0 (vd 7) aj))) (c8 qd Cv av (c8 fq F0 (vd 7) aj))))
 (ag (cv (aK f7 okIn (vd 9) (aw (ae av (ae av (ae av (ae av (ae av (ae av (ae av af)))))))) U)
 (aq (sS 9 ba.nd (c8 e8 nP (vd 9) av)))
 aO)
 (ag (cv (aK f7 okIn (vd 9) (aw (ae av (ae av (ae av (ae av (ae av (ae av af))))))) U)
 (aq (sS 9 ba.nd (c8 e8 nP (vd 9) av)))
 aO)
 (aq (B8 6 (ae (vd 9) af))))))))
 (ag (sS 10 ba.nd (DN.de (aM (GX ha hz hl3) hn)))
 (ag (sS 9 ba.nd (jv (vd 10) (az hr eR (ae (vd 0) (ae aj af)))))
 (ag (cv (DW.dt (vA (aK bf cz (az hr eR (ae (vd 0) (ae aj af))) aj (aF _)) (pZ (Mt nh (vd 9) (pv 6) U))))
 (aq (HF (vj (DE.pe (vd 9)) (yL (pv 6) (DE.pe (az hr eR (ae (vd 0) (ae (vd 1) af)))) set_list))))
 aO)
 (aq (aV (vQ (pv 6))))))))))))),λds R h=>?_]
 .let(m,rfl,(hm0,hm1),q):=h;trivial;show#[#[by decide,by decide],λr r0 r1=>?_];show#[r,U,#[by cbv,by cbv],?_];show qj (λy=>∃ ch,(97<=ch/\ch<=122)/\y=D.str #[#v[ch]]) _ (λx hx k hk=>?_) λys hyl hyp=>?_
  .refine#[_,U,_,U,_,U,#[by decide,by decide],λa a0 a1=>?_];exact#[_,_,_,U,U,by decide+kernel,AI a0 a1,hk _ _ #[_,#[by cbv,by cbv],U] rfl]
  let(cs,e1,hcs,hcl):=wZ ys hyp;subst e1;have hcl':cs.length<=4:=by
   have:(dh 0 r.toNat).length=r.toNat:=by simp[dh]
   rw[hcl,hyl,this];cbv
  show#[cs.map λc=>(#[#v[c]]:Str),U,?_,?_]
  .rw[cY.xu,aaa];change cs.length+cs.length * 0<=16777216;cbv
  have hcore:(Txt.join ("":Str) (cs.map λc=>(#[#v[c]]:Str))).length<=4:=by
   have:=cY.join_ones cs;cbv
  have hlw:Lw (Txt.join ("":Str) (cs.map λc=>(#[#v[c]]:Str))):=λc hc=>by
   rw[xE] at hc;exact hcs c hc
  generalize Txt.join ("":Str) (cs.map λc=>(#[#v[c]]:Str))=core at hcore hlw;have hsz:(1000:Nat)<=FS:=by decide
  show#[_,U,_,U,_,U,by omega,_,_,U,U,_,U,#[by omega,by omega],λat_' a0 a1=>?_];show#[_,U,_,U,#[by decide,by decide],λtn t0 t1=>?_];show#[#[U,U],_,U,m,U,#[by cbv,by cbv],?_];have h2s:=BP (x:=core) (i:=at_') a0 (by cbv);have hL1:=hlw.slice none (some at_');have hL2:=hlw.slice (some at_') none;generalize BK:Txt.slice core none (some at_')=pre at h2s hL1;generalize hpost:Txt.slice core (some at_') none=post at h2s hL2;show cV (λxs s=>∃ (ws:!Str) (a b e:Sl),(∀ (i:Nat) (x:D),xs[i]?=some x->x=D.int ((ws.length+i:Nat):Int))/\ws.length+xs.length=m.toNat/\wY pre.cps.toList post.cps.toList tn.toNat ws/\s=#[[.dat (.bJ d),.dat (.int m),.dat (.str cY.Sw),.dat (.str core),.dat (.int at_'),.dat (.int tn),.own 0,a,b,e,.no],[some (.lst (ws.map D.str))]]) ?_ ?_ _ _ #[[],.no,.no,.no,?_,?_,λ_ _ h=>absurd h (by simp),U]
  .rintro s ⟨ws,a,b,e,h1,h2,h3,rfl⟩
   replace h2:ws.length=m.toNat:=h2
   trivial;show#[#[by decide,by decide],λr r0 r1=>?_];let(z,hz2,ez):=Ih (zs:=cY.near) r0 r1;have hzw:=HY z hz2;show#[_,_,_,U,U,ez,?_];show#[_,U,_,U,#[by decide,by decide],λr2 r20 r21=>?_];show#[#[U,U,U],_,U,?_];show b9 U (λ_=>?_) λ_=>?_
   .refine#[_,U,0,_,U,U,#[U,B7],_,U,?_];show b9 U (λhni=>?_) λ_=>?_
    .refine#[_,U,0,U,_,U,_,U,_,U,#[by cbv,by cbv],λr3 r30 r31=>?_];have hj:yd (ws.map D.str).length r3=some r3.toNat:=by
      rw[aaa];unfold yd;rw[if_pos (by cbv),if_pos (by cbv)]
     show#[_,_,_,U,U,hj,?_];show .inr #[0,_,U,U,?_];change R (.lst ((ws.map D.str).set r3.toNat (.str z)));rw[<- List.map_set];have hnz:z∉ws:=λhm=>by
      replace hni:(not (BE (.str z) ((ws.map D.str).map fv)))=true:=hni
      rw[GC,fu,decide_eq_true hm] at hni;cases hni
     show q _ (by simpa using h2) (tP _ h3.nodup hnz) λy hy=>?_;rcases List.mem_or_eq_of_mem_set hy with hy | rfl
     .exact h3.nm y hy
     .exact hzw
    .exact .inr #[0,_,U,U,q ws h2 h3.nodup h3.nm]
   .exact .inr #[0,_,U,U,q ws h2 h3.nodup h3.nm]
  .rintro x xs s N ⟨ws,a,b,e,h1,h2,h3,rfl⟩ hN hE_;have hx:=h1 0 x U;subst hx
   replace h2:ws.length+(xs.length+1)=m.toNat:=h2
   have hk:ws.length < 60:=by cbv
   trivial;show#[.inl #[by decide,by decide],?_];show#[_,_,U,U,?_];show#[_,_,U,U,(show (0:Int) < 26 by decide),?_];have ea:=AI (r:=(tn+7 * ((ws.length+0:Nat):Int)) % 26) (abq _ ()) (abo _ ());show#[_,_,_,U,U,by decide+kernel,ea,?_];rw[show ((tn+7 * ((ws.length+0:Nat):Int)) % 26).toNat=(tn.toNat+7 * ws.length) % 26 by cbv];have Ba:97<=97+(tn.toNat+7 * ws.length) % 26/\97+(tn.toNat+7 * ws.length) % 26<=122:=#[by cbv,by cbv];let(mx,ox):=Ax (c:=120) (n:=((ws.length+0:Nat):Int) % 2) (abq _ ()) (by cbv);let(my,oy):=Ax (c:=121) (n:=((ws.length+0:Nat):Int) / 26) (by cbv) (by cbv);rw[show (((ws.length+0:Nat):Int) % 2).toNat=ws.length % 2 by cbv] at mx;rw[show (((ws.length+0:Nat):Int) / 26).toNat=ws.length / 26 by cbv] at my;generalize hmx:Txt.mul (#[#v[120]]:Str) (((ws.length+0:Nat):Int) % 2)=tx at mx;generalize hmy:Txt.mul (#[#v[121]]:Str) (((ws.length+0:Nat):Int) / 26)=ty at my;have lx:tx.length=ws.length % 2:=by rw[show tx.length=tx.cps.toList.length by simp[Str.length],mx,List.length_replicate]
   have ly:ty.length=ws.length / 26:=by rw[show ty.length=ty.cps.toList.length by simp[Str.length],my,List.length_replicate]
   have wx:Lw tx:=λc hc=>by rw[mx] at hc;have:=List.eq_of_mem_replicate hc;cbv
   have wy:Lw ty:=λc hc=>by rw[my] at hc;have:=List.eq_of_mem_replicate hc;cbv
   have hL:Lw (pre++(#[#v[97+(tn.toNat+7 * ws.length) % 26]]:Str)++post++tx++ty) :=
    (((hL1.app (λc hc'=>by simp at hc';subst hc';exact Ba)).app hL2).app wx).app wy
   have Af:(pre++(#[#v[97+(tn.toNat+7 * ws.length) % 26]]:Str)++post++tx++ty).length<=8/\1<=(pre++(#[#v[97+(tn.toNat+7 * ws.length) % 26]]:Str)++post++tx++ty).length:=by
    rw[cY.cL,cY.cL,cY.cL,cY.cL,cY.ku];cbv
   have hcp:(pre++(#[#v[97+(tn.toNat+7 * ws.length) % 26]]:Str)++post++tx++ty).cps.toList=wl pre.cps.toList post.cps.toList tn.toNat ws.length 0:=by
    rw[mQ,mQ,mQ,mQ,mx,my];simp[wl]
   show#[_,U,_,U,_,U,_,U,by cbv,?_];rw[BK];show#[_,U,_,_,U,U,by rw[cY.ku];cbv,?_];show#[_,U,_,U,_,U,_,U,by cbv,?_];rw[hpost];show#[_,_,U,U,by rw[cY.cL,cY.ku];cbv,?_];show#[_,U,_,_,U,U,(show (0:Int) < 2 by decide),?_];show#[_,_,U,U,ox,?_];rw[show Txt.mul (Str.ofString "x") (((ws.length+0:Nat):Int) % 2)=tx from hmx];show#[_,_,U,U,by rw[cY.cL,cY.cL,cY.ku];cbv,?_];show#[_,U,_,_,U,U,#[by decide,by decide],?_];show#[_,_,U,U,oy,?_];rw[show Txt.mul (Str.ofString "y") (((ws.length+0:Nat):Int) / 26)=ty from hmy];show#[_,_,U,U,by rw[cY.cL,cY.cL,cY.cL,cY.ku];cbv,?_];generalize pre++(#[#v[97+(tn.toNat+7 * ws.length) % 26]]:Str)++post++tx++ty=wd at hL Af hcp;have hLq:Lw ("q":Str):=by decide+kernel
   have hq1:("q":Str).length=1:=rfl;have hcq:(wd++("q":Str)).cps.toList=wl pre.cps.toList post.cps.toList tn.toNat ws.length 1:=by
    rw[mQ,hcp];simp[wl]
    rfl
   have fin:∀ (u:Str) (a b:Sl) (e:Nat),Nm u->u.cps.toList=wl pre.cps.toList post.cps.toList tn.toNat ws.length e->N.nx #[[.dat (.bJ d),.dat (.int m),.dat (.str cY.Sw),.dat (.str core),.dat (.int at_'),.dat (.int tn),.own 0,a,b,.dat (.str u),.no],[some (.lst (ws.map D.str++[D.str u]))]]:=λu a b e hu he=>by
    show hN _ #[ws++[u],a,b,.dat (.str u),λi z hz=>?_,?_,h3.snoc hu he,by simp]
    .have:=h1 (i+1) z hz;rw[this];simp;cbv
    .rw[aab];simp;cbv
   have p8:(ws.map D.str).length < FS:=by
    rw[aaa];cbv
   show#[_,U,?_];show#[_,.inr U,#[U,U],_,U,?_];show b9 (b':=BE (.str wd) (xg.map V.str)) U (λc1=>?_) λc1=>?_
   .rw[fu] at c1;have c1:=Gg wd (of_decide_eq_true c1);show#[_,U,_,_,U,U,by cbv,?_];show#[_,U,?_];show#[_,.inr U,#[U,U],_,U,?_];show b9 (b':=BE (.str (wd++("q":Str))) (um.map V.str)) U (λc2=>?_) λc2=>?_
    .rw[fu] at c2;exact absurd (of_decide_eq_true c2) c1.2.1
    .have nm:Nm (wd++("q":Str)):=#[hL.app hLq,by rw[cY.cL];cbv,by rw[cY.cL];cbv,c1.1,c1.2.1];exact#[0,_,U,U,U,_,U,_,U,_,_,U,U,p8,fin _ _ _ 1 nm hcq]
   .rw[fu] at c1;have c1:=of_decide_eq_false c1;show#[_,U,?_];show#[_,.inr U,#[U,U],_,U,?_];show b9 (b':=BE (.str wd) (um.map V.str)) U (λc2=>?_) λc2=>?_
    .rw[fu] at c2;have c2:=Iq wd (of_decide_eq_true c2);have nm:Nm (wd++("q":Str)):=#[hL.app hLq,by rw[cY.cL];cbv,by rw[cY.cL];cbv,c2.1,c2.2.1];show#[_,U,_,_,U,U,by cbv,?_];exact#[0,_,U,U,U,_,U,_,U,_,_,U,U,p8,fin _ _ _ 1 nm hcq]
    .rw[fu] at c2;exact#[0,_,U,U,U,_,U,_,U,_,_,U,U,p8,fin _ _ _ 0 #[hL,Af.2,Af.1,c1,of_decide_eq_false c2] hcp]
  .intro i x hx;unfold dh at hx;rw[aaG] at hx;let(j,hj,rfl):=aaI.mp hx;let(_,e):=aaf.mp hj;simp at e;subst e;simp
  .simp[dh]
def Yu(d:AC):ace:=λds R=>∃ ns ss:!Str,ds=[.bJ d,.lst (ns.map .str),.lst (ss.map .str),.int 3]/\(3<=ns.length/\0 < ss.length/\ss.length<=100)/\∀ ps,F3 ns ss ps->R (cG ps)
theorem TB{d l:AC}(eR:C4 P w K mg base aP bD 1 (cR K (bg d l) (jj d)))(F:Own K mg gU)(T:Txt K mg):C4 P w K mg base aP gU 2 (cR K (bg d l) (Yu d)):=by
 show F.d (nos:=0) m9 (λds R h=>?_) λf a8 A outer s H E M hr=>#[_,(ag (sS 4 m9.nd (jv (DN.de (aM (ae aj (ae aj (ae aj (ae aj (ae (vd 3) af))))))) (az hr eR (ae (vd 0) (ae aj af)))))
 (aq (aV (i9 T.tuple (ae (DN.de (nC ["_law_k"] [1,2,0] (dI U T.range (ae (cK (BH U) Oz U T.min (-()) (ae (vd 4) (ae (vd 3) af))) af)) (λ_ _ _ _=>(gM 0 ["_law_k","_law_names","_law_some","_law_deal_here"])) (λ_ _ _ _=>bY)
 (λ_ _ _ _=>(aw (ae (jv (vd 1) (vd 0)) (ae (jv (vd 2) (az hr eR (ae (vd 3) (ae (dY T.len (ae (vd 2) af)) af)))) af)))))) af))))),λds R h=>?_]
 .let(ns,ss,rfl,_):=h
  rfl
 .let(ns,ss,rfl,(hn,hs0,hs1),q):=h;trivial;show#[#[by decide,by decide],λr r0 r1=>?_];have hm:∃ m:Int,iD [D.int 0,D.int 1,D.int 1,D.int 2,D.int 3] r=some (.int m)/\0<=m/\m<=3:=by
   have:r=0\/r=1\/r=2\/r=3\/r=4:=by cbv
   rcases this with rfl | rfl | rfl | rfl | rfl
   .exact#[0,U,by decide,by decide]
   .exact#[1,U,by decide,by decide]
   .exact#[1,U,by decide,by decide]
   .exact#[2,U,by decide,by decide]
   .exact#[3,U,by decide,by decide]
  let(m,em,hm0,hm1):=hm;show#[_,_,_,U,U,em,?_];show#[_,U,_,U,?_];have e3:(if (3:Int) < m then 3 else m)=m:=if_neg (by cbv);show#[_,_,U,?_];rw[e3];show#[m,U,#[by cbv,by cbv],?_];rw[ji];show f9 (λi:Nat=>D.int (i:Int)) pairD (λi p=>ns[i]?=some p.1/\p.2∈ss) _ (λi hi k hk=>?_) λps hps=>?_
  .have A1:i < 3:=by have:=abI.mp hi;cbv
   let(x,hx,ex):=qS (f:=D.str) (xs:=ns) (r:=(i:Int)) (by cbv) (by cbv);rw[Int.toNat_natCast] at hx;show#[_,U,_,U,_,_,_,U,U,ex,?_];show#[_,U,_,U,_,U,_,.inl U,?_];show#[_,U,#[by rw[aaa];cbv,by rw[aaa];cbv],λr2 r20 r21=>?_];let(y,hy,ey):=oq (f:=D.str) (xs:=ss) r20 (by simpa using r21);show#[_,_,_,U,U,ey,?_];exact hk (x,y) _ #[hx,hy] rfl
  .refine#[_,.inl U,?_];have hl:=gD hps;rw[abw] at hl;show q ps #[by cbv,?_,λp hp=>?_]
   .exact vq (λi y h=>h.1) hps
   .let(i,_,h):=gu hps p hp;exact h.2
def Yt(d:AC):ace:=λds R=>∃ (ws:!Str) (most:Int),ds=[.bJ d,.lst (ws.map .str),.int most]/\(ws.length=45/\ws.Nodup/\(∀ x∈ws,Nm x)/\1<=most/\most<=3)/\∀ ks,AB ws ks->R (.lst (ks.map sy))
theorem RZ{d l:AC}(eR:C4 P w K mg base aP bD 1 (cR K (bg d l) (jj d)))(Wm:C4 P w K mg base aP gU 2 (cR K (bg d l) (Yu d)))(F:Own K mg gW)(T:Txt K mg):C4 P w K mg base aP gW 3 (cR K (bg d l) (Yt d)):=by
 show F.d (nos:=5) aT (λds R h=>?_) λf a8 A outer s H E M hr=>#[_,(ag (sN 0 3 aT.nd (aM af))
 (ag (oK (ud (ou (i:=4) aT.nd U U (ts:=["_law_k"]) (us:=[1]) #[U,U,U,U,U,U] rfl (dI U T.range (ae (c8 dF jG aj (az hr eR (ae (vd 0) (ae (vd 2) af)))) af)) (λ_ _ _ _=>(gM 0 ["_law_k","_law_words_here"])) (λ_ _ _ _=>bY)
 (λ_ _ _ _=>(jv (vd 1) (vd 0))))))
 (ag (sS 5 aT.nd (jv (DN.de (aM (ae aj (ae aj af)))) (az hr eR (ae (vd 0) (ae aj af)))))
 (ag (sN 1 6 aT.nd (fD dD dw (DN.de (cW (vd 1) (bC aj) cU)) (DN.de (cW (vd 1) cU (bC aj)))))
 (ag (sN 2 7 aT.nd (fD dD dw (DN.de (cW (vd 1) (bC (c8 nF jG aj (vd 5))) cU)) (DN.de (cW (vd 1) cU (bC (c8 nF jG aj (vd 5)))))))
 (ag (sF (aZ (vd 4)) (gN 8 aT.nd)
 (ag (sN 3 9 aT.nd (aM af))
 (ag (sF (dI U T.range (ae (c8 dF jG aj (az hr eR (ae (vd 0) (ae (jv (DN.de (aM (ae aj (ae aj af)))) (fJ eY lj U T.int (-()) (ae (eD bf cz (dY T.len (ae (vd 4) af)) aj (aF _)) af))) af)))) af)) (gN 10 aT.nd)
 (ag (sS 11 aT.nd (jv (DN.de (aM (ae (DN.de (fD dD dw (vd 4) (DN.de (aM (ae av af))))) (ae (DN.de (aM (ae av af))) af)))) (fJ eY lj U T.int (-()) (ae (eD bf cz (vd 10) aj (aF _)) af))))
 (aq (B8 9 (ae (aw (ae (zE aa6 aa7 qR vb (pv 6) (ae aj af)) (ae (az hr Wm (ae (vd 0) (ae (DN.de (cW (vd 1) (bC aj) (bC aj))) (ae (vd 11) (ae aj af))))) af))) af)))))
 (ag (sN 4 12 aT.nd (aM af))
 (ag (sF (dI U T.range (ae (az hr eR (ae (vd 0) (ae (jv (DN.de (aM (ae aj (ae aj af)))) (fJ eY lj U T.int (-()) (ae (eD bf cz (dY T.len (ae (vd 4) af)) aj (aF _)) af))) af))) af)) (gN 10 aT.nd)
 (ag (sS 13 aT.nd (az hr Wm (ae (vd 0) (ae (DN.de (cW (vd 1) (bC aj) (bC aj))) (ae (DN.de (fD dD dw (vd 4) (DN.de (aM (ae av af))))) (ae aj af))))))
 (aq (B8 12 (ae (aw (ae (zE aa6 aa7 qR vb (pv 7) (ae aj af)) (ae (vd 13) (ae (jv (DN.de (fD dD dw (vd 4) (DN.de (aM (ae av af))))) (az hr eR (ae (vd 0) (ae (c8 dF jG (dY T.len (ae (vd 4) af)) aj) af)))) af)))) af)))))
 (aq (B8 3 (ae (aw (ae (jv (DN.de (aM (ae av (ae av af)))) (az hr eR (ae (vd 0) (ae aj af)))) (ae (vd 8) (ae (i9 T.tuple (ae (vQ (pv 9)) af)) (ae (i9 T.tuple (ae (vQ (pv 12)) af)) af))))) af))))))))
 (ag (cv (aK bf cz (az hr eR (ae (vd 0) (ae aj af))) aj (aF _))
 (ag (sN 4 12 aT.nd (aM af))
 (ag (sF (dI U T.range (ae (az hr eR (ae (vd 0) (ae aj af))) af)) (gN 10 aT.nd)
 (aq (B8 12 (ae (aw (ae (zE aa6 aa7 qR vb (pv 7) (ae aj af)) (ae (az hr Wm (ae (vd 0) (ae (DN.de (cW (vd 1) (bC aj) (bC aj))) (ae (DN.de (aM (ae av af))) (ae aj af))))) (ae av af)))) af))))
 (aq (B8 3 (ae (aw (ae (jv (DN.de (aM (ae av (ae av af)))) (az hr eR (ae (vd 0) (ae aj af)))) (ae (jv (vd 1) aj) (ae (aw af) (ae (i9 T.tuple (ae (vQ (pv 12)) af)) af))))) af)))))
 aO)
 (aq (aV (vQ (pv 3))))))))))),λds R h=>?_]
 .let(ns,ss,rfl,_):=h
  rfl
 .let(ws,most,rfl,(p8,hwn,hwm,hm0,hm1),q):=h;trivial;show#[#[by cbv,by cbv],λr r0 r1=>?_];show#[_,_,U,U,?_];show#[_,U,#[by cbv,by cbv],?_];rw[ji];show f9 (λi:Nat=>D.int (i:Int)) D.str (λi x=>ws[i]?=some x) _ (λi hi k hk=>?_) λns wF=>?_
  .have A1:i < 3:=by have:=abI.mp hi;cbv
   let(x,hx,ex):=qS (f:=D.str) (xs:=ws) (r:=(i:Int)) (by cbv) (by cbv);rw[Int.toNat_natCast] at hx;exact#[_,U,_,U,_,_,_,U,U,ex,hk x _ hx U]
  have hnl:ns.length=(1+r).toNat:=by have:=gD wF;rwa [abw] at this
  have Vl:ns=ws.take ns.length:=by
   have:=vq (v:=id) (ns:=ws) (λi y h=>h) wF;simpa using this
  rw[aaF];trivial;show#[#[by decide,by decide],λr2 r20 r21=>?_];have hsh:∃ m:Int,iD [D.int 0,D.int 20] r2=some (.int m)/\(m=0\/m=20):=by
   have:r2=0\/r2=1:=by cbv
   rcases this with rfl | rfl
   .exact#[0,U,.inl U]
   .exact#[20,U,.inr U]
  let(sh,esh,hsh):=hsh;show#[_,_,_,U,U,esh,?_];let(ML,eML,pML):=zM (f:=D.str) (ws:=ws) (n:=4) () (by cbv);let(AL,eAL,pAL):=zM (f:=D.str) (ws:=ws) (n:=20 - sh) (by cbv) (by cbv);have hsz:=aH;show#[_,U,_,U,_,U,_,U,_,U,_,U,_,_,U,U,?_,?_]
  .rw[<- aab,eML,aaa,pML.length_eq];cbv
  rw[eML];show#[#[U,U],?_];show#[_,U,_,U,_,_,U,U,_,U,_,U,_,U,_,U,_,_,U,U,_,U,_,U,_,_,U,U,?_,?_]
  .rw[<- aab,eAL,aaa,pAL.length_eq];cbv
  rw[eAL];show#[#[U,U],?_];show#[_,U,_,.inl U,?_];have e24:cutD (ws.map D.str) (some 24) (some 27)=((ws.drop 24).take 3).map D.str:=by rw[d8,p8];rfl
  have e27:cutD (ws.map D.str) (some 27) (some 30)=((ws.drop 27).take 3).map D.str:=by rw[d8,p8];rfl
  have mlL:ML.length=45:=by rw[pML.length_eq,p8]
  have alL:AL.length=45:=by rw[pAL.length_eq,p8]
  show cV (λxs s=>∃ (ks:!Kd) (x8 x9 fQ fK d7 cS:Sl),((x8.pl=true/\x9.pl=true/\fQ.pl=true)/\fK.pl=true/\d7.pl=true/\cS.pl=true)/\GA ws ns ML AL ks/\xs=(ns.drop ks.length).map .str/\s=#[[.dat (.bJ d),.dat (.lst (ws.map .str)),.dat (.int most),.own 0,.dat (.lst (ns.map .str)),.dat (.int sh),.own 1,.own 2,x8,x9,fQ,fK,d7,cS],[some (.lst (ks.map sy)),some (.lst ((ML.drop (er ks).length).map .str)),some (.lst ((AL.drop (dC ks).length).map .str)),none,none]]) ?_ ?_ _ _ #[[],.no,.no,.no,.no,.no,.no,#[#[U,U,U],U,U,U],GA.nil,U,U]
  .rintro s ⟨ks,x8,x9,fQ,fK,d7,cS,⟨⟨h8,h9,h10⟩,h11,h12,h13⟩,hI,hx,rfl⟩;have hkl:ks.length=ns.length:=by
    have:=congrArg List.length hx;simp at this;have:=hI.kl;cbv
   trivial;show#[#[by decide,by decide],λr3 r30 r31=>?_];show#[#[U,U,U],_,U,?_];show b9 U (λ_=>?_) λ_=>?_
   rotate_left
   .refine .inr #[_,_,U,U,q ks #[ns,ML,AL,ks,Vl,by cbv,by cbv,pML,pAL,hkl,hI,.inl U]]
   show#[#[U,(show noRef 4 4 [x8,x9,fQ,fK,d7,cS]=true by rw[bu h8,bu h9,bu h10,bu h11];change noRef 4 2 [cS]=true;rw[bu h13];rfl)],?_];trivial;show#[#[by decide,by decide],λr4 r40 r41=>?_];show#[_,U,#[by cbv,by cbv],?_];generalize hn4:r4.toNat=n4;have hn45:n4<=2:=by cbv
   have hAL:(dC ks).length+2 < AL.length:=by have:=hI.ab;cbv
   generalize hna:(dC ks).length=na at hAL;show cV (λxs s=>∃ (as:!d6) (De:Sl),(De.pl=true)/\Fv ws [] (AL.drop na) as/\BJ xs as.length n4/\s=#[[.dat (.bJ d),.dat (.lst (ws.map .str)),.dat (.int most),.own 0,.dat (.lst (ns.map .str)),.dat (.int sh),.own 1,.own 2,x8,x9,De,fK,.own 4,cS],[some (.lst (ks.map sy)),some (.lst ((ML.drop (er ks).length).map .str)),some (.lst ((AL.drop (na+as.length)).map .str)),none,some (.lst (as.map eI))]]) ?_ ?_ _ _ #[[],fQ,h10,Fv.nil,BJ.init _,U]
   .rintro s ⟨as,z10,f10,hA,hR3,rfl⟩;have hR3:=hR3.nil;trivial;show#[U,?_];show#[_,U,?_];show#[_,U,#[by decide,by decide],λr5 r50 r51=>?_];let(sd,esd):=A3 r50 r51;show#[_,_,_,U,U,esd,?_];let(x44,h44,e44):=qS (f:=D.str) (xs:=ws) (r:=3) () (by cbv);show#[_,U,_,_,_,U,U,e44,?_];show .inr #[_,_,U,U,?_];show#[_,.inl U,?_];show#[_,U,_,_,U,U,by rw[aaa];cbv,?_];show .inr #[_,_,U,U,?_];have:=q (ks++[#[sd,x44,[],as]]) #[ns,ML,AL,ks,Vl,by cbv,by cbv,pML,pAL,hkl,hI,.inr #[#[sd,x44,[],as],U,U,h44,by change as.length<=2;cbv,by rw[hna];exact hA]];rw[aai] at this;exact this
   .rintro x xs s N3 ⟨as,z10,f10,hA,hR3,rfl⟩ hN3 hE_3;let(rfl,hj,hR4):=hR3.cons;let(nx,p1,p2,p3,p4,p5):=Kj (L:=AL) (n:=na) (j:=as.length) (by cbv);show#[4,_,U,U,U,?_];show#[2,_,U,U,U,_,U,?_];show#[_,_,_,_,U,U,#[by decide,by decide],p3,p4,?_];rw[p5];show#[_,U,_,U,_,U,_,U,_,U,?_];show#[(ws.drop 27).take 3,ip,by rw[<- e27]<;>rfl,#[by simp;cbv,by decide,by decide],λps hps=>?_];show#[_,U,_,_,U,U,by rw[aaa];cbv,?_];show hN3 _ #[as++[#[nx,ps,"number"]],.dat (.int as.length),U,hA.snoc (a:=#[nx,ps,"number"]) p2 hps (aag.mpr U),by rw[aab];exact hR4,?_];rw[aai,aab]
    rfl
  .rintro x xs s N ⟨ks,x8,x9,fQ,fK,d7,cS,⟨⟨h8,h9,h10⟩,h11,h12,h13⟩,hI,hx,rfl⟩ hN hE_;have hkl:ks.length < ns.length:=by
    have:=congrArg List.length hx;simp at this;cbv
   rw[abe hkl,aao] at hx;injection hx with hx1 hx2;subst hx1;show#[#[U,(show noRef 3 5 [fQ,fK,d7,cS]=true by rw[bu h10,bu h11,bu h12,bu h13];rfl)],?_];trivial;have hwide:∃ m:Int,iD [D.int 3,D.int 5] (if decide (V.int (ns.map D.str).length=V.int 1) then 1 else 0)=some (.int m)/\1<=m/\m<=5:=by
    split
    .exact#[5,U,by decide,by decide]
    .exact#[3,U,by decide,by decide]
   let(mw,emw,hmw0,hmw1):=hwide;show .inr #[_,U,?_];show#[_,_,_,U,U,emw,?_];show#[_,U,#[by cbv,by cbv],λr3 r30 r31=>?_];show#[_,_,U,U,?_];show#[_,U,#[by cbv,by cbv],?_];have hML:(er ks).length+5 < ML.length:=by have:=hI.mb;cbv
   have hAL:(dC ks).length+5 < AL.length:=by have:=hI.ab;cbv
   generalize hnm:(er ks).length=nm at hML;generalize hna:(dC ks).length=na at hAL;generalize hn3:(1+r3).toNat=n3;have hn30:1<=n3:=by cbv
   have hn35:n3<=5:=by cbv
   show cV (λxs s=>∃ (ms:!eU) (fQ fK:Sl),(fQ.pl=true/\fK.pl=true)/\Mf ws ns (ML.drop nm) ms/\BJ xs ms.length n3/\s=#[[.dat (.bJ d),.dat (.lst (ws.map .str)),.dat (.int most),.own 0,.dat (.lst (ns.map .str)),.dat (.int sh),.own 1,.own 2,.dat (.str ns[ks.length]),.own 3,fQ,fK,d7,cS],[some (.lst (ks.map sy)),some (.lst ((ML.drop (nm+ms.length)).map .str)),some (.lst ((AL.drop na).map .str)),some (.lst (ms.map eS)),none]]) ?_ ?_ _ _ #[[],fQ,fK,#[h10,h11],Mf.nil,BJ.init _,U]
   .rintro s ⟨ms,De,y11,⟨g10,g11⟩,hM,hR,rfl⟩;have hR:=hR.nil;show#[#[U,(show noRef 4 2 [De,y11,d7,cS]=true by rw[bu g10,bu g11];change noRef 4 2 [cS]=true;rw[bu h13];rfl)],?_];trivial;have hwide:∃ m:Int,iD [D.int 4,D.int 6] (if decide (V.int (ns.map D.str).length=V.int 1) then 1 else 0)=some (.int m)/\1<=m/\m<=6:=by
     split
     .exact#[6,U,by decide,by decide]
     .exact#[4,U,by decide,by decide]
    let(mw2,emw2,hmw20,hmw21):=hwide;show .inr #[_,U,?_];show#[_,_,_,U,U,emw2,?_];show#[_,U,#[by cbv,by cbv],λr4 r40 r41=>?_];show#[_,U,#[by cbv,by cbv],?_];generalize hn4:r4.toNat=n4;have hn45:n4<=5:=by cbv
    show cV (λxs s=>∃ (as:!d6) (De Jj:Sl),(De.pl=true/\Jj.pl=true)/\Fv ws ns (AL.drop na) as/\BJ xs as.length n4/\s=#[[.dat (.bJ d),.dat (.lst (ws.map .str)),.dat (.int most),.own 0,.dat (.lst (ns.map .str)),.dat (.int sh),.own 1,.own 2,.dat (.str ns[ks.length]),.own 3,De,y11,.own 4,Jj],[some (.lst (ks.map sy)),some (.lst ((ML.drop (nm+ms.length)).map .str)),some (.lst ((AL.drop (na+as.length)).map .str)),some (.lst (ms.map eS)),some (.lst (as.map eI))]]) ?_ ?_ _ _ #[[],De,cS,#[g10,h13],Fv.nil,BJ.init _,U]
    .rintro s ⟨as,z10,z13,⟨f10,f13⟩,hA,hR3,rfl⟩;have hR3:=hR3.nil;trivial;show#[U,?_];show#[_,U,?_];show#[_,U,#[by decide,by decide],λr5 r50 r51=>?_];let(sd,esd):=A3 r50 r51;show#[_,_,_,U,U,esd,?_];show#[_,U,?_];show .inr #[_,_,U,U,?_];show#[_,.inl U,?_];show .inr #[_,_,U,U,?_];show#[_,.inl U,?_];show#[_,U,_,_,U,U,by rw[aaa];cbv,?_];have hkd:GA ws ns ML AL (ks++[#[sd,ns[ks.length],ms,as]]):=hI.snoc #[?_,?_,?_,hM.mp,hM.mf,hA.ap] (aaq hkl) (by rw[hnm];exact hM.nm) (by rw[hna];exact hA.nm);show hN _ #[ks++[#[sd,ns[ks.length],ms,as]],.dat (.str ns[ks.length]),.dat (.lst (ms.map eS)),(fO 4 (.lst (as.map eI)) (fO 3 (.lst (ms.map eS)) z10)),(fO 4 (.lst (as.map eI)) (fO 3 (.lst (ms.map eS)) y11)),.dat (.lst (as.map eI)),(fO 4 (.lst (as.map eI)) (fO 3 (.lst (ms.map eS)) z13)),#[#[U,U,ck (ck f10)],ck (ck g11),U,ck (ck f13)],hkd,?_,?_]
     .rw[aab];exact hx2
     .rw[gL,gS,aab,aab,aaa,aaa,hnm,hna,aai]
      rfl
     .intro e;have e:ms=[]:=e;rw[e] at hR;simp at hR;cbv
     .show ms.length<=5;cbv
     .show as.length<=5;cbv
    .rintro x xs s N3 ⟨as,z10,z13,⟨f10,f13⟩,hA,hR3,rfl⟩ hN3 hE_3;let(rfl,hj,hR4):=hR3.cons;trivial;show#[by simp;cbv,?_];show#[(ws.drop 27).take 3,ns++ip,by rw[<- e27,List.map_append]<;>rfl,#[by simp;cbv,by simp,by simp;cbv],λps hps=>?_];let(nx,p1,p2,p3,p4,p5):=Kj (L:=AL) (n:=na) (j:=as.length) (by cbv);show#[4,_,U,U,U,?_];show#[2,_,U,U,U,_,U,?_];show#[_,_,_,_,U,U,#[by decide,by decide],p3,p4,?_];rw[p5];show#[_,U,?_];show#[_,U,_,_,U,U,by simp;cbv,?_];show#[_,U,_,U,_,.inl U,_,_,U,U,_,U,#[by cbv,by simp;cbv],λr6 r60 r61=>?_];let(rs,hrs,ers):=oq (f:=D.str) (xs:=ns++ip) r60 (by simpa using r61);rw[aai] at ers;show#[_,_,_,U,U,ers,?_];show#[_,U,_,_,U,U,by rw[aaa];cbv,?_];show hN3 _ #[as++[#[nx,ps,rs]],.dat (.int as.length),.dat (cG ps),#[U,U],hA.snoc p2 hps hrs,by rw[aab];exact hR4,?_];rw[aai,aab]
     rfl
   .rintro x xs s N2 ⟨ms,De,y11,⟨g10,g11⟩,hM,hR,rfl⟩ hN2 hE_2;let(rfl,hj,hR2):=hR.cons;trivial;show#[by simp;cbv,?_];show#[_,U,#[U,U,U],?_];show .inr #[_,U,?_];have hSS:∃ SS:!Str,iD [D.lst (ns.map D.str++[D.str "number"]),D.lst [D.str "number"]] (if decide (V.int (ms.length:Nat)=V.int 0) then 1 else 0)=some (.lst (SS.map D.str))/\(∀ x∈SS,x∈ns++ip)/\(ms=[]->SS=ip)/\0 < SS.length/\SS.length<=100:=by
     by_cases h0:ms=[]
     .subst h0;exact#[ip,U,λx hx=>aaB _ hx,λ_=>rfl,by decide,by decide]
     .have pC:¬ (V.int (ms.length:Nat)=V.int 0):=λe=>by
       injection e with e;exact h0 (aaO (by cbv))
      show#[ns++ip,?_,λx hx=>hx,λe=>absurd e h0,by simp,by simp;cbv];rw[decide_eq_false pC,aai]
      rfl
    let(SS,eSS,hSS1,hSS2,hSS3,hSS4):=hSS;show#[_,_,_,U,U,eSS,?_];let(nx,p1,p2,p3,p4,p5):=Kj (L:=ML) (n:=nm) (j:=ms.length) (by cbv);show#[3,_,U,U,U,?_];show#[1,_,U,U,U,_,U,?_];show#[_,_,_,_,U,U,#[by decide,by decide],p3,p4,?_];rw[p5];show#[_,U,_,U,_,U,_,U,_,U,_,U,?_];show#[(ws.drop 24).take 3,SS,by rw[<- e24],#[by simp;cbv,hSS3,hSS4],λps hps=>?_];show#[_,U,_,_,U,U,by rw[aaa];cbv,?_];show hN2 _ #[ms++[#[nx,ps]],.dat (.int ms.length),.dat (.lst (SS.map .str)),#[U,U],hM.snoc p2 (hps.sub hSS1) (λh p hp=>?_),by rw[aab];exact hR2,?_]
    .have:=hps.2.2 p hp;rw[hSS2 h] at this;exact aag.mp this
    .rw[aai,aab]
     rfl
def VE:ace:=λds R=>∃ W:aW,ds=[pU W]/\gf W/\R (.lst ((things W).map sy))
theorem Of(F:Own K mg dR)(T:Txt K mg):ac0 P w K mg base dR 1 VE:=by
 show F.d (nos:=0) sk (λds R h=>?_) λf a8 A outer s H E M hr=>#[_,(aq (aV (DN.de (nC ["_law_one"] [] (aZ (eO (aX (bG hr) (DE.pe (vd 0)) (DE.pe av) (λ_ _=>rfl)))) (λ_ _ _ _=>(gM 0 ["_law_one"])) (λ_ _ _ _=>jb (aK (vD (oE hr)) tD (bO (vd 0) aj) (aw af) (aF _)))
 (λ_ _ _ _=>(vd 0)))))),λds R h=>?_]
 .let(W,rfl,_):=h
  rfl
 .let(W,rfl,bp,q):=h;show#[_,U,?_];show gC #[_,U,_,.inl U,?_];show b5 sy sy (λk=>(not k.bz.isEmpty)) _ (λk hk kk N h1 h2=>?_) ?_
  .refine#[_,U,_,_,_,U,U,U,#[Gk bp hk,U,.inr ()],?_];show#[_,U,?_];cases hm:k.bz with
   | nil=>exact kx U (h2 (by rw[hm];rfl) _ U)
   | cons m r=>exact n5 U #[_,U,h1 (by rw[hm];rfl) _ U]
  .exact q
def Yz(d:AC):ace:=λds R=>∃ (W:aW) (sc:!(Str×Str)) (m:Nat),ds=[.bJ d,pU W,.lst (sc.map pairD),.int m]/\(gf W/\mX W sc/\m<=3/\sc.length+m<=15)/\∀ ns:!Str,ns.length=m->xY W sc ns->R (.tup (ns.map .str))
theorem P6{d l:AC}(eR:C4 P w K mg base aP bD 1 (cR K (bg d l) (jj d)))(F:Own K mg gT)(T:Txt K mg):C4 P w K mg base aP gT 2 (cR K (bg d l) (Yz d)):=by
 show F.d (nos:=0) iI (λds R h=>?_) λf a8 A outer s H E M hr=>#[_,(ag (oK (ud (ou (i:=4) iI.nd U U (ts:=["_law_x"]) (us:=[2]) #[U,U,U,U,U,U] rfl (aZ (eO (aX (bG hr) (DE.pe (vd 1)) (DE.pe av) (λ_ _=>rfl)))) (λ_ _ _ _=>(gM 0 ["_law_x","_law_scope"])) (λ_ _ _ _=>jb (aK nh okIn (vd 0) (DN.de (nC ["_law_pair_here"] [] (aZ (vd 1)) (λ_ _ _ _=>(gM 0 ["_law_pair_here"])) (λ_ _ _ _=>bY)
 (λ_ _ _ _=>(bO (vd 0) aj)))) U))
 (λ_ _ _ _=>(vd 0)))))
 (ag (cv (DW.dt (vA (aK bf cz (az hr eR (ae (vd 0) (ae aj af))) aj (aF _)) (pZ (aK IJ yA (dY T.len (ae (vd 4) af)) (vd 3) (aF _)))))
 (ag (sS 5 iI.nd (az hr eR (ae (vd 0) (ae (c8 dF jG (dY T.len (ae (vd 4) af)) aj) af))))
 (aq (aV (i9 T.tuple (ae (DN.de (cW (DN.de (fD dD dw (DN.de (cW (vd 4) (bC (vd 5)) cU)) (DN.de (cW (vd 4) cU (bC (vd 5)))))) cU (bC (vd 3)))) af)))))
 aO)
 (aq (aV (i9 T.tuple (ae (DN.de (nC ["_law_k"] [1,2] (dI U T.range (ae (vd 3) af)) (λ_ _ _ _=>(gM 0 ["_law_k","_law_world_here","_law_scope"])) (λ_ _ _ _=>bY)
 (λ_ _ _ _=>(jv (eO (aX (bG hr) (DE.pe (vd 1)) (DE.pe av) (λ_ _=>rfl))) (c8 dF jG (dY T.len (ae (vd 2) af)) (vd 0)))))) af)))))),λds R h=>?_]
 .let(W,sc,m,rfl,_):=h
  rfl
 .let(W,sc,m,rfl,(bp,sok,hm,hl),q):=h;show#[_,U,?_];show yj #[_,U,_,.inl U,?_];show b5 D.str D.str (λx=>(not (decide (x∈sc.map (·.1))))) _ (λx hx kk N h1 h2=>?_) ?_
  .refine#[_,U,_,U,_,.inl U,?_];show aQ pairD (λp=>D.str p.1) _ (λp hp k2 hk2=>#[_,U,_,_,_,U,U,U,hk2 _ U]) ?_;rw[aaF,show sc.map (λp=>D.str p.1)=(sc.map (·.1)).map D.str by rw[aan];rfl];show#[_,.inl U,#[U,BG],_,U,?_];show b9 (b':=(not (decide (x∈sc.map (·.1))))) (congrArg (not ·) GY) (λe=>?_) λe=>?_
   .exact#[_,U,h1 e _ U]
   .exact h2 e _ U
  .rw[aaF];have hvars:II (mZ J7 (vB (qB ["_law_k"].length [1,2] (IM (vB (MP 3) AO)) (ve 0) dq (Dt Ml (JJ (MP 1) (NK (D.str "vars"))) (Dt (XJ HAdd.hAdd) (mZ Cu (vB (MP 2) AO)) (MP 0)))) AO)) { nx:=λ_=>R D.bx,rt:=R } #[[.dat (.bJ d),.dat (pU W),.dat (.lst (sc.map pairD)),.dat (.int m),.dat (.lst ((W.heads.filter λx=>(not (decide (x∈sc.map (·.1))))).map D.str)),.no],[]]:=by
    show#[_,U,m,U,#[by cbv,by cbv],?_];rw[Int.toNat_natCast,ji];show f9 (λi:Nat=>D.int (i:Int)) D.str (λk x=>W.vars[sc.length+k]?=some x) _ (λi hi k hk=>?_) λns wF=>?_
    .have A1:=abI.mp hi;have hv:=bp.vl;let(x,hx,ex):=qS (f:=D.str) (xs:=W.vars) (r:=((sc.map pairD).length:Int)+(i:Int)) (by cbv) (by rw[aaa];cbv);show#[_,U,?_];show Bl #[_,U,?_];show#[_,U,_,.inl U,_,U,_,_,U,U,?_];show#[_,_,_,U,U,ex,hk x _ ?_ U];rw[aaa] at hx
     rwa [show ((sc.length:Int)+(i:Int)).toNat=sc.length+i by cbv] at hx
    .refine#[_,.inl U,?_];exact q ns (by have:=gD wF;rwa [abw] at this) (xY.vars bp sok wF)
   show#[_,U,_,U,#[by decide,by decide],λr r0 r1=>?_];show#[#[U,U,U],_,U,?_];show b9 U (λ_=>?_) λ_=>?_
   rotate_left
   .exact hvars
   show#[_,U,_,.inl U,_,U,_,_,U,U,_,U,?_];show b9 U (λhge=>?_) λ_=>?_
   rotate_left
   .exact hvars
   generalize hsm:(W.heads.filter λx=>(not (decide (x∈sc.map (·.1)))))=sm at hge;have hsl:sm.length<=6:=by
    rw[<- hsm,<- bp.hl];exact aa5 _ _
   have hge:m<=sm.length:=by simpa using hge
   have hsz:=aH;show#[_,U,_,U,_,.inl U,_,_,U,U,_,U,#[by cbv,by simp;cbv],λa a0 a1=>?_];let(al,eal,pal):=zM (f:=D.str) (ws:=sm) (n:=a) a0 (by simp at a1;cbv);show#[_,U,_,U,_,U,_,U,_,U,_,U,_,U,_,U,_,_,U,U,?_,?_]
   .rw[<- aab,eal,aaa,pal.length_eq];cbv
   rw[eal];show#[_,U,_,U,_,U,_,.inl U,?_];have hal:al.length=sm.length:=pal.length_eq;have e9:cutD (al.map D.str) none (some (m:Int))=(al.take m).map D.str:=by
    rw[d8]
    congr 1
    have e1:HT.cc al.length 0 none=0:=rfl;have e2:HT.cc al.length al.length (some (m:Int))=m:=by
     unfold HT.cc;simp only[]
     repeat' split
     all_goals cbv
    rw[e1,e2,List.drop_zero,Nat.sub_zero]
   change R (.tup (cutD (al.map D.str) none (some (m:Int))));rw[e9];exact q _ (by rw[aa8];cbv) (xY.heads bp (by rw[hsm];exact pal) m)
def Ys(d:AC):Nat->ace
 | 0=>λ_ _=>False
 | n+1=>λds R=>∃ (W:aW) (sc:!(Str×Str)) (k:Str),ds=[.bJ d,pU W,.lst (sc.map pairD),.str k]/\(gf W/\mX W sc/\lP W k/\(n=0->k="number"))/\∀ t:Tm,Ty W sc k t->t.lf (n+1) k->R (toD t)
theorem JH{d l:AC}(eR:C4 P w K mg base aP bD 1 (cR K (bg d l) (jj d)))(Sd:Own K mg iR)(T:Txt K mg):∀ n,C4 P w K mg base aP iR (n+1) (cR K (bg d l) (Ys d n))
 | 0=>Sd.c λ_ _ _=>rQ
 | n+1=>by
  have Vo:=JH eR Sd T n;show Sd.c λfLe fdLe F_=>?_;show Qz (nos:=0) F_ kb (λds R h=>?_) λa8 A outer s H E M hr=>#[_,(ag (oK (ud (ou (i:=4) kb.nd U U (ts:=["_law_x","_law_other"]) (us:=[3]) #[U,U,U,U,U,U] rfl (aZ (vd 2)) (λ_ _ _ _=>(bo (m:=2) U (au (gM 0 ["_law_x","_law_other","_law_kind"]) (au (gM 1 ["_law_x","_law_other","_law_kind"]) bj)))) (λ_ _ _ _=>jb (aK bf cz (vd 1) (vd 2) (aF _)))
 (λ_ _ _ _=>(vd 0)))))
 (ag (cv (DW.dt (vA (aK (vD (oE hr)) tD (vd 4) (DN.de (aM af)) (aF _)) (pZ (aK sG yA (az hr eR (ae (vd 0) (ae aj af))) aj (aF _)))))
 (aq (aV (aw (ae av (ae (jv (vd 4) (cK (oj U) IP U T.max PyProof.Rows.boot_max (ae (az hr eR (ae (vd 0) (ae (dY T.len (ae (vd 4) af)) af))) (ae (az hr eR (ae (vd 0) (ae (dY T.len (ae (vd 4) af)) af))) af)))) af)))))
 aO)
 (ag (cv (aK bf cz (vd 3) av (aF _))
 (aq (aV (aw (ae av (ae (az hr eR (ae (vd 0) (ae (jv (DN.de (aM (ae aj (ae aj (ae aj af))))) (az hr eR (ae (vd 0) (ae aj af)))) af))) af)))))
 aO)
 (ag (sS 5 kb.nd (jv (DN.de (nC ["_law_one"] [3] (aZ (eO (aX (bG hr) (DE.pe (vd 1)) (DE.pe av) (λ_ _=>rfl)))) (λ_ _ _ _=>(gM 0 ["_law_one","_law_kind"])) (λ_ _ _ _=>jb (aK bf cz (bO (vd 0) aj) (vd 1) (aF _)))
 (λ_ _ _ _=>(bO (bO (vd 0) aj) aj)))) aj))
 (aq (aV (aw (ae av (ae (bO (vd 5) aj) (ae (i9 T.tuple (ae (DN.de (nC ["_law_field"] [0,1,2] (aZ (bO (vd 5) aj)) (λ_ _ _ _=>(gM 0 ["_law_field","_law_deal_here","_law_world_here","_law_scope"])) (λ_ _ _ _=>bY)
 (λ_ _ _ _=>(az hr Vo (ae (vd 1) (ae (vd 2) (ae (vd 3) (ae av af)))))))) af)) af)))))))))),λds R h=>?_]
  .let(W,sc,k,rfl,_):=h
   rfl
  .let(W,sc,k,rfl,(bp,sok,hk,hk0),q):=h;show#[_,U,_,.inl U,?_];show b5 pairD (λp=>D.str p.1) (λp=>decide (p.2=k)) _ (λp hp kk N h1 h2=>?_) ?_
   .refine#[_,U,U,_,_,U,_,_,U,U,?_];show#[_,U,_,U,#[U,U,U],_,U,?_];exact b9 (b':=decide (p.2=k)) iz (λe=>#[_,U,h1 e _ U]) λe=>h2 e _ U
   .rw[aaF];show#[_,U,#[jK λp hp=>?_,U,.inr ()],_,U,?_]
    .exact (sok.nm bp p ((aa3.mp hp).1)).ok
    refine' jn ?jE λjE=>?main
    case main =>
     by_cases how:sc.filter (λp=>decide (p.2=k))=[]
     .exact kx (by rw[how];rfl) jE
     have hol:0 < (sc.filter λp=>decide (p.2=k)).length:=List.length_pos_iff.mpr how;have hol2:(sc.filter λp=>decide (p.2=k)).length<=15:=aap (aa5 _ _) sok.len;show n5 ?_ ?_
     .let(p0,r0,e):=abR how;rw[e]
      rfl
     show#[_,U,_,U,#[by decide,by decide],λr r0 r1=>?_];show#[_,_,U,U,_,U,?_];show b9 U (λ_=>?_) λ_=>jE;show#[_,U,?_];show#[_,U,_,U,_,.inl U,_,U,#[by rw[aaa];cbv,by rw[aaa];cbv],λa a0 a1=>?_];show#[_,U,_,U,_,.inl U,_,U,#[by rw[aaa];cbv,by rw[aaa];cbv],λb b0 b1=>?_];show#[_,_,U,?_];rw[aaa] at a1 b1;let(p,hp,ep):=oq (f:=λp:Str×Str=>D.str p.1) (xs:=sc.filter λp=>decide (p.2=k)) (r:=if a < b then b else a) (by split<;>cbv) (by split<;>cbv);show#[_,_,_,U,U,ep,?_];let(hp1,hp2):=aa3.mp hp;have hp2:p.2=k:=by simpa using hp2
     exact q (.node (.nm p.1) []) (Ty.mk (.nm (hp2▸hp1)) ek.nil) z7
    case jE =>
     show#[_,U,#[U,U,U],_,U,?_];show b9 (b':=decide (k="number")) iz (λe=>?_) λe=>?_
     .have e:k="number":=by simpa using e
      show#[_,U,_,U,_,U,#[by decide,by decide],λr r0 r1=>?_];have h3:∃ m:Int,iD [D.int 3,D.int 10,D.int 1000000] r=some (.int m)/\1<=m/\m<=1000000:=by
       have:r=0\/r=1\/r=2:=by cbv
       rcases this with rfl | rfl | rfl
       .exact#[3,U,by decide,by decide]
       .exact#[10,U,by decide,by decide]
       .exact#[1000000,U,by decide,by decide]
      let(m,em,hm0,hm1):=h3;show#[_,_,_,U,U,em,?_];show#[_,U,#[by cbv,by cbv],λi i0 i1=>?_];exact q (.node (.num i) []) (e▸Ty.mk (.num i0 (by cbv)) ek.nil) z7
     .have e:k≠"number":=by simpa using e
      let(kd,hkd,JR,hnm,nn,AX):=kinds_of bp hk e;let(m0,mr,hms):=abR JR;show#[_,U,?_];show gC #[_,U,_,.inl U,?_];show b5 sy (λk=>(k.bz.map eS).headD .bx) (λx=>decide (x.name=k)) _ (λx hx kk N h1 h2=>?_) ?_
      .refine#[_,U,_,_,_,U,U,U,_,U,#[U,U,U],_,U,?_];show b9 (b':=decide (x.name=k)) iz (λe=>?_) λe=>h2 e _ U;have ex:x=kd:=A4 bp hx hkd (by rw[hnm];simpa using e);subst ex;show#[_,U,_,_,_,U,U,U,?_];have h1':=h1 e;rw[hms] at h1' ⊢;exact#[_,_,_,U,U,cC,h1' _ U]
      rw[AX,List.replicate_succ,aao,aaF,hms];show#[_,_,_,U,U,cC,?_];obtain⟨n',rfl⟩:∃ n',n=n'+1:=#[n - 1,by have:=mt hk0 e;cbv];show#[_,U,_,_,_,U,U,U,?_];show#[_,U,_,_,_,U,U,U,_,.inr U,?_];show f9 pairD toD (λp t=>Ty W sc "number" t/\t.lf (n'+1) "number") _ (λp hp k hk=>?_) λts hts=>?_
      .exact#[_,U,_,U,_,U,W,sc,"number",U,#[bp,sok,.inl U,λ_=>rfl],λt ht hd=>hk t _ #[ht,hd] rfl]
      .refine#[_,.inl U,?_];have hm0:m0∈kd.bz:=by rw[hms];exact aad
       have:=q (.node (.mk m0.name) ts) (hnm▸Ty.mk (.mk hkd hm0) ?_) ?_
       .rw[toD,toDs_map] at this;exact this
       .have hf:=bp.ft kd hkd m0 mr hms;show yX hts λp hp t ht=>?_;rw[hf p hp];exact ht.1
       .refine HN e (by have:=gD hts;have:=(bp.mo kd hkd m0 hm0).2.1;cbv) λt ht=>?_;let(_,_,h):=gu hts t ht;exact h.2
def Vc(d:AC):Nat->ace
 | 0=>λ_ _=>False
 | n+1=>λds R=>∃ (W:aW) (sc:!(Str×Str)) (k:Str) (room:Int),ds=[.bJ d,pU W,.lst (sc.map pairD),.str k,.int room]/\(gf W/\mX W sc/\lP W k/\0<=room/\room<=n+1/\room<=17)/\∀ t:Tm,Ty W sc k t->t.rq (n+2) room.toNat->R (toD t)
def Zb(d:AC):Nat->ace
 | 0=>λ_ _=>False
 | n+1=>λds R=>∃ (W:aW) (sc:!(Str×Str)) (ks:!Str) (room:Int),ds=[.bJ d,pU W,.lst (sc.map pairD),.lst (ks.map .str),.int room]/\(gf W/\mX W sc/\(∀ k∈ks,lP W k)/\ks.length<=100/\0<=room/\room<=n+1/\room<=17)/\∀ ts:!Tm,ek W sc (ks.map λk=>([],k)) ts->(∀ t∈ts,t.rq (n+2) (room.toNat / max 1 ts.length))->R (.tup (ts.map toD))
theorem Jx{d l:AC}{n lv:Nat}(Cc:C4 P w K mg base aP eZ lv (cR K (bg d l) (Vc d n)))(F:Own K mg ib)(T:Txt K mg):C4 P w K mg base aP ib (lv+1) (cR K (bg d l) (Zb d n)):=by
 show F.c λf fd F=>?_;cases n with
 | zero=>exact rQ
 | succ n =>
 show Qz (nos:=0) F yh (λds R h=>?_) λa8 A outer s H E M hr=>#[_,(aq (aV (i9 T.tuple (ae (DN.de (nC ["_law_kind"] [0,1,2,4,3] (aZ (vd 3)) (λ_ _ _ _=>(gM 0 ["_law_kind","_law_deal_here","_law_world_here","_law_scope","_law_room","_law_some"])) (λ_ _ _ _=>bY)
 (λ_ _ _ _=>(az hr Cc (ae (vd 1) (ae (vd 2) (ae (vd 3) (ae (vd 0) (ae (c8 fq F0 (vd 4) (cK (oj U) IP U T.max PyProof.Rows.boot_max (ae aj (ae (dY T.len (ae (vd 5) af)) af)))) af))))))))) af)))),λds R h=>?_]
 .let(W,sc,ks,room,rfl,_):=h
  rfl
 .let(W,sc,ks,room,rfl,(bp,sok,wg,hl,h0,h1,h17),q):=h;have em:(if ((ks.map D.str).length:Int) > 1 then ((ks.map D.str).length:Int) else 1)=((max 1 ks.length:Nat):Int):=by
   rw[aaa];split<;>cbv
  have hmx:1<=max 1 ks.length/\max 1 ks.length<=100:=by cbv
  generalize hM:max 1 ks.length=m at em hmx;have hq:(room / (m:Int)).toNat=room.toNat / m:=by
   let(r,rfl):=Int.eq_ofNat_of_zero_le h0
   rfl
  have hle:=Int.ediv_le_self (m:Int) h0;show#[_,U,_,.inl U,?_];show f9 D.str toD (λk t=>Ty W sc k t/\t.rq (n+2) (room.toNat / m)) _ (λk hk kk hkk=>?_) λts hts=>?_
  .refine#[_,U,_,U,_,U,_,U,_,U,?_];show#[_,U,_,.inl U,_,_,U,?_];rw[em];show#[_,_,U,U,#[by cbv,by cbv],?_];show#[W,sc,k,room / m,U,#[bp,sok,wg k hk,Int.ediv_nonneg h0 (by cbv),by cbv,by cbv],λt ht hd=>hkk t _ #[ht,by rw[<- hq];exact hd] rfl]
  .refine#[_,.inl U,?_];show q ts (yX hts λk _ t ht=>ht.1) λt ht=>?_;rw[show ts.length=ks.length by have:=gD hts;cbv,hM];let(_,_,h):=gu hts t ht;exact h.2
def YB(d:AC)(n:Nat):ace:=λds R=>∃ (W:aW) (sc:!(Str×Str)) (k:Str) (room:Int),ds=[.bJ d,pU W,.lst (sc.map pairD),.str k,.int room]/\(gf W/\mX W sc/\lP W k/\sc.length<=12/\2<=room/\room<=n+1/\room<=17)/\R .bx/\∀ t:Tm,Ty W sc k t->t.rq (n+2) room.toNat->R (toD t)
def CM(c:Kd×d6):D:=.tup [.str c.1.name,.str c.2.name,cG c.2.ps]
theorem JP{d l:AC}(eR:C4 P w K mg base aP bD 1 (cR K (bg d l) (jj d))){n lv:Nat}(LW:ac0 P w K mg base dR 1 VE)(RT:C4 P w K mg base aP ib lv (cR K (bg d l) (Zb d n)))(F:Own K mg ix)(T:Txt K mg)(YD:1<=lv):C4 P w K mg base aP ix (lv+1) (cR K (bg d l) (YB d n)):=by
 show F.d (nos:=1) cF (λds R h=>?_) λf a8 A outer s H E M hr=>#[_,(ag (sN 0 5 cF.nd (aM af))
 (ag (sF (aZ (bE hr LW (ae (vd 1) af))) (bo (m:=4) U (au (gN 6 cF.nd) (au (hJ (dS (i:=7) cF.nd U (Or.inr U)) ()) (au (gN 8 cF.nd) (au (gN 9 cF.nd) bj)))))
 (aq (aR (zE abi abj ir xi (pv 5) (ae (DN.de (nC ["_law_f","_law_params","_law_result"] [7,3] (aZ (vd 9)) (λ_ _ _ _=>(bo (m:=3) U (au (gM 0 ["_law_f","_law_params","_law_result","_law_kk","_law_kind"]) (au (gM 1 ["_law_f","_law_params","_law_result","_law_kk","_law_kind"]) (au (gM 2 ["_law_f","_law_params","_law_result","_law_kk","_law_kind"]) bj))))) (λ_ _ _ _=>jb (aK bf cz (vd 2) (vd 4) (aF _)))
 (λ_ _ _ _=>(aw (ae (vd 3) (ae (vd 0) (ae (vd 1) af))))))) af)))))
 (ag (cv (Nc (zy (oE hr)) (pv 5) (DN.de (aM af)) (aF _))
 (aq (aV mW))
 aO)
 (ag (fP (n:=1000) (TM (Es AJ (pv 5) (DE.pe (az hr eR (ae (vd 0) (ae (MC (jL fT U T.len abK (dX (pv 5) gB))) af)))) (λ_ _=>rfl))) (bo (m:=3) U (au (hJ (dS (i:=7) cF.nd U (Or.inr U)) ()) (au (gN 10 cF.nd) (au (gN 11 cF.nd) bj)))))
 (ag (sS 12 cF.nd (az hr RT (ae (vd 0) (ae (vd 1) (ae (vd 2) (ae (DN.de (fD dD dw (DN.de (aM (ae (vd 7) af))) (DN.de (nC ["_law_param"] [] (aZ (vd 11)) (λ_ _ _ _=>(gM 0 ["_law_param"])) (λ_ _ _ _=>bY)
 (λ_ _ _ _=>(bO (vd 0) aj)))))) (ae (c8 nF jG (vd 4) aj) af)))))))
 (aq (aV (aw (ae av (ae (bO (vd 12) aj) (ae (vd 10) (ae (gy (vd 12) (bC aj) cU) af)))))))))))),λds R h=>?_]
 .let(W,sc,ks,room,rfl,_):=h
  rfl
 .let(W,sc,k,room,rfl,(bp,sok,hk,hsl,h0,h1,h17),qn,q):=h;obtain⟨n',rfl⟩:∃ n',n=n'+1:=#[n - 1,by cbv];have hsz:=aH;show#[#[U,U],?_];show#[_,U,W,U,bp,_,.inl U,?_];show cV (λxs s=>∃ (ks:!Kd) (cs:!(Kd×d6)) (x6 x7 x8 x9 fQ fK d7:Sl),xs=ks.map sy/\(∀ c∈ks,c∈things W)/\(∀ c∈cs,c.1∈things W/\c.2∈c.1.bN/\c.2.res=k)/\cs.length+5 * ks.length<=25/\s=#[[.dat (.bJ d),.dat (pU W),.dat (.lst (sc.map pairD)),.dat (.str k),.dat (.int room),.own 0,x6,x7,x8,x9,fQ,fK,d7],[some (.lst (cs.map CM))]]) ?_ ?_ _ _ #[things W,[],.no,.no,.no,.no,.no,.no,.no,U,λ_ h=>h,λ_ h=>(nomatch h),?_,U]
  .rintro s ⟨ks,cs,x6,x7,x8,x9,fQ,fK,d7,hx,_,hcs,hcl,rfl⟩;show#[0,_,U,U,_,U,#[jK λc hc=>?_,U,.inr ()],_,U,?_]
   .let(c1,c2,c3):=hcs c hc;have c1:=(jd.mp c1).1;let(a1,a2,a3):=bp.ao c.1 c1 c.2 c2;change (Fk.strOk c.1.name&&(Fk.strOk c.2.name&&(iP (cG c.2.ps)&&true)))=true;rw[(bp.kw c.1 c1).1.ok,a1.ok,Ad bp (λx hx=>bp.nm x (aaH _ (abN hx))) a2]
    rfl
   by_cases hcn:cs=[]
   .exact n5 (by rw[hcn];rfl) qn
   show kx ?_ ?_
   .let(c0,r0,e):=abR hcn;rw[e]
    rfl
   have hc0:0 < cs.length:=List.length_pos_iff.mpr hcn;show#[0,U,_,U,0,_,U,U,_,U,#[by rw[aaa];omega,by rw[aaa];omega],λr r0 r1=>?_];let(c,hc,ec):=oq (f:=CM) (xs:=cs) r0 (by simpa using r1);show#[_,_,_,U,U,ec,?_];let(c1,c2,c3):=hcs c hc;let(c1,c4):=jd.mp c1;let(a1,a2,a3):=bp.ao c.1 c1 c.2 c2;show#[_,U,U,_,_,U,_,_,U,_,_,U,U,?_];show#[_,U,_,U,_,U,_,U,_,U,_,.inr U,?_];show aQ pairD (λp=>D.str p.2) _ (λp hp k2 hk2=>#[_,U,_,_,_,U,U,U,hk2 _ U]) ?_;have hps:=a2.1;show#[_,_,U,U,by simp;cbv,?_];show#[_,U,_,_,U,U,?_];show#[W,sc,c.1.name::c.2.ps.map (·.2),room - 1,?_,#[bp,sok,λx hx=>?_,by simp;cbv,by cbv,by cbv,by cbv],λts hts hd=>?_]
   .rw[aao,aan]
    rfl
   .rcases aaj.mp hx with rfl | hx
    .exact .inr #[c.1,c1,c4,U]
    .let(p,hp,rfl):=aak.mp hx;exact a2.2.2 p hp
   have hl:=hts.len;let(t0,tr,rfl):=Ig (l:=ts) (by rw[hl];simp);show#[_,U,_,_,_,U,U,cC,?_];show#[_,U,_,U,_,U,_,U,?_];change R (.tup [.str "ask",toD t0,.str c.2.name,.tup (cutD (toD t0::tr.map toD) (some 1) none)]);rw[tM];have:=q (.node (.ask c.2.name) (t0::tr)) (c3▸Ty.mk (.ask c1 c4 c2) (by rw[List.map_cons,List.map_map] at hts;exact hts)) (nj (q:=(room.toNat - 1) / max 1 (t0::tr).length) (λt ht=>by have:=hd t ht;rw[show (room - 1).toNat=room.toNat - 1 by cbv] at this;exact this) (yP (by cbv) (by cbv) (by rw[hl];simp;cbv)));rw[toD,toDs_map] at this;exact this
  .rintro x xs s N ⟨ks,cs,x6,x7,x8,x9,fQ,fK,d7,hx,wg,hcs,hcl,rfl⟩ hN hE_;cases ks with
   | nil=>cases hx
   | cons kd ks =>
   injection hx with e1 e2;subst e1 e2;have hkd:=jd.mp (wg kd aad);show#[_,U,U,_,_,U,_,_,U,_,_,U,_,_,U,U,?_];show#[0,_,U,U,U,?_];show#[_,U,_,.inr U,?_];show b5 eI (λa=>CM (kd,a)) (λa=>decide (a.res=k)) _ (λa ha kk N2 g1 g2=>?_) ?_
   .refine#[_,U,U,_,_,U,_,_,U,_,_,U,U,?_];show#[_,U,_,U,#[U,U,U],_,U,?_];exact b9 (b':=decide (a.res=k)) iz (λe=>#[_,U,_,U,_,U,g1 e _ U]) λe=>g2 e _ U
   have hal:(kd.bN.filter λa=>decide (a.res=k)).length<=5:=aap (aa5 _ _) (bp.kw kd hkd.1).2.2;rw[aaF];have hcl2:cs.length+5 * (ks.length+1)<=25:=hcl;show#[_,U,_,_,U,U,by rw[aaa,aaa];cbv,?_];show hN _ #[ks,cs++(kd.bN.filter λa=>decide (a.res=k)).map λa=>(kd,a),.dat (.str (bc kd.asked)),.dat (.str kd.name),.dat (.tup (kd.bz.map eS)),.dat (.tup (kd.bN.map eI)),fQ,fK,d7,U,λc hc=>wg c (aac _ hc),λc hc=>?_,by rw[aab,aaa];cbv,?_]
   .rcases aaw.mp hc with hc | hc
    .exact hcs c hc
    .let(a,ha,rfl):=aak.mp hc;let(ha1,ha2):=aa3.mp ha;exact#[wg kd List.mem_cons_self,ha1,by simpa using ha2]
   .rw[aai,aan]
    rfl
  .have h2:(things W).length<=W.kinds.length:=aa5 _ _;have:=bp.kl;simp;cbv
theorem Il{r:Int}(h0:0<=r)(h1:r < 3):∃ ch,iD ("+-*":Str).cps.toList r=some ch/\(#[#v[ch]]:Str)∈(["+","-","*"]:!Str):=by
 have:r=0\/r=1\/r=2:=by cbv
 rcases this with rfl | rfl | rfl
 .exact#[43,U,by decide+kernel]
 .exact#[45,U,by decide+kernel]
 .exact#[42,U,by decide+kernel]
theorem Jv{d l:AC}(eR:C4 P w K mg base aP bD 1 (cR K (bg d l) (jj d)))(LW:ac0 P w K mg base dR 1 VE)(YX:C4 P w K mg base aP gT 2 (cR K (bg d l) (Yz d)))(Vo:C4 P w K mg base aP iR 3 (cR K (bg d l) (Ys d 2)))(UL:Own K mg ib)(QS:Own K mg ix)(Qg:Own K mg eZ)(T:Txt K mg):∀ n,C4 P w K mg base aP eZ (3 * n+2) (cR K (bg d l) (Vc d n))
 | 0=>Qg.c λ_ _ _=>rQ
 | n+1=>by
  have Cc:=Jv eR LW YX Vo UL QS Qg T n;have RT:=Jx Cc UL T;have XX:=JP eR LW RT QS T (by cbv);show Qg.c λfTe fdTe F_=>?_;show Qz (nos:=0) F_ aS (λds R h=>?_) λa8 A outer s H E M hr=>#[_,(ag (sS 5 aS.nd (az hr eR (ae (vd 0) (ae aj af))))
 (ag (sS 6 aS.nd mW)
 (ag (cv (DW.dt (k7 (aK Cs yA (vd 4) aj (aF _)) (k7 (aK bf cz (vd 5) aj (aF _)) (nv (aK sG yA (dY T.len (ae (vd 2) af)) aj (aF _))))))
 (aq (aV (az hr Vo (ae (vd 0) (ae (vd 1) (ae (vd 2) (ae (vd 3) af)))))))
 aO)
 (ag (cv (aK Cs yA (vd 5) aj (aF _))
 (aq (sS 6 aS.nd (az hr XX (ae (vd 0) (ae (vd 1) (ae (vd 2) (ae (vd 3) (ae (vd 4) af))))))))
 (aq (cv (aK bf cz (vd 5) aj (aF _))
 (ag (sS 7 aS.nd (az hr Cc (ae (vd 0) (ae (vd 1) (ae (vd 2) (ae av (ae (c8 fq F0 (vd 4) aj) af)))))))
 (ag (sS 8 aS.nd (az hr Cc (ae (vd 0) (ae (vd 1) (ae (vd 2) (ae (vd 3) (ae (c8 fq F0 (vd 4) aj) af)))))))
 (aq (sS 6 aS.nd (aw (ae av (ae (vd 7) (ae (vd 8) (ae (az hr Cc (ae (vd 0) (ae (vd 1) (ae (vd 2) (ae (vd 3) (ae (c8 fq F0 (vd 4) aj) af)))))) af)))))))))
 (aq (cv (aK bf cz (vd 5) aj (aF _))
 (ag (sS 9 aS.nd (DN.de (fD dD dw (DN.de (nC ["_law_one"] [] (aZ (bE hr LW (ae (vd 1) af))) (λ_ _ _ _=>(gM 0 ["_law_one"])) (λ_ _ _ _=>bY)
 (λ_ _ _ _=>(bO (vd 0) aj)))) (DN.de (aM (ae av af))))))
 (ag (sS 10 aS.nd (jv (vd 9) (az hr eR (ae (vd 0) (ae (dY T.len (ae (vd 9) af)) af)))))
 (ag (sS 11 aS.nd (bO (az hr YX (ae (vd 0) (ae (vd 1) (ae (vd 2) (ae aj af))))) aj))
 (ag (sS 7 aS.nd (az hr Cc (ae (vd 0) (ae (vd 1) (ae (vd 2) (ae (vd 10) (ae (c8 fq F0 (vd 4) aj) af)))))))
 (aq (sS 6 aS.nd (aw (ae av (ae (vd 11) (ae (vd 7) (ae (az hr Cc (ae (vd 0) (ae (vd 1) (ae (DN.de (fD dD dw (vd 2) (DN.de (aM (ae (aw (ae (vd 11) (ae (vd 10) af))) af))))) (ae (vd 3) (ae (c8 fq F0 (vd 4) aj) af)))))) af)))))))))))
 aO)))))
 (ag (cv (aK Am C5 (vd 6) mW (aF _))
 (aq (aV (vd 6)))
 aO)
 (ag (cv (aK bf cz (vd 3) av (aF _))
 (ag (fP (n:=1000) (az hr RT (ae (vd 0) (ae (vd 1) (ae (vd 2) (ae (DN.de (aM (ae av (ae av af)))) (ae (c8 nF jG (vd 4) aj) af)))))) (bo (m:=2) U (au (gN 7 aS.nd) (au (gN 8 aS.nd) bj))))
 (aq (aV (aw (ae av (ae (EH yI C8 av (az hr eR (ae (vd 0) (ae aj af))) (λ_ _=>rfl)) (ae (vd 7) (ae (vd 8) af))))))))
 aO)
 (ag (sS 12 aS.nd (jv (DN.de (nC ["_law_one"] [3] (aZ (eO (aX (bG hr) (DE.pe (vd 1)) (DE.pe av) (λ_ _=>rfl)))) (λ_ _ _ _=>(gM 0 ["_law_one","_law_kind"])) (λ_ _ _ _=>jb (aK bf cz (bO (vd 0) aj) (vd 1) (aF _)))
 (λ_ _ _ _=>(bO (vd 0) aj)))) aj))
 (ag (fP (n:=1000) (bO (vd 12) (az hr eR (ae (vd 0) (ae (dY T.len (ae (vd 12) af)) af)))) (bo (m:=2) U (au (gN 13 aS.nd) (au (gN 14 aS.nd) bj))))
 (aq (aV (aw (ae av (ae (vd 13) (ae (az hr RT (ae (vd 0) (ae (vd 1) (ae (vd 2) (ae (DN.de (nC ["_law_field"] [] (aZ (vd 14)) (λ_ _ _ _=>(gM 0 ["_law_field"])) (λ_ _ _ _=>bY)
 (λ_ _ _ _=>(bO (vd 0) aj)))) (ae (c8 nF jG (vd 4) aj) af)))))) af)))))))))))))),λds R h=>?_]
  .let(W,sc,k,room,rfl,_):=h
   rfl
  .let(W,sc,k,room,rfl,(bp,sok,hk,h0,h1,h17),q):=h;show#[_,U,_,U,#[by decide,by decide],λfm f0 f1=>?_];refine' jn ?hleaf λhleaf=>?main
   case main =>
    show#[_,U,_,_,U,U,_,U,?_];show b9 U (λ_=>rM hleaf) λc1=>?_;show#[_,U,#[U,U,U],_,U,?_];show b9 U (λ_=>rM hleaf) λc2=>?_;show#[_,U,_,.inl U,_,_,U,U,_,U,?_];show b9 U (λ_=>hleaf) λc3=>?_;have c1:¬ room < 2:=by simpa using c1
    have c3:¬ (12:Int) < sc.length:=by simpa using c3
    obtain⟨n',rfl⟩:∃ n',n=n'+1:=#[n - 1,by cbv];refine' jn ?hnone λhnone=>?main2
    case main2 =>
     show#[_,U,_,_,U,U,_,U,?_];show b9 U (λ_=>?_) λ_=>?_
     .refine#[_,U,_,U,_,U,_,U,_,U,W,sc,k,room,U,#[bp,sok,hk,by cbv,by cbv,by cbv,by cbv],hnone,λt ht hd=>?_];exact#[_,U,U,_,U,n5 (QR t) #[_,U,q t ht hd]]
     show#[_,U,#[U,U,U],_,U,?_];show b9 U (λ_=>?_) λ_=>?_
     .refine#[_,U,_,U,_,U,_,U,_,_,U,U,#[by decide,by decide],W,sc,"number",room / 3,U,#[bp,sok,.inl U,by cbv,by cbv,by cbv],λta hta hda=>?_];show#[_,U,_,U,_,U,_,U,_,U,_,_,U,U,#[by decide,by decide],W,sc,k,room / 3,U,#[bp,sok,hk,by cbv,by cbv,by cbv],λtb htb jf=>?_];show#[_,U,_,U,?_];show#[_,U,_,U,_,U,_,U,_,U,_,_,U,U,#[by decide,by decide],W,sc,k,room / 3,U,#[bp,sok,hk,by cbv,by cbv,by cbv],λtc htc hdc=>?_];show#[_,U,U,_,U,n5 U #[_,U,?_]];exact q (.node .nq [ta,tb,tc]) (Ty.mk .nq (.fj hta (.fj htb (.fj htc .nil)))) (nj (q:=room.toNat / 3) (λt ht=>by
       rw[show (room / 3).toNat=room.toNat / 3 by cbv] at hda jf hdc;simp at ht;rcases ht with rfl | rfl | rfl<;>assumption) (MK (by cbv) (by cbv)))
     show#[_,U,#[U,U,U],_,U,?_];show b9 U (λ_=>?_) λ_=>hnone;show#[_,U,W,U,bp,_,.inl U,?_];show aQ sy (λk=>D.str k.name) _ (λk hk k2 hk2=>#[_,U,_,_,_,U,U,U,hk2 _ U]) ?_;have hsz:=aH;have htl:(things W).length<=5:=aap (aa5 _ _) bp.kl;have enm:(things W).map (λk=>D.str k.name)++[D.str "number"]=((things W).map Kd.name++ip).map D.str:=by
      rw[aai,aan]
      rfl
     rw[aaF];show#[_,_,U,U,by simp;cbv,?_];rw[enm];show#[_,U,_,U,_,U,_,.inl U,_,U,#[by simp,by simp;cbv],λr2 r20 r21=>?_];let(ot,hot,eot):=oq (f:=D.str) (xs:=(things W).map Kd.name++ip) r20 (by simpa using r21);show#[_,_,_,U,U,eot,?_];have bM:lP W ot:=by
      rcases aaw.mp hot with h | h
      .let(kd,hkd,rfl):=aak.mp h;let(a,b):=jd.mp hkd;exact .inr #[kd,a,b,U]
      .exact .inl (aag.mp h)
     show#[_,U,_,U,_,U,W,sc,1,U,#[bp,sok,by decide,by cbv],λns wF hb=>?_];obtain⟨x,rfl⟩:∃ x,ns=[x]:=by
      let(x,r,rfl):=Ig (l:=ns) (by cbv);cases r with
      | nil=>exact#[x,U]
      | cons y r=>simp at wF
     show#[_,_,_,U,U,cC,?_];show#[_,U,_,U,_,U,_,U,_,U,_,_,U,U,#[by decide,by decide],W,sc,ot,room / 2,U,#[bp,sok,bM,by cbv,by cbv,by cbv],λta hta hda=>?_];show#[_,U,_,U,?_];show#[_,U,_,U,_,U,_,U,_,U,_,_,U,U,by simp;cbv,?_];show#[_,U,_,U,_,_,U,U,#[by decide,by decide],?_];show#[W,sc++[(x,ot)],k,room / 2,by rw[List.map_append]<;>rfl,#[bp,sok.more (ns:=[x]) (ks:=[ot]) hb U (λy hy=>List.mem_singleton.mp hy▸bM) (by simp;cbv),hk,by cbv,by cbv,by cbv],λtb htb jf=>?_];show#[_,U,U,_,U,n5 U #[_,U,?_]];exact q (.node (.lt x) [ta,tb]) (Ty.mk (.lt hb bM) (.fj hta (.cons htb .nil))) (nj (q:=room.toNat / 2) (λt ht=>by
      rw[show (room / 2).toNat=room.toNat / 2 by cbv] at hda jf;simp at ht;rcases ht with rfl | rfl<;>assumption) (KI (by cbv) (by cbv)))
    case hnone =>
     show#[_,U,U,_,U,kx U ?_];show#[_,U,#[U,U,U],_,U,?_];show b9 (b':=decide (k="number")) iz (λe=>?_) λe=>?_
     .have e:k="number":=by simpa using e
      show#[_,U,_,U,_,U,_,U,_,_,U,U,?_];show#[W,sc,["number","number"],room - 1,U,#[bp,sok,λx hx=>?_,by decide,by cbv,by cbv,by cbv],λts hts hd=>?_]
      .simp at hx;exact .inl hx
      have hl:=hts.len;let(ta,tb,rfl):=XC (l:=ts) hl;show#[_,U,U,_,_,U,_,_,U,U,?_];show#[_,U,_,U,#[by decide,by decide],λr2 r20 r21=>?_];let(ch,ech,Ba):=Il r20 r21;show#[_,_,_,U,U,by decide+kernel,ech,?_];show#[_,U,_,U,?_];exact q (.node (.op #[#v[ch]]) [ta,tb]) (e▸Ty.mk (.op Ba) hts) (nj (q:=(room.toNat - 1) / max 1 2) (λt ht=>by have:=hd t ht;rw[show (room - 1).toNat=room.toNat - 1 by cbv] at this;exact this) (yP (n:=2) (by cbv) (by cbv) ()))
     .have e:k≠"number":=by simpa using e
      let(kd,hkd,JR,hnm,nn,AX):=kinds_of bp hk e;show#[_,U,?_];show gC #[_,U,_,.inl U,?_];show b5 sy (λk=>D.tup (k.bz.map eS)) (λx=>decide (x.name=k)) _ (λx hx kk N g1 g2=>?_) ?_
      .refine#[_,U,_,_,_,U,U,U,_,U,#[U,U,U],_,U,?_];exact b9 (b':=decide (x.name=k)) iz (λe=>#[_,U,_,_,_,U,U,U,g1 e _ U]) λe=>g2 e _ U
      rw[AX,List.replicate_succ,aao,aaF];show#[_,_,_,U,U,cC,?_];have hm0:0 < kd.bz.length:=List.length_pos_iff.mpr JR;have hm5:=(bp.kw kd hkd).2.1;show#[_,U,_,U,_,U,_,.inr U,_,U,#[by rw[aaa];cbv,by rw[aaa];cbv],λr2 r20 r21=>?_];let(m,hm,em):=oq (f:=eS) (xs:=kd.bz) r20 (by simpa using r21);let(m1,m2,m3,m4):=bp.mo kd hkd m hm;show#[_,_,_,U,U,em,?_];show#[_,U,U,_,_,U,_,_,U,U,?_];show#[_,U,_,U,_,U,_,U,_,U,_,.inr U,?_];show aQ pairD (λp=>D.str p.2) _ (λp hp k2 hk2=>#[_,U,_,_,_,U,U,U,hk2 _ U]) ?_;rw[aaF];show#[_,U,_,_,U,U,?_];show#[W,sc,m.fs.map (·.2),room - 1,by rw[aan]<;>rfl,#[bp,sok,λx hx=>?_,by rw[aaa];cbv,by cbv,by cbv,by cbv],λts hts hd=>?_]
      .let(p,hp,rfl):=aak.mp hx;exact m4 p hp
      have:=q (.node (.mk m.name) ts) (hnm▸Ty.mk (.mk hkd hm) (by rw[aan] at hts;exact hts)) (nj (q:=(room.toNat - 1) / max 1 ts.length) (λt ht=>by have:=hd t ht;rw[show (room - 1).toNat=room.toNat - 1 by cbv] at this;exact this) (yP (by cbv) (by cbv) (by have:=hts.len;rw[aaa,aaa] at this;cbv)));rw[toD,toDs_map] at this;exact this
   case hleaf =>
    exact#[_,U,_,U,_,U,_,U,W,sc,k,U,#[bp,sok,hk,λe=>absurd e ()],λt ht hd=>q t ht (Tm.lf.rq (n:=2) hd (by cbv) (by cbv))]
def Y4(d:AC):ace:=λds R=>∃ (most:Int),ds=[.bJ d,.int most]/\(1<=most/\most<=3)/\∀ (ws:!Str) (ks:!Kd),ws.length=45->ws.Nodup->(∀ x∈ws,Nm x)->AB ws ks->R (pU (pj ws ks false))
theorem SD{d l:AC}(Xj:C4 P w K mg base aP fw 2 (cR K (bg d l) (zp d)))(GHe:C4 P w K mg base aP gW 3 (cR K (bg d l) (Yt d)))(F:Own K mg gQ)(T:Txt K mg):C4 P w K mg base aP gQ 4 (cR K (bg d l) (Y4 d)):=by
 show F.d (nos:=0) mv (λds R h=>?_) λf a8 A outer s H E M hr=>#[_,(ag (sS 2 mv.nd (az hr Xj (ae (vd 0) (ae aj af))))
 (aq (aV (DN.de (LS (qW (az hr GHe (ae (vd 0) (ae (vd 2) (ae (vd 1) af)))) (qW (DN.de (cW (vd 2) (bC aj) cU)) (qW (DN.de (cW (vd 2) (bC aj) (bC aj))) Iu))) (show List.Nodup [(Sum.inr ("kinds":Str):Key),(Sum.inr ("vars":Str):Key),(Sum.inr ("heads":Str):Key)] by decide+kernel)))))),λds R h=>?_]
 .let(most,rfl,_):=h
  rfl
 .let(most,rfl,(h1,h3),q):=h;show#[_,U,45,U,#[by decide,by decide],λws p8 hwn hwm=>?_];have p8:ws.length=45:=p8;show#[_,U,_,U,_,U,ws,most,U,#[p8,hwn,hwm,h1,h3],λks wg=>?_];have e30:cutD (ws.map D.str) (some 30) none=(ws.drop 30).map D.str:=by
   rw[d8,p8,show HT.cc 45 0 (some 30)=30 from U,show HT.cc 45 45 none=45 from U,List.take_of_length_le (by simp[p8])]
  have e24:cutD (ws.map D.str) (some 24) (some 30)=((ws.drop 24).take 6).map D.str:=by rw[d8,p8];rfl
  show#[_,U,_,U,_,U,?_];show#[_,U,_,U,_,U,_,U,?_];rw[e30,e24];exact q ws ks p8 hwn hwm wg
end
end F2
namespace DL
open PySem PySem.Spec L2
def Tm.tq(n:Nat)(t:Tm):Prop:=t.dep<=n/\t.size<=144/\t.fl=true
theorem Tm.rq.tq{n r:Nat}{t:Tm}(h:t.rq n r)(hr:r<=17):t.tq n:=#[h.1,aap h.2.1 (vn hr (aah _)),h.2.2]
end DL
namespace F2
open PySem L2 DL
structure lL(W:aW)(n:Nat)(p:PK):Prop where
 tl:p.tabs.length=if p.asked=true then p.kd.bz.length else p.kd.bN.length
 tm:∀ e∈ents p,e.2.wf=true/\e.2.JD=true/\e.2.tq n
 nd:((ents p).map (·.1)).Nodup
 nm:∀ e∈ents p,∃ m∈p.kd.bz,∃ a∈p.kd.bN,e.1=(m.name,a.name)/\Ty W (m.fs++a.ps) a.res e.2
 ln:(ents p).length<=1000
structure Bz(W:aW)(n:Nat)(ps:!PK):Prop where
 bp:gf W
 kd:ps.map PK.kd=W.kinds
 ok:∀ p∈ps,lL W n p
theorem Bz.mem{W:aW}{n:Nat}{ps:!PK}(h:Bz W n ps){p:PK}(hp:p∈ps):p.kd∈W.kinds:=h.kd▸aav hp
def nA(W:aW)(kd:Kd)(n:Nat)(ks:!(!Key))(vs:!D):Prop:=ks.length=vs.length/\∀ q x,bA ks vs q=some x->∃ m∈kd.bz,∃ a∈kd.bN,∃ t:Tm,q=[.inr m.name,.inr a.name]/\x=toD t/\Ty W (m.fs++a.ps) a.res t/\t.tq n
theorem nA.nil{W:aW}{kd:Kd}{n:Nat}:nA W kd n [] []:=#[U,λq x h=>by cases h]
theorem nA.put{W:aW}{kd:Kd}{n:Nat}{ks:!(!Key)}{vs:!D}(h:nA W kd n ks vs){m:eU}(hm:m∈kd.bz){a:d6}(ha:a∈kd.bN){t:Tm}(ht:Ty W (m.fs++a.ps) a.res t)(hd:t.tq n):nA W kd n (dj ks [.inr m.name,.inr a.name]) (dB ks vs [.inr m.name,.inr a.name] (toD t)):=by
 show#[(Ar h.1).1,λq x hx=>?_];rw[EW q h.1] at hx;by_cases e:q=[.inr m.name,.inr a.name]
 .rw[if_pos e] at hx;cases hx;exact#[m,hm,a,ha,t,e,U,ht,hd]
 .rw[if_neg e] at hx;exact h.2 q x hx
def FA(W:aW)(kd:Kd)(n:Nat)(a:d6)(c:Str)(t:Tm):Prop:=∃ m∈kd.bz,eU.name m=c/\(Ty W (m.fs++a.ps) a.res t/\t.tq n)
def FM(W:aW)(kd:Kd)(n:Nat)(m:eU)(c:Str)(t:Tm):Prop:=∃ a∈kd.bN,d6.name a=c/\(Ty W (m.fs++a.ps) a.res t/\t.tq n)
structure rT(other:Str->Tm->Prop)(n:Nat)(rs:!(Str×Tm)):Prop where
 ln:rs.length<=5
 nd:(rs.map (·.1)).Nodup
 ok:∀ r∈rs,other r.1 r.2/\r.2.wf=true/\r.2.JD=true/\r.2.tq n
theorem rT.perm{other:Str->Tm->Prop}{n:Nat}{rs qs:!(Str×Tm)}(h:rT other n rs)(p:qs.Perm rs):rT other n qs :=
 #[by rw[p.length_eq];exact h.ln,(p.map _).nodup_iff.mpr h.nd,λr hr=>h.ok r (p.mem_iff.mp hr)]
theorem lL.Y8{W:aW}{kd:Kd}{n:Nat}{b:Bool}{ts:!(!(Str×Tm))}{ns:!Str}{other:Str->Str->Tm->Prop}(hn:ns.Nodup)(hl:ns.length=ts.length)(h5:ns.length<=5)(eb:fi #[b,kd,ts]=ns.zip ts)(hr:∀ x∈ns.zip ts,rT (other x.1) n x.2) :
  (∀ e∈ents #[b,kd,ts],∃ x∈ns.zip ts,∃ r∈x.2,e=(if b=true then (x.1,r.1) else (r.1,x.1),r.2)/\other x.1 r.1 r.2/\r.2.wf=true/\r.2.JD=true/\r.2.tq n)/\((ents #[b,kd,ts]).map (·.1)).Nodup/\(ents #[b,kd,ts]).length<=1000:=by
 show#[λe he=>?_,?_,?_]
 .have he:e∈(fi #[b,kd,ts]).flatMap (kZ b):=he;rw[eb] at he;let(x,hx,hx2):=aaU.mp he;let(r,hr2,rfl):=aak.mp hx2;exact#[x,hx,r,hr2,U,(hr x hx).ok r hr2]
 .show (((fi #[b,kd,ts]).flatMap (kZ b)).map (·.1)).Nodup;rw[eb];show uc ?_ λx hx=>(hr x hx).nd;rw[abn (by cbv)];exact hn
 .show ((fi #[b,kd,ts]).flatMap (kZ b)).length<=1000;rw[eb];have:=Ah (b:=b) (bs:=ns.zip ts) λx hx=>(hr x hx).ln;rw[abh] at this;cbv
theorem lL.ofA{W:aW}(w:gf W){kd:Kd}(hk:kd∈W.kinds){n:Nat}{ts:!(!(Str×Tm))}(hl:ts.length=kd.bN.length)(hr:∀ x∈kd.bN.zip ts,rT (FA W kd n x.1) n x.2):lL W n #[false,kd,ts]:=by
 let(_,k5,a5):=w.kw kd hk;let(g0,g1,g2):=lL.Y8 (W:=W) (b:=false) (kd:=kd) (ts:=ts) (n:=n) (ns:=kd.bN.map d6.name) (other:=λf c t=>∃ a∈kd.bN,a.name=f/\FA W kd n a c t) (uH w hk) (by rw[aaa];exact hl.symm) (by rw[aaa];exact a5) U λx hx=>by
  rw[ab0] at hx;let(y,hy,rfl):=aak.mp hx;have:=hr y hy;exact#[this.ln,this.nd,λr hr=>#[#[y.1,(aa4 (a:=y.1) (b:=y.2) hy).1,U,(this.ok r hr).1],(this.ok r hr).2]]
 show#[hl,λe he=>?_,g1,λe he=>?_,g2]
 .let(x,hx,r,hr2,rfl,_,h):=g0 e he;exact h
 .let(x,hx,r,hr2,rfl,(a,ha,e1,m,hm,e2,h),_):=g0 e he;exact#[m,hm,a,ha,by rw[e1,e2];rfl,h.1]
theorem lL.ofM{W:aW}(w:gf W){kd:Kd}(hk:kd∈W.kinds){n:Nat}{ts:!(!(Str×Tm))}(hl:ts.length=kd.bz.length)(hr:∀ x∈kd.bz.zip ts,rT (FM W kd n x.1) n x.2):lL W n #[true,kd,ts]:=by
 let(_,k5,a5):=w.kw kd hk;let(g0,g1,g2):=lL.Y8 (W:=W) (b:=true) (kd:=kd) (ts:=ts) (n:=n) (ns:=kd.bz.map eU.name) (other:=λf c t=>∃ a∈kd.bz,a.name=f/\FM W kd n a c t) (uA w hk) (by rw[aaa];exact hl.symm) (by rw[aaa];exact k5) U λx hx=>by
  rw[ab0] at hx;let(y,hy,rfl):=aak.mp hx;have:=hr y hy;exact#[this.ln,this.nd,λr hr=>#[#[y.1,(aa4 (a:=y.1) (b:=y.2) hy).1,U,(this.ok r hr).1],(this.ok r hr).2]]
 show#[hl,λe he=>?_,g1,λe he=>?_,g2]
 .let(x,hx,r,hr2,rfl,_,h):=g0 e he;exact h
 .let(x,hx,r,hr2,rfl,(a,ha,e1,m,hm,e2,h),_):=g0 e he;exact#[a,ha,m,hm,by rw[e1,e2];rfl,h.1]
theorem nA.at{W:aW}(w:gf W){kd:Kd}(hk:kd∈W.kinds){n:Nat}{ks:!(!Key)}{vs:!D}(h:nA W kd n ks vs){m:eU}(hm:m∈kd.bz){a:d6}(ha:a∈kd.bN){x:D}(e:bA ks vs [.inr m.name,.inr a.name]=some x):∃ t:Tm,x=toD t/\Ty W (m.fs++a.ps) a.res t/\t.tq n:=by
 let(m',hm',a',ha',t,e1,e2,e3,e4):=h.2 _ _ e;injection e1 with e5 e6;injection e5 with e5;injection e6 with e6 _;injection e6 with e6;have:=map_one (uA w hk) hm hm' e5;subst this;have:=map_one (uH w hk) ha ha' e6;subst this;exact#[t,e2,e3,e4]
theorem zZ{α:Type}{nm:α->Str}{l sub:!α}{rs:!(Str×Tm)}{F:α->Tm->Prop}{n:Nat}(hn:(l.map nm).Nodup)(h5:l.length<=5)(hs:sub.Sublist l)(hp:Paired (λm (r:Str×Tm)=>r.1=nm m/\F m r.2) sub rs)(hg:∀ m∈l,∀ t,F m t->t.wf=true/\t.JD=true/\t.tq n):rT (λc t=>∃ m∈l,nm m=c/\F m t) n rs:=by
 have e:rs.map (·.1)=sub.map nm:=FP (λx y h=>h.1) hp;show#[?_,?_,λr hr=>?_]
 .rw[gD hp];exact aap hs.length_le h5
 .rw[e];exact hn.sublist (hs.map nm)
 .let(m,hm,h1,h2):=gu hp r hr;exact#[#[m,hs.subset hm,h1.symm,h2],hg m (hs.subset hm) r.2 h2]
section
variable{P:Fa}{w:FB}{K:Frag}{mg:Str->Option AT}{base:Db}
def GG(c:!(!Key)×!D):D:=.oV c.1 c.2
def YK(d:AC)(n:Nat):ace:=λds R=>∃ (W:aW) (room:Int),ds=[.bJ d,pU W,.int room]/\(gf W/\0<=room/\room<=n+1/\room<=17)/\∀ xZ:!(!(!Key)×!D),Paired (λkd c=>nA W kd (n+2) c.1 c.2) W.kinds xZ->R (.lst (xZ.map GG))
theorem O2{d l:AC}(eR:C4 P w K mg base aP bD 1 (cR K (bg d l) (jj d))){n lv:Nat}(Cc:C4 P w K mg base aP eZ lv (cR K (bg d l) (Vc d (n+1))))(F:Own K mg g6)(T:Txt K mg)(YD:2<=lv):C4 P w K mg base aP g6 (lv+1) (cR K (bg d l) (YK d n)):=by
 show F.d (nos:=2) bq (λds R h=>?_) λf a8 A outer s H E M hr=>#[_,(ag (sN 0 3 bq.nd (aM af))
 (ag (sF (aZ (eO (aX (bG hr) (DE.pe (vd 1)) (DE.pe av) (λ_ _=>rfl)))) (bo (m:=4) U (au (gN 4 bq.nd) (au (gN 5 bq.nd) (au (gN 6 bq.nd) (au (gN 7 bq.nd) bj)))))
 (ag (sN 1 8 bq.nd Gw)
 (ag (sF (aZ (vd 6)) (bo (m:=2) U (au (gN 9 bq.nd) (au (gN 10 bq.nd) bj)))
 (aq (sF (aZ (vd 7)) (bo (m:=3) U (au (gN 11 bq.nd) (au (gN 12 bq.nd) (au (gN 13 bq.nd) bj))))
 (aq (cv (aK sG yA (az hr eR (ae (vd 0) (ae aj af))) aj (aF _))
 (aq (kq (eh (bG hr) (pv 8) (DE.pe (aw (ae (vd 9) (ae (vd 11) af)))) (DE.pe (az hr Cc (ae (vd 0) (ae (vd 1) (ae (DN.de (fD dD dw (DN.de (jR mF xK U T.list (-()) (ae (vd 10) af))) (DN.de (jR mF xK U T.list (-()) (ae (vd 12) af))))) (ae (vd 13) (ae (vd 2) af))))))) U)))
 aO)))))
 (aq (B8 3 (ae (vQ (pv 8)) af))))))
 (aq (aV (vQ (pv 3)))))),λds R h=>?_]
 .let(W,room,rfl,_):=h
  rfl
 .let(W,room,rfl,(bp,h0,h1,h17),q):=h;have hsz:=aH;show#[#[U,U],?_];show#[_,U,?_];show gC #[_,U,_,.inl U,?_];show cV (λxs s=>∃ (dn td:!Kd) (xZ:!(!(!Key)×!D)) (x4 x5 x6 x7 x8 x9 fQ fK d7 cS:Sl),W.kinds=dn++td/\xs=td.map sy/\Paired (λkd c=>nA W kd (n+2) c.1 c.2) dn xZ/\(x9.pl=true/\fQ.pl=true/\fK.pl=true/\d7.pl=true/\cS.pl=true)/\s=#[[.dat (.bJ d),.dat (pU W),.dat (.int room),.own 0,x4,x5,x6,x7,x8,x9,fQ,fK,d7,cS],[some (.lst (xZ.map GG)),none]]) ?_ ?_ _ _ #[[],W.kinds,[],.no,.no,.no,.no,.no,.no,.no,.no,.no,.no,U,U,.nil,#[U,U,U,U,U],U]
  .rintro s ⟨dn,td,xZ,x4,x5,x6,x7,x8,x9,fQ,fK,d7,cS,hdt,hx,hP,_,rfl⟩;have htd:td=[]:=by
    cases td with
    | nil=>rfl
    | cons a b=>cases hx
   rw[htd,aal] at hdt;exact .inr #[_,_,U,U,q xZ (hdt▸hP)]
  .rintro x xs s N ⟨dn,td,xZ,x4,x5,x6,x7,x8,x9,fQ,fK,d7,cS,hdt,hx,hP,⟨h9,h10,h11,h12,h13⟩,rfl⟩ hN hE_;cases td with
   | nil=>cases hx
   | cons kd td =>
   injection hx with e1 e2;subst e1 e2;have hkd:kd∈W.kinds:=by rw[hdt];simp
   have hkw:=bp.kw kd hkd;show#[_,U,U,_,_,U,_,_,U,_,_,U,_,_,U,U,?_];show#[#[U,(show noRef 1 6 [x9,fQ,fK,d7,cS]=true by rw[bu h9,bu h10,bu h11,bu h12,bu h13];rfl)],?_];show#[_,U,_,.inr U,?_];show cV (λxs s=>∃ (ms:!eU) (ks:!(!Key)) (vs:!D) (x9 fQ fK d7 cS:Sl),xs=ms.map eS/\(∀ m∈ms,m∈kd.bz)/\nA W kd (n+2) ks vs/\ks.length+5 * ms.length<=25/\(x9.pl=true/\fQ.pl=true/\fK.pl=true/\d7.pl=true/\cS.pl=true)/\s=#[[.dat (.bJ d),.dat (pU W),.dat (.int room),.own 0,.dat (.str (bc kd.asked)),.dat (.str kd.name),.dat (.tup (kd.bz.map eS)),.dat (.tup (kd.bN.map eI)),.own 1,x9,fQ,fK,d7,cS],[some (.lst (xZ.map GG)),some (.oV ks vs)]]) ?_ ?_ _ _ #[kd.bz,[],[],x9,fQ,fK,d7,cS,U,λ_ h=>h,nA.nil,by simp;cbv,#[h9,h10,h11,h12,h13],U]
   .rintro s ⟨ms,ks,vs,y9,De,y11,y12,Jj,hx,_,hC,_,⟨g9,g10,g11,g12,g13⟩,rfl⟩;show#[0,_,U,U,U,?_];show .inr #[_,_,U,U,?_];have hcl:xZ.length=dn.length:=gD hP;have hdl:=congrArg List.length hdt;rw[aab] at hdl;have hkl:=bp.kl;show#[_,U,_,_,U,U,by rw[aaa];cbv,?_];show hN _ #[dn++[kd],td,xZ++[(ks,vs)],_,_,_,_,.dat (.oV ks vs),_,_,_,_,_,by rw[hdt];simp,U,AY hP hC,#[ck (k:=1) (d:=.oV ks vs) g9,ck (k:=1) (d:=.oV ks vs) g10,ck (k:=1) (d:=.oV ks vs) g11,ck (k:=1) (d:=.oV ks vs) g12,ck (k:=1) (d:=.oV ks vs) g13],by rw[List.map_append];rfl]
   .rintro x xs s N2 ⟨ms,ks,vs,y9,De,y11,y12,Jj,hx,hms,hC,hcl,⟨g9,g10,g11,g12,g13⟩,rfl⟩ hN2 hE_2;cases ms with
    | nil=>cases hx
    | cons m ms =>
    injection hx with e1 e2;subst e1 e2;have hm:=hms m aad;have hcl:ks.length+5 * (ms.length+1)<=25:=hcl;show#[_,U,U,_,_,U,_,_,U,U,?_];show#[_,U,_,.inr U,?_];show cV (λxs s=>∃ (as:!d6) (ks:!(!Key)) (vs:!D) (fK d7 cS:Sl),xs=as.map eI/\(∀ a∈as,a∈kd.bN)/\nA W kd (n+2) ks vs/\ks.length+as.length+5 * ms.length<=25/\(fK.pl=true/\d7.pl=true/\cS.pl=true)/\s=#[[.dat (.bJ d),.dat (pU W),.dat (.int room),.own 0,.dat (.str (bc kd.asked)),.dat (.str kd.name),.dat (.tup (kd.bz.map eS)),.dat (.tup (kd.bN.map eI)),.own 1,.dat (.str m.name),.dat (cG m.fs),fK,d7,cS],[some (.lst (xZ.map GG)),some (.oV ks vs)]]) ?_ ?_ _ _ #[kd.bN,ks,vs,y11,y12,Jj,U,λ_ h=>h,hC,by cbv,#[g11,g12,g13],U]
    .rintro s ⟨as,ks,vs,z11,z12,z13,hx,_,hC,hcl,⟨f11,f12,f13⟩,rfl⟩;exact hN2 _ #[ms,ks,vs,_,_,z11,z12,z13,U,λa ha=>hms a (aac _ ha),hC,by cbv,#[U,U,f11,f12,f13],U]
    .rintro x xs s N3 ⟨as,ks,vs,z11,z12,z13,hx,has,hC,hcl,⟨f11,f12,f13⟩,rfl⟩ hN3 hE_3;cases as with
     | nil=>cases hx
     | cons a as =>
     injection hx with e1 e2;subst e1 e2;have ha:=has a aad;have hcl:ks.length+(as.length+1)+5 * ms.length<=25:=hcl;show#[_,U,U,_,_,U,_,_,U,_,_,U,U,?_];show#[_,U,_,U,#[by decide,by decide],λr r0 r1=>?_];show#[_,_,U,U,_,U,?_];show b9 U (λ_=>?_) λ_=>?_
     rotate_left
     .exact hN3 _ #[as,ks,vs,_,_,_,U,λb hb=>has b (aac _ hb),hC,by cbv,#[U,U,U],U]
     let(_,m2,_):=bp.mo kd hkd m hm;let(_,(a2,_),ar):=bp.ao kd hkd a ha;have hm3:=m2;show#[_,U,_,U,?_];show#[_,U,?_];show#[_,.inr U,?_];show#[_,U,_,.inr U,?_];show#[_,_,U,U,by rw[aaa,aaa];cbv,?_];show#[_,U,_,U,?_];show#[W,m.fs++a.ps,a.res,room,by rw[aai],#[bp,DL.mD bp hkd hm ha,ar,h0,h1,h17],λt ht hd=>?_];have hd:=hd.tq (by cbv);show#[1,U,_,U,_,U,_,U,?_];show .inr #[_,_,_,[.inr m.name,.inr a.name],U,U,U,by cbv,?_];have hp:=Ar (x:=toD t) (q:=[.inr m.name,.inr a.name]) hC.1;exact hN3 _ #[as,_,_,_,_,_,U,λb hb=>has b (aac _ hb),hC.put hm ha ht hd,by cbv,#[U,U,U],U]
def Zi(d:AC)(n:Nat):ace:=λds R=>∃ (W:aW) (room:Int),ds=[.bJ d,pU W,.int room]/\(gf W/\0<=room/\room<=n+1/\room<=17)/\∀ ps:!PK,Bz W (n+2) ps->(∀ p∈ps,p.asked=p.kd.asked)->R (.tup (ps.map gj))
theorem FN{α β:Type}{F:α->β->Prop}{f:α->D}{h:β->D}:∀ {l₁:!α} {l₂:!β},Paired F l₁ l₂->uF (l₁.map f) (l₂.map h)=(l₁.zip l₂).map λx=>D.tup [f x.1,h x.2]
 | _,_,.nil=>rfl
 | _,_,.cons r t=>by
  have:=FN (f:=f) (h:=h) t;unfold uF at this ⊢;rw[aao,aao,List.zipWith_cons_cons,this]
  rfl
theorem E8{α β:Type}{F:α->β->Prop}:∀ {l₁:!α} {l₂:!β},Paired F l₁ l₂->∀ x∈l₁.zip l₂,F x.1 x.2
 | _,_,.nil,x,h=>by cases h
 | _,_,.cons r t,x,h=>by
  rcases aaj.mp h with rfl | h
  .exact r
  .exact E8 t x h
theorem K1{r:Int}(h0:0<=r)(h1:r < 2):∃ w:Int,iD [D.int 1,D.int (-1)] r=some (.int w)/\(w=1\/w=-1):=by
 have:r=0\/r=1:=by cbv
 rcases this with rfl | rfl
 .exact#[1,U,.inl U]
 .exact#[-1,U,.inr U]
theorem UW{d l:AC}(eR:C4 P w K mg base aP bD 1 (cR K (bg d l) (jj d))){n lv:Nat}(ZZ:C4 P w K mg base aP g6 lv (cR K (bg d l) (YK d n)))(F:Own K mg ff)(T:Txt K mg)(YD:2<=lv):C4 P w K mg base aP ff (lv+1) (cR K (bg d l) (Zi d n)):=by
 show F.d (nos:=2) aJ (λds R h=>?_) λf a8 A outer s H E M hr=>#[_,(ag (sN 0 3 aJ.nd (aM af))
 (ag (sF (Du U T.zip (ae (eO (aX (bG hr) (DE.pe (vd 1)) (DE.pe av) (λ_ _=>rfl))) (ae (az hr ZZ (ae (vd 0) (ae (vd 1) (ae (vd 2) af)))) af))) (bo (m:=2) U (au (gN 4 aJ.nd) (au (hJ (dS (i:=5) aJ.nd U (Or.inr U)) ()) bj)))
 (ag (fP (n:=1000) (vd 4) (bo (m:=4) U (au (gN 6 aJ.nd) (au (gN 7 aJ.nd) (au (gN 8 aJ.nd) (au (gN 9 aJ.nd) bj))))))
 (ag (sS 10 aJ.nd (jv (DN.de (aM (ae aj (ae (dc (d:=.int (-1)) mC U) af)))) (az hr eR (ae (vd 0) (ae aj af)))))
 (ag (sN 1 11 aJ.nd (aM af))
 (ag (sF (aZ (vd 9)) (bo (m:=3) U (au (hJ (dS (i:=12) aJ.nd U (Or.inr U)) ()) (au (gN 13 aJ.nd) (au (gN 14 aJ.nd) bj))))
 (ag (sS 15 aJ.nd (DN.de (IU (DN.de (nC ["_law_c","_law_fields"] [5,12] (aZ (vd 8)) (λ_ _ _ _=>(bo (m:=2) U (au (gM 0 ["_law_c","_law_fields","_law_cells_here","_law_f"]) (au (gM 1 ["_law_c","_law_fields","_law_cells_here","_law_f"]) bj)))) (λ_ _ _ _=>jb (zj (bG hr) (aw (ae (vd 0) (ae (vd 3) af))) (vd 2)))
 (λ_ _ _ _=>(aw (ae (vd 0) (ae (eO (aX (bG hr) (DE.pe (vd 2)) (DE.pe (aw (ae (vd 0) (ae (vd 3) af)))) (λ_ _=>rfl))) af)))))) (vd 10))))
 (aq (B8 11 (ae (aw (ae (vd 12) (ae (vd 13) (ae (vd 14) (ae (i9 T.tuple (ae (vd 15) af)) af))))) af)))))
 (ag (cv (aK bf cz (vd 6) av (aF _))
 (ag (sN 1 11 aJ.nd (aM af))
 (aq (sF (aZ (vd 8)) (bo (m:=2) U (au (hJ (dS (i:=16) aJ.nd U (Or.inr U)) ()) (au (gN 17 aJ.nd) bj)))
 (ag (sS 15 aJ.nd (DN.de (IU (DN.de (nC ["_law_f","_law_params","_law_result"] [5,16] (aZ (vd 9)) (λ_ _ _ _=>(bo (m:=3) U (au (gM 0 ["_law_f","_law_params","_law_result","_law_cells_here","_law_c"]) (au (gM 1 ["_law_f","_law_params","_law_result","_law_cells_here","_law_c"]) (au (gM 2 ["_law_f","_law_params","_law_result","_law_cells_here","_law_c"]) bj))))) (λ_ _ _ _=>jb (zj (bG hr) (aw (ae (vd 4) (ae (vd 0) af))) (vd 3)))
 (λ_ _ _ _=>(aw (ae (vd 0) (ae (eO (aX (bG hr) (DE.pe (vd 3)) (DE.pe (aw (ae (vd 4) (ae (vd 0) af)))) (λ_ _=>rfl))) af)))))) (vd 10))))
 (aq (B8 11 (ae (aw (ae (vd 16) (ae (vd 17) (ae (i9 T.tuple (ae (vd 15) af)) af)))) af)))))))
 aO)
 (aq (B8 3 (ae (aw (ae (vd 6) (ae (vd 7) (ae (jv (DN.de (aM (ae (vd 8) (ae (vd 9) af)))) (fJ eY lj U T.int (-()) (ae (eD bf cz (vd 6) av (aF _)) af))) (ae (i9 T.tuple (ae (vQ (pv 11)) af)) af))))) af)))))))))
 (aq (aV (i9 T.tuple (ae (vQ (pv 3)) af)))))),λds R h=>?_]
 .let(W,room,rfl,_):=h
  rfl
 .let(W,room,rfl,(bp,h0,h1,h17),q):=h;have hsz:=aH;show#[#[U,U],?_];show#[_,U,?_];show gC #[_,U,?_];show#[_,U,_,U,_,U,W,room,U,#[bp,h0,h1,h17],λxZ uN=>?_];show#[_,_,_,_,U,#[U,U],?_];rw[FN uN];have hzl:(W.kinds.zip xZ).map (·.1)=W.kinds:=abn (by rw[gD uN];exact aah _);have hzp:=E8 uN;have hzk:∀ x∈W.kinds.zip xZ,x.1∈W.kinds:=λx hx=>(aa4 (a:=x.1) (b:=x.2) hx).1;generalize W.kinds.zip xZ=zs0 at hzl hzp hzk;show cV (λxs s=>∃ (td:!(Kd×(!(!Key)×!D))) (ps:!PK) (x4 x5 x6 x7 x8 x9 fQ fK d7 cS vk Ce v9 v8:Sl),xs=td.map (λx=>D.tup [sy x.1,GG x.2])/\(∀ x∈td,x∈zs0)/\ps.map PK.kd++td.map (·.1)=W.kinds/\(∀ p∈ps,lL W (n+2) p/\p.asked=p.kd.asked)/\(d7.pl=true/\cS.pl=true/\vk.pl=true/\Ce.pl=true/\v9.pl=true/\v8.pl=true)/\s=#[[.dat (.bJ d),.dat (pU W),.dat (.int room),.own 0,x4,x5,x6,x7,x8,x9,fQ,fK,d7,cS,vk,Ce,v9,v8],[some (.lst (ps.map gj)),none]]) ?_ ?_ _ _ #[zs0,[],.no,.no,.no,.no,.no,.no,.no,.no,.no,.no,.no,.no,.no,.no,U,λ_ h=>h,hzl,λ_ h=>(nomatch h),#[U,U,U,U,U,U],U]
  .rintro s ⟨td,ps,x4,x5,x6,x7,x8,x9,fQ,fK,d7,cS,vk,Ce,v9,v8,hx,_,hps,bM,_,rfl⟩;have htd:td=[]:=by
    cases td with
    | nil=>rfl
    | cons a b=>cases hx
   rw[htd,aaQ,aal] at hps;show .inr #[_,_,U,U,_,.inl U,?_];exact q ps #[bp,hps,λp hp=>(bM p hp).1] λp hp=>(bM p hp).2
  .rintro x xs s N ⟨td,ps,x4,x5,x6,x7,x8,x9,fQ,fK,d7,cS,vk,Ce,v9,v8,hx,htd,hps,bM,⟨g12,g13,g14,g15,g16,g17⟩,rfl⟩ hN hE_;cases td with
   | nil=>cases hx
   | cons z td =>
   injection hx with e1 e2;subst e1 e2;let(kd,ks,vs):=z;have hz0:=htd _ aad;have hkd:kd∈W.kinds:=hzk _ hz0;have hC:nA W kd (n+2) ks vs:=hzp _ hz0;show#[_,U,U,_,_,U,_,_,U,U,?_];show#[_,U,?_];show#[_,U,U,_,_,U,_,_,U,_,_,U,_,_,U,U,?_];show#[_,U,_,U,#[by decide,by decide],λr r0 r1=>?_];let(wy,ewy,hwy):=K1 r0 r1;show#[_,_,_,U,U,ewy,?_];show#[#[U,(show noRef 1 7 [d7,cS,vk,Ce,v9,v8]=true by rw[bu g12,bu g13,bu g14,bu g15,bu g16,bu g17];rfl)],?_];show#[_,U,_,.inr U,?_];let(_,k5,a5):=bp.kw kd hkd;show cV (λxs s=>∃ (dn td:!d6) (tabs:!(!(Str×Tm))) (d7 cS vk Ce v9 v8:Sl),kd.bN=dn++td/\xs=td.map eI/\tabs.length=dn.length/\(∀ x∈dn.zip tabs,rT (FA W kd (n+2) x.1) (n+2) x.2)/\(d7.pl=true/\cS.pl=true/\vk.pl=true/\Ce.pl=true/\v9.pl=true/\v8.pl=true)/\s=#[[.dat (.bJ d),.dat (pU W),.dat (.int room),.own 0,.dat (sy kd),.dat (GG (ks,vs)),.dat (.str (bc kd.asked)),.dat (.str kd.name),.dat (.tup (kd.bz.map eS)),.dat (.tup (kd.bN.map eI)),.dat (.int wy),.own 1,d7,cS,vk,Ce,v9,v8],[some (.lst (ps.map gj)),some (.lst ((dn.zip tabs).map kT))]]) ?_ ?_ _ _ #[[],kd.bN,[],d7,cS,vk,Ce,v9,v8,U,U,U,λ_ h=>(nomatch h),#[g12,g13,g14,g15,g16,g17],U]
   rotate_left
   .rintro x xs s N2 ⟨dn,td,tabs,y12,Jj,y14,y15,y16,y17,hdt,hx,htl,hro,⟨p12,p13,p14,p15,p16,p17⟩,rfl⟩ hN2 hE_2;cases td with
    | nil=>cases hx
    | cons b0 td =>
    injection hx with e1 e2;subst e1 e2;have hb0:b0∈kd.bN:=by rw[hdt];simp
    show#[_,U,U,_,_,U,_,_,U,_,_,U,U,?_];show#[_,U,_,.inr U,?_];show jg eS jU (λr0 (r:Str×Tm)=>r.1=r0.name/\(λt=>Ty W (r0.fs++b0.ps) b0.res t/\t.tq (n+2)) r.2) _ (λr0 hr0 k N0 g1 g2=>?_) λsub rs hsub hprs=>?_
    .refine#[_,U,U,_,_,U,_,_,U,U,?_];show#[_,U,_,U,_,U,U,.inr #[_,_,_,[.inr r0.name,.inr b0.name],U,U,U,?_]];cases hl:bA ks vs [.inr r0.name,.inr b0.name] with
     | none=>exact#[_,U,kx U (g2 _ U)]
     | some v =>
      let(t,rfl,ht1,ht2):=hC.at bp hkd hr0 hb0 hl;exact#[_,U,n5 U #[_,U,_,U,_,U,_,U,U,.inr #[_,_,_,[.inr r0.name,.inr b0.name],U,U,U,_,hl,g1 (r0.name,t) _ #[U,ht1,ht2] rfl]]]
    have hrw:rT (FA W kd (n+2) b0) (n+2) rs:=zZ (F:=λ(r0:eU) t=>Ty W (r0.fs++b0.ps) b0.res t/\t.tq (n+2)) (uA bp hkd) k5 hsub hprs λr0 hr0 t ht=>#[(kg bp hkd hr0 hb0 ht.1).1,(kg bp hkd hr0 hb0 ht.1).2,ht.2];have hrw2:=hrw.perm (sW wy rs);rw[aaF];show#[_,U,_,wy,U,U,hwy,?_];rw[xS];have hdl:=congrArg List.length hdt;rw[aab] at hdl;show#[1,_,U,U,U,?_];show#[_,U,_,U,_,U,_,U,_,.inl U,?_];show#[_,U,_,_,U,U,?_,?_]
    .rw[aaa,abh];cbv
    show hN2 _ #[dn++[b0],td,tabs++[lW wy rs],.dat (.str b0.name),.dat (cG b0.ps),.dat (.str b0.res),.dat (.lst ((lW wy rs).map jU)),y16,y17,by rw[hdt];simp,U,by rw[List.length_append,List.length_append,htl];rfl,λq hq=>?_,#[U,U,U,U,p16,p17],?_]
    .rw[lX htl] at hq;rcases aaw.mp hq with hq | hq
     .exact hro q hq
     .rw[aag.mp hq];exact hrw2
    .rw[lX htl,aai]
     rfl
   .rintro s ⟨dn,td2,tabs,z12,z13,z14,z15,z16,z17,hdt,hx,htl,hro,⟨f12,f13,f14,f15,f16,f17⟩,rfl⟩;have htd2:td2=[]:=by
     cases td2 with
     | nil=>rfl
     | cons a b=>cases hx
    rw[htd2,aal] at hdt;subst hdt;show#[_,U,#[U,U,U],_,U,?_];show b9 (b':=kd.asked) (cJ _) (λhask=>?_) λhask=>?_
    rotate_left
    .refine#[0,_,U,U,U,?_];show#[_,U,_,U,?_];show#[_,U,_,U,_,U,#[U,U,U],?_];show .inr #[_,U,?_];rw[cJ,hask];show#[_,_,_,U,U,U,?_];show .inr #[_,_,U,U,?_];show#[_,.inl U,?_];show#[_,U,_,_,U,U,?_,?_]
     .have:=congrArg List.length hps;rw[aab,aaa] at this;have:=bp.kl;rw[aaa];cbv
     have hpk:lL W (n+2) #[false,kd,tabs]:=lL.ofA bp hkd htl hro;show hN _ #[td,ps++[#[false,kd,tabs]],.dat (sy kd),.dat (GG (ks,vs)),.dat (.str (bc kd.asked)),.dat (.str kd.name),.dat (.tup (kd.bz.map eS)),.dat (.tup (kd.bN.map eI)),.dat (.int wy),.dat (D.lst ((kd.bN.zip tabs).map kT)),(fO 1 (D.lst ((kd.bN.zip tabs).map kT)) z12),(fO 1 (D.lst ((kd.bN.zip tabs).map kT)) z13),(fO 1 (D.lst ((kd.bN.zip tabs).map kT)) z14),(fO 1 (D.lst ((kd.bN.zip tabs).map kT)) z15),(fO 1 (D.lst ((kd.bN.zip tabs).map kT)) z16),(fO 1 (D.lst ((kd.bN.zip tabs).map kT)) z17),U,λx hx=>htd x (List.mem_cons_of_mem _ hx),by rw[<- hps];simp,λp hp=>?_,#[ck f12,ck f13,ck f14,ck f15,ck f16,ck f17],?_]
     .rcases aaw.mp hp with hp | hp
      .exact bM p hp
      .rw[aag.mp hp];exact#[hpk,hask.symm]
     .rw[aai];change _=DS.mk _ [some (D.lst (ps.map gj++[D.tup [D.str (bc false),D.str kd.name,BL #[false,kd,tabs],D.tup (jA #[false,kd,tabs])]])),none];rw[hask]
      rfl
    show#[#[U,(show noRef 1 7 [z12,z13,z14,z15,z16,z17]=true by rw[bu f12,bu f13,bu f14,bu f15,bu f16,bu f17];rfl)],?_];show#[_,U,_,.inr U,?_];show cV (λxs s=>∃ (dn td:!eU) (tabs:!(!(Str×Tm))) (d7 cS vk Ce v9 v8:Sl),kd.bz=dn++td/\xs=td.map eS/\tabs.length=dn.length/\(∀ x∈dn.zip tabs,rT (FM W kd (n+2) x.1) (n+2) x.2)/\(d7.pl=true/\cS.pl=true/\vk.pl=true/\Ce.pl=true/\v9.pl=true/\v8.pl=true)/\s=#[[.dat (.bJ d),.dat (pU W),.dat (.int room),.own 0,.dat (sy kd),.dat (GG (ks,vs)),.dat (.str (bc kd.asked)),.dat (.str kd.name),.dat (.tup (kd.bz.map eS)),.dat (.tup (kd.bN.map eI)),.dat (.int wy),.own 1,d7,cS,vk,Ce,v9,v8],[some (.lst (ps.map gj)),some (.lst ((dn.zip tabs).map k6))]]) ?_ ?_ _ _ #[[],kd.bz,[],z12,z13,z14,z15,z16,z17,U,U,U,λ_ h=>(nomatch h),#[f12,f13,f14,f15,f16,f17],U]
    rotate_left
    .rintro x xs s N2 ⟨dn,td,tabs,y12,Jj,y14,y15,y16,y17,hdt,hx,htl,hro,⟨p12,p13,p14,p15,p16,p17⟩,rfl⟩ hN2 hE_2;cases td with
     | nil=>cases hx
     | cons b0 td =>
     injection hx with e1 e2;subst e1 e2;have hb0:b0∈kd.bz:=by rw[hdt];simp
     show#[_,U,U,_,_,U,_,_,U,U,?_];show#[_,U,_,.inr U,?_];show jg eI jU (λr0 (r:Str×Tm)=>r.1=r0.name/\(λt=>Ty W (b0.fs++r0.ps) r0.res t/\t.tq (n+2)) r.2) _ (λr0 hr0 k N0 g1 g2=>?_) λsub rs hsub hprs=>?_
     .refine#[_,U,U,_,_,U,_,_,U,_,_,U,U,?_];show#[_,U,_,U,_,U,U,.inr #[_,_,_,[.inr b0.name,.inr r0.name],U,U,U,?_]];cases hl:bA ks vs [.inr b0.name,.inr r0.name] with
      | none=>exact#[_,U,kx U (g2 _ U)]
      | some v =>
       let(t,rfl,ht1,ht2):=hC.at bp hkd hb0 hr0 hl;exact#[_,U,n5 U #[_,U,_,U,_,U,_,U,U,.inr #[_,_,_,[.inr b0.name,.inr r0.name],U,U,U,_,hl,g1 (r0.name,t) _ #[U,ht1,ht2] rfl]]]
     have hrw:rT (FM W kd (n+2) b0) (n+2) rs:=zZ (F:=λ(r0:d6) t=>Ty W (b0.fs++r0.ps) r0.res t/\t.tq (n+2)) (uH bp hkd) a5 hsub hprs λr0 hr0 t ht=>#[(kg bp hkd hb0 hr0 ht.1).1,(kg bp hkd hb0 hr0 ht.1).2,ht.2];have hrw2:=hrw.perm (sW wy rs);rw[aaF];show#[_,U,_,wy,U,U,hwy,?_];rw[xS];have hdl:=congrArg List.length hdt;rw[aab] at hdl;show#[1,_,U,U,U,?_];show#[_,U,_,U,_,U,_,.inl U,?_];show#[_,U,_,_,U,U,?_,?_]
     .rw[aaa,abh];cbv
     show hN2 _ #[dn++[b0],td,tabs++[lW wy rs],y12,Jj,y14,.dat (.lst ((lW wy rs).map jU)),.dat (.str b0.name),.dat (cG b0.fs),by rw[hdt];simp,U,by rw[List.length_append,List.length_append,htl];rfl,λq hq=>?_,#[p12,p13,p14,U,U,U],?_]
     .rw[lX htl] at hq;rcases aaw.mp hq with hq | hq
      .exact hro q hq
      .rw[aag.mp hq];exact hrw2
     .rw[lX htl,aai]
      rfl
    .rintro s ⟨dn,td3,tabs,z12,z13,z14,z15,z16,z17,hdt,hx,htl,hro,⟨f12,f13,f14,f15,f16,f17⟩,rfl⟩;have htd3:td3=[]:=by
      cases td3 with
      | nil=>rfl
      | cons a b=>cases hx
     rw[htd3,aal] at hdt;subst hdt;show#[0,_,U,U,U,?_];show#[_,U,_,U,?_];show#[_,U,_,U,_,U,#[U,U,U],?_];show .inr #[_,U,?_];rw[cJ,hask];show#[_,_,_,U,U,U,?_];show .inr #[_,_,U,U,?_];show#[_,.inl U,?_];show#[_,U,_,_,U,U,?_,?_]
     .have:=congrArg List.length hps;rw[aab,aaa] at this;have:=bp.kl;rw[aaa];cbv
     have hpk:lL W (n+2) #[true,kd,tabs]:=lL.ofM bp hkd htl hro;show hN _ #[td,ps++[#[true,kd,tabs]],.dat (sy kd),.dat (GG (ks,vs)),.dat (.str (bc kd.asked)),.dat (.str kd.name),.dat (.tup (kd.bz.map eS)),.dat (.tup (kd.bN.map eI)),.dat (.int wy),.dat (D.lst ((kd.bz.zip tabs).map k6)),(fO 1 (D.lst ((kd.bz.zip tabs).map k6)) z12),(fO 1 (D.lst ((kd.bz.zip tabs).map k6)) z13),(fO 1 (D.lst ((kd.bz.zip tabs).map k6)) z14),(fO 1 (D.lst ((kd.bz.zip tabs).map k6)) z15),(fO 1 (D.lst ((kd.bz.zip tabs).map k6)) z16),(fO 1 (D.lst ((kd.bz.zip tabs).map k6)) z17),U,λx hx=>htd x (List.mem_cons_of_mem _ hx),by rw[<- hps];simp,λp hp=>?_,#[ck f12,ck f13,ck f14,ck f15,ck f16,ck f17],?_]
     .rcases aaw.mp hp with hp | hp
      .exact bM p hp
      .rw[aag.mp hp];exact#[hpk,hask.symm]
     .rw[aai];change _=DS.mk _ [some (D.lst (ps.map gj++[D.tup [D.str (bc true),D.str kd.name,BL #[true,kd,tabs],D.tup (jA #[true,kd,tabs])]])),none];rw[hask]
      rfl
def YA:ace:=λds R=>∃ (W:aW) (n:Nat) (p:PK),ds=[gj p]/\lL W n p/\R (.tup (p.kd.bz.map eS))
theorem Rk(F:Own K mg gR)(T:Txt K mg):ac0 P w K mg base gR 1 YA:=by
 show F.d (nos:=0) u9 (λds R h=>?_) λf a8 A outer s H E M hr=>#[_,(ag (cv (aK bf cz (bO (vd 0) aj) av (aF _))
 (aq (aV (bO (vd 0) aj)))
 aO)
 (aq (aV (i9 T.tuple (ae (DN.de (nC ["table"] [] (aZ (bO (vd 0) aj)) (λ_ _ _ _=>(gM 0 ["table"])) (λ_ _ _ _=>bY)
 (λ_ _ _ _=>(aw (ae (bO (vd 0) aj) (ae (bO (vd 0) aj) af)))))) af))))),λds R h=>?_]
 .let(W,n,p,rfl,_):=h
  rfl
 .let(W,n,(b,kd,ts),rfl,ok,q):=h;have tl:=ok.tl;show#[_,U,_,_,_,U,U,U,#[U,U,U],_,U,?_];cases b with
  | false=>exact n5 (eB false) #[_,U,_,_,_,U,U,U,q]
  | true =>
   show kx (eB true) ?_;show#[_,U,_,_,_,U,U,U,_,.inr U,?_];show aQ k6 (λx=>eS x.1) _ (λx hx k hk=>#[_,U,_,_,_,U,U,U,_,U,_,_,_,U,U,U,hk _ U]) ?_;show#[_,.inl U,?_];rw[aaF,xy tl];exact q
theorem Di{l:!d6}{ts:!(!(Str×Tm))}(h:ts.length=l.length):(l.zip ts).map (λx=>eI x.1)=l.map eI:=by
 rw[show (λx:d6×!(Str×Tm)=>eI x.1)=eI∘Prod.fst from U,<- aan,abn (by cbv)]
def V9:ace:=λds R=>∃ (W:aW) (n:Nat) (p:PK),ds=[gj p]/\lL W n p/\R (.tup (p.kd.bN.map eI))
theorem Rw(F:Own K mg fB)(T:Txt K mg):ac0 P w K mg base fB 1 V9:=by
 show F.d (nos:=0) uV (λds R h=>?_) λf a8 A outer s H E M hr=>#[_,(ag (cv (aK bf cz (bO (vd 0) aj) av (aF _))
 (aq (aV (bO (vd 0) aj)))
 aO)
 (aq (aV (i9 T.tuple (ae (DN.de (nC ["function"] [] (aZ (bO (vd 0) aj)) (λ_ _ _ _=>(gM 0 ["function"])) (λ_ _ _ _=>bY)
 (λ_ _ _ _=>(aw (ae (bO (vd 0) aj) (ae (bO (vd 0) aj) (ae (bO (vd 0) aj) af))))))) af))))),λds R h=>?_]
 .let(W,n,p,rfl,_):=h
  rfl
 .let(W,n,(b,kd,ts),rfl,ok,q):=h;have tl:=ok.tl;show#[_,U,_,_,_,U,U,U,#[U,U,U],_,U,?_];cases b with
  | true=>exact n5 (cJ true) #[_,U,_,_,_,U,U,U,q]
  | false =>
   show kx (cJ false) ?_;show#[_,U,_,_,_,U,U,U,_,.inr U,?_];show aQ kT (λx=>eI x.1) _ (λx hx k hk=>#[_,U,_,_,_,U,U,U,_,U,_,_,_,U,U,U,_,U,_,_,_,U,U,U,hk _ U]) ?_;show#[_,.inl U,?_];rw[aaF,Di tl];exact q
abbrev fW:Ev:=inClass (top 9) 0
theorem zP:ax ["self","heads","row","tables_let"] ["self","heads","row","tables_let"] (ai fW):=dM
abbrev gg:Ev:=inClass (top 9) 2
abbrev df:D3:=("plan",gg,["self","tasks"])
theorem yD:ax ["self","tasks"] ["self","tasks"] (ai gg):=dM
abbrev cM:Ev:=inClass (top 9) 3
abbrev bU:D3:=("take_kind",cM,["self"])
theorem pD:ax ["self"] ["self"] (ai cM):=dM
abbrev cN:Ev:=inClass (top 9) 4
abbrev cm:D3:=("tell_kind",cN,["self","kind"])
theorem pN:ax ["self","kind"] ["self","kind"] (ai cN):=dM
abbrev gd:Ev:=inClass (top 8) 0
theorem en:ax ["self","program","kind","maker","fields","asker","params","result"] ["self","program"] (ai gd):=dM
abbrev bP:Ev:=inClass (top 8) 2
abbrev cZ:D3:=("side_of_maker",bP,["self","maker"])
theorem kI:ax ["self","maker"] ["self","maker"] (ai bP):=dM
abbrev bS:Ev:=inClass (top 8) 3
abbrev cX:D3:=("bound_in_cell",bS,["self","maker","asker"])
theorem kJ:ax ["self","maker","asker"] ["self","maker","asker"] (ai bS):=dM
abbrev lQ:!Str:=["heads","text_row","tables_let","ahead","done"]
structure sY(K:Frag)(C:AC):Prop where
 cls:vL K C
 n0:cx K C "heads"
 n1:cx K C "text_row"
 n2:cx K C "tables_let"
 n3:cx K C "ahead"
 n4:cx K C "done"
structure sx(K:Frag)(C:AC):Prop where
 cls:vL K C
 n0:cx K C "kinds"
 n1:cx K C "makers"
 n2:cx K C "askers"
def Lk(W:aW)(ps:!PK):Prop:=(∃ n,Bz W n ps)/\∀ p∈ps,p.asked=p.kd.asked
def mY(B:AC)(W:aW)(ps:!PK):D:=.ob B vU [Vk ps,Ep (pJ W.kinds),Dd (pR W.kinds)]
def vW(C:AC)(hd:D)(r:Int)(a b:AC)(st:!hX)(dn:!Str):!D:=[.ob C lQ [hd,.int r,.bl false,.bJ a,.bJ b],.lst (st.reverse.map Ga),.lst (dn.map .str)]
theorem Bz.len{W:aW}{n:Nat}{ps:!PK}(h:Bz W n ps):ps.length<=5:=by
 have:=h.bp.kl;rw[<- h.kd,aaa] at this;exact this
def I0(C:AC):mh:=λrs ds cs R=>∃ (x a b:AC) (hd:D) (r:Int) (ts ah dn:!D),rs=[x,a,b]/\ds=[.bJ x,.lst ts]/\cs=[.ob C lQ [hd,.int r,.bl false,.bJ a,.bJ b],.lst ah,.lst dn]/\ts.length+ah.length<=100000/\R .bx [.ob C lQ [hd,.int r,.bl false,.bJ a,.bJ b],.lst (ah++ts.reverse),.lst dn]
theorem iw(C:AC)(hd:D)(r:Int)(a b:AC)(st ts:!hX)(dn:!Str):vW C hd r a b (ts++st) dn=[.ob C lQ [hd,.int r,.bl false,.bJ a,.bJ b],.lst (st.reverse.map Ga++(ts.map Ga).reverse),.lst (dn.map .str)]:=by
 unfold vW;rw[List.reverse_append,aai,ab7 (l:=ts)]
theorem Sq{C:AC}(F:ia K C "TermLook.plan" df)(V:sY K C)(T:Txt K mg):gi P w K mg base C df 1 (b3 K (I0 C)):=by
 show F.o (nos:=0) (n:=3) yD (λrs ds cs R h=>?_) λf a8 A outer s H E M rs hr hrs=>#[_,(aq (aR (Ay 1 abi abj ir xi (cp 0 lQ 3 V.cls V.n3 (vd 0)) (ae (DN.de (JT (vd 1) mC)) af)))),λds cs R h=>?_]
 .let(x,a,b,hd,r,ts,ah,dn,rfl,rfl,_):=h;exact#[U,U]
 .let(x,a,b,hd,r,ts,ah,dn,rfl,rfl,rfl,hl,q):=h;have hsz:=aH;right;show#[by rw[List.length_reverse];cbv,?_];exact#[_,U,q]
def NQ(C:AC):mh:=λrs ds cs R=>∃ (x a b:AC) (hd:D) (r:Int) (st:!hX) (dn:!Str) (k:Str),rs=[x,a,b]/\ds=[.bJ x]/\cs=vW C hd r a b st (dn++[k])/\R (.str k) (vW C hd r a b st dn)
theorem Rp{C:AC}(F:ia K C "TermLook.take_kind" bU)(V:sY K C)(T:Txt K mg):gi P w K mg base C bU 1 (b3 K (NQ C)):=by
 show F.o (nos:=0) (n:=3) pD (λrs ds cs R h=>?_) λf a8 A outer s H E M rs hr hrs=>#[_,(aq (lu (yq 2 aa6 aa7 vH Cm (cp 0 lQ 4 V.cls V.n4 (vd 0))))),λds cs R h=>?_]
 .let(x,a,b,hd,r,st,dn,k,rfl,rfl,_):=h;exact#[U,U]
 .let(x,a,b,hd,r,st,dn,k,rfl,rfl,rfl,q):=h;show#[_,U,x,_,_,U,U,U,U,b,_,U,U,U,U,_,U,dn.map .str,.str k,by rw[aai];rfl,U,?_];exact#[_,U,q]
def Rj(C:AC):mh:=λrs ds cs R=>∃ (x a b:AC) (hd:D) (r:Int) (st:!hX) (dn:!Str) (k:Str),rs=[x,a,b]/\ds=[.bJ x,.str k]/\cs=vW C hd r a b st dn/\dn.length<=100000/\R .bx (vW C hd r a b st (dn++[k]))
theorem Ox{C:AC}(F:ia K C "TermLook.tell_kind" cm)(V:sY K C)(T:Txt K mg):gi P w K mg base C cm 1 (b3 K (Rj C)):=by
 show F.o (nos:=0) (n:=3) pN (λrs ds cs R h=>?_) λf a8 A outer s H E M rs hr hrs=>#[_,(aq (aR (Ay 2 abA abB hZ Bj (cp 0 lQ 4 V.cls V.n4 (vd 0)) (ae (vd 1) af)))),λds cs R h=>?_]
 .let(x,a,b,hd,r,st,dn,k,rfl,rfl,_):=h;exact#[U,U]
 .let(x,a,b,hd,r,st,dn,k,rfl,rfl,rfl,hl,q):=h;have hsz:=aH;right;show#[by rw[aaa];cbv,?_];unfold vW at q;rw[aai] at q;exact#[_,U,q]
theorem Lk.nd{W:aW}{ps:!PK}(h:Lk W ps):(ps.map λp=>p.kd.name).Nodup:=by
 let((n,h),_):=h;have:=h.bp.kn;rw[<- h.kd,aan] at this;exact this
theorem Lk.bp{W:aW}{ps:!PK}(h:Lk W ps):gf W:=by
 let((n,h),_):=h;exact h.bp
theorem Lk.at{W:aW}{ps:!PK}(h:Lk W ps){kd:Kd}(hk:kd∈W.kinds):∃ p∈ps,p.kd=kd/\p.asked=kd.asked/\bA (ps.map λp=>(Sum.inr p.kd.name:Key)) (ps.map gj) (Sum.inr kd.name)=some (gj p):=by
 let((n,h0),hs):=id h;rw[<- h0.kd] at hk;let(p,hp,rfl):=aak.mp hk;exact#[p,hp,U,hs p hp,Iv (f:=λp:PK=>p.kd.name) h.nd p hp]
theorem Lk.mk{W:aW}{ps:!PK}(h:Lk W ps){kd:Kd}(hk:kd∈W.kinds){m:eU}(hm:m∈kd.bz):bA ((pJ W.kinds).map λx=>(Sum.inr x.2.name:Key)) ((pJ W.kinds).map OI) (Sum.inr m.name)=some (OI (kd,m)):=Iv (f:=λx:Kd×eU=>x.2.name) (by rw[ki];exact h.bp.mn) (kd,m) (zJ hk hm)
theorem Lk.ak{W:aW}{ps:!PK}(h:Lk W ps){kd:Kd}(hk:kd∈W.kinds){m:d6}(hm:m∈kd.bN):bA ((pR W.kinds).map λx=>(Sum.inr x.2.name:Key)) ((pR W.kinds).map TL) (Sum.inr m.name)=some (TL (kd,m)):=Iv (f:=λx:Kd×d6=>x.2.name) (by rw[nN];exact h.bp.an) (kd,m) (CO hk hm)
def X3(C:AC):mh:=λrs ds cs R=>∃ (x a b:AC) (hd:D) (r:Int) (st:!hX) (dn:!Str) (fs:!(Str×Str)) (ts:!Tm) (sc:Sc) (k:Str),rs=[x,a,b]/\ds=[.bJ x,cG fs,.tup (toDs ts),FU sc,.str k]/\cs=vW C hd r a b st dn/\(ts.length=fs.length/\fs.length<=1000/\st.length<=10000)/\R .bx (vW C hd r a b (hand sc (fs.map (·.2)) ts++.tell k::st) dn)
theorem Lf(fs:!(Str×Str))(ts:!Tm):uF (fs.map pairD) (toDs ts)=(fs.zip ts).map λx=>D.tup [pairD x.1,toD x.2]:=by
 unfold uF;rw[toDs_map,List.zip_eq_zipWith,List.map_zipWith,List.zipWith_map]
theorem EM{α β:Type}{f:α->!β}(h:∀ x,(f x).length=2):∀ l:!α,(l.flatMap f).length=2 * l.length
 | []=>rfl
 | x::l=>by rw[aaX,aab,h,EM h l,aam];cbv
def Vm(sc:Sc)(x:(Str×Str)×Tm):!hX:=[.term x.2 sc,.want x.1.2]
theorem SW{C:AC}(BV:gi P w K mg base C df 1 (b3 K (I0 C)))(F:Own K mg ee)(V:sY K C)(T:Txt K mg):C4 P w K mg base aP ee 2 (b3 K (X3 C)):=by
 show F.o (nos:=1) (n:=3) dE (λrs ds cs R h=>?_) λf a8 A outer s H E M rs hr hrs=>#[_,(ag (cv (aK rV zK (dY T.len (ae (vd 2) af)) (dY T.len (ae (vd 1) af)) (aF _))
 fh
 aO)
 (ag (sL (k:=3) (by cbv) 5 dE.nd (aM af))
 (ag (sF (Du U T.zip (ae (vd 1) (ae (vd 2) af))) (bo (m:=2) U (au (bo (m:=2) U (au (gN 6 dE.nd) (au (gN 7 dE.nd) bj))) (au (gN 8 dE.nd) bj)))
 (aq (aR (zE abi abj ir xi (pv 5) (ae (DN.de (aM (ae (aw (ae av (ae (vd 8) (ae (vd 3) af)))) (ae (aw (ae av (ae (vd 7) af))) af)))) af)))))
 (aq (aR (b7 0 lQ V.cls hr BV (vd 0) (ae (DN.de (fD dD dw (vQ (pv 5)) (DN.de (aM (ae (aw (ae av (ae (vd 4) af))) af))))) af))))))),λds cs R h=>?_]
 .let(x,a,b,hd,r,st,dn,fs,ts,sc,k,rfl,rfl,_):=h;exact#[U,U]
 .let(x,a,b,hd,r,st,dn,fs,ts,sc,k,rfl,rfl,rfl,(hl,hf,fC),q):=h;have hsz:=aH;have e1:(toDs ts).length=(fs.map pairD).length:=by rw[toDs_len,aaa];exact hl
  right;show kx (by rw[e1];simp) ?_;right;rw[Lf];show eN (λx:(Str×Str)×Tm=>D.tup [pairD x.1,toD x.2]) (λdz s=>∃ y6 y7 y8:Sl,(y6.pl=true/\y7.pl=true/\y8.pl=true)/\s=#[[.dat (.bJ x),.dat (cG fs),.dat (.tup (toDs ts)),.dat (FU sc),.dat (.str k),.own 3,y6,y7,y8],(vW C hd r a b st dn).map some++[some (.lst ((dz.flatMap (Vm sc)).map Ga))]]) ?_ ?_ _ #[.no,.no,.no,#[U,U,U],U]
  .rintro s ⟨y6,y7,y8,hy,rfl⟩;have h2:=EM (f:=Vm sc) (λ_=>rfl) (fs.zip ts);rw[abh,hl,Nat.min_self] at h2;have e3:hand sc (fs.map (·.2)) ts++.tell k::st=((fs.zip ts).flatMap (Vm sc)++[.tell k])++st:=by rw[xH,aaz];rfl
   rw[e3] at q;show#[_,U,x,_,U,U,U,.inr #[3,_,U,U,?_]];right;show#[by rw[aaa,h2];change _+1<=_;cbv,?_];show#[_,U,x,a,b,hd,r,_,_,_,U,U,U,by rw[aab,aaa,aaa,h2,List.length_reverse];change _+1+_<=_;cbv,?_];rw[iw,aai] at q;exact#[_,U,q]
  .rintro dz z td s E e ⟨y6,y7,y8,hy,rfl⟩ hN hE;have hdz:=EM (f:=Vm sc) (λ_=>rfl) dz;have hle:=congrArg List.length e;rw[abh,hl,Nat.min_self,aab,aam] at hle;right;show#[by rw[aaa,hdz];change _+2<=_;cbv,?_];show hN _ #[.dat (.str z.1.1),.dat (.str z.1.2),.dat (toD z.2),#[U,U,U],?_];rw[List.flatMap_append,aai]
   rfl
def Cd(C B:AC)(i:Str):mh:=λrs ds cs R=>∃ (x a b:AC) (W:aW) (ps:!PK) (r:Int) (g:Str) (f:Fm) (ts:!Tm) (sc:Sc) (st:!hX) (dn:!Str),rs=[x,a,b]/\ds=[.bJ x,toD (.node f ts),FU sc]/\cs=vW C (mY B W ps) r a b st dn/\(qm f=i/\Lk W ps/\go W g (.term (.node f ts) sc::st) dn/\dn.length+wL (.term (.node f ts) sc::st)<=10000)/\∀ jq Fp,nx W g (.term (.node f ts) sc) st dn jq Fp->R .bx (vW C (mY B W ps) r a b jq Fp)
theorem qr{f:Fm}{ts:!Tm}{sc:Sc}{st:!hX}{n:Nat}(h:n+wL (.term (.node f ts) sc::st)<=10000):n<=10000/\st.length<=10000/\24 * bh ts<=10000:=by
 have:=yE st;rw[bV,gK] at h;cbv
theorem UJ{C B:AC}(Ky:gi P w K mg base C cm 1 (b3 K (Rj C)))(F:Own K mg jB)(V:sY K C)(Uh:sx K B)(T:Txt K mg):C4 P w K mg base aP jB 3 (b3 K (Cd C B "name")):=by
 show F.o (nos:=0) (n:=3) uZ (λrs ds cs R h=>?_) λf a8 A outer s H E M rs hr hrs=>#[_,(ag (cv (vw (bG hr) (bO (vd 1) aj) (vd 2))
 fh
 aO)
 (aq (aR (b7 0 lQ V.cls hr Ky (vd 0) (ae (eO (aX (bG hr) (DE.pe (vd 2)) (DE.pe (bO (vd 1) aj)) (λ_ _=>rfl))) af))))),λds cs R h=>?_]
 .let(x,a,b,W,ps,r,g,f,ts,sc,st,dn,rfl,rfl,_):=h;exact#[U,U]
 .let(x,a,b,W,ps,r,g,f,ts,sc,st,dn,rfl,rfl,rfl,(hi,lk,hgo,hw),q):=h;let(y,rfl):=Aq hi;have hsz:=aH;let(hdn,fC,hsz2):=qr hw;let(k,hk,hn,hx):=UB lk.bp hgo;have hl:bA (sc.map λp=>(Sum.inr p.1:Key)) (sc.map λp=>D.str p.2) (Sum.inr y)=some (.str k):=Iv (f:=λp:Str×Str=>p.1) (h:=λp=>.str p.2) hn.1 (y,k) hk;right;rw[hl];show kx U ?_;right;show#[_,hl,?_];right;show#[by cbv,_,U,q _ _ hx]
theorem Va{C B:AC}(Ky:gi P w K mg base C cm 1 (b3 K (Rj C)))(F:Own K mg lD)(V:sY K C)(Uh:sx K B)(T:Txt K mg):C4 P w K mg base aP lD 3 (b3 K (Cd C B "num")):=by
 show F.o (nos:=0) (n:=3) xV (λrs ds cs R h=>?_) λf a8 A outer s H E M rs hr hrs=>#[_,(aq (aR (b7 0 lQ V.cls hr Ky (vd 0) (ae av af)))),λds cs R h=>?_]
 .let(x,a,b,W,ps,r,g,f,ts,sc,st,dn,rfl,rfl,_):=h;exact#[U,U]
 .let(x,a,b,W,ps,r,g,f,ts,sc,st,dn,rfl,rfl,rfl,(hi,lk,hgo,hw),q):=h;let(y,rfl):=Ei hi;have hsz:=aH;let(hdn,fC,hsz2):=qr hw;have hx:=ME lk.bp hgo;right;show#[by cbv,_,U,q _ _ hx]
theorem QF{C B:AC}(BV:gi P w K mg base C df 1 (b3 K (I0 C)))(F:Own K mg n8)(V:sY K C)(Uh:sx K B)(T:Txt K mg):C4 P w K mg base aP n8 3 (b3 K (Cd C B "op")):=by
 show F.o (nos:=0) (n:=3) yS (λrs ds cs R h=>?_) λf a8 A outer s H E M rs hr hrs=>#[_,(aq (aR (b7 0 lQ V.cls hr BV (vd 0) (ae (DN.de (aM (ae (aw (ae av (ae (bO (vd 1) aj) (ae (vd 2) af)))) (ae (aw (ae av (ae av af))) (ae (aw (ae av (ae (bO (vd 1) aj) (ae (vd 2) af)))) (ae (aw (ae av (ae av af))) (ae (aw (ae av (ae av af))) af))))))) af)))),λds cs R h=>?_]
 .let(x,a,b,W,ps,r,g,f,ts,sc,st,dn,rfl,rfl,_):=h;exact#[U,U]
 .let(x,a,b,W,ps,r,g,f,ts,sc,st,dn,rfl,rfl,rfl,(hi,lk,hgo,hw),q):=h;let(y,rfl):=Je hi;have hsz:=aH;let(hdn,fC,hsz2):=qr hw;let(t1,t2,rfl,hx):=P9 lk.bp hgo;right;show#[by rw[List.length_map,List.length_reverse];simp only[List.length_cons,List.length_nil];cbv,_,U,?_];have q:=q _ _ hx;rw[iw] at q;exact q
theorem QW{C B:AC}(BV:gi P w K mg base C df 1 (b3 K (I0 C)))(F:Own K mg jD)(V:sY K C)(Uh:sx K B)(T:Txt K mg):C4 P w K mg base aP jD 3 (b3 K (Cd C B "zero")):=by
 show F.o (nos:=0) (n:=3) uq (λrs ds cs R h=>?_) λf a8 A outer s H E M rs hr hrs=>#[_,(aq (aR (b7 0 lQ V.cls hr BV (vd 0) (ae (DN.de (aM (ae (aw (ae av (ae (bO (vd 1) aj) (ae (vd 2) af)))) (ae (aw (ae av (ae av af))) (ae (aw (ae av (ae (bO (vd 1) aj) (ae (vd 2) af)))) (ae (aw (ae av (ae (bO (vd 1) aj) (ae (vd 2) af)))) (ae (aw (ae av af)) af))))))) af)))),λds cs R h=>?_]
 .let(x,a,b,W,ps,r,g,f,ts,sc,st,dn,rfl,rfl,_):=h;exact#[U,U]
 .let(x,a,b,W,ps,r,g,f,ts,sc,st,dn,rfl,rfl,rfl,(hi,lk,hgo,hw),q):=h;obtain rfl:=EV hi;have hsz:=aH;let(hdn,fC,hsz2):=qr hw;let(t1,t2,t3,rfl,hx):=Lo lk.bp hgo;right;show#[by rw[List.length_map,List.length_reverse];simp only[List.length_cons,List.length_nil];cbv,_,U,?_];have q:=q _ _ hx;rw[iw] at q;exact q
theorem RN{C B:AC}(BV:gi P w K mg base C df 1 (b3 K (I0 C)))(F:Own K mg lH)(V:sY K C)(Uh:sx K B)(T:Txt K mg):C4 P w K mg base aP lH 3 (b3 K (Cd C B "let")):=by
 show F.o (nos:=0) (n:=3) wO (λrs ds cs R h=>?_) λf a8 A outer s H E M rs hr hrs=>#[_,(aq (aR (b7 0 lQ V.cls hr BV (vd 0) (ae (DN.de (aM (ae (aw (ae av (ae (bO (vd 1) aj) (ae (vd 2) af)))) (ae (aw (ae av (ae (bO (vd 1) aj) (ae (bO (vd 1) aj) (ae (vd 2) af))))) af)))) af)))),λds cs R h=>?_]
 .let(x,a,b,W,ps,r,g,f,ts,sc,st,dn,rfl,rfl,_):=h;exact#[U,U]
 .let(x,a,b,W,ps,r,g,f,ts,sc,st,dn,rfl,rfl,rfl,(hi,lk,hgo,hw),q):=h;let(y,rfl):=JE hi;have hsz:=aH;let(hdn,fC,hsz2):=qr hw;let(t1,t2,rfl,hx):=OS lk.bp hgo;right;show#[by rw[List.length_map,List.length_reverse];simp only[List.length_cons,List.length_nil];cbv,_,U,?_];have q:=q _ _ hx;rw[iw] at q;exact q
theorem Kr{C B:AC}(BV:gi P w K mg base C df 1 (b3 K (I0 C)))(F:Own K mg lz)(V:sY K C)(Uh:sx K B)(T:Txt K mg):C4 P w K mg base aP lz 3 (b3 K (Cd C B "ask")):=by
 show F.o (nos:=0) (n:=3) wA (λrs ds cs R h=>?_) λf a8 A outer s H E M rs hr hrs=>#[_,(aq (aR (b7 0 lQ V.cls hr BV (vd 0) (ae (DN.de (aM (ae (aw (ae av (ae (bO (vd 1) aj) (ae (vd 2) af)))) (ae (aw (ae av (ae (bO (vd 1) aj) (ae (bO (vd 1) aj) (ae (vd 2) af))))) af)))) af)))),λds cs R h=>?_]
 .let(x,a,b,W,ps,r,g,f,ts,sc,st,dn,rfl,rfl,_):=h;exact#[U,U]
 .let(x,a,b,W,ps,r,g,f,ts,sc,st,dn,rfl,rfl,rfl,(hi,lk,hgo,hw),q):=h;let(y,rfl):=Ex hi;have hsz:=aH;let(hdn,fC,hsz2):=qr hw;let(t1,us,rfl,hx):=MN lk.bp hgo;right;show#[by rw[List.length_map,List.length_reverse];simp only[List.length_cons,List.length_nil];cbv,_,U,?_];have q:=q _ _ hx;rw[iw] at q;exact q
theorem J2{C B:AC}(XO:C4 P w K mg base aP ee 2 (b3 K (X3 C)))(F:Own K mg jP)(V:sY K C)(Uh:sx K B)(T:Txt K mg):C4 P w K mg base aP jP 3 (b3 K (Cd C B "make")):=by
 show F.o (nos:=0) (n:=3) iH (λrs ds cs R h=>?_) λf a8 A outer s H E M rs hr hrs=>#[_,(ag (cv (vw (bG hr) (bO (vd 1) aj) (j8 vU 1 Uh.cls Uh.n1 (cp 0 lQ 0 V.cls V.n0 (vd 0))))
 fh
 aO)
 (ag (fP (n:=1000) (eO (aX (bG hr) (DE.pe (j8 vU 1 Uh.cls Uh.n1 (cp 0 lQ 0 V.cls V.n0 (vd 0)))) (DE.pe (bO (vd 1) aj)) (λ_ _=>rfl))) (bo (m:=2) U (au (gN 3 iH.nd) (au (gN 4 iH.nd) bj))))
 (aq (aR (fG hr XO (ae (vd 0) (ae (vd 4) (ae (bO (vd 1) aj) (ae (vd 2) (ae (vd 3) af)))))))))),λds cs R h=>?_]
 .let(x,a,b,W,ps,r,g,f,ts,sc,st,dn,rfl,rfl,_):=h;exact#[U,U]
 .let(x,a,b,W,ps,r,g,f,ts,sc,st,dn,rfl,rfl,rfl,(hi,lk,hgo,hw),q):=h;let(y,rfl):=Jy hi;have hsz:=aH;let(hdn,fC,hsz2):=qr hw;let(kd,m,hk,hm,rfl,hl,hx):=TR lk.bp hgo;have hlk:=lk.mk hk hm;have hf:=(lk.bp.mo kd hk m hm).2.1;right;rw[hlk];show kx U ?_;right;show#[_,hlk,?_];right;exact#[#[hl,aap hf (),fC],_,U,q _ _ hx]
def vF(K:Frag)(f:AC)(q:D3):Prop:=∃ fd,tH K q.1 q.1 q.2.1 f fd/\Binds K fd q.2.2 []
def nB(P:Fa)(w:FB)(K:Frag)(mg:Str->Option AT)(base:Db)(k:Nat)(f:AC)(sp:Sp):Prop:=∃ fd ps,bZ P w K mg base aP k f fd ps sp/\keepIn K (.ref f)=true/\Binds K fd ps []
open PyProof.Rows in
theorem vF.o{f:AC}{q:D3}{N:!Str}{k nos n:Nat}{t:mh}(o:vF K f q)(S:ax N q.2.2 (ai q.2.1))(len:∀ rs ds cs R,t rs ds cs R->ds.length=q.2.2.length/\rs.length=n)(hb:∀ (a8:AT) (A:Fr) (outer:!Env) (s:Cl) (H:Hp) (E:XK) (M:AC->Prop) (rs:!AC),b4 k (A.deeper (envOfC q.1 (ai q.2.1) ↑s f a8))->rs.length=n ->
   ∃ tb,pK (jr aP P w K mg base N q.1 (ai q.2.1) f a8 A outer s H E).wo #[gO rs,M,g8 H rs] (aL q.2.1) tb/\∀ ds cs R,t rs ds cs R->tb (HW n R) (oh N.length nos ds cs)):nB P w K mg base (k+1) f (b3 K t):=by
 let(fd,F,b):=o;exact#[fd,_,Yg F S len hb,F.kp,b]
def E7(C B:AC)(i:Str):mh:=λrs ds cs R=>∃ (x a b:AC) (W:aW) (ps:!PK) (r:Int) (g:Str) (tk:hX) (st:!hX) (dn:!Str),rs=[x,a,b]/\ds=[.bJ x,Ga tk]/\cs=vW C (mY B W ps) r a b st dn/\(vZ tk=i/\Lk W ps/\go W g (tk::st) dn/\dn.length+wL (tk::st)<=10000)/\∀ jq Fp,nx W g tk st dn jq Fp->R .bx (vW C (mY B W ps) r a b jq Fp)
theorem t9{tk:hX}{st:!hX}{n:Nat}(h:n+wL (tk::st)<=10000):n<=10000/\st.length<=10000:=by
 have:=yE st;rw[bV] at h;cbv
theorem Mg{C B:AC}{dm f0:AC}{MQ:!(Str×AT)}(Xb:Ci P w K dm MQ)(Xm:mg "TERMS_termlooker"=some (.ref dm))(O0:∀ i f,valueAt MQ i=some (.ref f)->∃ fd ps,bZ P w K mg base aP 3 f fd ps (b3 K (Cd C B i))/\keepIn K (.ref f)=true/\Binds K fd ps [])(hIn:∀ f,f.fl=true->∃ a,valueAt MQ (qm f)=some (.ref a))(F:vF K f0 fo)(V:sY K C)(Uh:sx K B)(T:Txt K mg):nB P w K mg base 4 f0 (b3 K (E7 C B "term")):=by
 show F.o (nos:=0) (n:=3) cq (λrs ds cs R h=>?_) λa8 A outer s H E M rs hr hrs=>#[_,(ag (fP (n:=1000) (vd 1) (bo (m:=3) U (au (gN 2 cq.nd) (au (gN 3 cq.nd) (au (gN 4 cq.nd) bj)))))
 (aq (aR (me hr Xb Xm O0 (bO (vd 3) aj) (ae (vd 0) (ae (vd 3) (ae (vd 4) af))))))),λds cs R h=>?_]
 .let(x,a,b,W,ps,r,g,tk,st,dn,rfl,rfl,_):=h;exact#[U,U]
 .let(x,a,b,W,ps,r,g,tk,st,dn,rfl,rfl,rfl,(hi,lk,hgo,hw),q):=h;let(t,sc,rfl):=Gi hi;have hsz:=aH;let(hdn,fC):=t9 hw;let(f,ts):=t;show#[_,U,_,U,U,_,_,U,_,_,U,_,_,U,U,?_];have e0:∃ ds,toD (.node f ts)=.tup (.str (qm f)::ds):=by cases f<;>exact#[_,U]
  let(ds,e0):=e0;show#[_,U,_,_,_,e0,U,cC,_,U,hIn f (dG hgo.2.1).1,?_];show#[_,U,_,U,_,U,_,U,x,a,b,W,ps,r,g,f,ts,sc,st,dn,U,U,U,#[U,lk,hgo,hw],λjq Fp hx=>?_];exact#[_,U,q _ _ hx]
theorem Mb{C B:AC}(FV:gi P w K mg base C bU 1 (b3 K (NQ C)))(F:Own K mg nT)(V:sY K C)(Uh:sx K B)(T:Txt K mg):C4 P w K mg base aP nT 4 (b3 K (E7 C B "want")):=by
 show F.o (nos:=0) (n:=3) zG (λrs ds cs R h=>?_) λf a8 A outer s H E M rs hr hrs=>#[_,(aq (cv (aK rV zK (eJ 0 lQ V.cls hr FV (vd 0)) (bO (vd 1) aj) (aF _))
 fh
 aO)),λds cs R h=>?_]
 .let(x,a,b,W,ps,r,g,tk,st,dn,rfl,rfl,_):=h;exact#[U,U]
 .let(x,a,b,W,ps,r,g,tk,st,dn,rfl,rfl,rfl,(hi,lk,hgo,hw),q):=h;let(k,rfl):=Hl hi;have hsz:=aH;let(hdn,fC):=t9 hw;let(d0,rfl,hx):=Hk hgo;show#[_,U,x,_,U,U,U,_,U,x,a,b,_,r,st,d0,k,U,U,U,?_];right;show kx (by rw[decide_eq_true U];rfl) ?_;exact#[_,U,q _ _ hx]
theorem KZ{C B:AC}(Ky:gi P w K mg base C cm 1 (b3 K (Rj C)))(F:Own K mg nz)(V:sY K C)(Uh:sx K B)(T:Txt K mg):C4 P w K mg base aP nz 4 (b3 K (E7 C B "tell")):=by
 show F.o (nos:=0) (n:=3) yl (λrs ds cs R h=>?_) λf a8 A outer s H E M rs hr hrs=>#[_,(aq (aR (b7 0 lQ V.cls hr Ky (vd 0) (ae (bO (vd 1) aj) af)))),λds cs R h=>?_]
 .let(x,a,b,W,ps,r,g,tk,st,dn,rfl,rfl,_):=h;exact#[U,U]
 .let(x,a,b,W,ps,r,g,tk,st,dn,rfl,rfl,rfl,(hi,lk,hgo,hw),q):=h;let(k,rfl):=Gn hi;have hsz:=aH;let(hdn,fC):=t9 hw;have hx:=GN hgo;right;show#[by cbv,_,U,q _ _ hx]
theorem J0{C B:AC}(FV:gi P w K mg base C bU 1 (b3 K (NQ C)))(Ky:gi P w K mg base C cm 1 (b3 K (Rj C)))(F:Own K mg lh)(V:sY K C)(Uh:sx K B)(T:Txt K mg):C4 P w K mg base aP lh 4 (b3 K (E7 C B "alike")):=by
 show F.o (nos:=0) (n:=3) jH (λrs ds cs R h=>?_) λf a8 A outer s H E M rs hr hrs=>#[_,(ag (sS 2 jH.nd (eJ 0 lQ V.cls hr FV (vd 0)))
 (ag (sS 3 jH.nd (eJ 0 lQ V.cls hr FV (vd 0)))
 (ag (cv (aK rV zK (vd 2) (vd 3) (aF _))
 fh
 aO)
 (aq (aR (b7 0 lQ V.cls hr Ky (vd 0) (ae (vd 3) af))))))),λds cs R h=>?_]
 .let(x,a,b,W,ps,r,g,tk,st,dn,rfl,rfl,_):=h;exact#[U,U]
 .let(x,a,b,W,ps,r,g,tk,st,dn,rfl,rfl,rfl,(hi,lk,hgo,hw),q):=h;obtain rfl:=FD hi;have hsz:=aH;let(hdn,fC):=t9 hw;let(d0,k,rfl,hx):=Cn hgo;have hl:(d0++[k]).length<=10000:=by rw[aab] at hdn;cbv
  rw[aab] at hl;show#[_,U,x,_,U,U,U,_,U,x,a,b,_,r,st,d0++[k],k,U,U,U,?_];show#[_,U,x,_,U,U,U,_,U,x,a,b,_,r,st,d0,k,U,U,U,?_];right;show kx (by rw[decide_eq_true U];rfl) ?_;right;show#[by cbv,_,U,q _ _ hx]
theorem MB{C B:AC}(FV:gi P w K mg base C bU 1 (b3 K (NQ C)))(BV:gi P w K mg base C df 1 (b3 K (I0 C)))(F:Own K mg nG)(V:sY K C)(Uh:sx K B)(T:Txt K mg):C4 P w K mg base aP nG 4 (b3 K (E7 C B "bind")):=by
 show F.o (nos:=1) (n:=3) el (λrs ds cs R h=>?_) λf a8 A outer s H E M rs hr hrs=>#[_,(ag (fP (n:=1000) (vd 1) (bo (m:=4) U (au (gN 2 el.nd) (au (gN 3 el.nd) (au (gN 4 el.nd) (au (gN 5 el.nd) bj))))))
 (ag (sS 6 el.nd (eJ 0 lQ V.cls hr FV (vd 0)))
 (ag (cv (zj (bG hr) (vd 3) (vd 5))
 fh
 aO)
 (ag (sL (k:=3) (by cbv) 7 el.nd (jR rW xa U T.dict (-()) (ae (vd 5) af)))
 (ag (kq (eh (bG hr) (pv 7) (DE.pe (vd 3)) (DE.pe (vd 6)) U))
 (aq (aR (b7 0 lQ V.cls hr BV (vd 0) (ae (DN.de (aM (ae (aw (ae av (ae (vd 4) (ae (vQ (pv 7)) af)))) af))) af))))))))),λds cs R h=>?_]
 .let(x,a,b,W,ps,r,g,tk,st,dn,rfl,rfl,_):=h;exact#[U,U]
 .let(x,a,b,W,ps,r,g,tk,st,dn,rfl,rfl,rfl,(hi,lk,hgo,hw),q):=h;let(y,t,sc,rfl):=GH hi;have hsz:=aH;let(hdn,fC):=t9 hw;let(d0,k,rfl,hn,Aj,hx):=GD hgo;have h21:=Aj.len lk.bp;show#[_,U,_,U,U,_,_,U,_,_,U,_,_,U,_,_,U,U,?_];show#[_,U,x,_,U,U,U,_,U,x,a,b,_,r,st,d0,k,U,U,U,?_];have hl:bA (sc.map λp=>(Sum.inr p.1:Key)) (sc.map λp=>D.str p.2) (Sum.inr y)=none:=YM (f:=λp:Str×Str=>p.1) (h:=λp=>.str p.2) hn;right;rw[hl];show kx U ?_;right;show#[by rw[aaa];cbv,?_];rw[Dz hn];right;show#[by rw[List.length_map,List.length_reverse];simp only[List.length_cons,List.length_nil];cbv,_,U,?_];have q:=q _ _ hx;rw[iw] at q;exact q
theorem Kh{C B:AC}(FV:gi P w K mg base C bU 1 (b3 K (NQ C)))(XO:C4 P w K mg base aP ee 2 (b3 K (X3 C)))(F:Own K mg lM)(V:sY K C)(Uh:sx K B)(T:Txt K mg):C4 P w K mg base aP lM 4 (b3 K (E7 C B "asker")):=by
 show F.o (nos:=0) (n:=3) cB (λrs ds cs R h=>?_) λf a8 A outer s H E M rs hr hrs=>#[_,(ag (fP (n:=1000) (vd 1) (bo (m:=4) U (au (gN 2 cB.nd) (au (gN 3 cB.nd) (au (gN 4 cB.nd) (au (gN 5 cB.nd) bj))))))
 (ag (sS 6 cB.nd (eJ 0 lQ V.cls hr FV (vd 0)))
 (ag (cv (vw (bG hr) (vd 3) (j8 vU 2 Uh.cls Uh.n2 (cp 0 lQ 0 V.cls V.n0 (vd 0))))
 fh
 aO)
 (ag (fP (n:=1000) (eO (aX (bG hr) (DE.pe (j8 vU 2 Uh.cls Uh.n2 (cp 0 lQ 0 V.cls V.n0 (vd 0)))) (DE.pe (vd 3)) (λ_ _=>rfl))) (bo (m:=3) U (au (gN 7 cB.nd) (au (gN 8 cB.nd) (au (gN 9 cB.nd) bj)))))
 (ag (cv (aK rV zK (vd 7) (vd 6) (aF _))
 fh
 aO)
 (aq (aR (fG hr XO (ae (vd 0) (ae (vd 8) (ae (vd 4) (ae (vd 5) (ae (vd 9) af))))))))))))),λds cs R h=>?_]
 .let(x,a,b,W,ps,r,g,tk,st,dn,rfl,rfl,_):=h;exact#[U,U]
 .let(x,a,b,W,ps,r,g,tk,st,dn,rfl,rfl,rfl,(hi,lk,hgo,hw),q):=h;let(y,ts,sc,rfl):=DP hi;have hsz:=aH;let(hdn,fC):=t9 hw;let(d0,kd,m,rfl,hk,hm,rfl,hl,hx):=C6 lk.bp hgo;have hlk:=lk.ak hk hm;have hf:=(lk.bp.ao kd hk m hm).2.1.1;show#[_,U,_,U,U,_,_,U,_,_,U,_,_,U,_,_,U,U,?_];show#[_,U,x,_,U,U,U,_,U,x,a,b,_,r,st,d0,kd.name,U,U,U,?_];right;rw[hlk];show kx U ?_;right;show#[_,hlk,?_];right;show kx (by rw[decide_eq_true U];rfl) ?_;right;exact#[#[hl,aap hf (),fC],_,U,q _ _ hx]
def Y6(C B:AC):mh:=λrs ds cs R=>∃ (x a b:AC) (W:aW) (ps:!PK) (r:Int) (g:Str) (t:Tm) (sc:Sc),rs=[x,a,b]/\ds=[.bJ x,toD t,FU sc]/\cs=vW C (mY B W ps) r a b [] []/\(Lk W ps/\yB W sc/\lP W g/\Ty W sc g t/\t.fl=true/\t.size<=400)/\R (.str g) (vW C (mY B W ps) r a b [] [])
theorem QO{C B:AC}(BV:gi P w K mg base C df 1 (b3 K (I0 C)))(FV:gi P w K mg base C bU 1 (b3 K (NQ C))){dk:AC}{JG:!(Str×AT)}(W3:Ci P w K dk JG)(Ws:mg "TASKS_termlooker"=some (.ref dk))(Rq:∀ i f,valueAt JG i=some (.ref f)->∃ fd ps,bZ P w K mg base aP 4 f fd ps (b3 K (E7 C B i))/\keepIn K (.ref f)=true/\Binds K fd ps [])(N7:∀ tk,∃ a,valueAt JG (vZ tk)=some (.ref a))(F:Own K mg dU)(V:sY K C)(T:Txt K mg):C4 P w K mg base aP dU 5 (b3 K (Y6 C B)):=by
 show F.o (nos:=0) (n:=3) gP (λrs ds cs R h=>?_) λf a8 A outer s H E M rs hr hrs=>#[_,(ag (aR (b7 0 lQ V.cls hr BV (vd 0) (ae (DN.de (aM (ae (aw (ae av (ae (vd 1) (ae (vd 2) af)))) af))) af)))
 (ag (Ao PassesOwn.never (AW 1 (cp 0 lQ 3 V.cls V.n3 (vd 0)))
 (ag (sS 3 gP.nd (yq 1 aa6 aa7 vH Cm (cp 0 lQ 3 V.cls V.n3 (vd 0))))
 (aq (aR (me hr W3 Ws Rq (bO (vd 3) aj) (ae (vd 0) (ae (vd 3) af)))))))
 (aq (lu (eJ 0 lQ V.cls hr FV (vd 0)))))),λds cs R h=>?_]
 .let(x,a,b,W,ps,r,g,t,sc,rfl,rfl,_):=h;exact#[U,U]
 .let(x,a,b,W,ps,r,g,t,sc,rfl,rfl,rfl,(lk,Aj,hk,BQ,AX,hsz4),q):=h;have hsz:=aH;right;show#[show 1+0<=100000 by decide,?_];show#[λm s=>∃ (st:!hX) (dn:!Str) (x3:Sl),s=#[[.dat (.bJ x),.dat (toD t),.dat (FU sc),x3],(vW C (mY B W ps) r a b st dn).map some]/\m=wL st/\go W g st dn/\dn.length+wL st<=10000,#[_,[.term t sc],[],.no,U,U,#[Aj,AX,g,hk,BQ,U],?_],?_]
  .rw[bV];change 0+(24 * t.size - 4+0)<=10000;cbv
  rintro m s ⟨st,dn,x3,rfl,rfl,hgo,hw⟩;show#[_,U,x,_,_,U,U,U,U,a,_,U,U,U,?_];cases st with
  | nil =>
   show kx U ?_;have hgo:dn=[g]:=hgo;subst hgo;show#[_,U,x,_,U,U,U,_,U,x,a,b,_,r,[],[],g,U,U,U,?_];exact#[_,U,q]
  | cons tk st =>
   have ed:(tk::st).reverse.map Ga=st.reverse.map Ga++[Ga tk]:=by rw[abv,aai];rfl
   show n5 (by rw[ed];simp) ?_;show#[_,U,x,_,_,U,U,U,U,a,_,U,U,U,U,_,U,_,_,congrArg D.lst ed,U,?_];have e0:∃ ds,Ga tk=.tup (.str (vZ tk)::ds):=by cases tk<;>exact#[_,U]
   let(ds,e0):=e0;show#[_,U,_,_,_,e0,U,cC,_,U,N7 tk,?_];show#[_,U,_,U,_,U,x,a,b,W,ps,r,g,tk,st,dn,U,U,U,#[U,lk,hgo,hw],λjq Fp hx=>?_];exact#[_,hx.2.1,jq,Fp,.dat (Ga tk),U,U,hx.1,aap hx.2.2 hw]
def WU(C:AC):Gy:=λds R=>∃ (hd:D) (r:Int),ds=[hd,.int r,.bl false]/\∀ x a b,R [x,a,b] (vW C hd r a b [] [])
def Mr(P:Fa)(w:FB)(K:Frag)(mg:Str->Option AT)(base:Db)(nm:Str)(ps:!Str)(C:AC)(k:Nat)(sp:Sp):Prop:=∃ f fd,bZ P w K mg base aP k f fd ps sp/\L2.Mk K C f/\Binds K fd ps []/\mg nm=some (.ref C)
theorem Ut{C f:AC}{fd:Go}(F:tH K "__init__" "TermLook.__init__" fW f fd)(V:sY K C):bZ P w K mg base aP 1 f fd ["self","heads","row","tables_let"] (AS K C (WU C)):=by
 show VN (nos:=2) F zP (λds R h=>?_) λa8 A outer s H E M x hr=>#[_,(n9 (qz 0 [] V.cls V.n0 (vd 0) (vd 1)) (n9 (qz 0 ["heads"] V.cls V.n1 (vd 0) (vd 2)) (n9 (qz 0 ["heads","text_row"] V.cls V.n2 (vd 0) (vd 3)) (qi 0 ["heads","text_row","tables_let"] V.cls V.n3 (pv 0) (aM af) λ_=>qi 0 ["heads","text_row","tables_let","ahead"] V.cls V.n4 (pv 0) (aM af) λ_=>El)))),λds R h=>?_]
 .let(hd,r,rfl,_):=h
  rfl
 .let(hd,r,rfl,q):=h;right;intro a;right;intro b;exact#[U,_,U,q x a b]
def YW(B:AC):ace:=λds R=>∃ (W:aW) (ps:!PK) (g:Str) (t:Tm),ds=[mY B W ps,toD t]/\(Lk W ps/\lP W g/\Ty W [] g t/\t.fl=true/\t.size<=400)/\R (.str g)
theorem NX{C B:AC}(GI:Mr P w K mg base "TermLook" ["self","heads","row","tables_let"] C 1 (AS K C (WU C)))(ZU:C4 P w K mg base aP dU 5 (b3 K (Y6 C B)))(F:Own K mg cA)(T:Txt K mg):ac0 P w K mg base cA 6 (YW B):=by
 let(fI,fdI,JI,MI,bI,mI):=GI;show F.d (nos:=0) ju (λds R h=>?_) λf a8 A outer s H E M hr=>#[_,(aq (aV (ET MI JI hr mI bI (ae (vd 0) (ae aj (ae Dv af))) ZU (ae (vd 1) (ae (DN.de iT) af))))),λds R h=>?_]
 .let(W,ps,g,t,rfl,_):=h
  rfl
 .let(W,ps,g,t,rfl,(lk,hk,ht,hf,hs),q):=h;show#[_,U,U,_,_,U,λx a b z hz=>?_];have hz:x=z:=aaJ hz;subst hz;exact#[_,U,U,x,a,b,W,ps,0,g,t,[],U,U,U,#[lk,#[abc,λ_ h=>(nomatch h)],hk,ht,hf,hs],q]
theorem fX{α β:Type}{f:α->!β}{m:Nat}:∀ {l:!α} {n:Nat},l.length<=n->(∀ x∈l,(f x).length<=m)->(l.flatMap f).length<=n * m
 | [],n,h,_=>aax _
 | x::l,n,h,hx=>by
  obtain⟨n',rfl⟩:∃ n',n=n'+1:=#[n - 1,by rw[aam] at h;cbv];have h1:=fX (l:=l) (n:=n') (by rw[aam] at h;cbv) λy hy=>hx y (aac _ hy);have h2:=hx x aad;rw[aaX,aab,Nat.succ_mul];cbv
theorem nK{α:Type}{a b l:!α}{x:α}(h:l.Nodup)(e:l=a++x::b):x∉a:=λz=>by
 rw[e,aaR] at h;exact h.2.2 x z x aad U
def Yy(B k m a:AC)(ps:!PK):!D:=[.ob B vU [.bJ k,.bJ m,.bJ a],Vk ps,Ep (pJ (ps.map PK.kd)),Dd (pR (ps.map PK.kd))]
theorem jh{α:Type}{f:α->Str}{h:α->D}{l:!α}{x:α}(hn:f x∉l.map f):D.i7 (dj (l.map λa=>(Sum.inr (f a):Key)) (Sum.inr (f x))) (dB (l.map λa=>(Sum.inr (f a):Key)) (l.map h) (Sum.inr (f x)) (h x))=.i7 ((l++[x]).map λa=>Sum.inr (f a)) ((l++[x]).map h):=by
 let(h1,h2):=Yv (h:=h) (d:=h x) hn;rw[h1,h2,aai,aai]
 rfl
def Vt(B:AC):Gy:=λds R=>∃ (W:aW) (ps:!PK),ds=[.tup (ps.map gj)]/\Lk W ps/\∀ x k m a,R [x,k,m,a] (Yy B k m a ps)
theorem UA{B f:AC}{fd:Go}(GMI:ac0 P w K mg base gR 1 YA)(Wq:ac0 P w K mg base fB 1 V9)(F:tH K "__init__" "Heads.__init__" gd f fd)(Uh:sx K B)(T:Txt K mg):bZ P w K mg base aP 2 f fd ["self","program"] (AS K B (Vt B)):=by
 show VN (nos:=3) F en (λds R h=>?_) λa8 A outer s H E M x hr=>#[_,(qi 0 [] Uh.cls Uh.n0 (pv 0) iT λ_=>qi 0 ["kinds"] Uh.cls Uh.n1 (pv 0) iT λ_=>qi 0 ["kinds","makers"] Uh.cls Uh.n2 (pv 0) iT λ_=>n9 (sF (aZ (vd 1)) (gN 2 en.nd)
 (ag (uY 1 (eh (bG hr) (DE.pe (cp 0 vU 0 Uh.cls Uh.n0 (vd 0))) (DE.pe (bO (vd 2) aj)) (DE.pe (vd 2)) U))
 (ag (sF (aZ (bE hr GMI (ae (vd 2) af))) (bo (m:=2) U (au (gN 3 en.nd) (au (gN 4 en.nd) bj)))
 (aq (uY 2 (eh (bG hr) (DE.pe (cp 0 vU 1 Uh.cls Uh.n1 (vd 0))) (DE.pe (vd 3)) (DE.pe (aw (ae (bO (vd 2) aj) (ae (vd 4) af)))) U))))
 (aq (sF (aZ (bE hr Wq (ae (vd 2) af))) (bo (m:=3) U (au (gN 5 en.nd) (au (gN 6 en.nd) (au (gN 7 en.nd) bj))))
 (aq (uY 3 (eh (bG hr) (DE.pe (cp 0 vU 2 Uh.cls Uh.n2 (vd 0))) (DE.pe (vd 5)) (DE.pe (aw (ae (bO (vd 2) aj) (ae (vd 6) (ae (vd 7) af))))) U)))))))) El),λds R h=>?_]
 .let(W,ps,rfl,_):=h
  rfl
 .let(W,ps,rfl,lk,q):=h;have hsz:=aH;have bp:=lk.bp;let((n,psk),_):=id lk;have hkn:=lk.nd;have h5:=psk.len;have hmn:=bp.mn;have han:=bp.an;rw[<- psk.kd,<- ki] at hmn;rw[<- psk.kd,<- nN] at han;have JM:(pJ (ps.map PK.kd)).length<=5 * 5:=fX (by rw[aaa];exact h5) λkd hk=>by rw[aaa];exact (bp.kw kd (psk.kd▸hk)).2.1
  have hal:(pR (ps.map PK.kd)).length<=5 * 5:=fX (by rw[aaa];exact h5) λkd hk=>by rw[aaa];exact (bp.kw kd (psk.kd▸hk)).2.2
  right;intro k;right;intro m;right;intro a;right;show eN gj (λdn s=>∃ x2 x3 x4 x5 x6 x7:Sl,s=#[[.dat (.bJ x),.dat (.tup (ps.map gj)),x2,x3,x4,x5,x6,x7],(Yy B k m a dn).map some]) ?_ ?_ _ #[.no,.no,.no,.no,.no,.no,U]
  .rintro s ⟨x2,x3,x4,x5,x6,x7,rfl⟩;exact#[U,_,U,q x k m a]
  .rintro dn p td s E e ⟨x2,x3,x4,x5,x6,x7,rfl⟩ hN hE;have hp:p∈ps:=by rw[e];simp
   have hpn:p.kd.name∉dn.map λp=>p.kd.name:=nK hkn (b:=td.map λp=>p.kd.name) (by rw[e,aai];rfl);have hle:=congrArg List.length e;rw[aab,aam] at hle;have eM:pJ (ps.map PK.kd)=pJ (dn.map PK.kd)++(p.kd.bz.map λm=>(p.kd,m))++pJ (td.map PK.kd):=by unfold pJ;rw[e,List.map_append,List.flatMap_append,List.map_cons,List.flatMap_cons,List.append_assoc]
   have eA:pR (ps.map PK.kd)=pR (dn.map PK.kd)++(p.kd.bN.map λm=>(p.kd,m))++pR (td.map PK.kd):=by unfold pR;rw[e,List.map_append,List.flatMap_append,List.map_cons,List.flatMap_cons,List.append_assoc]
   have eM1:pJ ((dn++[p]).map PK.kd)=pJ (dn.map PK.kd)++(p.kd.bz.map λm=>(p.kd,m)):=by unfold pJ;rw[List.map_append,List.flatMap_append];simp
   have eA1:pR ((dn++[p]).map PK.kd)=pR (dn.map PK.kd)++(p.kd.bN.map λm=>(p.kd,m)):=by unfold pR;rw[List.map_append,List.flatMap_append];simp
   have hpt:=jh (f:=λp:PK=>p.kd.name) (h:=gj) hpn;right;show#[by rw[aaa];cbv,?_];rw[hpt];show#[_,U,W,n,p,U,psk.ok p hp,_,.inr U,?_];show eN eS (λd2 s=>∃ x3 x4:Sl,s=#[[.dat (.bJ x),.dat (.tup (ps.map gj)),.dat (gj p),x3,x4,x5,x6,x7],[some (.ob B vU [.bJ k,.bJ m,.bJ a]),some (Vk (dn++[p])),some (Ep (pJ (dn.map PK.kd)++d2.map λm=>(p.kd,m))),some (Dd (pR (dn.map PK.kd)))]]) ?_ ?_ _ #[x3,x4,by rw[aaQ,aal];rfl]
   .rintro s ⟨x3,x4,rfl⟩;rw[<- eM1];show#[_,U,W,n,p,U,psk.ok p hp,_,.inr U,?_];show eN eI (λd2 s=>∃ x5 x6 x7:Sl,s=#[[.dat (.bJ x),.dat (.tup (ps.map gj)),.dat (gj p),x3,x4,x5,x6,x7],[some (.ob B vU [.bJ k,.bJ m,.bJ a]),some (Vk (dn++[p])),some (Ep (pJ ((dn++[p]).map PK.kd))),some (Dd (pR (dn.map PK.kd)++d2.map λm=>(p.kd,m)))]]) ?_ ?_ _ #[x5,x6,x7,by rw[aaQ,aal]]
    .rintro s ⟨x5,x6,x7,rfl⟩;rw[<- eA1];exact hN _ #[.dat (gj p),x3,x4,x5,x6,x7,U]
    .rintro d2 aa t2 s E2 e3 ⟨x5,x6,x7,rfl⟩ hN2 hE2;rw[eA,e3] at han hal;have hcn:aa.name∉(pR (dn.map PK.kd)++d2.map λm=>(p.kd,m)).map λx=>x.2.name:=nK han (b:=(t2.map λm=>(p.kd,m)).map (λx=>x.2.name)++(pR (td.map PK.kd)).map λx=>x.2.name) (by simp);have hcp:D.i7 (dj ((pR (dn.map PK.kd)++d2.map λm=>(p.kd,m)).map λx=>(Sum.inr x.2.name:Key)) (Sum.inr aa.name)) (dB ((pR (dn.map PK.kd)++d2.map λm=>(p.kd,m)).map λx=>(Sum.inr x.2.name:Key)) ((pR (dn.map PK.kd)++d2.map λm=>(p.kd,m)).map TL) (Sum.inr aa.name) (.tup [.str p.kd.name,cG aa.ps,.str aa.res]))=Dd (pR (dn.map PK.kd)++d2.map (λm=>(p.kd,m))++[(p.kd,aa)]):=jh (f:=λx:Kd×d6=>x.2.name) (h:=TL) (x:=(p.kd,aa)) hcn;right;show#[by simp at hal ⊢;cbv,?_];rw[hcp];show hN2 _ #[.dat (.str aa.name),.dat (cG aa.ps),.dat (.str aa.res),?_];rw[aai (l₁:=d2),<- aaz]
     rfl
   .rintro d2 mm t2 s E2 e3 ⟨x3,x4,rfl⟩ hN2 hE2;rw[eM,e3] at hmn JM;have hcn:mm.name∉(pJ (dn.map PK.kd)++d2.map λm=>(p.kd,m)).map λx=>x.2.name:=nK hmn (b:=(t2.map λm=>(p.kd,m)).map (λx=>x.2.name)++(pJ (td.map PK.kd)).map λx=>x.2.name) (by simp);have hcp:D.i7 (dj ((pJ (dn.map PK.kd)++d2.map λm=>(p.kd,m)).map λx=>(Sum.inr x.2.name:Key)) (Sum.inr mm.name)) (dB ((pJ (dn.map PK.kd)++d2.map λm=>(p.kd,m)).map λx=>(Sum.inr x.2.name:Key)) ((pJ (dn.map PK.kd)++d2.map λm=>(p.kd,m)).map OI) (Sum.inr mm.name) (.tup [.str p.kd.name,cG mm.fs]))=Ep (pJ (dn.map PK.kd)++d2.map (λm=>(p.kd,m))++[(p.kd,mm)]):=jh (f:=λx:Kd×eU=>x.2.name) (h:=OI) (x:=(p.kd,mm)) hcn;right;show#[by simp at JM ⊢;cbv,?_];rw[hcp];show hN2 _ #[.dat (.str mm.name),.dat (cG mm.fs),?_];rw[aai (l₁:=d2),<- aaz]
    rfl
inductive Vr(B:AC):ace
 | mk {W:aW} {ps:!PK} {kd:Kd} {m:eU} {R:D->Prop} (lk:Lk W ps) (hk:kd∈W.kinds) (hm:m∈kd.bz) (q:R (.str (bc kd.asked))):Vr B [mY B W ps,.str m.name] R
theorem Us{B:AC}(F:ia K B "Heads.side_of_maker" cZ)(Uh:sx K B)(T:Txt K mg):gi P w K mg base B cZ 1 (cR K .no (Vr B)):=by
 show F.d (nos:=0) kI (λds R h=>?_) λf a8 A outer s H E M hr=>#[_,(aq (aV (bO (eO (aX (bG hr) (DE.pe (j8 vU 0 Uh.cls Uh.n0 (vd 0))) (DE.pe (bO (eO (aX (bG hr) (DE.pe (j8 vU 1 Uh.cls Uh.n1 (vd 0))) (DE.pe (vd 1)) (λ_ _=>rfl))) aj)) (λ_ _=>rfl))) aj))),λds R h=>?_]
 .cases h
  rfl
 .obtain @⟨W,ps,kd,m,R,lk,hk,hm,q⟩:=h;let(p,hp,e1,e2,hl):=lk.at hk;have hlk:=lk.mk hk hm;right;show#[_,hlk,?_];right;show#[_,hl,?_];right;rw[e2];exact q
inductive VM(B:AC):ace
 | mk {W:aW} {ps:!PK} {kd:Kd} {m:eU} {a:d6} {R:D->Prop} (lk:Lk W ps) (hk:kd∈W.kinds) (hm:m∈kd.bz) (ha:a∈kd.bN) (q:R (cG (m.fs++a.ps))):VM B [mY B W ps,.str m.name,.str a.name] R
theorem Q7{B:AC}(F:ia K B "Heads.bound_in_cell" cX)(Uh:sx K B)(T:Txt K mg):gi P w K mg base B cX 1 (cR K .no (VM B)):=by
 show F.d (nos:=0) kJ (λds R h=>?_) λf a8 A outer s H E M hr=>#[_,(aq (aV (c8 GO Nn (bO (eO (aX (bG hr) (DE.pe (j8 vU 1 Uh.cls Uh.n1 (vd 0))) (DE.pe (vd 1)) (λ_ _=>rfl))) aj) (bO (eO (aX (bG hr) (DE.pe (j8 vU 2 Uh.cls Uh.n2 (vd 0))) (DE.pe (vd 2)) (λ_ _=>rfl))) aj)))),λds R h=>?_]
 .cases h
  rfl
 .obtain @⟨W,ps,kd,m,a,R,lk,hk,hm,ha,q⟩:=h;have hsz:=aH;have Af:=lk.mk hk hm;have Lv:=lk.ak hk ha;have f1:=(lk.bp.mo kd hk m hm).2.1;have f2:=(lk.bp.ao kd hk a ha).2.1.1;right;show#[_,Af,?_];right;show#[_,Lv,?_];right;show#[by rw[aaa,aaa];change m.fs.length+a.ps.length<=_;cbv,?_];unfold cG at q;rw[aai] at q;exact q
def Ob:ace:=λds R=>∃ (W:aW) (ps:!PK) (g:Str) (t:Tm),ds=[.tup (ps.map gj),toD t]/\(Lk W ps/\lP W g/\Ty W [] g t/\t.fl=true/\t.size<=400)/\R (.str g)
theorem Kl{B:AC}(VZ:Mr P w K mg base "Heads" ["self","program"] B 2 (AS K B (Vt B)))(GKT:ac0 P w K mg base cA 6 (YW B))(F:Own K mg gY)(T:Txt K mg):ac0 P w K mg base gY 7 Ob:=by
 let(fI,fdI,JI,MI,bI,mI):=VZ;show F.d (nos:=0) vf (λds R h=>?_) λf a8 A outer s H E M hr=>#[_,(aq (LL (aq (aV (bE hr GKT (ae (AU vU MI JI (hr.mono ()) mI bI (ae (vd 0) af)) (ae (vd 1) af))))))),λds R h=>?_]
 .let(W,ps,g,t,rfl,_):=h
  rfl
 .let(W,ps,g,t,rfl,(lk,hh),q):=h;let((n,psk),_):=id lk;show#[_,U,W,ps,U,lk,λx k m a=>#[x,[k,m,a],_,U,U,?_]];show#[_,U,W,ps,g,t,by rw[mY,<- psk.kd],#[lk,hh],q]
def iS(p:PK)(d:Nat)(q:d6×Nat):Str×Wy:=(q.1.name,if p.asked=true then .door q.2 else .uR (d+q.2))
def Gd(p:PK):Nat:=if p.asked=true then 0 else (jA p).length
def ja:Nat->!PK->!(Str×Wy)
 | _,[]=>[]
 | d,p::ps=>p.kd.bN.zipIdx.map (iS p d)++ja (d+Gd p) ps
def kc(ps:!PK):Nat:=(ps.map Gd).sum
theorem qc:∀ (a:!PK) (p:PK) (d:Nat),ja d (a++[p])=ja d a++p.kd.bN.zipIdx.map (iS p (d+kc a))
 | [],p,d=>by simp[ja,kc]
 | b::a,p,d=>by
  rw[List.cons_append,ja,qc a p,ja,List.append_assoc,show d+Gd b+kc a=d+kc (b::a) by simp[kc];cbv]
def Mx(l:!(Str×Wy)):D:=.i7 (l.map λp=>.inr p.1) (l.map λp=>.tup (BD p.2))
theorem eX{α:Type}(l:!α)(n:Nat):(l.zipIdx n).map (·.1)=l:=by
 induction l generalizing n with
 | nil=>rfl
 | cons a l ih=>rw[List.zipIdx_cons,aao,ih]
theorem il:∀ (ps:!PK) (d:Nat),(ja d ps).map (·.1)=ps.flatMap λp=>p.kd.bN.map d6.name
 | [],d=>rfl
 | p::ps,d=>by
  rw[ja,aai,il ps,aan,aaX]
  congr 1
  rw[show ((λx:Str×Wy=>x.1)∘iS p d)=d6.name∘(λq:d6×Nat=>q.1) from U,<- aan,eX]
theorem nO{α:Type}(f:α->D)(l:!α):oX (l.map f)=l.zipIdx.map λq=>.tup [.int (q.2:Nat),f q.1]:=by
 show abZ λi=>?_;unfold oX;rw[ab9,aaG,aaG,List.getElem?_zipIdx,aaa];by_cases h:i < l.length
 .rw[List.getElem?_range h,aaq h];simp
 .rw[abr (by rw[abw];cbv),abr (Nat.le_of_not_lt h)]
  rfl
inductive VI:ace
 | mk {W:aW} {ps:!PK} {R:D->Prop} (lk:Lk W ps) (q:R (Mx (ja 0 ps))):VI [.tup (ps.map gj)] R
theorem Te(Wq:ac0 P w K mg base fB 1 V9)(F:Own K mg dP)(T:Txt K mg):ac0 P w K mg base dP 2 VI:=by
 show F.d (nos:=1) bB (λds R h=>?_) λf a8 A outer s H E M hr=>#[_,(ag (sN 0 1 bB.nd iT)
 (ag (sS 2 bB.nd aj)
 (ag (sF (aZ (vd 0)) (gN 3 bB.nd)
 (ag (sF (yU U T.enumerate (ae (bE hr Wq (ae (vd 3) af)) af)) (bo (m:=2) U (au (gN 4 bB.nd) (au (gN 5 bB.nd) bj)))
 (aq (kq (eh (bG hr) (pv 1) (DE.pe (bO (vd 5) aj)) (DE.pe (zT (aK bf cz (bO (vd 3) aj) av (aF _)) (aw (ae av (ae (c8 dF jG (vd 2) (vd 4)) af))) (aw (ae av (ae (vd 4) af))))) U))))
 (aq (cv (aK bf cz (bO (vd 3) aj) av (aF _))
 (aq (sS 2 bB.nd (c8 dF jG (vd 2) (dY T.len (ae (bO (vd 3) aj) af)))))
 aO))))
 (aq (aV (vQ (pv 1))))))),λds R h=>?_]
 .cases h
  rfl
 .obtain @⟨W,ps,R,lk,q⟩:=h;have hsz:=aH;have bp:=lk.bp;let((n,psk),_):=id lk;have h5:=psk.len;have han:=bp.an;rw[<- psk.kd,abO] at han;have han:((ja 0 ps).map (·.1)).Nodup:=by rw[il];exact han
  have hal:(ja 0 ps).length<=5 * 5:=by
   rw[<- aaa (f:=λx:Str×Wy=>x.1),il];exact fX h5 λp hp=>by rw[aaa];exact (bp.kw p.kd (psk.mem hp)).2.2
  right;show eN gj (λdn s=>∃ x3 x4 x5:Sl,(x3.pl=true/\x4.pl=true/\x5.pl=true)/\s=#[[.dat (.tup (ps.map gj)),.own 0,.dat (.int (kc dn:Nat)),x3,x4,x5],[some (Mx (ja 0 dn))]]) ?_ ?_ _ #[.no,.no,.no,#[U,U,U],U]
  .rintro s ⟨x3,x4,x5,hp,rfl⟩;right;exact q
  .rintro dn p td s E e ⟨x3,x4,x5,⟨h3,h4,h5'⟩,rfl⟩ hN hE;have hp:p∈ps:=by rw[e];simp
   show#[_,U,W,n,p,U,psk.ok p hp,_,.inr U,?_];rw[nO];have ew:ja 0 ps=ja 0 dn++p.kd.bN.zipIdx.map (iS p (kc dn))++ja (kc (dn++[p])) td:=by
    rw[e,show dn++p::td=(dn++[p])++td by simp];have:∀ (a b:!PK) (d:Nat),ja d (a++b)=ja d a++ja (d+kc a) b:=λa=>by
     induction a with
     | nil=>intro b d;simp[ja,kc]
     | cons x a ih=>intro b d;rw[List.cons_append,ja,ih,ja,List.append_assoc,show d+Gd x+kc a=d+kc (x::a) by simp[kc];cbv]
    rw[this,qc,Nat.zero_add,Nat.zero_add]
   have e2:ja 0 (dn++[p])=ja 0 dn++p.kd.bN.zipIdx.map (iS p (kc dn)):=by rw[qc,Nat.zero_add]
   show eN (λq:d6×Nat=>D.tup [.int (q.2:Nat),eI q.1]) (λd2 s=>∃ x4 x5:Sl,(x4.pl=true/\x5.pl=true)/\s=#[[.dat (.tup (ps.map gj)),.own 0,.dat (.int (kc dn:Nat)),.dat (gj p),x4,x5],[some (Mx (ja 0 dn++d2.map (iS p (kc dn))))]]) ?_ ?_ _ #[x4,x5,#[h4,h5'],by rw[aaQ,aal];rfl]
   .rintro s ⟨x4,x5,⟨h4,h5'⟩,rfl⟩;rw[<- e2];show#[_,U,_,_,_,U,U,cC,#[U,U,U],_,U,?_];let(b,kd,tabs):=p;cases b with
    | true =>
     show kx (eB true) ?_;show hN _ #[.dat (gj #[true,kd,tabs]),x4,x5,#[U,h4,h5'],?_];rw[show kc (dn++[(#[true,kd,tabs]:PK)])=kc dn by simp[kc,Gd]]
    | false =>
     show n5 (eB false) ?_;right;show hN _ #[.dat (gj #[false,kd,tabs]),x4,x5,#[U,h4,h5'],?_];rw[show ((kc (dn++[(#[false,kd,tabs]:PK)]):Nat):Int)=(kc dn:Nat)+((jA #[false,kd,tabs]).length:Nat) by simp[kc,Gd]]
     rfl
   .rintro d2 y t2 s E2 e3 ⟨x4,x5,⟨h4,h5'⟩,rfl⟩ hN2 hE2;rw[ew,e3] at han hal;have hyn:y.1.name∉(ja 0 dn++d2.map (iS p (kc dn))).map (·.1):=nK han (b:=(t2.map (iS p (kc dn))).map (·.1)++(ja (kc (dn++[p])) td).map (·.1)) (by simp[iS]);have hcp:∀ v:Wy,iS p (kc dn) y=(y.1.name,v)->D.i7 (dj ((ja 0 dn++d2.map (iS p (kc dn))).map λx=>(Sum.inr x.1:Key)) (Sum.inr y.1.name)) (dB ((ja 0 dn++d2.map (iS p (kc dn))).map λx=>(Sum.inr x.1:Key)) ((ja 0 dn++d2.map (iS p (kc dn))).map λx=>D.tup (BD x.2)) (Sum.inr y.1.name) (.tup (BD v)))=Mx (ja 0 dn++(d2++[y]).map (iS p (kc dn))):=λv ev=>by
     rw[aai (l₁:=d2),<- aaz];have:=jh (f:=λx:Str×Wy=>x.1) (h:=λx=>D.tup (BD x.2)) (x:=(y.1.name,v)) hyn;rw[this];change _=Mx (_++[iS p (kc dn) y]);rw[ev]
     rfl
    show#[_,U,U,_,_,U,_,_,U,U,?_];show#[_,U,_,_,_,U,U,cC,#[U,U,U],_,U,?_];let(b,kd,tabs):=p;cases b with
    | true =>
     show kx (eB true) ?_;right;show#[by simp at hal ⊢;cbv,?_];rw[show D.tup [D.str "door",D.int (y.2:Nat)]=D.tup (BD (.door y.2)) from U,hcp (.door y.2) U];exact hN2 _ #[.dat (.int (y.2:Nat)),.dat (eI y.1),#[U,U],U]
    | false =>
     show n5 (eB false) ?_;right;show#[by simp at hal ⊢;cbv,?_];rw[show D.tup [D.str "jump",D.int ((kc dn:Nat)+(y.2:Nat))]=D.tup (BD (.uR (kc dn+y.2))) from U,hcp (.uR (kc dn+y.2)) U];exact hN2 _ #[.dat (.int (y.2:Nat)),.dat (eI y.1),#[U,U],U]
abbrev fZ:Ev:=inClass (top 41) 0
theorem yg:ax ["self","program"] ["self","program"] (ai fZ):=dM
abbrev fY:Ev:=inClass (top 41) 1
abbrev cP:D3:=("plan",fY,["self","tasks"])
theorem zO:ax ["self","tasks"] ["self","tasks"] (ai fY):=dM
abbrev c9:Ev:=inClass (top 41) 2
abbrev cg:D3:=("tell_row",c9,["self","row"])
theorem rY:ax ["self","row"] ["self","row"] (ai c9):=dM
abbrev gc:Ev:=inClass (top 41) 3
abbrev eW:D3:=("here",gc,["self"])
theorem yM:ax ["self"] ["self"] (ai gc):=dM
abbrev lR:!Str:=["heads","ways","coded","ahead"]
structure sj(K:Frag)(C:AC):Prop where
 cls:vL K C
 n0:cx K C "heads"
 n1:cx K C "ways"
 n2:cx K C "coded"
 n3:cx K C "ahead"
def Jz(C:AC)(hd wy:D)(a b:AC)(co ah:!D):!D:=[.ob C lR [hd,wy,.bJ a,.bJ b],.lst co,.lst ah]
def o6(C B:AC)(W:aW)(ps:!PK)(a b:AC)(co:!Ln)(st:!gE):!D:=Jz C (mY B W ps) (Mx (ja 0 ps)) a b (co.map Cf) (st.reverse.map FK)
theorem gn(C B:AC)(W:aW)(ps:!PK)(a b:AC)(co:!Ln)(ts st:!gE):o6 C B W ps a b co (ts++st)=Jz C (mY B W ps) (Mx (ja 0 ps)) a b (co.map Cf) (st.reverse.map FK++(ts.map FK).reverse):=by
 unfold o6;rw[List.reverse_append,aai,ab7 (l:=ts)]
inductive vX(C:AC):mh
 | mk {x a b:AC} {hd wy:D} {ts co ah:!D} {R:D->!D->Prop} (hl:ts.length+ah.length<=10000000) (q:R .bx (Jz C hd wy a b co (ah++ts.reverse))):vX C [x,a,b] [.bJ x,.lst ts] (Jz C hd wy a b co ah) R
theorem Qf{C:AC}(F:ia K C "Coding.plan" cP)(Zc:sj K C)(T:Txt K mg):gi P w K mg base C cP 1 (b3 K (vX C)):=by
 show F.o (nos:=0) (n:=3) zO (λrs ds cs R h=>?_) λf a8 A outer s H E M rs hr hrs=>#[_,(aq (aR (Ay 2 abi abj ir xi (cp 0 lR 3 Zc.cls Zc.n3 (vd 0)) (ae (DN.de (JT (vd 1) mC)) af)))),λds cs R h=>?_]
 .cases h;exact#[U,U]
 .obtain @⟨x,a,b,hd,wy,ts,co,ah,R,hl,q⟩:=h;have hsz:=aH;right;show#[by rw[List.length_reverse];cbv,?_];exact#[_,U,q]
inductive FX(C:AC):mh
 | mk {x a b:AC} {hd wy d:D} {co ah:!D} {R:D->!D->Prop} (hl:co.length<=10000000) (q:R .bx (Jz C hd wy a b (co++[d]) ah)):FX C [x,a,b] [.bJ x,d] (Jz C hd wy a b co ah) R
theorem N9{C:AC}(F:ia K C "Coding.tell_row" cg)(Zc:sj K C)(T:Txt K mg):gi P w K mg base C cg 1 (b3 K (FX C)):=by
 show F.o (nos:=0) (n:=3) rY (λrs ds cs R h=>?_) λf a8 A outer s H E M rs hr hrs=>#[_,(aq (aR (Ay 1 abA abB hZ Bj (cp 0 lR 2 Zc.cls Zc.n2 (vd 0)) (ae (vd 1) af)))),λds cs R h=>?_]
 .cases h;exact#[U,U]
 .obtain @⟨x,a,b,hd,wy,d,co,ah,R,hl,q⟩:=h;have hsz:=aH;right;show#[by cbv,?_];exact#[_,U,q]
inductive EI(C:AC):mh
 | mk {x a b:AC} {hd wy:D} {co ah:!D} {R:D->!D->Prop} (q:R (.int co.length) (Jz C hd wy a b co ah)):EI C [x,a,b] [.bJ x] (Jz C hd wy a b co ah) R
theorem Tt{C:AC}(F:ia K C "Coding.here" eW)(Zc:sj K C)(T:Txt K mg):gi P w K mg base C eW 1 (b3 K (EI C)):=by
 show F.o (nos:=0) (n:=3) yM (λrs ds cs R h=>?_) λf a8 A outer s H E M rs hr hrs=>#[_,(aq (lu (LP 1 (jL fT U T.len abK (dX (DE.pe (cp 0 lR 2 Zc.cls Zc.n2 (vd 0))) gB))))),λds cs R h=>?_]
 .cases h;exact#[U,U]
 .obtain @⟨x,a,b,hd,wy,co,ah,R,q⟩:=h;right;exact q
theorem WN(x y:D)(l:!D):cutD (x::y::l) (some 2) none=l:=by
 have:=d8 (f:=id) (xs:=x::y::l) (lo:=some 2) (hi:=none);rw[abf] at this;rw[this];have e1:HT.cc (x::y::l).length 0 (some 2)=2:=by
  unfold HT.cc;simp only[List.length_cons]
  repeat' split
  all_goals cbv
 have e2:HT.cc (x::y::l).length (x::y::l).length none=(x::y::l).length:=rfl;rw[e1,e2,abf];change l.take (l.length+1+1 - 2)=l;rw[show l.length+1+1 - 2=l.length by cbv,List.take_length]
theorem QP(x y:D)(l:!D):cutD (x::y::l) (some 1) (some 2)=[y]:=by
 have:=d8 (f:=id) (xs:=x::y::l) (lo:=some 1) (hi:=some 2);rw[abf,abf] at this;rw[this];have e1:HT.cc (x::y::l).length 0 (some 1)=1:=by
  unfold HT.cc;simp only[List.length_cons]
  repeat' split
  all_goals cbv
 have e2:HT.cc (x::y::l).length (x::y::l).length (some 2)=2:=by
  unfold HT.cc;simp only[List.length_cons]
  repeat' split
  all_goals cbv
 rw[e1,e2]
 rfl
theorem kh{α:Type}{f:α->Str}:∀ {l:!α},(l.map f).Nodup->∀ a∈l,l.find? (λx=>decide (f x=f a))=some a
 | b::l,hn,a,ha=>by
  rw[aao,aaS] at hn;rcases aaj.mp ha with rfl | ha
  .rw[List.find?_cons_of_pos (by simp)]
  .rw[List.find?_cons_of_neg (by simp only[decide_eq_true_eq];intro z;exact hn.1 (by rw[z];exact List.mem_map_of_mem ha))];exact kh hn.2 a ha
def cj(W:aW)(ps:!PK):kA:=#[λm=>match (pJ W.kinds).find? λx=>decide (x.2.name=m) with | some x=>x.1.asked | none=>false,λf=>match (ja 0 ps).find? λx=>decide (x.1=f) with | some x=>x.2 | none=>.uR 0]
theorem Lk.sd{W:aW}{ps:!PK}(h:Lk W ps){kd:Kd}(hk:kd∈W.kinds){m:eU}(hm:m∈kd.bz):(cj W ps).side m.name=kd.asked:=by
 unfold cj;simp only[];rw[kh (f:=λx:Kd×eU=>x.2.name) (by rw[ki];exact h.bp.mn) (kd,m) (zJ hk hm)]
theorem Be:∀ {ps:!PK} {d:Nat} {p:PK} {a:d6},p∈ps->a∈p.kd.bN->∃ v,(a.name,v)∈ja d ps
 | p'::ps,d,p,a,hp,ha=>by
  rcases aaj.mp hp with rfl | hp
  .have:a∈(p.kd.bN.zipIdx).map (·.1):=by rw[eX];exact ha
   let(q,hq,e):=aak.mp this;show#[(iS p d q).2,aaH _ (aak.mpr #[q,hq,?_])];rw[<- e]
   rfl
  .let(v,hv):=Be (d:=d+Gd p') hp ha;exact#[v,aaB _ hv]
theorem Lk.wy{W:aW}{ps:!PK}(h:Lk W ps){kd:Kd}(hk:kd∈W.kinds){a:d6}(ha:a∈kd.bN):bA ((ja 0 ps).map λx=>(Sum.inr x.1:Key)) ((ja 0 ps).map λx=>D.tup (BD x.2)) (Sum.inr a.name)=some (.tup (BD ((cj W ps).way a.name))):=by
 let((n,psk),_):=id h;let(p,hp,e,_):=h.at hk;have han:=h.bp.an;rw[<- psk.kd,abO] at han;have han:((ja 0 ps).map (·.1)).Nodup:=by rw[il];exact han
 let(v,hv):=Be (d:=0) hp (e▸ha);rw[Iv (f:=λx:Str×Wy=>x.1) (h:=λx=>D.tup (BD x.2)) han (a.name,v) hv];unfold cj;simp only[];rw[kh (f:=λx:Str×Wy=>x.1) han (a.name,v) hv]
theorem EF{x:Str}:∀ {sc:!Str} (n:Nat),x∈sc->(x,sE x sc+n)∈sc.zipIdx n
 | y::r,n,h=>by
  rw[List.zipIdx_cons,sE];by_cases e:y=x
  .rw[if_pos e,e,Nat.zero_add];exact aad
  .rw[if_neg e];have:=EF (sc:=r) (n+1) ((aaj.mp h).resolve_left λz=>e z.symm);rw[show sE x r+1+n=sE x r+(n+1) by cbv];exact aac _ this
theorem G7{x:Str}{sc:!Str}(hn:sc.Nodup)(h:x∈sc):bA (sc.zipIdx.map λp=>(Sum.inr p.1:Key)) (sc.zipIdx.map λp=>D.int (p.2:Nat)) (Sum.inr x)=some (.int (sE x sc:Nat)):=Iv (f:=λp:Str×Nat=>p.1) (h:=λp=>D.int (p.2:Nat)) (by rw[eX];exact hn) (x,sE x sc) (EF 0 h)
theorem Kq{x:Str}{sc:!Str}(h:x∉sc):D.i7 (dj (sc.zipIdx.map λp=>(Sum.inr p.1:Key)) (Sum.inr x)) (dB (sc.zipIdx.map λp=>(Sum.inr p.1:Key)) (sc.zipIdx.map λp=>D.int (p.2:Nat)) (Sum.inr x) (.int (sc.length:Nat)))=xm (sc++[x]):=by
 rw[jh (f:=λp:Str×Nat=>p.1) (h:=λp=>D.int (p.2:Nat)) (x:=(x,sc.length)) (by rw[eX];exact h)];unfold xm;rw[List.zipIdx_append];simp
inductive Iw:ace
 | mk {ts:!Tm} {sc:!Str} {R:D->Prop} (q:R (.lst ((ts.map λt=>gE.term t sc).map FK))):Iw [.tup (toDs ts),xm sc] R
theorem OH(F:Own K mg bR)(T:Txt K mg):C4 P w K mg base aP bR 1 (FZ K .no Iw):=by
 show F.n (nos:=0) lY (λds R h=>?_) λf a8 A outer s H E M hr=>#[_,(aq (Lu (nC ["term"] [1] (aZ (vd 0)) (λ_ _ _ _=>(gM 0 ["term","scope"])) (λ_ _ _ _=>bY)
 (λ_ _ _ _=>(aw (ae av (ae (vd 0) (ae (vd 1) af)))))))),λds R h=>?_]
 .cases h
  rfl
 .obtain @⟨ts,sc,R,q⟩:=h;show#[_,U,_,.inr U,?_];rw[toDs_map];show aQ toD (λt=>FK (.term t sc)) _ (λt ht k hk=>?_) ?_
  .right;exact hk _ U
  rw[aan] at q;exact q
inductive Dm(C B:AC)(i:Str):mh
 | mk {x a b:AC} {W:aW} {ps:!PK} {F:!Ln} {f:Fm} {ts:!Tm} {sc:!Str} {st:!gE} {co:!Ln} {R:D->!D->Prop} (hi:qm f=i) (lk:Lk W ps) (hf:fin (cj W ps) (.term (.node f ts) sc::st) co=F) (ho:∀ t∈gE.term (.node f ts) sc::st,uM W co.length t) (hb:F.length<=5000000/\wC (.term (.node f ts) sc::st)<=20000) (q:∀ jq E4,nc W (cj W ps) F (.term (.node f ts) sc) st jq E4->R .bx (o6 C B W ps a b E4 jq)):Dm C B i [x,a,b] [.bJ x,toD (.node f ts),xm sc] (o6 C B W ps a b co st) R
theorem jk{c:kA}{W:aW}{F:!Ln}{tk:gE}{st:!gE}{co:!Ln}(hf:fin c (tk::st) co=F)(hb:F.length<=5000000/\wC (tk::st)<=20000):co.length<=5000000/\st.length<=20000:=by
 have h1:=ko (c:=c) (tk::st) co;rw[hf] at h1;have h2:=rG (tk::st);rw[aam] at h2;cbv
theorem Pu{C B:AC}(Gf:gi P w K mg base C cg 1 (b3 K (FX C)))(F:Own K mg jF)(Zc:sj K C)(T:Txt K mg):C4 P w K mg base aP jF 3 (b3 K (Dm C B "name")):=by
 show F.o (nos:=0) (n:=3) vp (λrs ds cs R h=>?_) λf a8 A outer s H E M rs hr hrs=>#[_,(aq (aR (b7 0 lR Zc.cls hr Gf (vd 0) (ae (aw (ae av (ae (eO (aX (bG hr) (DE.pe (vd 2)) (DE.pe (bO (vd 1) aj)) (λ_ _=>rfl))) af))) af)))),λds cs R h=>?_]
 .cases h;exact#[U,U]
 .obtain @⟨x,a,b,W,ps,F,f,ts,sc,st,co,R,hi,lk,hf,ho,hb,q⟩:=h;let(y,rfl):=Aq hi;have hsz:=aH;let(hco,fC):=jk (W:=W) hf hb;have h0:=ho _ aad;let(hy,hn,rfl):=Cq h0;have hl:=G7 hn hy;have hx:=AN hf ho U;show#[_,U,x,_,U,U,U,?_];right;show#[_,hl,_,U,?_];show .mk (by rw[aaa];cbv) ?_;have q:=q _ _ hx;unfold o6 at q;rw[aai] at q;exact#[_,U,q]
theorem QI{C B:AC}(Gf:gi P w K mg base C cg 1 (b3 K (FX C)))(F:Own K mg lg)(Zc:sj K C)(T:Txt K mg):C4 P w K mg base aP lg 3 (b3 K (Dm C B "num")):=by
 show F.o (nos:=0) (n:=3) wU (λrs ds cs R h=>?_) λf a8 A outer s H E M rs hr hrs=>#[_,(aq (aR (b7 0 lR Zc.cls hr Gf (vd 0) (ae (vd 1) af)))),λds cs R h=>?_]
 .cases h;exact#[U,U]
 .obtain @⟨x,a,b,W,ps,F,f,ts,sc,st,co,R,hi,lk,hf,ho,hb,q⟩:=h;let(y,rfl):=Ei hi;have hsz:=aH;let(hco,fC):=jk (W:=W) hf hb;have h0:=ho _ aad;let(rfl,_):=AD h0;have hx:=AN hf ho U;show#[_,U,x,_,U,U,U,_,U,_,U,?_];show .mk (by rw[aaa];cbv) ?_;have q:=q _ _ hx;unfold o6 at q;rw[aai] at q;exact#[_,U,q]
theorem P8{C B:AC}(yV:gi P w K mg base C cP 1 (b3 K (vX C)))(Mq:C4 P w K mg base aP bR 1 (FZ K .no Iw))(F:Own K mg nW)(Zc:sj K C)(T:Txt K mg):C4 P w K mg base aP nW 3 (b3 K (Dm C B "op")):=by
 show F.o (nos:=0) (n:=3) zB (λrs ds cs R h=>?_) λf a8 A outer s H E M rs hr hrs=>#[_,(aq (aR (b7 0 lR Zc.cls hr yV (vd 0) (ae (DN.de (fD dD dw (DN.de (nk hr Mq (ae (gy (vd 1) (bC aj) cU) (ae (vd 2) af)))) (DN.de (aM (ae (aw (ae av (ae (aw (ae av (ae (bO (vd 1) aj) af))) af))) af))))) af)))),λds cs R h=>?_]
 .cases h;exact#[U,U]
 .obtain @⟨x,a,b,W,ps,F,f,ts,sc,st,co,R,hi,lk,hf,ho,hb,q⟩:=h;let(y,rfl):=Je hi;have hsz:=aH;let(hco,fC):=jk (W:=W) hf hb;have h0:=ho _ aad;let(hy,t1,t2,rfl,o1,o2):=Ez h0;have hx:=ur hf ho (by simp;exact#[o1,o2]) U;have q:=q _ _ hx;have hl:=aap (rG _) (aby (aay hx.2.2 hb.2));rw[List.append_cons,gn,aai] at q;simp only[List.length_append,List.length_map,List.length_cons,List.length_nil] at hl;show#[_,U,x,_,U,U,U,_,U,_,U,[.str "op",.str y,toD t1,toD t2],U,?_];rw[WN];show#[_,U,Iw.mk (ts:=[t1,t2]) ?_];right;show#[by simp only[List.length_map,List.length_cons,List.length_nil];cbv,_,U,vX.mk (by simp only[List.length_append,List.length_map,List.length_cons,List.length_nil,List.length_reverse];cbv) #[_,U,q]]
theorem Tu{C B:AC}(yV:gi P w K mg base C cP 1 (b3 K (vX C)))(Mq:C4 P w K mg base aP bR 1 (FZ K .no Iw))(F:Own K mg ka)(Zc:sj K C)(T:Txt K mg):C4 P w K mg base aP ka 3 (b3 K (Dm C B "zero")):=by
 show F.o (nos:=0) (n:=3) vN (λrs ds cs R h=>?_) λf a8 A outer s H E M rs hr hrs=>#[_,(aq (aR (b7 0 lR Zc.cls hr yV (vd 0) (ae (DN.de (fD dD dw (DN.de (nk hr Mq (ae (gy (vd 1) (bC aj) (bC aj)) (ae (vd 2) af)))) (DN.de (aM (ae (aw (ae av (ae (bO (vd 1) aj) (ae (bO (vd 1) aj) (ae (vd 2) af))))) af))))) af)))),λds cs R h=>?_]
 .cases h;exact#[U,U]
 .obtain @⟨x,a,b,W,ps,F,f,ts,sc,st,co,R,hi,lk,hf,ho,hb,q⟩:=h;obtain rfl:=EV hi;have hsz:=aH;let(hco,fC):=jk (W:=W) hf hb;have h0:=ho _ aad;let(t1,t2,t3,rfl,o1,o2,o3):=uQ h0;have hx:=K9 hf ho o1 o2 o3;have q:=q _ _ hx;rw[show (gE.term t1 sc::.split t2 t3 sc::st)=[.term t1 sc,.split t2 t3 sc]++st from U,gn] at q;show#[_,U,x,_,U,U,U,_,U,_,U,_,U,[.str "zero",toD t1,toD t2,toD t3],U,?_];rw[QP];show#[_,U,Iw.mk (ts:=[t1]) ?_];right;show#[Nat.le_trans (show 2<=16000000 by decide) hsz,_,U,vX.mk (by simp only[List.length_append,List.length_map,List.length_cons,List.length_nil,List.length_reverse];cbv) #[_,U,q]]
theorem O8{C B:AC}(yV:gi P w K mg base C cP 1 (b3 K (vX C)))(F:Own K mg lr)(Zc:sj K C)(T:Txt K mg):C4 P w K mg base aP lr 3 (b3 K (Dm C B "let")):=by
 show F.o (nos:=1) (n:=3) pz (λrs ds cs R h=>?_) λf a8 A outer s H E M rs hr hrs=>#[_,(ag (sL (k:=3) (by cbv) 3 pz.nd (jR rW xa U T.dict (-()) (ae (vd 2) af)))
 (ag (kq (eh (bG hr) (pv 3) (DE.pe (bO (vd 1) aj)) (DE.pe (cK BA Kv U T.len abK (ae (vd 2) af))) U))
 (aq (aR (b7 0 lR Zc.cls hr yV (vd 0) (ae (DN.de (aM (ae (aw (ae av (ae (bO (vd 1) aj) (ae (vd 2) af)))) (ae (aw (ae av (ae (aw (ae av af)) af))) (ae (aw (ae av (ae (bO (vd 1) aj) (ae (vQ (pv 3)) af)))) (ae (aw (ae av (ae (aw (ae av af)) af))) af)))))) af)))))),λds cs R h=>?_]
 .cases h;exact#[U,U]
 .obtain @⟨x,a,b,W,ps,F,f,ts,sc,st,co,R,hi,lk,hf,ho,hb,q⟩:=h;let(y,rfl):=JE hi;have hsz:=aH;let(hco,fC):=jk (W:=W) hf hb;have h0:=ho _ aad;let(hn,t1,t2,rfl,o1,o2):=yO h0;have hx:=RU hf ho o1 o2;have h21:=vx lk.bp o1;have q:=q _ _ hx;rw[show (gE.term t1 sc::.row .keep::.term t2 (sc++[y])::.row .drop::st)=[.term t1 sc,.row .keep,.term t2 (sc++[y]),.row .drop]++st from U,gn] at q;right;show#[by rw[aaa,abW];cbv,?_];rw[aaa,abW,Kq hn];show#[_,U,x,_,U,U,U,?_];right;exact vX.mk (by simp only[List.length_map,List.length_cons,List.length_nil,List.length_reverse];cbv) #[_,U,q]
theorem TV{C B:AC}(yV:gi P w K mg base C cP 1 (b3 K (vX C)))(Mq:C4 P w K mg base aP bR 1 (FZ K .no Iw))(ZT:gi P w K mg base B cZ 1 (cR K .no (Vr B)))(F:Own K mg jQ)(Zc:sj K C)(Uh:sx K B)(T:Txt K mg):C4 P w K mg base aP jQ 3 (b3 K (Dm C B "make")):=by
 show F.o (nos:=0) (n:=3) mq (λrs ds cs R h=>?_) λf a8 A outer s H E M rs hr hrs=>#[_,(ag (sS 3 mq.nd (aw (ae av (ae (Aa vU Uh.cls hr ZT (cp 0 lR 0 Zc.cls Zc.n0 (vd 0)) (ae (bO (vd 1) aj) af)) (ae (bO (vd 1) aj) (ae (dY T.len (ae (bO (vd 1) aj) af)) af))))))
 (aq (aR (b7 0 lR Zc.cls hr yV (vd 0) (ae (DN.de (fD dD dw (DN.de (nk hr Mq (ae (bO (vd 1) aj) (ae (vd 2) af)))) (DN.de (aM (ae (aw (ae av (ae (vd 3) af))) af))))) af))))),λds cs R h=>?_]
 .cases h;exact#[U,U]
 .obtain @⟨x,a,b,W,ps,F,f,ts,sc,st,co,R,hi,lk,hf,ho,hb,q⟩:=h;let(y,rfl):=Jy hi;have hsz:=aH;let(hco,fC):=jk (W:=W) hf hb;have h0:=ho _ aad;let(kd,m,hk,hm,rfl,Af,hp):=C0 h0;have hx:=ur hf ho hp U;have q:=q _ _ hx;have hl:=aap (rG _) (aby (aay hx.2.2 hb.2));rw[List.append_cons,gn,aai] at q;simp only[List.length_append,List.length_map,List.length_cons,List.length_nil] at hl;have e1:jm (cj W ps) sc (.mk m.name) ts=.mk kd.asked m.name ts.length:=by change Ln.mk ((cj W ps).side m.name) _ _=_;rw[lk.sd hk hm]
  rw[e1] at q;right;show Vr.mk lk hk hm ?_;right;show#[_,U,?_];right;rw[show (toDs ts).length=ts.length by rw[toDs_map,aaa]];show#[by simp only[List.length_map,List.length_cons,List.length_nil];cbv,_,U,vX.mk (by simp only[List.length_append,List.length_map,List.length_cons,List.length_nil,List.length_reverse];cbv) #[_,U,q]]
theorem RM{C B:AC}(yV:gi P w K mg base C cP 1 (b3 K (vX C)))(Mq:C4 P w K mg base aP bR 1 (FZ K .no Iw))(F:Own K mg lF)(Zc:sj K C)(T:Txt K mg):C4 P w K mg base aP lF 3 (b3 K (Dm C B "ask")):=by
 show F.o (nos:=0) (n:=3) o8 (λrs ds cs R h=>?_) λf a8 A outer s H E M rs hr hrs=>#[_,(ag (sS 3 o8.nd (c8 uG Ef (eO (aX (bG hr) (DE.pe (cp 0 lR 1 Zc.cls Zc.n1 (vd 0))) (DE.pe (bO (vd 1) aj)) (λ_ _=>rfl))) (aw (ae (dY T.len (ae (bO (vd 1) aj) af)) af))))
 (aq (aR (b7 0 lR Zc.cls hr yV (vd 0) (ae (DN.de (fD dD dw (DN.de (nk hr Mq (ae (c8 uG Ef (aw (ae (bO (vd 1) aj) af)) (bO (vd 1) aj)) (ae (vd 2) af)))) (DN.de (aM (ae (aw (ae av (ae (vd 3) af))) af))))) af))))),λds cs R h=>?_]
 .cases h;exact#[U,U]
 .obtain @⟨x,a,b,W,ps,F,f,ts,sc,st,co,R,hi,lk,hf,ho,hb,q⟩:=h;let(y,rfl):=Ex hi;have hsz:=aH;let(hco,fC):=jk (W:=W) hf hb;have h0:=ho _ aad;let(u,us,kd,ak,rfl,hk,ha,rfl,Af,hp):=Bf h0;have hx:=ur hf ho hp U;have q:=q _ _ hx;have hl:=aap (rG _) (aby (aay hx.2.2 hb.2));rw[List.append_cons,gn,aai] at q;simp only[List.length_append,List.length_map,List.length_cons,List.length_nil] at hl;right;show#[_,lk.wy hk ha,?_];right;have e2:(toDs (u::us)).tail.length=us.length:=by change (toDs us).length=_;rw[toDs_map,aaa]
  have ew:BD ((cj W ps).way ak.name)≠[]/\(BD ((cj W ps).way ak.name)).length=2:=by cases (cj W ps).way ak.name<;>exact#[abC _ _,U]
  rw[e2];show#[ew.1,by rw[ew.2];exact aap (show 3<=16000000 by decide) hsz,?_];right;show#[abC _ _,by rw[e2];change 1+us.length<=_;cbv,?_];show#[_,U,Iw.mk (ts:=u::us) ?_];right;show#[by simp only[List.length_map,List.length_cons,List.length_nil];cbv,_,U,vX.mk (by simp only[List.length_append,List.length_map,List.length_cons,List.length_nil,List.length_reverse];cbv) #[_,U,q]]
theorem CN{m n:Nat}(h:n < m):yd m (n:Int)=some n:=by
 unfold yd;rw[if_pos (by cbv),if_pos (by cbv)]
 rfl
def zq:gE->Str
 | .term _ _=>"term"
 | .row _=>"row"
 | .split _ _ _=>"split"
 | .other _ _ _=>"other"
 | .join _=>"join"
theorem HB{t:gE}(h:zq t="term"):∃ a s,t=.term a s:=by cases t<;>first | exact#[_,_,U] | (simp only[zq] at h;exact absurd h ())
theorem Mc{t:gE}(h:zq t="row"):∃ l,t=.row l:=by cases t<;>first | exact#[_,U] | (simp only[zq] at h;exact absurd h ())
theorem ED{t:gE}(h:zq t="split"):∃ a b s,t=.split a b s:=by cases t<;>first | exact#[_,_,_,U] | (simp only[zq] at h;exact absurd h ())
theorem FR{t:gE}(h:zq t="other"):∃ n b s,t=.other n b s:=by cases t<;>first | exact#[_,_,_,U] | (simp only[zq] at h;exact absurd h ())
theorem G5{t:gE}(h:zq t="join"):∃ n,t=.join n:=by cases t<;>first | exact#[_,U] | (simp only[zq] at h;exact absurd h ())
inductive Gu(C B:AC)(i:Str):mh
 | mk {x a b:AC} {W:aW} {ps:!PK} {F:!Ln} {tk:gE} {st:!gE} {co:!Ln} {R:D->!D->Prop} (hi:zq tk=i) (lk:Lk W ps) (hf:fin (cj W ps) (tk::st) co=F) (ho:∀ t∈tk::st,uM W co.length t) (hb:F.length<=5000000/\wC (tk::st)<=20000) (q:∀ jq E4,nc W (cj W ps) F tk st jq E4->R .bx (o6 C B W ps a b E4 jq)):Gu C B i [x,a,b] [.bJ x,FK tk] (o6 C B W ps a b co st) R
theorem KC{C B:AC}{dm:AC}{MQ:!(Str×AT)}(Xb:Ci P w K dm MQ)(Xm:mg "TERMS_coder"=some (.ref dm))(O0:∀ i f,valueAt MQ i=some (.ref f)->∃ fd ps,bZ P w K mg base aP 3 f fd ps (b3 K (Dm C B i))/\keepIn K (.ref f)=true/\Binds K fd ps [])(hIn:∀ f,f.fl=true->∃ a,valueAt MQ (qm f)=some (.ref a)){f0:AC}(F:vF K f0 jl)(Zc:sj K C)(T:Txt K mg):nB P w K mg base 4 f0 (b3 K (Gu C B "term")):=by
 show F.o (nos:=0) (n:=3) dW (λrs ds cs R h=>?_) λa8 A outer s H E M rs hr hrs=>#[_,(ag (fP (n:=1000) (vd 1) (bo (m:=3) U (au (gN 2 dW.nd) (au (gN 3 dW.nd) (au (gN 4 dW.nd) bj)))))
 (aq (aR (me hr Xb Xm O0 (bO (vd 3) aj) (ae (vd 0) (ae (vd 3) (ae (vd 4) af))))))),λds cs R h=>?_]
 .cases h;exact#[U,U]
 .obtain @⟨x,a,b,W,ps,F,tk,st,co,R,hi,lk,hf,ho,hb,q⟩:=h;let(t,sc,rfl):=HB hi;have hsz:=aH;let(hco,fC):=jk (W:=W) hf hb;let(f,ts):=t;show#[_,U,_,U,U,_,_,U,_,_,U,_,_,U,U,?_];have e0:∃ ds,toD (.node f ts)=.tup (.str (qm f)::ds):=by cases f<;>exact#[_,U]
  let(ds,e0):=e0;show#[_,U,_,_,_,e0,U,cC,_,U,hIn f (dG (Ej (ho _ aad))).1,?_];show#[_,U,_,U,_,U,_,U,Dm.mk U lk hf ho hb λjq E4 hx=>#[_,U,q _ _ hx]]
theorem Kc{C B:AC}(Gf:gi P w K mg base C cg 1 (b3 K (FX C))){f0:AC}(F:vF K f0 jJ)(Zc:sj K C)(T:Txt K mg):nB P w K mg base 2 f0 (b3 K (Gu C B "row")):=by
 show F.o (nos:=0) (n:=3) pL (λrs ds cs R h=>?_) λa8 A outer s H E M rs hr hrs=>#[_,(aq (aR (b7 0 lR Zc.cls hr Gf (vd 0) (ae (bO (vd 1) aj) af)))),λds cs R h=>?_]
 .cases h;exact#[U,U]
 .obtain @⟨x,a,b,W,ps,F,tk,st,co,R,hi,lk,hf,ho,hb,q⟩:=h;let(l,rfl):=Mc hi;have hsz:=aH;let(hco,fC):=jk (W:=W) hf hb;have hx:=MR hf ho;have q:=q _ _ hx;unfold o6 at q;rw[aai] at q;right;exact FX.mk (by rw[aaa];cbv) #[_,U,q]
theorem Mh{C B:AC}(Gf:gi P w K mg base C cg 1 (b3 K (FX C)))(JF:gi P w K mg base C eW 1 (b3 K (EI C)))(yV:gi P w K mg base C cP 1 (b3 K (vX C)))(F:Own K mg lA)(Zc:sj K C)(T:Txt K mg):C4 P w K mg base aP lA 2 (b3 K (Gu C B "split")):=by
 show F.o (nos:=0) (n:=3) eu (λrs ds cs R h=>?_) λf a8 A outer s H E M rs hr hrs=>#[_,(ag (fP (n:=1000) (vd 1) (bo (m:=4) U (au (gN 2 eu.nd) (au (gN 3 eu.nd) (au (gN 4 eu.nd) (au (gN 5 eu.nd) bj))))))
 (ag (sS 6 eu.nd (eJ 0 lR Zc.cls hr JF (vd 0)))
 (ag (aR (b7 0 lR Zc.cls hr Gf (vd 0) (ae mW af)))
 (aq (aR (b7 0 lR Zc.cls hr yV (vd 0) (ae (DN.de (aM (ae (aw (ae av (ae (vd 3) (ae (vd 5) af)))) (ae (aw (ae av (ae (vd 6) (ae (vd 4) (ae (vd 5) af))))) af)))) af))))))),λds cs R h=>?_]
 .cases h;exact#[U,U]
 .obtain @⟨x,a,b,W,ps,F,tk,st,co,R,hi,lk,hf,ho,hb,q⟩:=h;let(t1,t2,sc,rfl):=ED hi;have hsz:=aH;let(hco,fC):=jk (W:=W) hf hb;have hx:=C9 hf ho;have q:=q _ _ hx;rw[show (gE.term t1 sc::.other co.length t2 sc::st)=[.term t1 sc,.other co.length t2 sc]++st from U,gn,aai] at q;right;show EI.mk ?_;rw[aaa];show#[_,U,x,_,U,U,U,_,U,FX.mk (by rw[aaa];cbv) ?_];right;exact vX.mk (by simp only[List.length_append,List.length_map,List.length_cons,List.length_nil,List.length_reverse];cbv) #[_,U,q]
theorem My{C B:AC}(Gf:gi P w K mg base C cg 1 (b3 K (FX C)))(JF:gi P w K mg base C eW 1 (b3 K (EI C)))(yV:gi P w K mg base C cP 1 (b3 K (vX C)))(F:Own K mg lE)(Zc:sj K C)(T:Txt K mg):C4 P w K mg base aP lE 2 (b3 K (Gu C B "other")):=by
 show F.o (nos:=0) (n:=3) eC (λrs ds cs R h=>?_) λf a8 A outer s H E M rs hr hrs=>#[_,(ag (fP (n:=1000) (vd 1) (bo (m:=4) U (au (gN 2 eC.nd) (au (gN 3 eC.nd) (au (gN 4 eC.nd) (au (gN 5 eC.nd) bj))))))
 (ag (sS 6 eC.nd (eJ 0 lR Zc.cls hr JF (vd 0)))
 (ag (aR (b7 0 lR Zc.cls hr Gf (vd 0) (ae mW af)))
 (ag (xt 1 (vj (DE.pe (aw (ae av (ae (eJ 0 lR Zc.cls hr JF (vd 0)) af)))) (yL (DE.pe (cp 0 lR 2 Zc.cls Zc.n2 (vd 0))) (DE.pe (vd 3)) set_list)))
 (aq (aR (b7 0 lR Zc.cls hr yV (vd 0) (ae (DN.de (aM (ae (aw (ae av (ae (vd 4) (ae (vd 5) af)))) (ae (aw (ae av (ae (vd 6) af))) af)))) af)))))))),λds cs R h=>?_]
 .cases h;exact#[U,U]
 .obtain @⟨x,a,b,W,ps,F,tk,st,co,R,hi,lk,hf,ho,hb,q⟩:=h;let(n,t2,sc,rfl):=FR hi;have hsz:=aH;let(hco,fC):=jk (W:=W) hf hb;let(hn,hx):=ES hf ho;have q:=q _ _ hx;rw[show (gE.term t2 sc::.join co.length::st)=[.term t2 sc,.join co.length]++st from U,gn,List.map_set,aai] at q;right;show EI.mk ?_;rw[aaa];show#[_,U,x,_,U,U,U,_,U,FX.mk (by rw[aaa];cbv) ?_];right;show EI.mk ?_;rw[aab,aaa];right;show#[CN (by rw[aab,aaa];exact Nat.lt_succ_of_lt hn),?_];right;exact vX.mk (by simp only[List.length_set,List.length_append,List.length_map,List.length_cons,List.length_nil,List.length_reverse];cbv) #[_,U,q]
theorem Kw{C B:AC}(JF:gi P w K mg base C eW 1 (b3 K (EI C)))(F:Own K mg nE)(Zc:sj K C)(T:Txt K mg):C4 P w K mg base aP nE 2 (b3 K (Gu C B "join")):=by
 show F.o (nos:=0) (n:=3) zu (λrs ds cs R h=>?_) λf a8 A outer s H E M rs hr hrs=>#[_,(aq (xt 1 (vj (DE.pe (aw (ae av (ae (eJ 0 lR Zc.cls hr JF (vd 0)) af)))) (yL (DE.pe (cp 0 lR 2 Zc.cls Zc.n2 (vd 0))) (DE.pe (bO (vd 1) aj)) set_list)))),λds cs R h=>?_]
 .cases h;exact#[U,U]
 .obtain @⟨x,a,b,W,ps,F,tk,st,co,R,hi,lk,hf,ho,hb,q⟩:=h;let(n,rfl):=G5 hi;have hsz:=aH;let(hco,fC):=jk (W:=W) hf hb;let(hn,hx):=ID hf ho;have q:=q _ _ hx;unfold o6 at q;rw[List.map_set] at q;right;show EI.mk ?_;rw[aaa];right;exact#[CN (by rw[aaa];exact hn),_,U,q]
inductive NA(C B:AC):mh
 | mk {x a b:AC} {W:aW} {ps:!PK} {t:Tm} {sc:!Str} {l:Ln} {co:!Ln} {R:D->!D->Prop} (lk:Lk W ps) (ho:jx W sc t) (hs:t.size<=400) (hc:co.length<=4000000) (q:R (.int co.length) (o6 C B W ps a b (co++cd (cj W ps) sc co.length t++[l]) [])):NA C B [x,a,b] [.bJ x,toD t,.lst (sc.map .str),Cf l] (o6 C B W ps a b co []) R
theorem QD{C B:AC}(JF:gi P w K mg base C eW 1 (b3 K (EI C)))(yV:gi P w K mg base C cP 1 (b3 K (vX C))){dk:AC}{JG:!(Str×AT)}(W3:Ci P w K dk JG)(Ws:mg "TASKS_coder"=some (.ref dk))(Rq:∀ i f,valueAt JG i=some (.ref f)->∃ fd ps,bZ P w K mg base aP 4 f fd ps (b3 K (Gu C B i))/\keepIn K (.ref f)=true/\Binds K fd ps [])(N7:∀ tk,∃ a,valueAt JG (zq tk)=some (.ref a))(F:Own K mg fz)(Zc:sj K C)(T:Txt K mg):C4 P w K mg base aP fz 5 (b3 K (NA C B)):=by
 show F.o (nos:=0) (n:=3) fV (λrs ds cs R h=>?_) λf a8 A outer s H E M rs hr hrs=>#[_,(ag (sS 4 fV.nd (eJ 0 lR Zc.cls hr JF (vd 0)))
 (ag (sS 5 fV.nd (DN.de (jR (zQ U) FE U T.dict (-()) (ae (DN.de (nC ["number","name"] [] (yU U T.enumerate (ae (vd 2) af)) (λ_ _ _ _=>(bo (m:=2) U (au (gM 0 ["number","name"]) (au (gM 1 ["number","name"]) bj)))) (λ_ _ _ _=>bY)
 (λ_ _ _ _=>(aw (ae (vd 1) (ae (vd 0) af)))))) af))))
 (ag (aR (b7 0 lR Zc.cls hr yV (vd 0) (ae (DN.de (aM (ae (aw (ae av (ae (vd 1) (ae (vd 5) af)))) (ae (aw (ae av (ae (vd 3) af))) af)))) af)))
 (ag (Ao PassesOwn.never (AW 2 (cp 0 lR 3 Zc.cls Zc.n3 (vd 0)))
 (ag (sS 6 fV.nd (yq 2 aa6 aa7 vH Cm (cp 0 lR 3 Zc.cls Zc.n3 (vd 0))))
 (aq (aR (me hr W3 Ws Rq (bO (vd 6) aj) (ae (vd 0) (ae (vd 6) af)))))))
 (aq (lu (vd 4))))))),λds cs R h=>?_]
 .cases h;exact#[U,U]
 .obtain @⟨x,a,b,W,ps,t,sc,l,co,R,lk,ho,hs,hc,q⟩:=h;have hsz:=aH;have h21:=vx lk.bp ho;have hlen:=iX (cj W ps) t sc co.length;show#[_,U,x,_,U,U,U,_,U,EI.mk ?_];rw[aaa];show#[_,U,_,.inl U,?_];rw[nO];show aQ (λq:Str×Nat=>D.tup [.int (q.2:Nat),.str q.1]) (λq=>D.tup [.str q.1,.int (q.2:Nat)]) _ (λq hq k hk=>?_) ?_
  .right;exact hk _ U
  show#[sc.zipIdx.map λp=>(p.1,.int (p.2:Nat)),?_,?_,?_,?_]
  .rw[aan];rfl
  .rw[aan];change (sc.zipIdx.map λp=>p.1).Nodup;rw[eX];exact KP ho
  .rw[aaa,abW];cbv
  rw[aan,aan];show#[_,U,x,_,U,U,U,?_];right;show vX.mk (by change 2+0<=_;decide) ?_;have hfin:fin (cj W ps) [.term t sc,.row l] co=co++cd (cj W ps) sc co.length t++[l]:=rfl;have hF:(co++cd (cj W ps) sc co.length t++[l]).length<=5000000:=by rw[aab,aab,abb];cbv
  generalize co++cd (cj W ps) sc co.length t++[l]=F at hfin hF q;show#[λm s=>∃ (st:!gE) (c2:!Ln) (x6:Sl),s=#[[.dat (.bJ x),.dat (toD t),.dat (.lst (sc.map .str)),.dat (Cf l),.dat (.int (co.length:Nat)),.dat (xm sc),x6],(o6 C B W ps a b c2 st).map some]/\m=wC st/\fin (cj W ps) st c2=F/\(∀ t∈st,uM W c2.length t)/\wC st<=20000,#[_,[.term t sc,.row l],co,.no,U,U,hfin,?_,?_],?_]
  .intro u hu;rcases aaj.mp hu with rfl | hu
   .exact ho
   .rw[aag.mp hu];exact True.intro
  .rw[bH,bH];change 10 * t.size+(1+0)<=20000;cbv
  rintro m s ⟨st,c2,x6,rfl,rfl,hf,hO,hw⟩;show#[_,U,x,_,_,U,U,U,U,b,_,U,U,U,?_];cases st with
  | nil =>
   show kx U ?_;have hf:c2=F:=hf;subst hf;exact#[_,U,_,U,q]
  | cons tk st =>
   have ed:(tk::st).reverse.map FK=st.reverse.map FK++[FK tk]:=by rw[abv,aai];rfl
   show n5 (by rw[ed];simp) ?_;show#[_,U,x,_,_,U,U,U,U,b,_,U,U,U,U,_,U,_,_,congrArg D.lst ed,U,?_];have e0:∃ ds,FK tk=.tup (.str (zq tk)::ds):=by cases tk<;>exact#[_,U]
   let(ds,e0):=e0;show#[_,U,_,_,_,e0,U,cC,_,U,N7 tk,?_];show#[_,U,_,U,_,U,Gu.mk U lk hf hO #[hF,hw] λjq E4 hx=>?_];exact#[_,hx.2.2,jq,E4,.dat (FK tk),U,U,hx.1,hx.2.1,aap (aby hx.2.2) hw]
end
def Co(W:aW)(m a:Str):!Str:=match (pJ W.kinds).find? (λx=>decide (x.2.name=m)),(pR W.kinds).find? (λx=>decide (x.2.name=a)) with
 | some x,some y=>(x.2.fs++y.2.ps).map (·.1)
 | _,_=>[]
def jC(W:aW)(c:kA)(b:Bool)(nm:Str)(r:Str×Tm)(o:Nat):!Ln:=cd c (if b=true then Co W nm r.1 else Co W r.1 nm) o r.2++[.back]
def hW(W:aW)(c:kA)(b:Bool)(nm:Str):!(Str×Tm)->!Ln->!Ln
 | [],co=>co
 | r::rs,co=>hW W c b nm rs (co++jC W c b nm r co.length)
def qK(W:aW)(c:kA)(b:Bool)(nm:Str):!(Str×Tm)->!Ln->!(Str×Nat)
 | [],_=>[]
 | r::rs,co=>(r.1,co.length)::qK W c b nm rs (co++jC W c b nm r co.length)
def eG(W:aW)(c:kA)(b:Bool):!(Str×!(Str×Tm))->!Ln->!Ln
 | [],co=>co
 | x::r,co=>eG W c b r (hW W c b x.1 x.2 co)
def fN(W:aW)(c:kA)(b:Bool):!(Str×!(Str×Tm))->!Ln->!(Str×!(Str×Nat))
 | [],_=>[]
 | x::r,co=>(x.1,qK W c b x.1 x.2 co)::fN W c b r (hW W c b x.1 x.2 co)
def a7(b:Bool)(ps:!PK):!(Str×!(Str×Tm)):=ps.flatMap λp=>if p.asked=b then fi p else []
def Gb(p:Str×Nat):D:=.tup [.str p.1,.int (p.2:Nat)]
def nI(x:Str×!(Str×Nat)):D:=.tup [.str x.1,.tup (x.2.map Gb)]
section
variable{W:aW}{c:kA}{b:Bool}
theorem jX{nm:Str}:∀ (rs:!(Str×Tm)) (co:!Ln),co.length<=(hW W c b nm rs co).length
 | [],co=>aah _
 | r::rs,co=>aap (by rw[aab];cbv) (jX rs _)
theorem fH:∀ (l:!(Str×!(Str×Tm))) (co:!Ln),co.length<=(eG W c b l co).length
 | [],co=>aah _
 | x::r,co=>aap (jX _ _) (fH r _)
theorem AM{nm:Str}:∀ (rs:!(Str×Tm)) (co:!Ln),(∀ r∈rs,r.2.size<=144)->(hW W c b nm rs co).length<=co.length+289 * rs.length
 | [],co,_=>aah _
 | r::rs,co,h=>by
  have h1:=AM (nm:=nm) rs (co++jC W c b nm r co.length) λx hx=>h x (aac _ hx);have h2:=iX c r.2 (if b=true then Co W nm r.1 else Co W r.1 nm) co.length;have h3:=h r aad;have h4:(jC W c b nm r co.length).length=(cd c (if b=true then Co W nm r.1 else Co W r.1 nm) co.length r.2).length+1:=by unfold jC;rw[List.length_append];rfl
  rw[aab] at h1;change (hW W c b nm rs (co++jC W c b nm r co.length)).length<=co.length+289 * (rs.length+1);cbv
def fE(l:!(Str×!(Str×Tm))):Nat:=(l.map λx=>x.2.length).sum
theorem Bq(l m:!(Str×!(Str×Tm))):fE (l++m)=fE l+fE m:=by simp[fE]
theorem zR:∀ (l:!(Str×!(Str×Tm))) (co:!Ln),(∀ x∈l,∀ r∈x.2,r.2.size<=144)->(eG W c b l co).length<=co.length+289 * fE l
 | [],co,_=>aah _
 | x::l,co,h=>by
  have h1:=zR l (hW W c b x.1 x.2 co) λy hy=>h y (aac _ hy);have h2:=AM (W:=W) (c:=c) (b:=b) (nm:=x.1) x.2 co (h x aad);have h3:fE (x::l)=x.2.length+fE l:=by simp[fE]
  rw[h3];change (eG W c b l (hW W c b x.1 x.2 co)).length<=co.length+289 * (x.2.length+fE l);cbv
theorem ug:∀ {l:!(Str×!(Str×Tm))} {x:Str×!(Str×Tm)},x∈l->x.2.length<=fE l
 | y::l,x,h=>by
  have h3:fE (y::l)=y.2.length+fE l:=by simp[fE]
  rcases aaj.mp h with rfl | h
  .cbv
  .have:=ug h;cbv
theorem rB(p:PK):fE (fi p)=(ents p).length:=by
 unfold ents fE;rw[List.length_flatMap]
 congr 1
 exact abD λx _=>by change _=(x.2.map _).length;rw[aaa]
theorem wH:∀ (l m:!(Str×!(Str×Tm))) (co:!Ln),eG W c b (l++m) co=eG W c b m (eG W c b l co)
 | [],m,co=>rfl
 | x::l,m,co=>wH l m _
theorem xD:∀ (l m:!(Str×!(Str×Tm))) (co:!Ln),fN W c b (l++m) co=fN W c b l co++fN W c b m (eG W c b l co)
 | [],m,co=>rfl
 | x::l,m,co=>by
  change _::fN W c b (l++m) _=_;rw[xD l m]
  rfl
theorem m8:∀ (l:!(Str×!(Str×Tm))) (co:!Ln),(fN W c b l co).length=l.length
 | [],co=>rfl
 | x::l,co=>congrArg (·+1) (m8 l _)
theorem xM{nm:Str}:∀ (l:!(Str×Tm)) (co:!Ln),(qK W c b nm l co).length=l.length
 | [],co=>rfl
 | x::l,co=>congrArg (·+1) (xM l _)
theorem rO(p:PK):∃ zs:!((Str×!(Str×Tm))×!D),jA p=zs.map (λz=>D.tup z.2)/\fi p=zs.map (·.1)/\∀ z∈zs,iD z.2 0=some (.str z.1.1)/\iD z.2 (-1)=some (xh z.1.2):=by
 let(bb,kd,tabs):=p;cases bb with
 | true =>
  show#[(kd.bz.zip tabs).map λx=>((x.1.name,x.2),[.str x.1.name,cG x.1.fs,xh x.2]),?_,?_,λz hz=>?_]
  .rw[aan];rfl
  .rw[aan];change (kd.bz.map eU.name).zip tabs=_;rw[ab0];exact abD λx _=>rfl
  .let(x,_,rfl):=aak.mp hz;exact#[U,U]
 | false =>
  show#[(kd.bN.zip tabs).map λx=>((x.1.name,x.2),[.str x.1.name,cG x.1.ps,.str x.1.res,xh x.2]),?_,?_,λz hz=>?_]
  .rw[aan];rfl
  .rw[aan];change (kd.bN.map d6.name).zip tabs=_;rw[ab0];exact abD λx _=>rfl
  .let(x,_,rfl):=aak.mp hz;exact#[U,U]
theorem Ck(p:PK):(fi p).length<=p.kd.bz.length+p.kd.bN.length:=by
 unfold fi;rw[abh];split
 .rw[aaa];cbv
 .rw[aaa];cbv
theorem A5(a b:Bool):decide (fv (.str (bc a))=fv (.str (bc b)))=decide (a=b):=by cases a<;>cases b<;>decide+kernel
theorem kE(b:Bool)(p:PK)(ps:!PK):a7 b (p::ps)=(if p.asked=b then fi p else [])++a7 b ps:=aaX
theorem wW{nt:Nat}{us:!Nat}{g:o7}{te:aU}{sl:!Sl}{Q:!D->DS->Prop}(I:!D->!D->!(Option D)->Prop)(step:∀ x xs acc os,I (x::xs) acc os->∀ k:D->DS->Prop,(∀ (y:D) (s':DS),I xs (acc++[y]) s'.os->k y s')->g x (iC nt us #[sl,os]) λs1=>te s1 k)(fin:∀ acc os,I [] acc os->Q acc #[sl,os]):∀ (xs acc:!D) (os:!(Option D)),I xs acc os->cE nt us g dq te xs acc #[sl,os] Q
 | [],acc,os,h=>fin acc os h
 | x::xs,acc,os,h=>by
  rw[cE];exact step x xs acc os h (λy s3=>cE nt us g dq te xs (acc++[y]) #[sl,s3.os] Q) λy s' h'=>wW I step fin xs (acc++[y]) s'.os h'
end
section
variable{P:Fa}{w:FB}{K:Frag}{mg:Str->Option AT}{base:Db}
inductive UO(C B:AC):Gy
 | mk {W:aW} {ps:!PK} {R:!AC->!D->Prop} (lk:Lk W ps) (q:∀ x a b,R [x,a,b] (o6 C B W ps a b [] [])):UO C B [.tup (ps.map gj)] R
theorem Rh{C B f:AC}{fd:Go}(VZ:Mr P w K mg base "Heads" ["self","program"] B 2 (AS K B (Vt B)))(Zq:ac0 P w K mg base dP 2 VI)(F:tH K "__init__" "Coding.__init__" fZ f fd)(Zc:sj K C):bZ P w K mg base aP 4 f fd ["self","program"] (AS K C (UO C B)):=by
 let(fI,fdI,JI,MI,bI,mI):=VZ;show VN (nos:=2) F yg (λds R h=>?_) λa8 A outer s H E M x hr=>#[_,(n9 (qz 0 [] Zc.cls Zc.n0 (vd 0) (AU vU MI JI (hr.mono ()) mI bI (ae (vd 1) af))) (n9 (qz 0 ["heads"] Zc.cls Zc.n1 (vd 0) (bE hr Zq (ae (vd 1) af))) (qi 0 ["heads","ways"] Zc.cls Zc.n2 (pv 0) (aM af) λ_=>qi 0 ["heads","ways","coded"] Zc.cls Zc.n3 (pv 0) (aM af) λ_=>El))),λds R h=>?_]
 .cases h
  rfl
 .obtain @⟨W,ps,R,lk,q⟩:=h;let((n,psk),_):=id lk;show#[_,U,W,ps,U,lk,λy k m a=>#[y,[k,m,a],_,U,U,?_]];right;show VI.mk lk ?_;right;intro a;right;intro b;show#[U,_,U,?_];have q:=q x a b;unfold o6 at q;rw[mY,<- psk.kd] at q;exact q
theorem Fs{W:aW}{sc:Sc}(h:mX W sc):yB W sc:=#[h.nd,λp hp=>by
 rcases (h.ok p hp).2 with z | ⟨j,_,z⟩
 .exact aaH _ z
 .exact aaB _ (aaK z)]
structure JN(W:aW)(m a:Str)(t:Tm):Prop where
 ex:∃ kd∈W.kinds,∃ mk∈Kd.bz kd,∃ ak∈Kd.bN kd,mk.name=m/\ak.name=a/\Ty W (mk.fs++ak.ps) ak.res t
 fl:t.fl=true
 sz:t.size<=144
theorem DX{W:aW}(w:gf W){kd X7:Kd}(hk:kd∈W.kinds)(F4:X7∈W.kinds){m:eU}(hm:m∈kd.bz){a:d6}(ha:a∈X7.bN):Co W m.name a.name=(m.fs++a.ps).map (·.1):=by
 unfold Co;rw[kh (f:=λx:Kd×eU=>x.2.name) (by rw[ki];exact w.mn) (kd,m) (zJ hk hm),kh (f:=λx:Kd×d6=>x.2.name) (by rw[nN];exact w.an) (X7,a) (CO F4 ha)]
inductive Rx(C B:AC):mh
 | mk {x a b:AC} {W:aW} {ps:!PK} {m k:Str} {t:Tm} {co:!Ln} {R:D->!D->Prop} (lk:Lk W ps) (h:JN W m k t) (hc:co.length<=4000000) (q:R (.int co.length) (o6 C B W ps a b (co++(cd (cj W ps) (Co W m k) co.length t++[.back])) [])):Rx C B [x,a,b] [.bJ x,.str m,.str k,toD t] (o6 C B W ps a b co []) R
theorem Pe{C B:AC}(ZL:gi P w K mg base B cX 1 (cR K .no (VM B)))(WW:C4 P w K mg base aP fz 5 (b3 K (NA C B)))(F:Own K mg g7)(Zc:sj K C)(Uh:sx K B)(T:Txt K mg):C4 P w K mg base aP g7 6 (b3 K (Rx C B)):=by
 show F.o (nos:=0) (n:=3) lS (λrs ds cs R h=>?_) λf a8 A outer s H E M rs hr hrs=>#[_,(ag (oK (ud (ou (i:=4) lS.nd U U (ts:=["name","kind"]) (us:=[]) #[U,U,U,U,U,U] rfl (aZ (Aa vU Uh.cls hr ZL (cp 0 lR 0 Zc.cls Zc.n0 (vd 0)) (ae (vd 1) (ae (vd 2) af)))) (λ_ _ _ _=>(bo (m:=2) U (au (gM 0 ["name","kind"]) (au (gM 1 ["name","kind"]) bj)))) (λ_ _ _ _=>bY)
 (λ_ _ _ _=>(vd 0)))))
 (aq (lu (fG hr WW (ae (vd 0) (ae (vd 3) (ae (vd 4) (ae (aw (ae av af)) af)))))))),λds cs R h=>?_]
 .cases h;exact#[U,U]
 .obtain @⟨x,a,b,W,ps,m,k,t,co,R,lk,h,hc,q⟩:=h;let((kd,hk,mk,hm,ak,ha,rfl,rfl,ht),hf,hs):=h;rw[<- aaz,DX lk.bp hk hk hm ha] at q;right;show VM.mk lk hk hm ha #[_,.inr U,?_];show aQ (λp:Str×Str=>D.tup [.str p.1,.str p.2]) (λp=>D.str p.1) _ (λp hp k hk=>?_) ?_
  .right;exact hk _ U
  rw[show (mk.fs++ak.ps).map (λp=>D.str p.1)=((mk.fs++ak.ps).map (·.1)).map .str by rw[aan];rfl];show#[_,U,_,U,_,U,_,U,?_];exact NA.mk (l:=.back) lk #[_,_,U,Fs (mD lk.bp hk hm ha),ht,hf] (aap hs ()) hc #[_,U,q]
inductive Ag(C B:AC):mh
 | mk {x a b:AC} {W:aW} {ps:!PK} {bb:Bool} {nm:Str} {l:!D} {rows:!(Str×Tm)} {co:!Ln} {R:D->!D->Prop} (lk:Lk W ps) (h0:iD l 0=some (.str nm)) (h1:iD l (-1)=some (xh rows)) (h:∀ r∈rows,JN W (if bb=true then nm else r.1) (if bb=true then r.1 else nm) r.2) (hl:rows.length<=1000) (hF:(hW W (cj W ps) bb nm rows co).length<=4000000) (q:R (nI (nm,qK W (cj W ps) bb nm rows co)) (o6 C B W ps a b (hW W (cj W ps) bb nm rows co) [])):Ag C B [x,a,b] [.bJ x,.str (bc bb),.tup l] (o6 C B W ps a b co []) R
theorem Sv{C B:AC}(Zt:C4 P w K mg base aP g7 6 (b3 K (Rx C B)))(F:Own K mg fR)(Zc:sj K C)(Uh:sx K B)(T:Txt K mg):C4 P w K mg base aP fR 7 (b3 K (Ag C B)):=by
 show F.o (nos:=1) (n:=3) dg (λrs ds cs R h=>?_) λf a8 A outer s H E M rs hr hrs=>#[_,(ag (sL (k:=3) (by cbv) 3 dg.nd (aM af))
 (ag (sF (aZ (bO (vd 2) (dc (d:=.int (-1)) mC U))) (bo (m:=2) U (au (gN 4 dg.nd) (au (gN 5 dg.nd) bj)))
 (ag (fP (n:=1000) (zT (aK bf cz (vd 1) av (aF _)) (aw (ae (vd 4) (ae (bO (vd 2) aj) af))) (aw (ae (bO (vd 2) aj) (ae (vd 4) af)))) (bo (m:=2) U (au (gN 6 dg.nd) (au (gN 7 dg.nd) bj))))
 (aq (B8 3 (ae (aw (ae (vd 4) (ae (fG hr Zt (ae (vd 0) (ae (vd 6) (ae (vd 7) (ae (vd 5) af))))) af))) af)))))
 (aq (lu (aw (ae (bO (vd 2) aj) (ae (i9 T.tuple (ae (vQ (pv 3)) af)) af))))))),λds cs R h=>?_]
 .cases h;exact#[U,U]
 .obtain @⟨x,a,b,W,ps,bb,nm,l,rows,co,R,lk,h0,h1,h,hl,hF,q⟩:=h;have hsz:=aH;have fe:=xM (W:=W) (c:=cj W ps) (b:=bb) (nm:=nm) rows co;generalize eF:hW W (cj W ps) bb nm rows co=F at hF q;generalize eP:qK W (cj W ps) bb nm rows co=PR at q fe;show#[#[U,U],?_];show#[_,U,_,_,_,U,U,h1,_,.inr U,?_];show qD (λxs s=>∃ (td:!(Str×Tm)) (co:!Ln) (pr:!(Str×Nat)) (x4 x5 x6 x7:Sl),xs=td.map jU/\hW W (cj W ps) bb nm td co=F/\pr++qK W (cj W ps) bb nm td co=PR/\(∀ r∈td,JN W (if bb=true then nm else r.1) (if bb=true then r.1 else nm) r.2)/\(x4.pl=true/\x5.pl=true/\x6.pl=true/\x7.pl=true)/\s=#[[.dat (.bJ x),.dat (.str (bc bb)),.dat (.tup l),.own 3,x4,x5,x6,x7],(o6 C B W ps a b co []).map some++[some (.lst (pr.map Gb))]]) ?_ ?_ _ _ #[rows,co,[],.no,.no,.no,.no,U,eF,eP,h,#[U,U,U,U],U]
  .rintro s ⟨td,co,pr,x4,x5,x6,x7,e1,e2,e3,_,hp,rfl⟩;have:td=[]:=List.map_eq_nil_iff.mp e1.symm;subst this;have e2:co=F:=e2;have e3:pr++[]=PR:=e3;rw[aal] at e3;subst e2;subst e3;right;show#[h0,?_];right;exact q
  .rintro z xs s N ⟨td,co,pr,x4,x5,x6,x7,e1,e2,e3,h,⟨h4,h5,h6,h7⟩,rfl⟩ hN;cases td with
   | nil=>cases e1
   | cons r td =>
   rw[aao] at e1;injection e1 with e1 e4;subst e1;subst e4;have hr0:=h r aad;have hco:=jX (W:=W) (c:=cj W ps) (b:=bb) (nm:=nm) (r::td) co;rw[e2] at hco;have hpr:pr.length<=1000:=by rw[<- e3,aab] at fe;cbv
   show#[_,U,U,_,_,U,_,_,U,U,?_];have hN:=hN #[[.dat (.bJ x),.dat (.str (bc bb)),.dat (.tup l),.own 3,.dat (.str r.1),.dat (toD r.2),.dat (.str (if bb=true then nm else r.1)),.dat (.str (if bb=true then r.1 else nm))],(o6 C B W ps a b (co++jC W (cj W ps) bb nm r co.length) []).map some++[some (.lst ((pr++[(r.1,co.length)]).map Gb))]] #[td,_,pr++[(r.1,co.length)],.dat (.str r.1),.dat (toD r.2),_,_,U,e2,by rw[<- e3,aaz];rfl,λy hy=>h y (aac _ hy),#[U,U,U,U],U];unfold jC at hN;rw[aai] at hN;cases bb with
   | true =>
    show#[_,U,#[U,U,U],_,U,?_];show kx (eB true) ?_;right;show#[h0,?_];right;show Rx.mk lk hr0 (by cbv) ?_;right;exact#[by rw[aaa];cbv,hN]
   | false =>
    show#[_,U,#[U,U,U],_,U,?_];show n5 (eB false) ?_;right;show#[h0,?_];right;show Rx.mk lk hr0 (by cbv) ?_;right;exact#[by rw[aaa];cbv,hN]
theorem yG{W:aW}{n:Nat}{ps:!PK}(h:Bz W n ps){p:PK}(hp:p∈ps){x:Str×!(Str×Tm)}(hx:x∈fi p){r:Str×Tm}(hr:r∈x.2):JN W (if p.asked=true then x.1 else r.1) (if p.asked=true then r.1 else x.1) r.2:=by
 have hin:((if p.asked=true then (x.1,r.1) else (r.1,x.1)),r.2)∈ents p:=aaU.mpr #[x,hx,aak.mpr #[r,hr,U]];let(m,hm,a,ha,e,ht):=(h.ok p hp).nm _ hin;have hq:=((h.ok p hp).tm _ hin).2.2;show#[#[p.kd,h.mem hp,m,hm,a,ha,?_,?_,ht],hq.2.2,hq.2.1]
 .by_cases z:p.asked=true
  .rw[if_pos z] at e ⊢;exact (congrArg Prod.fst e).symm
  .rw[if_neg z] at e ⊢;exact (congrArg Prod.fst e).symm
 .by_cases z:p.asked=true
  .rw[if_pos z] at e ⊢;exact (congrArg Prod.snd e).symm
  .rw[if_neg z] at e ⊢;exact (congrArg Prod.snd e).symm
theorem mG{W:aW}{n:Nat}{ps:!PK}(h:Bz W n ps)(bb:Bool)(c:kA)(co:!Ln):(eG W c bb (a7 bb ps) co).length<=co.length+289 * 5000/\(a7 bb ps).length<=50:=by
 have hp5:=h.len;have h1:∀ x∈a7 bb ps,∀ r∈x.2,r.2.size<=144:=λx hx r hr=>by
  let(p,hp,hx):=aaU.mp hx;by_cases e:p.asked=bb
  .rw[if_pos e] at hx;exact (yG h hp hx hr).sz
  .rw[if_neg e] at hx;cases hx
 have h2:=zR (W:=W) (c:=c) (b:=bb) (a7 bb ps) co h1;have h3:∀ l:!PK,(∀ p∈l,p∈ps)->fE (a7 bb l)<=1000 * l.length/\(a7 bb l).length<=10 * l.length:=λl=>by
  induction l with
  | nil=>intro _;exact#[aah _,aah _]
  | cons p l ih =>
   intro hl;have:=ih λq hq=>hl q (aac _ hq);have hp:=hl p aad;have h5:=(h.ok p hp).ln;have h6:=h.bp.kw p.kd (h.mem hp);have h7:=Ck p;have h8:=rB p;rw[kE,Bq,aab,aam];by_cases e:p.asked=bb
   .rw[if_pos e];cbv
   .rw[if_neg e,show fE []=0 from U,List.length_nil];cbv
 have h4:=h3 ps λ_ z=>z;cbv
inductive Uc(C B:AC):mh
 | mk {x a b:AC} {W:aW} {ps:!PK} {bb:Bool} {co:!Ln} {R:D->!D->Prop} (lk:Lk W ps) (hF:(eG W (cj W ps) bb (a7 bb ps) co).length<=4000000) (q:R (.tup ((fN W (cj W ps) bb (a7 bb ps) co).map nI)) (o6 C B W ps a b (eG W (cj W ps) bb (a7 bb ps) co) [])):Uc C B [x,a,b] [.bJ x,.tup (ps.map gj),.str (bc bb)] (o6 C B W ps a b co []) R
theorem Sk{C B:AC}(GCB:C4 P w K mg base aP fR 7 (b3 K (Ag C B)))(F:Own K mg fc)(Zc:sj K C)(Uh:sx K B)(T:Txt K mg):C4 P w K mg base aP fc 8 (b3 K (Uc C B)):=by
 show F.o (nos:=1) (n:=3) gx (λrs ds cs R h=>?_) λf a8 A outer s H E M rs hr hrs=>#[_,(ag (sL (k:=3) (by cbv) 3 gx.nd (aM af))
 (ag (sF (aZ (vd 1)) (gN 4 gx.nd)
 (aq (cv (aK bf cz (bO (vd 4) aj) (vd 2) (aF _))
 (aq (aR (zE abi abj ir xi (pv 3) (ae (DN.de (nC ["table"] [0,2] (aZ (bO (vd 4) aj)) (λ_ _ _ _=>(gM 0 ["table","coding","side"])) (λ_ _ _ _=>bY)
 (λ_ _ _ _=>(fG hr GCB (ae (vd 1) (ae (vd 2) (ae (vd 0) af))))))) af))))
 aO)))
 (aq (lu (i9 T.tuple (ae (vQ (pv 3)) af)))))),λds cs R h=>?_]
 .cases h;exact#[U,U]
 .obtain @⟨x,a,b,W,ps,bb,co,R,lk,hF,q⟩:=h;have hsz:=aH;let((n,psk),_):=id lk;have fe:=m8 (W:=W) (c:=cj W ps) (b:=bb) (a7 bb ps) co;have h50:=(mG psk bb (cj W ps) co).2;rw[<- fe] at h50;generalize eF:eG W (cj W ps) bb (a7 bb ps) co=F at hF q;generalize eP:fN W (cj W ps) bb (a7 bb ps) co=PR at q h50;show#[#[U,U],?_];show#[_,U,_,.inr U,?_];show qD (λxs s=>∃ (td:!PK) (co:!Ln) (to:!(Str×!(Str×Nat))) (x4:Sl),xs=td.map gj/\eG W (cj W ps) bb (a7 bb td) co=F/\to++fN W (cj W ps) bb (a7 bb td) co=PR/\(∀ p∈td,p∈ps)/\x4.pl=true/\s=#[[.dat (.bJ x),.dat (.tup (ps.map gj)),.dat (.str (bc bb)),.own 3,x4],(o6 C B W ps a b co []).map some++[some (.lst (to.map nI))]]) ?_ ?_ _ _ #[ps,co,[],.no,U,eF,eP,λ_ z=>z,U,U]
  .rintro s ⟨td,co,to,x4,e1,e2,e3,_,hp,rfl⟩;have:td=[]:=List.map_eq_nil_iff.mp e1.symm;subst this;have e2:co=F:=e2;have e3:to++[]=PR:=e3;rw[aal] at e3;subst e2;subst e3;right;exact q
  .rintro z xs s N ⟨td,co,to,x4,e1,e2,e3,hin,h4,rfl⟩ hN;cases td with
   | nil=>cases e1
   | cons p td =>
   rw[aao] at e1;injection e1 with e1 e4;subst e1;subst e4;have hp:=hin p aad;rw[kE,wH] at e2;rw[kE,xD] at e3;right;by_cases eb:p.asked=bb
   .refine n5 (by rw[A5];exact decide_eq_true eb) ?_;rw[if_pos eb] at e2 e3;let(zs,ez,e5,hz):=rO p;have hN:=hN #[[.dat (.bJ x),.dat (.tup (ps.map gj)),.dat (.str (bc bb)),.own 3,.dat (gj p)],(o6 C B W ps a b (eG W (cj W ps) bb (fi p) co) []).map some++[some (.lst ((to++fN W (cj W ps) bb (fi p) co).map nI))]] #[td,_,to++fN W (cj W ps) bb (fi p) co,.dat (gj p),U,e2,by rw[<- e3,aaz],λy hy=>hin y (aac _ hy),U,U];have jN:to.length+(fN W (cj W ps) bb (fi p) co).length<=50:=by rw[<- e3,aab,aab] at h50;cbv
    have hF1:(eG W (cj W ps) bb (fi p) co).length<=4000000:=by have:=fH (W:=W) (c:=cj W ps) (b:=bb) (a7 bb td) (eG W (cj W ps) bb (fi p) co);rw[e2] at this;cbv
    right;rw[ez];show wW (λxs acc os=>∃ (ys:!((Str×!(Str×Tm))×!D)) (c2:!Ln),xs=ys.map (λz=>D.tup z.2)/\eG W (cj W ps) bb (ys.map (·.1)) c2=eG W (cj W ps) bb (fi p) co/\acc++(fN W (cj W ps) bb (ys.map (·.1)) c2).map nI=(fN W (cj W ps) bb (fi p) co).map nI/\(∀ z∈ys,z∈zs)/\os=(o6 C B W ps a b c2 []).map some++[some (.lst (to.map nI))]) ?_ ?_ _ _ _ #[zs,co,U,by rw[<- e5],by rw[<- e5];rfl,λ_ z=>z,U]
    .rintro z xs acc os ⟨ys,c2,g1,g2,g3,g4,rfl⟩ k hk;cases ys with
     | nil=>cases g1
     | cons y ys =>
     rw[aao] at g1 g2 g3;injection g1 with g1 g5;subst g1;subst g5;have hy:=g4 y aad;let(a0,a1):=hz y hy;have hb:y.1∈fi p:=by rw[e5];exact aav hy
     have hlen:=fH (W:=W) (c:=cj W ps) (b:=bb) (ys.map (·.1)) (hW W (cj W ps) bb y.1.1 y.1.2 c2);have g2':eG W (cj W ps) bb (ys.map (·.1)) (hW W (cj W ps) bb y.1.1 y.1.2 c2)=eG W (cj W ps) bb (fi p) co:=g2;rw[g2'] at hlen;show#[_,U,_,U,_,U,_,U,Ag.mk lk a0 a1 (λr hr=>by rw[<- eb];exact yG psk hp hb hr) ?_ (by cbv) ?_]
     .exact aap (ug hb) (by rw[rB];exact (psk.ok p hp).ln)
     .exact hk _ _ #[ys,_,U,g2',by rw[<- g3,aaz];rfl,λz hz=>g4 z (aac _ hz),U]
    .rintro acc os ⟨ys,c2,g1,g2,g3,g4,rfl⟩;have:ys=[]:=List.map_eq_nil_iff.mp g1.symm;subst this;have g2:c2=_:=g2;subst g2;rw[aaQ,show fN W (cj W ps) bb [] _=[] from U,aaQ,aal] at g3;subst g3;rw[aai] at hN;right;exact#[by rw[aaa,aaa];cbv,hN]
   .refine kx (by rw[A5];exact decide_eq_false eb) ?_;rw[if_neg eb] at e2 e3;exact hN _ #[td,co,to,.dat (gj p),U,e2,e3,λy hy=>hin y (aac _ hy),U,U]
def lT(W:aW)(ps:!PK)(t:Tm):!Ln:=cd (cj W ps) [] 0 t++[.fin]
def qY(W:aW)(ps:!PK)(t:Tm):!Ln:=eG W (cj W ps) false (a7 false ps) (lT W ps t)
def sD(W:aW)(ps:!PK)(t:Tm):!Ln:=eG W (cj W ps) true (a7 true ps) (qY W ps t)
def HD(W:aW)(ps:!PK)(t:Tm):D:=.tup [.tup ((sD W ps t).map Cf),.tup ((fN W (cj W ps) false (a7 false ps) (lT W ps t)).map nI),.tup ((fN W (cj W ps) true (a7 true ps) (qY W ps t)).map nI)]
inductive SI:ace
 | mk {W:aW} {ps:!PK} {g:Str} {t:Tm} {R:D->Prop} (lk:Lk W ps) (hk:lP W g) (ht:Ty W [] g t) (hf:t.fl=true) (hs:t.size<=400) (q:R (HD W ps t)):SI [.tup (ps.map gj),toD t] R
theorem ON{C B:AC}(Zu:Mr P w K mg base "Coding" ["self","program"] C 4 (AS K C (UO C B)))(Yf:ac0 P w K mg base gY 7 Ob)(WW:C4 P w K mg base aP fz 5 (b3 K (NA C B)))(YL:C4 P w K mg base aP fc 8 (b3 K (Uc C B)))(F:Own K mg kz)(Zc:sj K C)(T:Txt K mg):ac0 P w K mg base kz 9 SI:=by
 let(fI,fdI,JI,MI,bI,mI):=Zu;show F.d (nos:=0) iM (λds R h=>?_) λf a8 A outer s H E M hr=>#[_,(ag (aR (bE hr Yf (ae (vd 0) (ae (vd 1) af))))
 (Ii (i:=2) 0 MI JI (hr.mono ()) mI bI iM.nd (ae (vd 0) af) λ_ =>
 (ag (aR (fG hr WW (ae (vd 2) (ae (vd 1) (ae (DN.de (aM af)) (ae (aw (ae av af)) af))))))
 (ag (sS 3 iM.nd (fG hr YL (ae (vd 2) (ae (vd 0) (ae av af)))))
 (ag (sS 4 iM.nd (fG hr YL (ae (vd 2) (ae (vd 0) (ae av af)))))
 (aq (aV (aw (ae (MD 1 (ny kW U T.tuple (-()) (dX (DE.pe (cp 0 lR 2 Zc.cls Zc.n2 (vd 2))) gB))) (ae (vd 3) (ae (vd 4) af))))))))))),λds R h=>?_]
 .cases h
  rfl
 .obtain @⟨W,ps,g,t,R,lk,hk,ht,hf,hs,q⟩:=h;have hsz:=aH;let((n,psk),_):=id lk;have h1:(lT W ps t).length<=801:=by
   have:=iX (cj W ps) t [] 0;unfold lT;rw[aab,abb];cbv
  have h2:=(mG psk false (cj W ps) (lT W ps t)).1;have h3:=(mG psk true (cj W ps) (qY W ps t)).1;show#[_,U,_,U,W,ps,g,t,U,#[lk,hk,ht,hf,hs],?_];show#[_,U,U,UO.mk lk λx a b z hz=>?_];have hz:x=z:=aaJ hz;subst hz;show#[_,U,_,U,_,U,NA.mk (sc:=[]) (l:=.fin) lk #[[],g,U,#[abc,λ_ h=>(nomatch h)],ht,hf] hs (aax _) ?_];show#[_,U,_,U,_,U,Uc.mk (bb:=false) lk (by change (eG W (cj W ps) false (a7 false ps) (lT W ps t)).length<=_;cbv) ?_];show#[_,U,_,U,_,U,Uc.mk (bb:=true) lk (by change (eG W (cj W ps) true (a7 true ps) (qY W ps t)).length<=_;have:(qY W ps t).length=(eG W (cj W ps) false (a7 false ps) (lT W ps t)).length:=rfl;cbv) ?_];right;exact q
inductive Ge:ace
 | mk {i n:Int} {R:D->Prop} (q:R (.bl (decide (0<=i)&&decide (i < n)))):Ge [.int i,.int n] R
theorem TU(F:Own K mg c5)(T:Txt K mg):ac0 P w K mg base c5 1 Ge:=by
 show F.d (nos:=0) nV (λds R h=>?_) λf a8 A outer s H E M hr=>#[_,(aq (aV (jz (cK eL mO U T.GZ PyProof.Rows.boot_isinstance (ae (vd 0) (ae (dc (d:=.ty "int") (fU (v:=.ty "int") U T.int (-()) U) U) af))) (jz (Oy (cK eL mO U T.GZ PyProof.Rows.boot_isinstance (ae (vd 0) (ae (dc (d:=.ty "bool") (fU (v:=.ty "bool") U T.bool (-()) U) U) af)))) (qQ (FI aj (vd 0) (vd 1))))))),λds R h=>?_]
 .cases h
  rfl
 .obtain @⟨i,n,R,q⟩:=h;right;by_cases h:(0:Int)<=i
  .rw[decide_eq_true h,Bool.true_and] at q;rw[if_pos h];exact#[_,U,_,U,q]
  .rw[decide_eq_false h,Bool.false_and] at q;rw[if_neg h];exact q
inductive RY:ace
 | mk {l:!(Str×!(Str×Nat))} {n:Nat} {R:D->Prop} (hl:l.length<=1000) (h:∀ x∈l,∀ p∈x.2,p.2 < n) (q:R (.lst (l.map λx=>.tup [.str x.1,.lst (x.2.map λp=>.str p.1)]))):RY [.tup (l.map nI),.int (n:Nat)] R
theorem Qs(Pz:ac0 P w K mg base c5 1 Ge)(F:Own K mg iJ)(T:Txt K mg):ac0 P w K mg base iJ 2 RY:=by
 show F.d (nos:=1) gH (λds R h=>?_) λf a8 A outer s H E M hr=>#[_,(ag (sN 0 2 gH.nd (aM af))
 (ag (cv (iQ (iK (cK eL mO U T.GZ PyProof.Rows.boot_isinstance (ae (vd 0) (ae (dc (d:=.ty "tuple") (fU (v:=.ty "tuple") U T.tuple (-()) U) U) af)))))
 (aq (aV mW))
 aO)
 (ag (sF (aZ (vd 0)) (gN 3 gH.nd)
 (ag (cv (DW.dt (k7 (iQ (iK (cK eL mO U T.GZ PyProof.Rows.boot_isinstance (ae (vd 3) (ae (dc (d:=.ty "tuple") (fU (v:=.ty "tuple") U T.tuple (-()) U) U) af))))) (k7 (aK rV zK (dY T.len (ae (vd 3) af)) aj (aF _)) (nv (iQ (iK (cK eL mO U T.GZ PyProof.Rows.boot_isinstance (ae (bO (vd 3) aj) (ae (dc (d:=.ty "tuple") (fU (v:=.ty "tuple") U T.tuple (-()) U) U) af)))))))))
 (aq (aV mW))
 aO)
 (ag (sF (aZ (bO (vd 3) aj)) (gN 4 gH.nd)
 (aq (cv (DW.dt (k7 (iQ (iK (cK eL mO U T.GZ PyProof.Rows.boot_isinstance (ae (vd 4) (ae (dc (d:=.ty "tuple") (fU (v:=.ty "tuple") U T.tuple (-()) U) U) af))))) (k7 (aK rV zK (dY T.len (ae (vd 4) af)) aj (aF _)) (nv (iQ (iK (bE hr Pz (ae (bO (vd 4) aj) (ae (vd 1) af)))))))))
 (aq (aV mW))
 aO)))
 (aq (B8 2 (ae (aw (ae (bO (vd 3) aj) (ae (DN.de (nC ["_law_pair_here"] [] (aZ (bO (vd 3) aj)) (λ_ _ _ _=>(gM 0 ["_law_pair_here"])) (λ_ _ _ _=>bY)
 (λ_ _ _ _=>(bO (vd 0) aj)))) af))) af))))))
 (aq (aV (vQ (pv 2))))))),λds R h=>?_]
 .cases h
  rfl
 .obtain @⟨l,n,R,hl,h,q⟩:=h;have hsz:=aH;right;show eN nI (λdn s=>∃ x3 x4:Sl,(x3.pl=true/\x4.pl=true)/\s=#[[.dat (.tup (l.map nI)),.dat (.int (n:Nat)),.own 0,x3,x4],[some (.lst (dn.map λx=>.tup [.str x.1,.lst (x.2.map λp=>.str p.1)]))]]) ?_ ?_ _ #[.no,.no,#[U,U],U]
  .rintro s ⟨x3,x4,hp,rfl⟩;exact .inr #[_,_,U,U,q]
  .rintro dn x td s E e ⟨x3,x4,⟨h3,h4⟩,rfl⟩ hN hE;have hx:=h x (by rw[e];simp);have hle:=congrArg List.length e;rw[aab,aam] at hle;right;show eN Gb (λ_ s=>∃ x4:Sl,x4.pl=true/\s=#[[.dat (.tup (l.map nI)),.dat (.int (n:Nat)),.own 0,.dat (nI x),x4],[some (.lst (dn.map λx=>.tup [.str x.1,.lst (x.2.map λp=>.str p.1)]))]]) ?_ ?_ _ #[x4,h4,U]
   .rintro s ⟨x4,h4,rfl⟩;right;show aQ Gb (λp=>D.str p.1) _ (λp hp k hk=>?_) ?_
    .right;exact hk _ U
    right;show#[by rw[aaa];cbv,?_];show hN _ #[.dat (nI x),x4,#[U,h4],?_];rw[aai]
    rfl
   .rintro d2 y t2 s E2 e3 ⟨x4,h4,rfl⟩ hN2 hE2;have hy:=hx y (by rw[e3];simp);right;show Ge.mk #[_,U,kx ?_ (hN2 _ #[.dat (Gb y),U,U])];rw[decide_eq_true (abF _),decide_eq_true (aca.mpr hy)]
    rfl
def kR(many:Nat)(ms:!(Str×(Bool×Nat)))(lp:!Nat)(dr:!(Nat×Nat)):Ln->Prop
 | .nm i=>i < 1000000
 | .num i=>0<=i/\i < 1000000
 | .op s=>s∈(["+","-","*"]:!Str)
 | .zero n=>n < many
 | .go n=>n < many
 | .mk b c n=>(c,(b,n))∈ms
 | .way (.uR k) n=>lp[k]?=some n
 | .way (.door k) n=>(k,n)∈dr
 | .bx=>False
 | _=>True
def NI(ms:!(Str×(Bool×Nat))):D:=.i7 (ms.map λm=>.inr m.1) (ms.map λm=>.tup [.str (bc m.2.1),.int (m.2.2:Nat)])
def ldD(dr:!(Nat×Nat)):D:=.lst (dr.map λd=>.tup [.int (d.1:Nat),.int (d.2:Nat)])
def lpD(lp:!Nat):D:=.lst (lp.map λn=>.int (n:Nat))
inductive Vy:ace
 | mk {l:Ln} {many:Nat} {ms:!(Str×(Bool×Nat))} {lp:!Nat} {dr:!(Nat×Nat)} {R:D->Prop} (hn:(ms.map (·.1)).Nodup) (h:kR many ms lp dr l) (q:R (.bl true)):Vy [Cf l,.int (many:Nat),NI ms,lpD lp,ldD dr] R
theorem Ou(Pz:ac0 P w K mg base c5 1 Ge)(F:Own K mg dQ)(T:Txt K mg):ac0 P w K mg base dQ 2 Vy:=by
 show F.d (nos:=0) gJ (λds R h=>?_) λf a8 A outer s H E M hr=>#[_,(ag (cv (DW.dt (k7 (iQ (iK (cK eL mO U T.GZ PyProof.Rows.boot_isinstance (ae (vd 0) (ae (dc (d:=.ty "tuple") (fU (v:=.ty "tuple") U T.tuple (-()) U) U) af))))) (nv (aK bf cz (dY T.len (ae (vd 0) af)) aj (aF _)))))
 (aq (aV Dv))
 aO)
 (ag (sS 5 gJ.nd (bO (vd 0) aj))
 (ag (cv (aK f7 okIn (vd 5) (aw (ae av (ae av (ae av (ae av af))))) U)
 (aq (aV (eD bf cz (dY T.len (ae (vd 0) af)) aj (aF _))))
 aO)
 (ag (cv (aK f7 okIn (vd 5) (aw (ae av (ae av af))) U)
 (aq (aV (jz (eD bf cz (dY T.len (ae (vd 0) af)) aj (aF _)) (qQ (bE hr Pz (ae (bO (vd 0) aj) (ae aj af)))))))
 aO)
 (ag (cv (aK bf cz (vd 5) av (aF _))
 (aq (aV (jz (eD bf cz (dY T.len (ae (vd 0) af)) aj (aF _)) (qQ (eD f7 okIn (bO (vd 0) aj) (aw (ae av (ae av (ae av af)))) U)))))
 aO)
 (ag (cv (aK f7 okIn (vd 5) (aw (ae av (ae av af))) U)
 (aq (aV (jz (eD bf cz (dY T.len (ae (vd 0) af)) aj (aF _)) (qQ (bE hr Pz (ae (bO (vd 0) aj) (ae (vd 1) af)))))))
 aO)
 (ag (cv (aK bf cz (vd 5) av (aF _))
 (aq (aV (jz (eD bf cz (dY T.len (ae (vd 0) af)) aj (aF _)) (jz (JX (bG hr) (bO (vd 0) aj) (vd 2)) (qQ (eD (zy (oE hr)) tD (aw (ae (bO (vd 0) aj) (ae (bO (vd 0) aj) af))) (eO (aX (bG hr) (DE.pe (vd 2)) (DE.pe (bO (vd 0) aj)) (λ_ _=>rfl))) (aF _)))))))
 aO)
 (ag (cv (aK bf cz (vd 5) av (aF _))
 (aq (aV (jz (eD bf cz (dY T.len (ae (vd 0) af)) aj (aF _)) (jz (bE hr Pz (ae (bO (vd 0) aj) (ae (dY T.len (ae (vd 3) af)) af))) (qQ (eD bf cz (bO (vd 0) aj) (jv (vd 3) (bO (vd 0) aj)) (aF _)))))))
 aO)
 (aq (aV (jz (eD bf cz (vd 5) av (aF _)) (jz (eD bf cz (dY T.len (ae (vd 0) af)) aj (aF _)) (qQ (eD (MV (oE hr)) Oa (gy (vd 0) (bC aj) cU) (vd 4) U)))))))))))))),λds R h=>?_]
 .cases h
  rfl
 .obtain @⟨l,many,ms,lp,dr,R,hn,h,q⟩:=h;have hsz:=aH;have hq:∀ b:Bool,b=true->R (.bl b):=λb e=>e▸q;cases l with
  | bx=>exact absurd h id
  | keep=>right;exact hq _ ()
  | drop=>right;exact hq _ ()
  | back=>right;exact hq _ ()
  | fin=>right;exact hq _ ()
  | nm i =>
   right;show Ge.mk (hq _ ?_);have h:(i:Int) < 1000000:=aca.mpr h;rw[decide_eq_true (abF _),decide_eq_true h]
   rfl
  | num i =>
   right;show Ge.mk (hq _ ?_);rw[decide_eq_true h.1,decide_eq_true h.2]
   rfl
  | op i =>
   right;show hq _ ?_;rcases aaj.mp h with rfl | h
   .rfl
   rcases aaj.mp h with rfl | h
   .rfl
   cases aag.mp h
   rfl
  | zero i =>
   right;show Ge.mk (hq _ ?_);rw[decide_eq_true (abF _),decide_eq_true (aca.mpr h)];rfl
  | go i =>
   right;show Ge.mk (hq _ ?_);rw[decide_eq_true (abF _),decide_eq_true (aca.mpr h)];rfl
  | mk b c n =>
   have hl:bA (ms.map λm=>(Sum.inr m.1:Key)) (ms.map λm=>D.tup [.str (bc m.2.1),.int (m.2.2:Nat)]) (Sum.inr c)=some (.tup [.str (bc b),.int (n:Nat)]):=Iv (f:=λm:Str×(Bool×Nat)=>m.1) (h:=λm=>D.tup [.str (bc m.2.1),.int (m.2.2:Nat)]) hn (c,(b,n)) h;right;show n5 (by rw[hl];rfl) ?_;right;show#[_,hl,?_];have hp:iP (.tup [.str (bc b),.int (n:Nat)])=true:=by change (Fk.strOk (bc b)&&(true&&true))=true;cases b<;>decide+kernel
   exact#[#[hp,hp,.inl (by first | exact (show 1<=150 by decide) | exact (show 2<=150 by decide))],hq _ (jS _)]
  | way w n =>
   cases w with
   | uR k =>
    have hk:k < lp.length:=(aaf.mp h).1;right;show Ge.mk ?_;right;show n5 (by rw[aaa,decide_eq_true (abF _),decide_eq_true (aca.mpr hk)];rfl) ?_;have ha:iD (lp.map λn=>D.int (n:Nat)) (k:Int)=some (.int (n:Nat)):=by
     unfold iD;rw[CN (by rw[aaa];exact hk)];change (lp.map _)[k]?=_;rw[aaG,h]
     rfl
    show#[_,U,_,_,_,U,U,U,_,U,_,U,_,_,_,U,U,U,_,_,_,U,U,ha,?_];exact#[#[U,U,U],hq _ (decide_eq_true U)]
   | door k =>
    have hc:cutD (BD (.door k)++[D.int (n:Nat)]) (some 1) none=[.int (k:Nat),.int (n:Nat)]:=tM;right;rw[hc];show#[#[U,?_,by first | exact (show 1<=100 by decide) | exact (show 2<=100 by decide)],hq _ ?_]
    .show lK (dr.map λd=>.tup [.int (d.1:Nat),.int (d.2:Nat)])=true;generalize dr=l;clear h
     induction l with
     | nil=>rfl
     | cons a l ih=>exact ih
    .rw[ab6];exact#[_,aav h,jS _]
theorem Eb(x y:D)(l:!D):cutD (x::y::l) none (some 2)=[x,y]:=by
 have:=d8 (f:=id) (xs:=x::y::l) (lo:=none) (hi:=some 2);rw[abf,abf] at this;rw[this];have e2:HT.cc (x::y::l).length (x::y::l).length (some 2)=2:=by
  unfold HT.cc;simp only[List.length_cons]
  repeat' split
  all_goals cbv
 rw[show HT.cc (x::y::l).length 0 none=0 from U,e2]
 rfl
def ow(ps:!PK):!(Str×(Bool×Nat)):=ps.flatMap λp=>p.kd.bz.map λm=>(m.name,(p.asked,m.fs.length))
def pI(ps:!PK):!(Str×(Bool×Nat×Nat)):=ps.flatMap λp=>p.kd.bN.zipIdx.map λq=>(q.1.name,(p.asked,q.2,q.1.ps.length))
def WZ(as:!(Str×(Bool×Nat×Nat))):D:=.i7 (as.map λm=>.inr m.1) (as.map λm=>.tup [.str (bc m.2.1),.int (m.2.2.1:Nat),.int (m.2.2.2:Nat)])
def YG(as:!(Str×(Bool×Nat×Nat))):D:=Fd (as.map λm=>.inr m.1) (as.map λm=>.tup [.str (bc m.2.1),.int (m.2.2.1:Nat),.int (m.2.2.2:Nat)])
theorem tu(ps:!PK):(ow ps).map (·.1)=(ps.map PK.kd).flatMap λk=>k.bz.map eU.name:=by
 unfold ow;rw[ab8,abO]
 congr 1
 funext p
 rw[aan]
 rfl
theorem sZ(ps:!PK):(pI ps).map (·.1)=(ps.map PK.kd).flatMap λk=>k.bN.map d6.name:=by
 unfold pI;rw[ab8,abO]
 congr 1
 funext p
 rw[aan,show ((λx:Str×(Bool×Nat×Nat)=>x.1)∘λq:d6×Nat=>(q.1.name,(p.asked,q.2,q.1.ps.length)))=d6.name∘(λq:d6×Nat=>q.1) from U,<- aan,eX]
def Za(z:eU×!D):D:=.tup (.str z.1.name::cG z.1.fs::z.2)
def Zf(z:d6×!D):D:=.tup (.str z.1.name::cG z.1.ps::z.2)
theorem GV(p:PK)(h:p.tabs.length=if p.asked=true then p.kd.bz.length else p.kd.bN.length):∃ zs:!(eU×!D),zs.map (·.1)=p.kd.bz/\iD [BL p,.tup (jA p)] (if p.asked=true then 1 else 0)=some (.tup (zs.map Za)):=by
 let(b,kd,ts):=p;cases b with
 | true =>
  show#[(kd.bz.zip ts).map λx=>(x.1,[xh x.2]),?_,?_]
  .rw[aan];exact (xy h id).trans (abf _)
  .rw[aan]
   rfl
 | false =>
  show#[kd.bz.map λx=>(x,[]),?_,?_]
  .rw[aan];exact abf _
  .rw[aan]
   rfl
theorem Ik(p:PK)(h:p.tabs.length=if p.asked=true then p.kd.bz.length else p.kd.bN.length):∃ zs:!(d6×!D),zs.map (·.1)=p.kd.bN/\iD [.tup (jA p),BL p] (if p.asked=true then 1 else 0)=some (.tup (zs.map Zf)):=by
 let(b,kd,ts):=p;cases b with
 | true =>
  show#[kd.bN.map λx=>(x,[.str x.res]),?_,?_]
  .rw[aan];exact abf _
  .rw[aan]
   rfl
 | false =>
  show#[(kd.bN.zip ts).map λx=>(x.1,[.str x.1.res,xh x.2]),?_,?_]
  .rw[aan];have:(kd.bN.zip ts).map Prod.fst=kd.bN:=abn (Nat.le_of_eq (Eq.symm h));exact this
  .rw[aan]
   rfl
inductive Vu:ace
 | mk {W:aW} {ps:!PK} {R:D->Prop} (lk:Lk W ps) (q:R (.tup [NI (ow ps),YG (pI ps)])):Vu [.tup (ps.map gj)] R
theorem Ul(F:Own K mg eE)(T:Txt K mg):ac0 P w K mg base eE 1 Vu:=by
 show F.d (nos:=2) aN (λds R h=>?_) λf a8 A outer s H E M hr=>#[_,(ag (sN 0 1 aN.nd iT)
 (ag (sN 1 2 aN.nd iT)
 (ag (sF (aZ (vd 0)) (bo (m:=4) U (au (gN 3 aN.nd) (au (gN 4 aN.nd) (au (gN 5 aN.nd) (au (gN 6 aN.nd) bj)))))
 (ag (oK (ud (ou (i:=7) aN.nd U U (ts:=["_law_head"]) (us:=[]) #[U,U,U,U,U,U] rfl (aZ (jv (DN.de (aM (ae (vd 5) (ae (vd 6) af)))) (fJ eY lj U T.int (-()) (ae (eD bf cz (vd 3) av (aF _)) af)))) (λ_ _ _ _=>(gM 0 ["_law_head"])) (λ_ _ _ _=>bY)
 (λ_ _ _ _=>(gy (vd 0) cU (bC aj))))))
 (ag (oK (ud (ou (i:=8) aN.nd U U (ts:=["_law_head"]) (us:=[]) #[U,U,U,U,U,U] rfl (aZ (jv (DN.de (aM (ae (vd 6) (ae (vd 5) af)))) (fJ eY lj U T.int (-()) (ae (eD bf cz (vd 3) av (aF _)) af)))) (λ_ _ _ _=>(gM 0 ["_law_head"])) (λ_ _ _ _=>bY)
 (λ_ _ _ _=>(gy (vd 0) cU (bC aj))))))
 (ag (sF (aZ (vd 7)) (bo (m:=2) U (au (gN 9 aN.nd) (au (gN 10 aN.nd) bj)))
 (aq (kq (eh (bG hr) (pv 1) (DE.pe (vd 9)) (DE.pe (aw (ae (vd 3) (ae (dY T.len (ae (vd 10) af)) af)))) U))))
 (aq (sF (yU U T.enumerate (ae (vd 8) af)) (bo (m:=2) U (au (gN 11 aN.nd) (au (bo (m:=2) U (au (gN 12 aN.nd) (au (gN 13 aN.nd) bj))) bj)))
 (aq (kq (eh (bG hr) (pv 2) (DE.pe (vd 12)) (DE.pe (aw (ae (vd 3) (ae (vd 11) (ae (dY T.len (ae (vd 13) af)) af))))) U)))))))))
 (aq (aV (aw (ae (vQ (pv 1)) (ae (Si (pv 2)) af)))))))),λds R h=>?_]
 .cases h
  rfl
 .obtain @⟨W,ps,R,lk,q⟩:=h;have hsz:=aH;have bp:=lk.bp;let((n,psk),_):=id lk;have h5:=psk.len;have hmn:=bp.mn;have han:=bp.an;rw[<- psk.kd,<- tu] at hmn;rw[<- psk.kd,<- sZ] at han;have JM:(ow ps).length<=5 * 5:=fX h5 λp hp=>by rw[aaa];exact (bp.kw p.kd (psk.mem hp)).2.1
  have hal:(pI ps).length<=5 * 5:=fX h5 λp hp=>by rw[aaa,abW];exact (bp.kw p.kd (psk.mem hp)).2.2
  right;show eN gj (λdn s=>∃ x3 x4 x5 x6 x7 x8 x9 fQ fK d7 cS:Sl,(x9.pl=true/\fQ.pl=true/\fK.pl=true/\d7.pl=true/\cS.pl=true)/\(x3.pl=true/\x4.pl=true/\x5.pl=true/\x6.pl=true/\x7.pl=true/\x8.pl=true)/\s=#[[.dat (.tup (ps.map gj)),.own 0,.own 1,x3,x4,x5,x6,x7,x8,x9,fQ,fK,d7,cS],[some (NI (ow dn)),some (WZ (pI dn))]]) ?_ ?_ _ #[.no,.no,.no,.no,.no,.no,.no,.no,.no,.no,.no,#[U,U,U,U,U],#[U,U,U,U,U,U],U]
  .rintro s ⟨x3,x4,x5,x6,x7,x8,x9,fQ,fK,d7,cS,hp1,hp2,rfl⟩;right;exact q
  .rintro dn p td s E e ⟨x3,x4,x5,x6,x7,x8,x9,fQ,fK,d7,cS,⟨g9,g10,g11,g12,g13⟩,hp2,rfl⟩ hN hE;have hp:p∈ps:=by rw[e];simp
   have htl:=(psk.ok p hp).tl;have em:ow ps=ow dn++(p.kd.bz.map λm=>(m.name,(p.asked,m.fs.length)))++ow td:=by rw[e];simp[ow]
   have ea:pI ps=pI dn++(p.kd.bN.zipIdx.map λq=>(q.1.name,(p.asked,q.2,q.1.ps.length)))++pI td:=by rw[e];simp[pI]
   have fm:ow (dn++[p])=ow dn++p.kd.bz.map λm=>(m.name,(p.asked,m.fs.length)):=by simp[ow]
   have fa:pI (dn++[p])=pI dn++p.kd.bN.zipIdx.map λq=>(q.1.name,(p.asked,q.2,q.1.ps.length)):=by simp[pI]
   show#[_,U,U,_,_,U,_,_,U,_,_,U,_,_,U,U,?_];let(zm,em1,em2):=GV p htl;let(za,ea1,ea2):=Ik p htl;right;show#[by rw[cJ];exact em2,_,.inr U,?_];show aQ Za (λz=>D.tup [.str z.1.name,cG z.1.fs]) _ (λz hz k hk=>?_) ?_
   .refine#[_,U,_,U,_,U,?_];rw[Eb];exact hk _ U
   rw[show zm.map (λz=>D.tup [.str z.1.name,cG z.1.fs])=(zm.map (·.1)).map (λm=>D.tup [.str m.name,cG m.fs]) by rw[aan];rfl,em1];right;show#[by rw[cJ];exact ea2,_,.inr U,?_];show aQ Zf (λz=>D.tup [.str z.1.name,cG z.1.ps]) _ (λz hz k hk=>?_) ?_
   .refine#[_,U,_,U,_,U,?_];rw[Eb];exact hk _ U
   rw[show za.map (λz=>D.tup [.str z.1.name,cG z.1.ps])=(za.map (·.1)).map (λm=>D.tup [.str m.name,cG m.ps]) by rw[aan];rfl,ea1];right;rw[em] at hmn JM;rw[ea] at han hal;show eN (λm:eU=>D.tup [.str m.name,cG m.fs]) (λd2 s=>∃ x9 fQ:Sl,(x9.pl=true/\fQ.pl=true)/\s=#[[.dat (.tup (ps.map gj)),.own 0,.own 1,.dat (.str (bc p.asked)),.dat (.str p.kd.name),.dat (BL p),.dat (.tup (jA p)),.dat (.lst (p.kd.bz.map λm=>D.tup [.str m.name,cG m.fs])),.dat (.lst (p.kd.bN.map λm=>D.tup [.str m.name,cG m.ps])),x9,fQ,fK,d7,cS],[some (NI (ow dn++d2.map λm=>(m.name,(p.asked,m.fs.length)))),some (WZ (pI dn))]]) ?_ ?_ _ #[x9,fQ,#[g9,g10],by rw[aaQ,aal];rfl]
   .rintro s ⟨x9,fQ,⟨g9,g10⟩,rfl⟩;rw[<- fm];show#[_,U,_,.inl U,?_];rw[nO];show eN (λz:d6×Nat=>D.tup [.int (z.2:Nat),.tup [.str z.1.name,cG z.1.ps]]) (λd2 s=>∃ fK d7 cS:Sl,(fK.pl=true/\d7.pl=true/\cS.pl=true)/\s=#[[.dat (.tup (ps.map gj)),.own 0,.own 1,.dat (.str (bc p.asked)),.dat (.str p.kd.name),.dat (BL p),.dat (.tup (jA p)),.dat (.lst (p.kd.bz.map λm=>D.tup [.str m.name,cG m.fs])),.dat (.lst (p.kd.bN.map λm=>D.tup [.str m.name,cG m.ps])),x9,fQ,fK,d7,cS],[some (NI (ow (dn++[p]))),some (WZ (pI dn++d2.map λq=>(q.1.name,(p.asked,q.2,q.1.ps.length))))]]) ?_ ?_ _ #[fK,d7,cS,#[g11,g12,g13],by rw[aaQ,aal]]
    .rintro s ⟨fK,d7,cS,⟨g11,g12,g13⟩,rfl⟩;rw[<- fa];exact hN _ #[_,_,_,_,_,_,_,_,_,_,_,#[g9,g10,g11,g12,g13],#[U,U,U,U,U,U],U]
    .rintro d2 y t2 s E2 e3 ⟨fK,d7,cS,_,rfl⟩ hN2 hE2;rw[e3] at han hal;have hyn:y.1.name∉(pI dn++d2.map λq=>(q.1.name,(p.asked,q.2,q.1.ps.length))).map (·.1):=nK han (b:=(t2.map λq=>q.1.name)++(pI td).map (·.1)) (by simp);have hcp:=jh (f:=λm:Str×(Bool×Nat×Nat)=>m.1) (h:=λm=>D.tup [.str (bc m.2.1),.int (m.2.2.1:Nat),.int (m.2.2.2:Nat)]) (x:=(y.1.name,(p.asked,y.2,y.1.ps.length))) hyn;right;show#[by simp at hal ⊢;cbv,?_];rw[show ((y.1.ps.map pairD).length)=y.1.ps.length from aaa _];rw[hcp];show hN2 _ #[.dat (.int (y.2:Nat)),.dat (.str y.1.name),.dat (cG y.1.ps),#[U,U,U],?_];rw[aai (l₁:=d2),<- aaz]
     rfl
   .rintro d2 y t2 s E2 e3 ⟨x9,fQ,_,rfl⟩ hN2 hE2;rw[e3] at hmn JM;have hyn:y.name∉(ow dn++d2.map λm=>(m.name,(p.asked,m.fs.length))).map (·.1):=nK hmn (b:=(t2.map λm=>m.name)++(ow td).map (·.1)) (by simp);have hcp:=jh (f:=λm:Str×(Bool×Nat)=>m.1) (h:=λm=>D.tup [.str (bc m.2.1),.int (m.2.2:Nat)]) (x:=(y.name,(p.asked,y.fs.length))) hyn;right;show#[by simp at JM ⊢;cbv,?_];rw[show ((y.fs.map pairD).length)=y.fs.length from aaa _];rw[hcp];show hN2 _ #[.dat (.str y.name),.dat (cG y.fs),#[U,U],?_];rw[aai (l₁:=d2),<- aaz]
    rfl
end
section
variable{W:aW}{c:kA}{ms:!(Str×(Bool×Nat))}{lp:!Nat}{dr:!(Nat×Nat)}{m:Nat}
theorem Fc{sc:!Str}:∀ {ts:!Tm},(∀ t∈ts,∀ o,o+(cd c sc o t).length < m->∀ l∈cd c sc o t,kR m ms lp dr l)->∀ o,o+(xP c sc o ts).length < m->∀ l∈xP c sc o ts,kR m ms lp dr l
 | [],_,o,_,l,hl=>nomatch hl
 | t::ts,h,o,ho,l,hl=>by
  rw[xP,aab] at ho;rw[xP] at hl;rcases aaw.mp hl with hl | hl
  .exact h t aad o (by cbv) l hl
  .exact Fc (λu hu=>h u (aac _ hu)) _ (by cbv) l hl
theorem Kn(t:Tm)(sc:!Str)(o:Nat)(h:jx W sc t):1<=(cd c sc o t).length:=by
 let(f,ts):=t;have h1:∀ f,1<=(xP c sc o ts++[jm c sc f ts]).length:=λf=>by rw[aab];exact abT _ _
 cases f with
 | nq =>
  let(a,b,e,rfl,_):=uQ h;change 1<=(cd c sc o a++(_::_++_)).length;simp only[List.length_append,List.length_cons];cbv
 | lt x =>
  let(_,a,b,rfl,_):=yO h;change 1<=(cd c sc o a++Ln.keep::_).length;simp only[List.length_append,List.length_cons];cbv
 | _=>exact h1 _
theorem CS{x:Str}:∀ {sc:!Str},x∈sc->sE x sc < sc.length
 | y::r,h=>by
  rw[sE];by_cases e:y=x
  .rw[if_pos e];exact Nat.zero_lt_succ _
  .rw[if_neg e];have:=CS ((aaj.mp h).resolve_left λz=>e z.symm);exact Nat.succ_lt_succ this
theorem sJ{t:Tm}:∀ {ts:!Tm},t∈ts->t.size<=bh ts
 | u::ts,h=>by
  have hs:bh (u::ts)=u.size+bh ts:=rfl;rcases aaj.mp h with rfl | h
  .cbv
  .have:=sJ h;cbv
theorem Ft(w:gf W)(JR:∀ kd∈W.kinds,∀ k∈Kd.bz kd,(k.name,(c.side k.name,k.fs.length))∈ms)(Zk:∀ kd∈W.kinds,∀ a∈Kd.bN kd,kR m ms lp dr (.way (c.way a.name) a.ps.length)):∀ (n:Nat) (t:Tm),t.size<=n->∀ (sc:!Str) (o:Nat),jx W sc t->o+(cd c sc o t).length < m->∀ l∈cd c sc o t,kR m ms lp dr l
 | 0,t,hn,sc,o,h,ho,l,hl=>absurd (size_pos t) (by cbv)
 | n+1,.node f ts,hn,sc,o,h,ho,l,hl=>by
  have hs:∀ t∈ts,t.size<=n:=λt ht=>by
   have:t.size<=bh ts:=sJ ht;have:Tm.size (.node f ts)=bh ts+1:=rfl;cbv
  have ih:=λt ht=>Ft w JR Zk n t (hs t ht);have last:∀ g,cd c sc o (.node g ts)=xP c sc o ts++[jm c sc g ts]->(∀ t∈ts,jx W sc t)->f=g->kR m ms lp dr (jm c sc g ts)->kR m ms lp dr l:=λg e hp eg hq=>by
   subst eg;rw[e] at hl ho;rw[aab,abb] at ho;rcases aaw.mp hl with hl | hl
   .exact Fc (λt ht o ho=>ih t ht sc o (hp t ht) ho) o (by cbv) l hl
   .rw[aag.mp hl];exact hq
  cases f with
  | nq =>
   let(a,b,e,rfl,h1,h2,h3):=uQ h;have ha:=ih a (by simp) sc;have hb:=ih b (by simp) sc;have he:=ih e (by simp) sc;have ep:=Kn (c:=c) e sc (o+(cd c sc o a).length+1+(cd c sc (o+(cd c sc o a).length+1) b).length+1) h3;have e0:cd c sc o (.node .nq [a,b,e])=cd c sc o a++(.zero (o+(cd c sc o a).length+1+(cd c sc (o+(cd c sc o a).length+1) b).length+1)::cd c sc (o+(cd c sc o a).length+1) b++(.go (o+(cd c sc o a).length+1+(cd c sc (o+(cd c sc o a).length+1) b).length+1+(cd c sc (o+(cd c sc o a).length+1+(cd c sc (o+(cd c sc o a).length+1) b).length+1) e).length)::cd c sc (o+(cd c sc o a).length+1+(cd c sc (o+(cd c sc o a).length+1) b).length+1) e)):=rfl;rw[e0] at hl ho;simp only[List.length_append,List.length_cons] at ho;rcases aaw.mp hl with hl | hl
   .exact ha o h1 (by cbv) l hl
   rcases aaw.mp hl with hl | hl
   .rcases aaj.mp hl with rfl | hl
    .show _ < m;cbv
    .exact hb _ h2 (by cbv) l hl
   .rcases aaj.mp hl with rfl | hl
    .show _ < m;cbv
    .exact he _ h3 (by cbv) l hl
  | lt x =>
   let(hx,a,b,rfl,h1,h2):=yO h;have ha:=ih a (by simp) sc;have hb:=ih b (by simp) (sc++[x]);have e0:cd c sc o (.node (.lt x) [a,b])=cd c sc o a++.keep::(cd c (sc++[x]) (o+(cd c sc o a).length+1) b++[.drop]):=rfl;rw[e0] at hl ho;simp only[List.length_append,List.length_cons,List.length_nil] at ho;rcases aaw.mp hl with hl | hl
   .exact ha o h1 (by cbv) l hl
   rcases aaj.mp hl with rfl | hl
   .exact True.intro
   rcases aaw.mp hl with hl | hl
   .exact hb _ h2 (by cbv) l hl
   .rw[aag.mp hl];exact True.intro
  | nm x =>
   let(hx,hn,rfl):=Cq h;have:=vx w h;have:=CS hx;exact last (.nm x) U (λ_ z=>(nomatch z)) U (show _ < 1000000 by cbv)
  | num i =>
   let(rfl,h1,h2):=AD h;exact last (.num i) U (λ_ z=>(nomatch z)) U #[h1,h2]
  | op s =>
   let(hso,a,b,rfl,h1,h2):=Ez h;exact last (.op s) U (λu hu=>by rcases aaj.mp hu with rfl | hu;exact h1;rw[aag.mp hu];exact h2) rfl hso
  | mk x =>
   let(kd,k,hk,hm,rfl,hlen,hp):=C0 h;show last (.mk k.name) U hp U ?_;change (k.name,(c.side k.name,ts.length))∈ms;rw[hlen];exact JR kd hk k hm
  | ask x =>
   let(a,us,kd,ak,rfl,hk,ha,rfl,hlen,hp):=Bf h;show last (.ask ak.name) U hp U ?_;change kR m ms lp dr (.way (c.way ak.name) us.length);rw[hlen];exact Zk kd hk ak ha
  | _=>exact absurd (dG (Ej h)).1 (show ¬ (false=true) by decide)
end
def BM(ps:!PK):!Nat:=ps.flatMap λp=>if p.asked=true then [] else p.kd.bN.map λa=>a.ps.length
def F9(ps:!PK):!(Nat×Nat):=((pI ps).filter λx=>x.2.1).map λx=>(x.2.2.1,x.2.2.2)
theorem Ff:∀ {ps:!PK} {d:Nat} {pre:!Nat},pre.length=d->(∀ p∈ps,p.tabs.length=if p.asked=true then p.kd.bz.length else p.kd.bN.length)->∀ p∈ps,∀ a∈p.kd.bN,∃ v,(a.name,v)∈ja d ps/\((p.asked=true/\∃ i,v=.door i/\(a,i)∈p.kd.bN.zipIdx)\/(p.asked=false/\∃ k,v=.uR k/\(pre++BM ps)[k]?=some a.ps.length))
 | p'::ps,d,pre,hd,ht,p,hp,a,ha=>by
  rcases aaj.mp hp with rfl | hp
  .let(i,hi,e):=aba ha;have hz:(a,i)∈p.kd.bN.zipIdx:=List.mem_zipIdx_iff_getElem?.mpr (by rw[aaq hi,e]);show#[(iS p d (a,i)).2,aaH _ (aak.mpr #[(a,i),hz,U]),?_];cases hb:p.asked with
   | true=>exact .inl #[U,i,by unfold iS;rw[if_pos hb],hz]
   | false =>
    show .inr #[U,d+i,by unfold iS;rw[if_neg (by rw[hb];decide)],?_];rw[aa1 (by cbv),hd,Nat.add_sub_cancel_left];change ((if p.asked=true then [] else p.kd.bN.map λa=>a.ps.length)++BM ps)[i]?=_;rw[if_neg (by rw[hb];decide),aa0 (by rw[aaa];exact hi),aaG,aaq hi,e]
    rfl
  .have Ku:Gd p'=(if p'.asked=true then [] else p'.kd.bN.map λa=>a.ps.length).length:=by
    have:=ht p' aad;unfold Gd jA;by_cases hb:p'.asked=true
    .rw[if_pos hb,if_pos hb];rfl
    .rw[if_neg hb] at this;rw[if_neg hb,if_neg hb,if_neg hb,aaa,abh,aaa];cbv
   let(v,h1,h2):=Ff (ps:=ps) (d:=d+Gd p') (pre:=pre++if p'.asked=true then [] else p'.kd.bN.map λa=>a.ps.length) (by rw[aab,hd,Ku]) (λq hq=>ht q (aac _ hq)) p hp a ha;show#[v,aaB _ h1,?_];rw[aaz] at h2;exact h2
theorem Lk.way{W:aW}{ps:!PK}(h:Lk W ps){m:Nat}{ms:!(Str×(Bool×Nat))}{kd:Kd}(hk:kd∈W.kinds){a:d6}(ha:a∈kd.bN):kR m ms (BM ps) (F9 ps) (.way ((cj W ps).way a.name) a.ps.length):=by
 let((n,psk),_):=id h;let(p,hp,e,_):=h.at hk;have han:=h.bp.an;rw[<- psk.kd,abO] at han;have han:((ja 0 ps).map (·.1)).Nodup:=by rw[il];exact han
 let(v,hv,hw):=Ff (d:=0) (pre:=[]) U (λq hq=>(psk.ok q hq).tl) p hp a (e▸ha);have ec:(cj W ps).way a.name=v:=by
  unfold cj;simp only[];rw[kh (f:=λx:Str×Wy=>x.1) han (a.name,v) hv]
 rw[ec];rcases hw with ⟨hb,i,rfl,hi⟩ | ⟨hb,k,rfl,hk⟩
 .show (i,a.ps.length)∈F9 ps;show aak.mpr #[(a.name,(p.asked,i,a.ps.length)),aa3.mpr #[aaU.mpr #[p,hp,aak.mpr #[(a,i),hi,U]],hb],U]
 .exact hk
theorem Lk.bz{W:aW}{ps:!PK}(h:Lk W ps){kd:Kd}(hk:kd∈W.kinds){k:eU}(hm:k∈kd.bz):(k.name,((cj W ps).side k.name,k.fs.length))∈ow ps:=by
 let(p,hp,e,ea,_):=h.at hk;rw[h.sd hk hm,<- ea];exact aaU.mpr #[p,hp,aak.mpr #[k,e▸hm,U]]
theorem RL{W:aW}{ps:!PK}(lk:Lk W ps){M:Nat}{b:Bool}{nm:Str}{r:Str×Tm}(h:JN W (if b=true then nm else r.1) (if b=true then r.1 else nm) r.2){o:Nat}(ho:o+(jC W (cj W ps) b nm r o).length<=M):∀ l∈jC W (cj W ps) b nm r o,kR M (ow ps) (BM ps) (F9 ps) l:=λl hl=>by
 let((kd,hk,mk,hm,ak,ha,e1,e2,ht),hf,hs):=h;have eb:(if b=true then Co W nm r.1 else Co W r.1 nm)=(mk.fs++ak.ps).map (·.1):=by
  rw[<- DX lk.bp hk hk hm ha,e1,e2];cases b<;>rfl
 unfold jC at hl ho;rw[eb] at hl ho;rw[aab,abb] at ho;rcases aaw.mp hl with hl | hl
 .exact Ft lk.bp (λkd hk k hm=>lk.bz hk hm) (λkd hk a ha=>lk.way hk ha) _ r.2 (aah _) _ o #[_,_,U,Fs (mD lk.bp hk hm ha),ht,hf] (by cbv) l hl
 .rw[aag.mp hl];exact True.intro
theorem A2{W:aW}{ps:!PK}(lk:Lk W ps){M:Nat}{b:Bool}{nm:Str}:∀ {rs:!(Str×Tm)} {co:!Ln},(∀ r∈rs,JN W (if b=true then nm else r.1) (if b=true then r.1 else nm) r.2)->(∀ l∈co,kR M (ow ps) (BM ps) (F9 ps) l)->(hW W (cj W ps) b nm rs co).length<=M->∀ l∈hW W (cj W ps) b nm rs co,kR M (ow ps) (BM ps) (F9 ps) l
 | [],co,_,h,_=>h
 | r::rs,co,hr,h,hm=>by
  have hg:=jX (W:=W) (c:=cj W ps) (b:=b) (nm:=nm) rs (co++jC W (cj W ps) b nm r co.length);have hm':(hW W (cj W ps) b nm rs (co++jC W (cj W ps) b nm r co.length)).length<=M:=hm;show A2 lk (rs:=rs) (λx hx=>hr x (aac _ hx)) (λl hl=>?_) hm';rcases aaw.mp hl with hl | hl
  .exact h l hl
  .exact RL lk (hr r aad) (by rw[aab] at hg;cbv) l hl
theorem vi{W:aW}{ps:!PK}(lk:Lk W ps){M:Nat}{b:Bool}:∀ {xs:!(Str×!(Str×Tm))} {co:!Ln},(∀ x∈xs,∀ r∈x.2,JN W (if b=true then x.1 else r.1) (if b=true then r.1 else x.1) r.2)->(∀ l∈co,kR M (ow ps) (BM ps) (F9 ps) l)->(eG W (cj W ps) b xs co).length<=M->∀ l∈eG W (cj W ps) b xs co,kR M (ow ps) (BM ps) (F9 ps) l
 | [],co,_,h,_=>h
 | x::xs,co,hr,h,hm=>by
  have hg:=fH (W:=W) (c:=cj W ps) (b:=b) xs (hW W (cj W ps) b x.1 x.2 co);have hm':(eG W (cj W ps) b xs (hW W (cj W ps) b x.1 x.2 co)).length<=M:=hm;exact vi lk (xs:=xs) (λy hy=>hr y (aac _ hy)) (A2 lk (hr x aad) h (by cbv)) hm'
theorem Av{W:aW}{c:kA}{b:Bool}{nm:Str}:∀ {rs:!(Str×Tm)} {co:!Ln},∀ p∈qK W c b nm rs co,p.2 < (hW W c b nm rs co).length
 | r::rs,co,p,hp=>by
  have hg:=jX (W:=W) (c:=c) (b:=b) (nm:=nm) rs (co++jC W c b nm r co.length);rcases aaj.mp hp with rfl | hp
  .show co.length < (hW W c b nm rs (co++jC W c b nm r co.length)).length;have:1<=(jC W c b nm r co.length).length:=by unfold jC;rw[List.length_append];exact Nat.le_add_left _ _
   rw[aab] at hg;cbv
  .exact Av (rs:=rs) p hp
theorem uy{W:aW}{c:kA}{b:Bool}:∀ {xs:!(Str×!(Str×Tm))} {co:!Ln},∀ x∈fN W c b xs co,∀ p∈x.2,p.2 < (eG W c b xs co).length
 | y::xs,co,x,hx,p,hp=>by
  rcases aaj.mp hx with rfl | hx
  .exact aay (Av p hp) (fH xs _)
  .exact uy (xs:=xs) x hx p hp
theorem r8{W:aW}{c:kA}{b:Bool}{nm:Str}:∀ (rs:!(Str×Tm)) (co:!Ln),(qK W c b nm rs co).map (·.1)=rs.map (·.1)
 | [],co=>rfl
 | r::rs,co=>congrArg (r.1::·) (r8 rs _)
theorem iO{W:aW}{c:kA}{b:Bool}:∀ (xs:!(Str×!(Str×Tm))) (co:!Ln),(fN W c b xs co).map (λx=>D.tup [.str x.1,.lst (x.2.map λp=>.str p.1)])=xs.map λx=>D.tup [.str x.1,.lst (x.2.map λp=>.str p.1)]
 | [],co=>rfl
 | x::xs,co=>by
  change _::(fN W c b xs _).map _=_::xs.map _;rw[iO xs]
  congr 1
  change D.tup [.str x.1,.lst ((qK W c b x.1 x.2 co).map λp=>.str p.1)]=_;rw[show (qK W c b x.1 x.2 co).map (λp=>D.str p.1)=((qK W c b x.1 x.2 co).map (·.1)).map D.str by rw[aan];rfl,r8,aan]
  rfl
theorem Ib(b:Bool):Fk.strOk (bc b)=true:=by cases b<;>decide+kernel
theorem Lq{M:Nat}{ms:!(Str×(Bool×Nat))}{lp:!Nat}{dr:!(Nat×Nat)}(hm:∀ x∈ms,Fk.strOk x.1=true){l:Ln}(h:kR M ms lp dr l):iP (Cf l)=true:=by
 have two:∀ (s:Str) (d:D),Fk.strOk s=true->iP d=true->iP (.tup [.str s,d])=true:=λs d h1 h2=>by
  change (Fk.strOk s&&(iP d&&true))=true;rw[h1,h2]
  rfl
 cases l with
 | nm i=>exact two _ _ (-()) U
 | num i=>exact two _ _ (-()) U
 | op s =>
  show two _ _ (-()) ?_;change Fk.strOk s=true;rcases aaj.mp h with rfl | h
  .decide+kernel
  rcases aaj.mp h with rfl | h
  .decide+kernel
  cases aag.mp h;decide+kernel
 | zero n=>exact two _ _ (-()) U
 | go n=>exact two _ _ (-()) U
 | mk b c n =>
  change (Fk.strOk ("make":Str)&&(Fk.strOk (bc b)&&(Fk.strOk c&&(true&&true))))=true;rw[Ib,hm _ h,show Fk.strOk ("make":Str)=true by decide+kernel]
  rfl
 | way w n =>
  cases w with
  | uR k=>change (Fk.strOk ("jump":Str)&&(true&&(true&&true)))=true;rw[show Fk.strOk ("jump":Str)=true by decide+kernel];rfl
  | door k=>change (Fk.strOk ("door":Str)&&(true&&(true&&true)))=true;rw[show Fk.strOk ("door":Str)=true by decide+kernel];rfl
 | bx=>exact h.elim
 | _=>change (Fk.strOk _&&true)=true;decide+kernel
theorem jO:∀ {ds:!D},(∀ d∈ds,iP d=true)->lK ds=true
 | [],_=>rfl
 | d::ds,h=>by
  change (iP d&&lK ds)=true;rw[h d aad,jO λx hx=>h x (aac _ hx)]
  rfl
theorem mi{n:Nat}:∀ {ds:!D},(∀ d∈ds,d3 d<=n)->js ds<=n
 | [],_=>aax _
 | d::ds,h=>by
  have h1:=h d aad;have h2:=mi λx hx=>h x (aac _ hx);change max (d3 d) (js ds)<=n;cbv
theorem vV{W:aW}{n:Nat}{ps:!PK}(h:Bz W n ps){b:Bool}:∀ x∈a7 b ps,∀ r∈x.2,JN W (if b=true then x.1 else r.1) (if b=true then r.1 else x.1) r.2:=λx hx r hr=>by
 let(p,hp,hx):=aaU.mp hx;by_cases e:p.asked=b
 .rw[if_pos e] at hx;rw[<- e];exact yG h hp hx hr
 .rw[if_neg e] at hx;cases hx
theorem AK{W:aW}{n:Nat}{ps:!PK}(h:Bz W n ps){b:Bool}:∀ x∈a7 b ps,Fk.strOk x.1=true/\∀ r∈x.2,Fk.strOk r.1=true:=λx hx=>by
 show#[?_,λr hr=>?_]
 .let(p,hp,hx):=aaU.mp hx;by_cases e:p.asked=b
  .rw[if_pos e] at hx;have hz:=(aa4 hx).1;by_cases z:p.asked=true
   .rw[if_pos z] at hz;let(m,hm,e):=aak.mp hz;rw[<- e];exact (h.bp.mo _ (h.mem hp) m hm).1.ok
   .rw[if_neg z] at hz;let(m,hm,e):=aak.mp hz;rw[<- e];exact (h.bp.ao _ (h.mem hp) m hm).1.ok
  .rw[if_neg e] at hx;cases hx
 .let((kd,hk,mk,hm,ak,ha,e1,e2,_),_,_):=vV h x hx r hr;have h1:=(h.bp.mo kd hk mk hm).1.ok;have h2:=(h.bp.ao kd hk ak ha).1.ok;rw[e1] at h1;rw[e2] at h2;cases b with
  | true=>exact h2
  | false=>exact h1
theorem LD{W:aW}{n:Nat}{ps:!PK}(h:Bz W n ps):∀ x∈ow ps,Fk.strOk x.1=true:=λx hx=>by
 let(p,hp,hx):=aaU.mp hx;let(m,hm,rfl):=aak.mp hx;exact (h.bp.mo _ (h.mem hp) m hm).1.ok
theorem Ew{W:aW}{ps:!PK}(lk:Lk W ps){g:Str}{t:Tm}(ht:Ty W [] g t)(hf:t.fl=true):∀ l∈sD W ps t,kR (sD W ps t).length (ow ps) (BM ps) (F9 ps) l:=by
 let((n,psk),_):=id lk;have l1:=fH (W:=W) (c:=cj W ps) (b:=true) (a7 true ps) (qY W ps t);have l2:=fH (W:=W) (c:=cj W ps) (b:=false) (a7 false ps) (lT W ps t);show vi lk (vV psk) (vi lk (vV psk) (λl hl=>?_) (show (qY W ps t).length<=(sD W ps t).length from l1)) (aah _);have l3:(lT W ps t).length=(cd (cj W ps) [] 0 t).length+1:=by unfold lT;rw[List.length_append];rfl
 have l4:(lT W ps t).length<=(sD W ps t).length:=aap l2 l1;rcases aaw.mp hl with hl | hl
 .exact Ft lk.bp (λkd hk k hm=>lk.bz hk hm) (λkd hk a ha=>lk.way hk ha) _ t (aah _) [] 0 #[[],g,U,#[abc,λ_ h=>(nomatch h)],ht,hf] (by cbv) l hl
 .rw[aag.mp hl];exact True.intro
theorem K8(l:Ln):d3 (Cf l)<=1:=by
 cases l with
 | way w n=>cases w<;>exact oC (lG jV (lG (by rw[p7];exact aax _) (lG (by rw[p7];exact aax _) wq)))
 | bx=>exact aax _
 | mk b c n=>exact oC (lG jV (lG jV (lG jV (lG (by rw[p7];exact aax _) wq))))
 | op s=>exact oC (lG jV (lG jV wq))
 | keep=>exact oC (lG jV wq)
 | drop=>exact oC (lG jV wq)
 | back=>exact oC (lG jV wq)
 | fin=>exact oC (lG jV wq)
 | _=>exact oC (lG jV (lG (by rw[p7];exact aax _) wq))
section
variable{P:Fa}{w:FB}{K:Frag}{mg:Str->Option AT}{base:Db}
theorem EU{l:!D}{lo hi:Option Int}:(∀ x∈cutD l lo hi,x∈l)/\(cutD l lo hi).length<=l.length:=by
 unfold cutD;show#[λx hx=>abN (aaZ hx),?_];rw[aa8,abl];cbv
theorem YF{a b c:Int}{r:Int}(r0:0<=r)(r1:r < 3){P:Int->Prop}(ha:P a)(hb:P b)(hc:P c):∃ rm:Int,iD [D.int a,D.int b,D.int c] r=some (.int rm)/\P rm:=by
 have:r=0\/r=1\/r=2:=by cbv
 rcases this with rfl | rfl | rfl
 .exact#[a,U,ha]
 .exact#[b,U,hb]
 .exact#[c,U,hc]
theorem FF{W:aW}:mX W []:=#[by decide,abc,λ_ h=>(nomatch h)]
inductive Ko(d:AC):ace
 | mk {R:D->Prop} (q:∀ (W:aW) (ps:!PK) (g:Str) (t:Tm),Lk W ps->lP W g->Ty W [] g t->t.fl=true->t.size<=400->R (.tup [.tup (ps.map gj),toD t])):Ko d [.bJ d] R
theorem P4{d l:AC}(eR:C4 P w K mg base aP bD 1 (cR K (bg d l) (jj d)))(Zs:C4 P w K mg base aP eK 10 (cR K (bg d l) (Ko d)))(GWd:C4 P w K mg base aP gQ 4 (cR K (bg d l) (Y4 d)))(ZP:C4 P w K mg base aP ff 50 (cR K (bg d l) (Zi d 11)))(LW:ac0 P w K mg base dR 1 VE)(XX:C4 P w K mg base aP ix 52 (cR K (bg d l) (YB d 16)))(Cc:C4 P w K mg base aP eZ 38 (cR K (bg d l) (Vc d 12)))(F:Own K mg jc)(T:Txt K mg):C4 P w K mg base aP jc 60 (cR K (bg d l) (Ko d)):=by
 show F.d (nos:=0) dH (λds R h=>?_) λf a8 A outer s H E M hr=>#[_,(ag (cv (aK bf cz (az hr eR (ae (vd 0) (ae aj af))) aj (aF _))
 (aq (aV (az hr Zs (ae (vd 0) af))))
 aO)
 (ag (sS 1 dH.nd (az hr GWd (ae (vd 0) (ae aj af))))
 (ag (sS 2 dH.nd (az hr ZP (ae (vd 0) (ae (vd 1) (ae (jv (DN.de (aM (ae aj (ae aj (ae aj af))))) (az hr eR (ae (vd 0) (ae aj af)))) af)))))
 (ag (sS 3 dH.nd (DN.de (fD dD dw (DN.de (nC ["_law_one"] [] (aZ (bE hr LW (ae (vd 1) af))) (λ_ _ _ _=>(gM 0 ["_law_one"])) (λ_ _ _ _=>bY)
 (λ_ _ _ _=>(bO (vd 0) aj)))) (DN.de (aM (ae av af))))))
 (ag (sS 4 dH.nd (az hr eR (ae (vd 0) (ae (dY T.len (ae (vd 3) af)) af))))
 (ag (sF (aZ (DN.de (fD dD dw (DN.de (cW (vd 3) (bC (vd 4)) cU)) (DN.de (cW (vd 3) cU (bC (vd 4))))))) (gN 5 dH.nd)
 (ag (sS 6 dH.nd (az hr XX (ae (vd 0) (ae (vd 1) (ae (DN.de (aM af)) (ae (vd 5) (ae (jv (DN.de (aM (ae aj (ae aj (ae aj af))))) (az hr eR (ae (vd 0) (ae aj af)))) af)))))))
 (aq (cv (DW.dt (vA (aK Am C5 (vd 6) mW (aF _)) (pZ (aK sG yA (az hr eR (ae (vd 0) (ae aj af))) aj (aF _)))))
 (aq (aV (aw (ae (vd 2) (ae (vd 6) af)))))
 aO))))
 (aq (aV (aw (ae (vd 2) (ae (az hr Cc (ae (vd 0) (ae (vd 1) (ae (DN.de (aM af)) (ae (jv (vd 3) (vd 4)) (ae aj af)))))) af))))))))))),λds R h=>?_]
 .cases h
  rfl
 .obtain @⟨R,q⟩:=h;have hsz:=aH;right;show#[#[by decide,by decide],λr r0 r1=>?_];right;by_cases hr6:r=0
  .subst hr6;show n5 (decide_eq_true U) ?_;exact#[_,U,Ko.mk λW ps g t h1 h2 h3 h4 h5=>q W ps g t h1 h2 h3 h4 h5]
  show kx (decide_eq_false λz=>hr6 (by injection z)) ?_;right;show#[#[by decide,by decide],λws ks p8 hwn hwm wg=>?_];have bp:=wg.bp false p8 hwn hwm;generalize pj ws ks false=W at bp;right;show#[#[by decide,by decide],λr r0 r1=>?_];let(rm,erm,rm0,rm1):=YF (a:=3) (b:=6) (c:=12) (P:=λx=>0<=x/\x<=12) r0 r1 () () ();right;show#[erm,?_];show#[W,rm,U,#[bp,rm0,by change rm<=12;cbv,by cbv],λps hps has=>?_];have lk:Lk W ps:=#[#[_,hps],has];right;show#[bp,?_];right;show aQ sy (λkd:Kd=>D.str kd.name) _ (λkd hkd k' hk=>?_) ?_
  .right;exact hk _ U
  rw[aaF];have htl:(things W).length<=5:=aap (aa5 _ _) bp.kl;have iZ:∀ x∈(things W).map (λkd:Kd=>D.str kd.name)++[D.str "number"],∃ k0,x=.str k0/\lP W k0:=λx hx=>by
   rcases aaw.mp hx with hx | hx
   .let(kd,hkd,rfl):=aak.mp hx;let(h1,h2):=aa3.mp hkd;exact#[kd.name,U,.inr #[kd,h1,(λz=>by rw[z] at h2;cases h2),U]]
   .rw[aag.mp hx];exact#["number",U,.inl U]
  have hlen:((things W).map (λkd:Kd=>D.str kd.name)++[D.str "number"]).length<=6:=by rw[aab,aaa];change _+1<=6;cbv
  have hpos:0 < ((things W).map (λkd:Kd=>D.str kd.name)++[D.str "number"]).length:=by rw[aab];exact Nat.succ_pos _
  show#[_,_,U,U,by rw[aaa];change _+1<=_;cbv,?_];generalize (things W).map (λkd:Kd=>D.str kd.name)++[D.str "number"]=kl at iZ hlen hpos;right;show#[#[by cbv,by cbv],λz z0 z1=>?_];have hc1:=EU (l:=kl) (lo:=some z) (hi:=none);have hc2:=EU (l:=kl) (lo:=none) (hi:=some z);have hszT:∀ {n r:Nat} {t:Tm},t.rq n r->r<=17->t.fl=true/\t.size<=400:=λh hr=>#[h.2.2,aap (aap h.2.1 (vn hr (aah _))) ()];right;show#[by cbv,_,.inl U,?_];show cV (λxs s=>∃ x5 x6:Sl,(x5.pl=true/\x6.pl=true)/\(∀ x∈xs,∃ k0,x=.str k0/\lP W k0)/\s=#[[.dat (.bJ d),.dat (pU W),.dat (.tup (ps.map gj)),.dat (.lst kl),.dat (.int z),x5,x6],[]]) ?_ ?_ _ _ #[.no,.no,#[U,U],λx hx=>?_,U]
  .rintro s ⟨x5,x6,_,_,rfl⟩;obtain⟨y,hy,hyk⟩:∃ y,iD kl z=some y/\y∈kl:=by
    unfold iD yd;rw[if_pos z0,if_pos z1];exact#[kl[z.toNat]'(by cbv),aaq (by cbv),abM _]
   let(k0,rfl,hk0):=iZ y hyk;show#[_,U,_,U,_,U,_,U,_,U,_,_,_,U,U,hy,?_];show#[W,[],k0,12,U,#[bp,FF,hk0,by decide,by decide,by decide],λt ht hq=>?_];have hh:=hszT hq ();exact q W ps k0 t lk hk0 ht hh.1 hh.2
  .rintro x xs s E2 ⟨x5,x6,_,hx,rfl⟩ hN hE;let(k0,rfl,hk0):=hx x aad;right;show#[#[by decide,by decide],λr r0 r1=>?_];let(rm,erm,rm0,rm1):=YF (a:=4) (b:=12) (c:=17) (P:=λx=>2<=x/\x<=17) r0 r1 () () ();right;show#[erm,?_];show#[W,[],k0,rm,U,#[bp,FF,hk0,by decide,rm0,rm1,rm1],?_,λt ht hq=>?_]
   .right;show hN _ #[.dat (.str k0),.dat .bx,#[U,U],λx h=>hx x (aac _ h),U]
   .have hh:=hszT hq (by cbv);right;have hnn:vh (toD t)=false:=by let(f,ts):=t;cases f<;>rfl
    show n5 (by rw[hnn];rfl) ?_;right;show#[#[by decide,by decide],λr r0 r1=>?_];right;by_cases h0:(0:Int) < r
    .refine n5 (decide_eq_true h0) ?_;exact#[_,U,_,U,hE _ (q W ps k0 t lk hk0 ht hh.1 hh.2)]
    .refine kx (decide_eq_false h0) ?_;exact hN _ #[.dat (.str k0),.dat (toD t),#[U,U],λx h=>hx x (aac _ h),U]
  .rcases aaw.mp hx with hx | hx
   .exact iZ x (hc1.1 x hx)
   .exact iZ x (hc2.1 x hx)
end
theorem IH{u:Str}:∀ {l:!Str},l.Nodup->l.length<=(l.filter λx=>decide (x≠u)).length+1
 | [],_=>aax _
 | x::l,h=>by
  rw[aaS] at h;by_cases e:x=u
  .rw[List.filter_cons_of_neg (by simp[e])];have:l.filter (λx=>decide (x≠u))=l:=List.filter_eq_self.mpr λy hy=>decide_eq_true λz=>h.1 (by rw[e,<- z];exact hy);rw[this,aam];exact aah _
  .rw[List.filter_cons_of_pos (by simp[e])];have:=IH (u:=u) h.2;simp only[List.length_cons];cbv
theorem fresh:∀ (us:!Str) {l:!Str},l.Nodup->∃ r:!Str,r.Nodup/\(∀ x∈r,x∈l/\x∉us)/\l.length<=r.length+us.length
 | [],l,h=>#[l,h,λx hx=>#[hx,λz=>(nomatch z)],aah _]
 | u::us,l,h=>by
  let(r,h1,h2,h3):=fresh us (l:=l.filter λx=>decide (x≠u)) (h.filter _);show#[r,h1,λx hx=>?_,?_]
  .let(z1,z2):=h2 x hx;let(z3,z4):=aa3.mp z1;show#[z3,λz=>?_];rcases aaj.mp z with z | z
   .exact of_decide_eq_true z4 z
   .exact z2 z
  .have:=IH (u:=u) h;rw[aam];cbv
def yt:!Str:=["za","zb","zc","zd","ze","zf","zg","zh","zi","zj","zk","zl","zm","zn","zo","zp","zq","zr","zs","zt","zu"]
theorem Ub:yt.Nodup:=by decide+kernel
theorem Pb:∀ x∈yt,Nm x:=by decide+kernel
def dJ(b:Bool)(kk lf bd kn f n w6 w7:Str):Kd:=#[b,kk,[#[lf,[]],#[bd,[(w6,kk)]],#[kn,[(w6,kk),(w7,kk)]]],[#[f,[(n,"number")],kk]]]
theorem pick{l:!Str}(h:l.Nodup):∀ {is:!Nat},is.Nodup->(∀ i∈is,i < l.length)->(is.map λi=>l.getD i "").Nodup
 | [],_,_=>abc
 | i::is,h1,h2=>by
  rw[aaS] at h1;show aaS.mpr #[λz=>?_,pick h h1.2 λj hj=>h2 j (aac _ hj)];let(j,hj,e):=aak.mp z;have hi:=h2 i aad;have hj':=h2 j (aac _ hj);have e:l[j]=l[i]:=by simpa [List.getD,hi,hj'] using e
  exact h1.1 ((abL h).mp e▸hj)
theorem wDb{b:Bool}{kk lf bd kn f n w6 w7 w8 w9 sr sC:Str}(hn:([kk,lf,bd,kn,f,n,w6,w7,w8,w9,sr,sC]:!Str).Nodup)(hm:∀ x∈([kk,lf,bd,kn,f,n,w6,w7,w8,w9,sr,sC]:!Str),Nm x):∃ W:aW,W.kinds=[dJ b kk lf bd kn f n w6 w7]/\gf W/\W.vars[0]?=some w8:=by
 let(r,r1,r2,r3):=fresh [w6,w7,w9,n,sr,sC,w8] Ub;have hr:(r.take 14).length=14:=by
  have r3:21<=r.length+7:=r3;rw[aa8];cbv
 have r1:(r.take 14).Nodup:=r1.sublist (aaW _ _);have r2:∀ x∈r.take 14,x∈yt/\x∉([w6,w7,w9,n,sr,sC,w8]:!Str):=λx hx=>r2 x (aaZ hx);generalize r.take 14=vs at r1 r2 hr;have h12:∀ i∈([6,7,9,5,10,11,8]:!Nat),i < 12:=by decide
 have g:∀ {x:Str} (i:Nat),([kk,lf,bd,kn,f,n,w6,w7,w8,w9,sr,sC]:!Str)[i]?=some x->Nm x:=λi e=>hm _ (aaK e);show#[#[[dJ b kk lf bd kn f n w6 w7],w8::vs,[w6,w7,w9,n,sr,sC],false,[]],U,?_,U];have hkk:lP #[[dJ b kk lf bd kn f n w6 w7],w8::vs,[w6,w7,w9,n,sr,sC],false,[]] kk:=.inr #[_,aag.mpr U,abC _ _,U];show#[show 1<=5 by decide,aaS.mpr #[List.not_mem_nil,abc],λk hk=>?_,pick hn (is:=[1,2,3]) () (show ∀ i∈([1,2,3]:!Nat),i < 12 by decide),aaS.mpr #[List.not_mem_nil,abc],λk hk m hm'=>?_,λk hk m hm'=>?_,λk hk m r' e p hp=>?_,U,?_,?_,λx hx=>?_]
 .cases aag.mp hk;exact#[g 0 U,(show 3<=5 by decide),(show 1<=5 by decide)]
 .cases aag.mp hk;rcases aaj.mp hm' with rfl | hm'
  .exact#[g 1 U,(show 0<=3 by decide),U,λ_ z=>(nomatch z)]
  rcases aaj.mp hm' with rfl | hm'
  .exact#[g 2 U,(show 1<=3 by decide),U,λp hp=>by cases aag.mp hp;exact hkk]
  cases aag.mp hm';show#[g 3 U,(show 2<=3 by decide),U,λp hp=>?_];rcases aaj.mp hp with rfl | hp
  .exact hkk
  .cases aag.mp hp;exact hkk
 .cases aag.mp hk;cases aag.mp hm';exact#[g 4 U,#[(show 1<=3 by decide),U,λp hp=>by cases aag.mp hp;exact .inl U],hkk]
 .cases aag.mp hk;injection e with e1 e2;subst e1;cases hp
 .show vs.length+1=15;cbv
 .show ([w6,w7,w9,n,sr,sC,w8]++vs).Nodup;exact aaR.mpr #[pick hn (is:=[6,7,9,5,10,11,8]) () h12,r1,λx hx y hy e=>(r2 y hy).2 (e▸hx)]
 .have hx:x∈[w6,w7,w9,n,sr,sC,w8]++vs:=hx;rcases aaw.mp hx with hx | hx
  .have hx:x∈([6,7,9,5,10,11,8]:!Nat).map λi=>([kk,lf,bd,kn,f,n,w6,w7,w8,w9,sr,sC]:!Str).getD i "":=hx;let(i,hi,rfl):=aak.mp hx;have:i < 12:=h12 i hi;show hm _ ?_;rw[abP,aaq (show i < ([kk,lf,bd,kn,f,n,w6,w7,w8,w9,sr,sC]:!Str).length from this)];exact abM _
  .exact Pb _ (r2 _ hx).1
def fM(lf f n w8:Str)(m:eU)(gr:Tm):Tm:=.node .nq [.node (.nm n) [],.node (.mk lf) [],.node (.lt w8) [.node (.mk m.name) (m.fs.map λp=>.node (.nm p.1) []),.node (.ask f) [gr,.node (.op "-") [.node (.nm n) [],.node (.num 1) []]]]]
theorem xB{W:aW}{sc:!(Str×Str)}:∀ {fs:!(Str×Str)},(∀ p∈fs,p∈sc)->ek W sc (fs.map λp=>([],p.2)) (fs.map λp=>.node (.nm p.1) [])
 | [],_=>ek.nil
 | p::fs,h=>ek.fj (Ty.mk (.nm (h p aad)) ek.nil) (xB λq hq=>h q (aac _ hq))
section
variable{W:aW}{b:Bool}{kk lf bd kn f n w6 w7 w8:Str}{sc:!(Str×Str)}
theorem zU(hk:W.kinds=[dJ b kk lf bd kn f n w6 w7]):Ty W sc kk (.node (.mk lf) []):=by
 have h:=so.mk (sc:=sc) (W:=W) (kd:=dJ b kk lf bd kn f n w6 w7) (m:=#[lf,[]]) (by rw[hk];exact aag.mpr U) aad;exact Ty.mk h ek.nil
theorem LM(hk:W.kinds=[dJ b kk lf bd kn f n w6 w7]){t:Tm}(ht:Ty W sc kk t):Ty W sc kk (.node (.mk bd) [t]):=by
 have h:=so.mk (sc:=sc) (W:=W) (kd:=dJ b kk lf bd kn f n w6 w7) (m:=#[bd,[(w6,kk)]]) (by rw[hk];exact List.mem_singleton.mpr U) (by simp[dJ]);exact Ty.mk h (ek.fj ht ek.nil)
theorem Hs(hk:W.kinds=[dJ b kk lf bd kn f n w6 w7]){t u:Tm}(ht:Ty W sc kk t)(hu:Ty W sc kk u):Ty W sc kk (.node (.mk kn) [t,u]):=by
 have h:=so.mk (sc:=sc) (W:=W) (kd:=dJ b kk lf bd kn f n w6 w7) (m:=#[kn,[(w6,kk),(w7,kk)]]) (by rw[hk];exact List.mem_singleton.mpr U) (by simp[dJ]);exact Ty.mk h (ek.fj ht (ek.fj hu ek.nil))
theorem CV(hk:W.kinds=[dJ b kk lf bd kn f n w6 w7]){t u:Tm}(ht:Ty W sc kk t)(hu:Ty W sc "number" u):Ty W sc kk (.node (.ask f) [t,u]):=by
 have h:=so.ask (sc:=sc) (W:=W) (kd:=dJ b kk lf bd kn f n w6 w7) (a:=#[f,[(n,"number")],kk]) (by rw[hk];exact aag.mpr U) (abC _ _) aad;exact Ty.mk h (ek.fj ht (ek.fj hu ek.nil))
theorem ty_cell(hk:W.kinds=[dJ b kk lf bd kn f n w6 w7])(hv:W.vars[0]?=some w8)(hn:([kk,lf,bd,kn,f,n,w6,w7,w8]:!Str).Nodup){m:eU}(hm:m∈(dJ b kk lf bd kn f n w6 w7).bz){gr:Tm}(hg:Ty W ((m.fs++[(n,("number":Str))])++[(w8,kk)]) kk gr):Ty W (m.fs++[(n,("number":Str))]) kk (fM lf f n w8 m gr):=by
 have hkk:lP W kk:=.inr #[dJ b kk lf bd kn f n w6 w7,by rw[hk];exact aag.mpr U,abC _ _,U];have hnn:(n,("number":Str))∈m.fs++[(n,("number":Str))]:=aaB _ (aag.mpr U);have hfs:∀ p∈m.fs,p.1=w6\/p.1=w7:=by
  intro p hp;simp only[dJ,List.mem_cons,List.not_mem_nil,or_false] at hm;rcases hm with rfl | rfl | rfl
  .cases hp
  .cases aag.mp hp;exact .inl U
  .rcases aaj.mp hp with rfl | hp
   .exact .inl U
   .cases aag.mp hp;exact .inr U
 simp only[List.nodup_cons,List.mem_cons,List.not_mem_nil,not_or,or_false] at hn;let(_,_,_,_,_,(n1,n2,n3),(m1,m2),l1,_):=hn;have hb:xY W (m.fs++[(n,("number":Str))]) [w8]:=by
  show#[by simp,λx hx z=>?_,λx hx=>.inr #[0,by rw[List.length_append];simp,by rw[List.mem_singleton.mp hx];exact hv]];rw[aag.mp hx,aai] at z;rcases aaw.mp z with z | z
  .let(p,hp,e):=aak.mp z;rcases hfs p hp with e' | e'
   .exact m2 (by rw[<- e',e])
   .exact l1 (by rw[<- e',e])
  .exact n3 (aag.mp z).symm
 have hag:Ty W (m.fs++[(n,("number":Str))]) kk (.node (.mk m.name) (m.fs.map λp=>.node (.nm p.1) [])):=by
  have h:=so.mk (sc:=m.fs++[(n,("number":Str))]) (W:=W) (kd:=dJ b kk lf bd kn f n w6 w7) (m:=m) (by rw[hk];exact aag.mpr U) hm;exact Ty.mk h (xB λp hp=>aaH _ hp)
 have JQ:(n,("number":Str))∈(m.fs++[(n,("number":Str))])++[(w8,kk)]:=aaH _ hnn;have hop:Ty W ((m.fs++[(n,("number":Str))])++[(w8,kk)]) "number" (.node (.op "-") [.node (.nm n) [],.node (.num 1) []]):=Ty.mk (.op (by simp)) (ek.fj (Ty.mk (.nm JQ) ek.nil) (ek.fj (Ty.mk (.num () ()) ek.nil) ek.nil));exact Ty.mk .nq (ek.fj (Ty.mk (.nm hnn) ek.nil) (ek.fj (zU hk) (ek.fj (Ty.mk (.lt hb hkk) (ek.fj hag (ek.cons (CV hk hg hop) ek.nil))) ek.nil)))
end
theorem wN:∀ {ks:!Tm} {k:Tm},k∈ks->k.dep<=wz ks
 | t::r,k,h=>by
  change _<=max t.dep (wz r);rcases aaj.mp h with rfl | h
  .cbv
  .have:=wN h;cbv
section
variable{W:aW}{b:Bool}{kk lf bd kn f n w6 w7 w8:Str}{gr:Tm}
def IZ(b:Bool)(kk lf bd kn f n w6 w7 w8:Str)(gr:Tm):!(Str×Tm):=(dJ b kk lf bd kn f n w6 w7).bz.map λm=>(m.name,fM lf f n w8 m gr)
def Km(b:Bool)(kk lf bd kn f n w6 w7 w8:Str)(gr:Tm):PK:=#[b,dJ b kk lf bd kn f n w6 w7,if b=true then (IZ b kk lf bd kn f n w6 w7 w8 gr).map λr=>[(f,r.2)] else [IZ b kk lf bd kn f n w6 w7 w8 gr]]
theorem pS:ents (Km b kk lf bd kn f n w6 w7 w8 gr)=(dJ b kk lf bd kn f n w6 w7).bz.map λm=>((m.name,f),fM lf f n w8 m gr):=by
 cases b<;>rfl
theorem SH{m:eU}(h:gr.fl=true):(fM lf f n w8 m gr).fl=true:=by
 have hf:yT (m.fs.map λp=>Tm.node (.nm p.1) [])=true:=vE λt ht=>by
  let(p,_,rfl):=aak.mp ht
  rfl
 change (true&&(true&&(true&&((true&&((true&&yT (m.fs.map λp=>Tm.node (.nm p.1) []))&&((true&&(gr.fl&&(true&&true)))&&true)))&&true))))=true;rw[hf,h]
 rfl
theorem T2{m:eU}(hm:m∈(dJ b kk lf bd kn f n w6 w7).bz)(h:gr.size<=40):(fM lf f n w8 m gr).size<=144:=by
 simp only[dJ,List.mem_cons,List.not_mem_nil,or_false] at hm;rcases hm with rfl | rfl | rfl
 .show 1+(1+((0+1+((gr.size+((1+(1+0))+1+0))+1+0))+1+0))+1<=144;cbv
 .show 1+(1+(((1+0)+1+((gr.size+((1+(1+0))+1+0))+1+0))+1+0))+1<=144;cbv
 .show 1+(1+(((1+(1+0))+1+((gr.size+((1+(1+0))+1+0))+1+0))+1+0))+1<=144;cbv
theorem Qh(w:gf W)(hk:W.kinds=[dJ b kk lf bd kn f n w6 w7])(hv:W.vars[0]?=some w8)(hn:([kk,lf,bd,kn,f,n,w6,w7,w8]:!Str).Nodup)(hg:∀ sc:!(Str×Str),(w8,kk)∈sc->Ty W sc kk gr)(hf:gr.fl=true)(hs:gr.size<=40):Lk W [Km b kk lf bd kn f n w6 w7 w8 gr]:=by
 have hkd:dJ b kk lf bd kn f n w6 w7∈W.kinds:=by rw[hk];exact aag.mpr U
 have ht:∀ m∈(dJ b kk lf bd kn f n w6 w7).bz,Ty W (m.fs++[(n,("number":Str))]) kk (fM lf f n w8 m gr):=λm hm=>ty_cell hk hv hn hm (hg _ (aaB _ (aag.mpr U)));show#[#[wz ((dJ b kk lf bd kn f n w6 w7).bz.map λm=>fM lf f n w8 m gr),w,by rw[hk];rfl,λp hp=>?_],λp hp=>by rw[aag.mp hp];rfl];rw[aag.mp hp];show#[by cases b<;>rfl,λe he=>?_,?_,λe he=>?_,?_]
 .rw[pS] at he;let(m,hm,rfl):=aak.mp he;have Aj:=(mD w hkd hm (a:=#[f,[(n,"number")],kk]) aad);let(h1,h2):=Ty.good w _ _ _ (λp hp=>(w.nm _ ((Fs Aj).2 p hp)).ok) (w.kw _ hkd).1.ok (ht m hm);exact#[h1,h2,wN (ks:=(dJ b kk lf bd kn f n w6 w7).bz.map λm=>fM lf f n w8 m gr) (aav hm),T2 hm hs,SH hf]
 .rw[pS,aan];simp only[List.nodup_cons,List.mem_cons,List.not_mem_nil,not_or,or_false] at hn;let(_,(l1,l2,_),(l3,_),_):=hn;change ([(lf,f),(bd,f),(kn,f)]:!(Str×Str)).Nodup;simp[l1,l2,l3]
 .rw[pS] at he;let(m,hm,rfl):=aak.mp he;exact#[m,hm,#[f,[(n,"number")],kk],aad,U,ht m hm]
 .rw[pS,aaa];change 3<=1000;decide
end
section
variable{b:Bool}{kk lf bd kn f n w6 w7 w8:Str}{C:!(Str×Str)->Prop}{t u:Tm}{m k:Nat}
def oI(kk lf bd kn f n w6 w7:Str)(C:!(Str×Str)->Prop)(t:Tm)(m:Nat):Prop:=(∀ (b:Bool) (W:aW),W.kinds=[dJ b kk lf bd kn f n w6 w7]->∀ sc,C sc->Ty W sc kk t)/\t.fl=true/\t.size<=m
theorem oI.stop:oI kk lf bd kn f n w6 w7 C (.node (.mk lf) []) 1:=#[λb W hk sc _=>zU hk,U,aah 1]
theorem oI.own:oI kk lf bd kn f n w6 w7 (λsc=>(w8,kk)∈sc) (.node (.nm w8) []) 1:=#[λb W hk sc h=>Ty.mk (.nm h) ek.nil,U,aah 1]
theorem oI.YZ(h:oI kk lf bd kn f n w6 w7 C t m):oI kk lf bd kn f n w6 w7 C (.node (.mk bd) [t]) (m+1):=#[λb W hk sc c=>LM hk (h.1 b W hk sc c),by change (true&&(t.fl&&true))=true;rw[h.2.1];rfl,by change t.size+0+1<=m+1;have:=h.2.2;cbv]
theorem oI.J3(h:oI kk lf bd kn f n w6 w7 C t m)(h2:oI kk lf bd kn f n w6 w7 C u k):oI kk lf bd kn f n w6 w7 C (.node (.mk kn) [t,u]) (m+k+1):=#[λb W hk sc c=>Hs hk (h.1 b W hk sc c) (h2.1 b W hk sc c),by change (true&&(t.fl&&(u.fl&&true)))=true;rw[h.2.1,h2.2.1];rfl,by change t.size+(u.size+0)+1<=m+k+1;have:=h.2.2;have:=h2.2.2;cbv]
theorem oI.le(h:oI kk lf bd kn f n w6 w7 C t m)(hm:m<=k):oI kk lf bd kn f n w6 w7 C t k:=#[h.1,h.2.1,aap h.2.2 hm]
end
section
variable{P:Fa}{w:FB}{K:Frag}{mg:Str->Option AT}{base:Db}
def NM(d:AC)(kk lf bd kn f n w6 w7 w8 w9 sr sC:Str)(r:Int)(l:!Sl):!Sl:=.dat (.bJ d)::.dat (.lst (([kk,lf,bd,kn,f,n,w6,w7,w8,w9,sr,sC]:!Str).map .str))::.dat (.str kk)::.dat (.str lf)::.dat (.str bd)::.dat (.str kn)::.dat (.str f)::.dat (.str n)::.dat (.tup ((dJ false kk lf bd kn f n w6 w7).bz.map eS))::.dat (.int r)::.dat (toD (.node (.mk lf) []))::.dat (toD (.node (.nm w8) []))::l
theorem KD{ws:!Str}(h:ws.length=12):∃ a b c d e f g h i j k l:Str,ws=[a,b,c,d,e,f,g,h,i,j,k,l]:=by
 match ws,h with
 | [a,b,c,d,e,f,g,h,i,j,k,l],_=>exact#[a,b,c,d,e,f,g,h,i,j,k,l,U]
theorem Se{d l:AC}(eR:C4 P w K mg base aP bD 1 (cR K (bg d l) (jj d)))(Xj:C4 P w K mg base aP fw 2 (cR K (bg d l) (zp d)))(F:Own K mg eK)(T:Txt K mg):C4 P w K mg base aP eK 10 (cR K (bg d l) (Ko d)):=by
 show F.d (nos:=1) ay (λds R h=>?_) λf a8 A outer s H E M hr=>#[_,(ag (sS 1 ay.nd (az hr Xj (ae (vd 0) (ae aj af))))
 (ag (fP (n:=1000) (DN.de (cW (vd 1) cU (bC aj))) (MZ U (au (gN 2 ay.nd) (au (gN 3 ay.nd) (au (gN 4 ay.nd) (au (gN 5 ay.nd) (au (hJ (dS (i:=6) ay.nd U (Or.inr U)) ()) (au (gN 7 ay.nd) bj))))))))
 (ag (sS 8 ay.nd (aw (ae (aw (ae (vd 3) (ae (aw af) af))) (ae (aw (ae (vd 4) (ae (aw (ae (aw (ae (jv (vd 1) aj) (ae (vd 2) af))) af)) af))) (ae (aw (ae (vd 5) (ae (aw (ae (aw (ae (jv (vd 1) aj) (ae (vd 2) af))) (ae (aw (ae (jv (vd 1) aj) (ae (vd 2) af))) af))) af))) af)))))
 (ag (sS 9 ay.nd (az hr eR (ae (vd 0) (ae aj af))))
 (ag (sS 10 ay.nd (aw (ae av (ae (vd 3) (ae (aw af) af)))))
 (ag (sS 11 ay.nd (aw (ae av (ae (jv (vd 1) aj) af))))
 (ag (sS 12 ay.nd (aw (ae av (ae (vd 5) (ae (aw (ae (vd 11) (ae (vd 11) af))) af)))))
 (ag (cv (aK bf cz (vd 9) aj (aF _))
 (ag (sS 12 ay.nd (vd 11))
 (aq (sF (dI U T.range (ae (c8 dF jG aj (az hr eR (ae (vd 0) (ae aj af)))) af)) (gN 13 ay.nd)
 (aq (sS 12 ay.nd (aw (ae av (ae (vd 4) (ae (aw (ae (vd 12) af)) af)))))))))
 aO)
 (ag (cv (aK bf cz (vd 9) aj (aF _))
 (ag (sS 14 ay.nd (vd 10))
 (ag (sF (dI U T.range (ae (c8 dF jG aj (az hr eR (ae (vd 0) (ae aj af)))) af)) (gN 13 ay.nd)
 (aq (sS 14 ay.nd (aw (ae av (ae (vd 5) (ae (aw (ae (vd 10) (ae (vd 14) af))) af)))))))
 (aq (sS 12 ay.nd (aw (ae av (ae (vd 5) (ae (aw (ae (vd 11) (ae (vd 14) af))) af))))))))
 aO)
 (ag (sN 0 15 ay.nd (aM af))
 (ag (sF (aZ (vd 8)) (bo (m:=2) U (au (gN 16 ay.nd) (au (gN 17 ay.nd) bj)))
 (ag (sS 18 ay.nd (aw (ae av (ae (vd 16) (ae (i9 T.tuple (ae (DN.de (nC ["_law_one"] [] (aZ (vd 17)) (λ_ _ _ _=>(gM 0 ["_law_one"])) (λ_ _ _ _=>bY)
 (λ_ _ _ _=>(aw (ae av (ae (bO (vd 0) aj) af)))))) af)) af)))))
 (ag (sS 19 ay.nd (aw (ae av (ae (vd 12) (ae (vd 6) (ae (aw (ae (aw (ae av (ae av (ae (aw (ae av (ae (vd 7) af))) (ae (aw (ae av (ae aj af))) af))))) af)) af))))))
 (aq (B8 15 (ae (aw (ae (vd 16) (ae (aw (ae av (ae (aw (ae av (ae (vd 7) af))) (ae (vd 10) (ae (aw (ae av (ae (jv (vd 1) aj) (ae (vd 18) (ae (vd 19) af))))) af))))) af))) af))))))
 (ag (sS 20 ay.nd (vd 10))
 (ag (sF (dI U T.range (ae (az hr eR (ae (vd 0) (ae aj af))) af)) (gN 13 ay.nd)
 (aq (sS 20 ay.nd (aw (ae av (ae (vd 4) (ae (aw (ae (vd 20) af)) af)))))))
 (ag (sS 21 ay.nd (jv (DN.de (aM (ae aj (ae (c8 dF jG aj (az hr eR (ae (vd 0) (ae aj af)))) af)))) (az hr eR (ae (vd 0) (ae aj af)))))
 (ag (sS 22 ay.nd (aw (ae (aw (ae av (ae (vd 2) (ae (vd 8) (ae (aw (ae (aw (ae (vd 6) (ae (aw (ae (aw (ae (vd 7) (ae av af))) af)) (ae (vd 2) (ae (i9 T.tuple (ae (vQ (pv 15)) af)) af))))) af)) af))))) af)))
 (ag (cv (aK bf cz (az hr eR (ae (vd 0) (ae aj af))) aj (aF _))
 (ag (sS 23 ay.nd (i9 T.tuple (ae (DN.de (nC ["_law_c","_law_fields","_law_row"] [6] (Du U T.zip (ae (vd 8) (ae (vQ (pv 15)) af))) (λ_ _ _ _=>(bo (m:=2) U (au (bo (m:=2) U (au (gM 0 ["_law_c","_law_fields","_law_row","_law_f"]) (au (gM 1 ["_law_c","_law_fields","_law_row","_law_f"]) bj))) (au (gM 2 ["_law_c","_law_fields","_law_row","_law_f"]) bj)))) (λ_ _ _ _=>bY)
 (λ_ _ _ _=>(aw (ae (vd 0) (ae (vd 1) (ae (aw (ae (aw (ae (vd 3) (ae (bO (vd 2) aj) af))) af)) af))))))) af)))
 (aq (sS 22 ay.nd (aw (ae (aw (ae av (ae (vd 2) (ae (aw (ae (aw (ae (vd 6) (ae (aw (ae (aw (ae (vd 7) (ae av af))) af)) (ae (vd 2) af)))) af)) (ae (vd 23) af))))) af)))))
 aO)
 (aq (aV (aw (ae (vd 22) (ae (aw (ae av (ae (vd 20) (ae (vd 6) (ae (aw (ae (aw (ae av (ae (vd 21) af))) af)) af))))) af))))))))))))))))))))),λds R h=>?_]
 .cases h
  rfl
 .obtain @⟨R,q⟩:=h;have hsz:=aH;right;show#[#[by decide,by decide],λws p8 hwn hwm=>?_];let(kk,lf,bd,kn,f,n,w6,w7,w8,w9,sr,sC,rfl):=KD p8;have hn9:([kk,lf,bd,kn,f,n,w6,w7,w8]:!Str).Nodup:=hwn.sublist (aaW 9 [kk,lf,bd,kn,f,n,w6,w7,w8,w9,sr,sC]);right;right;show#[#[by decide,by decide],λr r0 r1=>?_];right;refine' jn (C:=∀ s,(∃ (gr:Tm) (cS:Sl),cS.pl=true/\oI kk lf bd kn f n w6 w7 (λsc=>(w8,kk)∈sc) gr 40/\s=#[NM d kk lf bd kn f n w6 w7 w8 w9 sr sC r [.dat (toD gr),cS,.no,.no,.no,.no,.no,.no,.no,.no,.no,.no],[none]])->(?U:DS->Prop) s) ?jE λjE=>?main
  case main =>
   by_cases h1:r=1
   .refine n5 (decide_eq_true (by rw[h1])) ?_;right;show#[#[by decide,by decide],λz z0 z1=>?_];right;show#[#[by cbv,by cbv],?_];show cV (λxs s=>∃ (gr:Tm) (cS:Sl),cS.pl=true/\oI kk lf bd kn f n w6 w7 (λsc=>(w8,kk)∈sc) gr (9 - xs.length)/\xs.length<=8/\s=#[NM d kk lf bd kn f n w6 w7 w8 w9 sr sC r [.dat (toD gr),cS,.no,.no,.no,.no,.no,.no,.no,.no,.no,.no],[none]]) ?_ ?_ _ _ #[.node (.nm w8) [],.no,U,oI.own.le ?_,?_,U]
    .rintro s ⟨gr,cS,hx,hg,hl,hs⟩;exact jE s #[gr,cS,hx,hg.le (by cbv),hs]
    .rintro x xs s E2 ⟨gr,cS,hx,hg,hl,rfl⟩ hN hE;rw[aam] at hg hl;right;exact hN _ #[.node (.mk bd) [gr],.dat x,U,hg.YZ.le (by cbv),by cbv,U]
    .simp only[dh,List.length_map,List.length_range];cbv
    .simp only[dh,List.length_map,List.length_range];cbv
   .refine kx (decide_eq_false λz=>h1 (by injection z)) ?_;exact jE _ #[.node (.mk kn) [.node (.nm w8) [],.node (.nm w8) []],.no,U,(oI.own.J3 oI.own).le (),U]
  case jE =>
   rintro s ⟨gr,cS,hx13,hg,rfl⟩;right;refine' jn (C:=∀ s,(∃ (gr:Tm) (cS vk:Sl),(cS.pl=true/\vk.pl=true)/\oI kk lf bd kn f n w6 w7 (λsc=>(w8,kk)∈sc) gr 40/\s=#[NM d kk lf bd kn f n w6 w7 w8 w9 sr sC r [.dat (toD gr),cS,vk,.no,.no,.no,.no,.no,.no,.no,.no,.no],[none]])->(?U2:DS->Prop) s) ?hrest2 λhrest2=>?main2
   case main2 =>
    by_cases h2:r≠2
    .refine kx (decide_eq_false λz=>h2 (by injection z)) ?_;generalize hs:DS.mk _ _=s;exact hrest2 s #[gr,cS,.no,#[hx13,U],hg,hs.symm]
    show n5 (decide_eq_true (by rw[Classical.not_not.mp h2])) ?_;right;show#[#[by decide,by decide],λz z0 z1=>?_];right;show#[#[by cbv,by cbv],?_];show cV (λxs s=>∃ (sd:Tm) (cS:Sl),cS.pl=true/\oI kk lf bd kn f n w6 w7 (λsc=>(w8,kk)∈sc) sd (17 - 2 * xs.length)/\xs.length<=8/\s=#[NM d kk lf bd kn f n w6 w7 w8 w9 sr sC r [.dat (toD gr),cS,.dat (toD sd),.no,.no,.no,.no,.no,.no,.no,.no,.no],[none]]) ?_ ?_ _ _ #[.node (.mk lf) [],cS,hx13,oI.stop.le ?_,?_,U]
    .rintro s ⟨sd,cS,hx,hd,hl,rfl⟩;right;exact hrest2 _ #[.node (.mk kn) [.node (.nm w8) [],sd],cS,.dat (toD sd),#[hx,U],(oI.own.J3 hd).le (by cbv),U]
    .rintro x xs s E2 ⟨sd,cS,hx,hd,hl,rfl⟩ hN hE;rw[aam] at hd hl;right;exact hN _ #[.node (.mk kn) [.node (.mk lf) [],sd],.dat x,U,(oI.stop.J3 hd).le (by cbv),by cbv,U]
    .simp only[dh,List.length_map,List.length_range];cbv
    .simp only[dh,List.length_map,List.length_range];cbv
   case hrest2 =>
    clear hg hx13;clear gr cS;rintro s ⟨gr,cS,vk,⟨hx13,hx14⟩,hg,rfl⟩;show#[#[U,?_],?_]
    .show noRef 0 2 (cS::vk::.no::_)=true;rw[bu hx13,bu hx14]
     rfl
    show#[_,U,_,.inr U,?_];show cV (λxs s=>∃ (dn td:!eU) (v9 v8 Pa Ss:Sl),(v9.pl=true/\v8.pl=true/\Pa.pl=true/\Ss.pl=true)/\(dJ false kk lf bd kn f n w6 w7).bz=dn++td/\xs=td.map eS/\s=#[NM d kk lf bd kn f n w6 w7 w8 w9 sr sC r [.dat (toD gr),cS,vk,.own 0,v9,v8,Pa,Ss,.no,.no,.no,.no],[some (.lst (dn.map λm=>jU (m.name,fM lf f n w8 m gr)))]]) ?_ ?_ _ _ #[[],_,.no,.no,.no,.no,#[U,U,U,U],U,U,U]
    .rintro s ⟨dn,td,v9,v8,Pa,Ss,⟨p16,p17,p18,p19⟩,hd,hx,rfl⟩;cases td with
     | cons _ _=>cases hx
     | nil =>
      rw[aal] at hd;subst hd;right;show#[#[by decide,by decide],λz z0 z1=>?_];right;show#[#[by cbv,by cbv],?_];show cV (λxs s=>∃ (th:Tm) (cS:Sl),cS.pl=true/\oI kk lf bd kn f n w6 w7 (λ_=>True) th (9 - xs.length)/\xs.length<=8/\s=#[NM d kk lf bd kn f n w6 w7 w8 w9 sr sC r [.dat (toD gr),cS,vk,.own 0,v9,v8,Pa,Ss,.dat (toD th),.no,.no,.no],[some (.lst ((dJ false kk lf bd kn f n w6 w7).bz.map λm=>jU (m.name,fM lf f n w8 m gr)))]]) ?_ ?_ _ _ #[.node (.mk lf) [],cS,hx13,oI.stop.le ?_,?_,U]
      .rintro s ⟨th,cS,hx13,hth,hl,rfl⟩;right;show#[#[by decide,by decide],λy y0 y1=>?_];right;show#[#[by decide,by decide],λv v0 v1=>?_];obtain⟨many,em,m0,m1⟩:∃ many:Int,iD [D.int 12,D.int (1+y)] v=some (.int many)/\0<=many/\many<=12:=by
        have:v=0\/v=1:=by cbv
        rcases this with rfl | rfl
        .exact#[12,U,by decide,by decide]
        .exact#[1+y,U,by cbv,by cbv]
       right;show#[em,?_];right;show#[#[by decide,by decide],λj j0 j1=>?_];have fin:∀ b:Bool,R (.tup [.tup ([Km b kk lf bd kn f n w6 w7 w8 gr].map gj),toD (.node (.ask f) [th,.node (.num many) []])]):=λb=>by
        let(W,hk,bp,hv):=wDb (b:=b) hwn hwm;have hkk:lP W kk:=.inr #[dJ b kk lf bd kn f n w6 w7,by rw[hk];exact aag.mpr U,abC _ _,U];show q W _ kk _ (Qh bp hk hv hn9 (hg.1 b W hk) hg.2.1 hg.2.2) hkk (CV hk (hth.1 b W hk [] True.intro) (Ty.mk (.num m0 (by cbv)) ek.nil)) ?_ ?_
        .show (true&&(th.fl&&((true&&true)&&true)))=true;rw[hth.2.1]
         rfl
        .show th.size+(0+1+0)+1<=400;have:=hth.2.2;cbv
       right;by_cases hj:j=0
       .refine n5 (decide_eq_true (by rw[hj])) ?_;show#[_,U,.inl #[_,U,_,_,_,_,U,#[U,U],?_]];show aQ (λm:eU=>D.tup [eS m,jU (m.name,fM lf f n w8 m gr)]) (λm=>D.tup [.str m.name,cG m.fs,.tup [.tup [.str f,toD (fM lf f n w8 m gr)]]]) (dJ false kk lf bd kn f n w6 w7).bz (λm hm k hk=>?_) ?_
        .right;exact hk _ U
        rw[aaF];right;exact fin true
       .refine kx (decide_eq_false λz=>hj (by injection z)) ?_;right;exact fin false
      .rintro x xs s E2 ⟨th,cS,hx,hd,hl,rfl⟩ hN hE;rw[aam] at hd hl;right;exact hN _ #[.node (.mk bd) [th],.dat x,U,hd.YZ.le (by cbv),by cbv,U]
      .simp only[dh,List.length_map,List.length_range];cbv
      .simp only[dh,List.length_map,List.length_range];cbv
    .rintro x xs s E2 ⟨dn,td,v9,v8,Pa,Ss,⟨p16,p17,p18,p19⟩,hd,hx,rfl⟩ hN hE;cases td with
     | nil=>cases hx
     | cons m td =>
      injection hx with hx1 hx2;subst hx1 hx2;have hl:dn.length<=3:=by
       have:=congrArg List.length hd;rw[aab] at this;have h3:(dJ false kk lf bd kn f n w6 w7).bz.length=3:=rfl;cbv
      right;show aQ (λp:Str×Str=>D.tup [.str p.1,.str p.2]) (λp=>toD (.node (.nm p.1) [])) _ (λp hp k hk=>?_) ?_
      .right;exact hk _ U
      rw[aaF];right;have eT:toDs (m.fs.map λp=>Tm.node (.nm p.1) [])=m.fs.map λp=>toD (.node (.nm p.1) []):=by
       rw[toDs_map,aan]
       rfl
      show#[by rw[aaa];cbv,hN _ #[dn++[m],td,.dat (.str m.name),.dat (cG m.fs),.dat (toD (.node (.mk m.name) (m.fs.map λp=>Tm.node (.nm p.1) []))),.dat (toD (.node (.ask f) [gr,.node (.op "-") [.node (.nm n) [],.node (.num 1) []]])),#[U,U,U,U],by rw[hd,aaz];rfl,U,?_]];rw[<- eT,aai]
      rfl
end
def tp(x:Str×!(Str×Tm)):D:=.tup [.str x.1,.lst (x.2.map λr=>.str r.1)]
section
variable{W:aW}{n:Nat}{ps:!PK}{b:Bool}
theorem HV{l:!D}(h:∀ d∈l,∃ s,d=.str s/\Fk.strOk s=true):lK l=true/\js l<=0:=#[jO λd hd=>by
 let(s,rfl,hs):=h d hd;exact hs,mi λd hd=>by
 let(s,rfl,hs):=h d hd;exact aah _]
theorem Jg(h:Bz W n ps):iP (.lst ((a7 b ps).map tp))=true/\d3 (.lst ((a7 b ps).map tp))<=150:=by
 have hx:∀ x∈a7 b ps,iP (tp x)=true/\d3 (tp x)<=10:=λx hx=>by
  let(h1,h2):=AK h x hx;let(h3,h4):=HV (l:=x.2.map λr=>.str r.1) λd hd=>by
   let(r,hr,rfl):=aak.mp hd;exact#[_,U,h2 r hr]
  show#[?_,?_]
  .show (Fk.strOk x.1&&(lK (x.2.map λr=>.str r.1)&&true))=true;rw[h1,h3]
   rfl
  .show max 0 (max (js (x.2.map λr=>.str r.1)+1) 0)+1<=10;cbv
 show#[jO λd hd=>?_,?_]
 .let(x,hx',rfl):=aak.mp hd;exact (hx x hx').1
 .have:=mi (n:=10) (ds:=(a7 b ps).map tp) λd hd=>by
   let(x,hx',rfl):=aak.mp hd;exact (hx x hx').2
  change js _+1<=150;cbv
theorem Jc(h:Bz W n ps){c:kA}{co:!Ln}:∀ x∈fN W c b (a7 b ps) co,iP (nI x)=true/\d3 (nI x)<=10:=λx hx=>by
 have hm:=aav (f:=λx=>D.tup [.str x.1,.lst (x.2.map λp=>.str p.1)]) hx;rw[iO] at hm;let(y,hy,e):=aak.mp hm;injection e with e;injection e with e1 e;injection e1 with e1;injection e with e2 _;injection e2 with e2;let(h1,h2):=AK h y hy;have h3:∀ p∈x.2,Fk.strOk p.1=true:=λp hp=>by
  have:=aav (f:=λp:Str×Nat=>D.str p.1) hp;rw[<- e2] at this;let(r,hr,e):=aak.mp this;injection e with e;rw[<- e];exact h2 r hr
 have h4:∀ d∈x.2.map Gb,iP d=true/\d3 d<=5:=λd hd=>by
  let(p,hp,rfl):=aak.mp hd;show#[?_,show 0+1<=5 by decide];change (Fk.strOk p.1&&(true&&true))=true;rw[h3 p hp]
  rfl
 have h5:=mi (n:=5) (ds:=x.2.map Gb) λd hd=>(h4 d hd).2;show#[?_,?_]
 .show (Fk.strOk x.1&&(lK (x.2.map Gb)&&true))=true;rw[<- e1,h1,jO λd hd=>(h4 d hd).1]
  rfl
 .show max 0 (max (js (x.2.map Gb)+1) 0)+1<=10;cbv
theorem uO{l:!D}(h:∀ d∈l,iP d=true/\d3 d<=10):iP (.tup l)=true/\d3 (.tup l)<=11:=#[jO λd hd=>(h d hd).1,by
 have:=mi λd hd=>(h d hd).2;change js l+1<=11;cbv]
theorem Im(lk:Lk W ps){g:Str}{t:Tm}(ht:Ty W [] g t)(hf:t.fl=true):iP (HD W ps t)=true/\d3 (HD W ps t)<=150:=by
 let((n,psk),_):=id lk;let(a1,a2):=uO (l:=(sD W ps t).map Cf) λd hd=>by
  let(l,hl,rfl):=aak.mp hd;exact#[Lq (LD psk) (Ew lk ht hf l hl),aap (K8 l) ()]
 let(b1,b2):=uO (l:=(fN W (cj W ps) false (a7 false ps) (lT W ps t)).map nI) λd hd=>by
  let(l,hl,rfl):=aak.mp hd;exact Jc psk l hl
 let(c1,c2):=uO (l:=(fN W (cj W ps) true (a7 true ps) (qY W ps t)).map nI) λd hd=>by
  let(l,hl,rfl):=aak.mp hd;exact Jc psk l hl
 show#[?_,?_]
 .show (iP _&&(iP _&&(iP _&&true)))=true;rw[a1,b1,c1]
  rfl
 .show max (d3 _) (max (d3 _) (max (d3 _) 0))+1<=150;cbv
def Nv(ps:!PK):!((Str×!(Str×Tm))×(Nat×Nat)):=ps.flatMap λp=>if p.asked=true then [] else (p.kd.bN.zipIdx.zip p.tabs).map λz=>((z.1.1.name,z.2),(z.1.2,z.1.1.ps.length))
theorem CW:∀ {as:!d6} {tabs:!(!(Str×Tm))} {i:Nat},tabs.length=as.length->(((as.zipIdx i).zip tabs).map λz=>(z.1.1.name,z.2))=(as.map d6.name).zip tabs/\(((as.zipIdx i).zip tabs).map λz=>z.1.1.ps.length)=as.map λa=>a.ps.length
 | [],_,i,h=>#[by simp,by simp]
 | a::as,[],i,h=>by cases h
 | a::as,t::ts,i,h=>by
  let(h1,h2):=CW (as:=as) (tabs:=ts) (i:=i+1) (by simpa using h);rw[List.zipIdx_cons,List.zip_cons_cons];show#[?_,?_]
  .rw[aao,h1]
   rfl
  .rw[aao,h2]
   rfl
theorem C7:∀ {ps:!PK},(∀ p∈ps,p.tabs.length=if p.asked=true then p.kd.bz.length else p.kd.bN.length)->(Nv ps).map (·.1)=a7 false ps/\(Nv ps).map (λz=>z.2.2)=BM ps/\∀ z∈Nv ps,(z.1.1,(false,z.2))∈pI ps
 | [],_=>#[U,U,λz hz=>(nomatch hz)]
 | p::ps,h=>by
  let(h1,h2,h3):=C7 λq hq=>h q (aac _ hq);have hp:=h p aad;have e1:Nv (p::ps)=(if p.asked=true then [] else (p.kd.bN.zipIdx.zip p.tabs).map λz=>((z.1.1.name,z.2),(z.1.2,z.1.1.ps.length)))++Nv ps:=aaX;have e2:BM (p::ps)=(if p.asked=true then [] else p.kd.bN.map λa=>a.ps.length)++BM ps:=aaX;have e3:pI (p::ps)=(p.kd.bN.zipIdx.map λq=>(q.1.name,(p.asked,q.2,q.1.ps.length)))++pI ps:=aaX;rw[e1,e2,e3,kE];by_cases ha:p.asked=true
  .rw[if_pos ha,if_pos ha,if_neg (by rw[ha];decide)];exact#[h1,h2,λz hz=>aaB _ (h3 z hz)]
  .have hf:p.asked=false:=by simpa using ha
   rw[if_neg ha] at hp;let(z1,z2):=CW (i:=0) hp;rw[if_neg ha,if_neg ha,if_pos hf,aai,aai,h1,h2,aan,aan];show#[congrArg (·++_) ?_,congrArg (·++_) z2,λz hz=>?_]
   .unfold fi;rw[if_neg ha];exact z1
   .rcases aaw.mp hz with hz | hz
    .let(y,hy,rfl):=aak.mp hz;show aaH _ (aak.mpr #[y.1,(aa4 (a:=y.1) (b:=y.2) hy).1,?_]);rw[hf]
    .exact aaB _ (h3 z hz)
theorem Bi(lk:Lk W ps):∀ x∈pI ps,bA ((pI ps).map λm=>(Sum.inr m.1:Key)) ((pI ps).map λm=>D.tup [.str (bc m.2.1),.int (m.2.2.1:Nat),.int (m.2.2.2:Nat)]) (Sum.inr x.1)=some (.tup [.str (bc x.2.1),.int (x.2.2.1:Nat),.int (x.2.2.2:Nat)]):=λx hx=>by
 have han:=lk.bp.an;let((n,psk),_):=id lk;rw[<- psk.kd,<- sZ] at han;exact Iv (f:=λm:Str×(Bool×Nat×Nat)=>m.1) (h:=λm=>D.tup [.str (bc m.2.1),.int (m.2.2.1:Nat),.int (m.2.2.2:Nat)]) han x hx
theorem UE(lk:Lk W ps):((ow ps).map (·.1)).Nodup:=by
 have hmn:=lk.bp.mn;let((n,psk),_):=id lk;rw[<- psk.kd,<- tu] at hmn;exact hmn
end
section
variable{P:Fa}{w:FB}{K:Frag}{mg:Str->Option AT}{base:Db}
theorem uw:ax ["_law_deal_here","_law_many","_law_number","_law_one","_law_other"] ["_law_deal_here","_law_many"] (ai rL):=dM
theorem LZ(F:Own K mg bD)(T:Txt K mg):C4 P w K mg base aP bD 1 cY.yZ:=by
 show F.c λf fd F=>?_;show cY.Ip F uw λa8 A outer s H E hu=>?_;exact bT (xc PassesOwn.never (PW.pt (pw_and (iN bf (aX hu (pv 0) d5 (λ_ _=>rfl)) b6 (aF _)) (pw_and1 (iN sG (jL fT U T.len abK (dX (aX hu (pv 0) d5 (λ_ _=>rfl)) gB)) b6 (aF _)))))
   (kf (eh hu (pv 0) d5 (DR abk aa6 aa7 vH (aX hu (pv 0) d5 (λ_ _=>rfl))) U)))
  (bT (gm (i:=2) uw.nd U (Or.inl U) (aX hu (pv 0) d5 (λ_ _=>rfl)))
  (bT (JA (iN sG (pv 2) b6 (aF _)) (bT (eh hu (pv 0) d5 (du fq (pv 2) (pv 1)) U) (kf (nU (du hU (pv 2) (pv 1))))) uC)
  (bT (gm (i:=3) uw.nd U (Or.inl U) (du hU (du dF (du lq (aX hu (pv 0) d5 (λ_ _=>rfl)) b6) b6) b6))
  (bT (eh hu (pv 0) d5 (du hU (du dF (du lq (pv 3) b6) b6) b6) U)
  (bT (gm (i:=4) uw.nd U (Or.inl U) (du hU (du lq (aX hu (pv 0) d5 (λ_ _=>rfl)) (aX hu (pv 0) d5 (λ_ _=>rfl))) b6))
  (kf (nU (du hU (du dF (du lq (du hU (du lq (pv 3) (pv 3)) b6) b6) (pv 4)) (pv 1)))))))))
theorem qT:ax ["_law_script","_law_base","_law_some","_law_number","_law_one"] ["_law_script","_law_base"] (ai qH):=dM
theorem Y0:(["_law_one"]:!Str).Nodup:=by decide+kernel
theorem LA(F:Own K mg iE)(T:Txt K mg):C4 P w K mg base aP iE 1 (cY.yc K):=by
 show F.c λf fd F=>?_;show cY.HE F qT λa8 A outer s H E=>?_;exact bT (zW (ts:=["_law_one"]) (us:=[]) (i:=2) qT.nd U U #[U,U,U,U,U,U] rfl (vG (mR z9 (pv 0) (uK (pv 1)) (uK b6))) (λ_ _ _ _=>dS (i:=0) Y0 U (Or.inl U)) (λ_ _ _ _=>Ap)
   (λ_ _ _ _=>jL (oj U) U T.max PyProof.Rows.boot_max (dX (pv 0) (dX (du nF b6 (pv 0)) gB))))
  (bT (gm (i:=3) qT.nd U (Or.inl U) (du dF b6 (pv 1)))
  (bT (EL PassesOwn.never U (vG (pv 2)) (dS (i:=4) qT.nd U (Or.inl U)) (kf (gm (i:=3) qT.nd U (Or.inl U) (du hU (du dF (du lq (pv 3) b6) (du hU (pv 4) b6)) b6))))
  (kf (nU (Ai (mJ d5 (pv 3) (mJ d5 b6 (mJ d5 (zI U U T.list U T.rev
   (As (ts:=["_law_one"]) (us:=[]) #[U,U,U,U,U,U] rfl (vG (pv 2)) (λ_ _ _ _=>dS (i:=0) Y0 U (Or.inl U)) (λ_ _ _ _=>AF (iN IJ (pv 0) (du MS b6 b6) (aF _))) (λ_ _ _ _=>pv 0))) AH))) U U (by simp) ())))))
def Yd(d a b:AC)(W:aW)(ps:!PK)(t:Tm)(l:!Sl):!Sl:=.no::.dat (.bJ d)::.dat (.tup (ps.map gj))::.dat (toD t)::.dat (HD W ps t)::.dat (NI (ow ps))::.dat (YG (pI ps))::.dat (.lst [.bJ a,.bJ b])::l
theorem MW(GPq:∀ d l,C4 P w K mg base aP jc 60 (cR K (bg d l) (Ko d)))(YC:ac0 P w K mg base kz 9 SI)(GHO:ac0 P w K mg base eE 1 Vu)(Zd:ac0 P w K mg base iJ 2 RY)(GLR:ac0 P w K mg base dQ 2 Vy)(GL:C4 P w K mg base aP iE 1 (cY.yc K)){f:AC}{fd:Go}(F:tH K "law" "law" l9 f fd)(T:Txt K mg):bZ P w K mg base aP 62 f fd ["_law_script"] (AZ K):=by
 let(fL,fdL,GL,FL,mL,bL):=GL;show F.ok d4 (λvs H Q E h=>?_) (λa8 A outer s H vs Q E hr h=>?_)
 .let(a,ns,rfl,_):=h
  rfl
 .let(a,ns,rfl,hS,hlen,k):=h;have hrL:b4 1 _:=hr.mono ();show#[_,(bT (gm (i:=1) d4.nd U (Or.inl U) (kB GL hrL U mL FL.kp bL .nil iA (dX (pv 0) (dX b6 gB)))) (IB λd l M0 H0=>(ag (fP (n:=1000) (az hr (GPq d l) (ae (vd 1) af)) (bo (m:=2) U (au (gN 2 d4.nd) (au (gN 3 d4.nd) bj))))
 (ag (sS 4 d4.nd (bE hr YC (ae (vd 2) (ae (vd 3) af))))
 (ag (cv (DW.dt (k7 (iQ (iK (cK eL mO U T.GZ PyProof.Rows.boot_isinstance (ae (vd 4) (ae (dc (d:=.ty "tuple") (fU (v:=.ty "tuple") U T.tuple (-()) U) U) af))))) (k7 (aK rV zK (dY T.len (ae (vd 4) af)) aj (aF _)) (nv (iQ (iK (cK eL mO U T.GZ PyProof.Rows.boot_isinstance (ae (bO (vd 4) aj) (ae (dc (d:=.ty "tuple") (fU (v:=.ty "tuple") U T.tuple (-()) U) U) af)))))))))
 (aq (aV Dv))
 aO)
 (ag (fP (n:=1000) (bE hr GHO (ae (vd 2) af)) (bo (m:=2) U (au (hJ (dS (i:=5) d4.nd U (Or.inr U)) ()) (au (hJ (dS (i:=6) d4.nd U (Or.inr U)) ()) bj))))
 (MX (i:=7) U d4.nd (λ_ _=>(sF (aZ (vd 2)) (bo (m:=4) U (au (gN 8 d4.nd) (au (gN 9 d4.nd) (au (gN 10 d4.nd) (au (gN 11 d4.nd) bj)))))
 (aq (sF (aZ (vd 11)) (gN 12 d4.nd)
 (aq (aR (SE [_,_] rfl abA abB hZ Bj (jv (vd 7) (fJ eY lj U T.int (-()) (ae (eD bf cz (vd 8) av (aF _)) af))) (ae (aw (ae (bO (vd 12) aj) (ae (DN.de (nC ["_law_row"] [] (aZ (bO (vd 12) (dc (d:=.int (-1)) mC U))) (λ_ _ _ _=>(gM 0 ["_law_row"])) (λ_ _ _ _=>bY)
 (λ_ _ _ _=>(bO (vd 0) aj)))) af))) af))))))))
 (ag (sS 13 d4.nd (dY T.len (ae (bO (vd 4) aj) af)) (hx:=Or.inr U))
 (ag (cv (DW.dt (k7 (aK (vD (oE hr)) tD (bE hr Zd (ae (bO (vd 4) aj) (ae (vd 13) af))) (jv (vd 7) aj) (aF _)) (nv (aK (vD (oE hr)) tD (bE hr Zd (ae (bO (vd 4) aj) (ae (vd 13) af))) (jv (vd 7) aj) (aF _)))))
 (aq (aV Dv))
 aO)
 (ag (sS 14 d4.nd (DN.de (nC ["_law_f","_law_some"] [6] (aZ (jv (vd 7) aj)) (λ_ _ _ _=>(bo (m:=2) U (au (gM 0 ["_law_f","_law_some","_law_askers"]) (au (gM 1 ["_law_f","_law_some","_law_askers"]) bj)))) (λ_ _ _ _=>bY)
 (λ_ _ _ _=>(bO (zx (aX (bG hr) (DE.pe (vd 2)) (DE.pe (vd 0)) (λ_ _=>rfl))) aj)))) (hx:=Or.inr U))
 (ag (sS 15 d4.nd (DN.de (nC ["_law_f"] [6] (HL (vd 6)) (λ_ _ _ _=>(gM 0 ["_law_f","_law_askers"])) (λ_ _ _ _=>jb (aK bf cz (bO (zx (aX (bG hr) (DE.pe (vd 1)) (DE.pe (vd 0)) (λ_ _=>rfl))) aj) av (aF _)))
 (λ_ _ _ _=>(gy (zx (aX (bG hr) (DE.pe (vd 1)) (DE.pe (vd 0)) (λ_ _=>rfl))) (bC aj) cU)))) (hx:=Or.inr U))
 (ag (cv (iQ (iK (cK (qp U) PJ U T.all PyProof.Rows.boot_all (ae (DN.de (nC ["_law_line"] [13,5,14,15] (aZ (bO (vd 4) aj)) (λ_ _ _ _=>(gM 0 ["_law_line","_law_many","_law_makers","_law_leaps","_law_doors"])) (λ_ _ _ _=>bY)
 (λ_ _ _ _=>(bE hr GLR (ae (vd 0) (ae (vd 1) (ae (vd 2) (ae (vd 3) (ae (vd 4) af))))))))) af))))
 (aq (aV Dv))
 aO)
 (aq (aV (eD (zy (oE hr)) tD (bE hr YC (ae (vd 2) (ae (vd 3) af))) (vd 4) (aF _)))))))))))))))),?_]
  show#[_,U,a,ns,0,U,hS,hlen,by decide,by decide,λd l H1 hd hl D1 s1=>?_];show KN (n:=14) (nos:=2) D1 U U ?_ k;have hsz:=aH;right;show Ko.mk λW ps g t lk hk ht hf hs=>?_;let((n,psk),_):=id lk;have h5f:=(mG psk false (cj W ps) []).2;have h5t:=(mG psk true (cj W ps) []).2;right;show SI.mk lk hk ht hf hs ?_;right;show Vu.mk lk ?_;right;show#[#[U,by change 7 < 16;decide,U,U],λa b=>?_];show#[_,U,_,.inr U,?_];show eN gj (λdn s=>∃ x8 x9 fQ fK d7:Sl,(x8.pl=true/\x9.pl=true/\fQ.pl=true/\fK.pl=true/\d7.pl=true)/\s=#[Yd d a b W ps t [x8,x9,fQ,fK,d7,.no,.no,.no],[some (.lst ((a7 false dn).map tp)),some (.lst ((a7 true dn).map tp))]]) ?_ ?_ _ #[.no,.no,.no,.no,.no,#[U,U,U,U,U],U]
  .rintro s ⟨x8,x9,fQ,fK,d7,⟨h8,h9,h10,h11,h12⟩,rfl⟩;show#[_,_,U,U,U,#[?_,?_],?_]
   .show noRef 0 8 (x8::x9::fQ::fK::d7::_)=true;rw[bu h8,bu h9,bu h10,bu h11,bu h12]
    rfl
   .show noRef 1 8 (x8::x9::fQ::fK::d7::_)=true;rw[bu h8,bu h9,bu h10,bu h11,bu h12]
    rfl
   right;rw[show ((sD W ps t).map Cf).length=(sD W ps t).length from aaa _];have l1:=fH (W:=W) (c:=cj W ps) (b:=true) (a7 true ps) (qY W ps t);have pf:=m8 (W:=W) (c:=cj W ps) (b:=false) (a7 false ps) (lT W ps t);have pt:=m8 (W:=W) (c:=cj W ps) (b:=true) (a7 true ps) (qY W ps t);show RY.mk (by cbv) (λx hx p hp=>aay (uy x hx p hp) l1) ?_;rw[show (fN W (cj W ps) false (a7 false ps) (lT W ps t)).map (λx=>D.tup [.str x.1,.lst (x.2.map λp=>.str p.1)])=(a7 false ps).map tp from iO _ _];let(o1,o2):=Jg (b:=false) psk;let(o3,o4):=Jg (b:=true) psk;right;show#[#[o1,o1,.inl o2],_,U,kx (by rw[jS];rfl) ?_];right;show RY.mk (by cbv) (λx hx p hp=>uy x hx p hp) ?_;rw[show (fN W (cj W ps) true (a7 true ps) (qY W ps t)).map (λx=>D.tup [.str x.1,.lst (x.2.map λp=>.str p.1)])=(a7 true ps).map tp from iO _ _];right;show#[#[o3,o3,.inl o4],_,U,kx (by rw[jS];rfl) ?_];let(z1,z2,z3):=C7 λp hp=>(psk.ok p hp).tl;rw[<- z1,aan];show#[_,U,_,_,_,U,U,U,_,.inl U,?_];show aQ (tp∘λz:(Str×!(Str×Tm))×(Nat×Nat)=>z.1) (λz=>D.int (z.2.2:Nat)) _ (λz hz k hk=>?_) ?_
   .refine#[_,U,U,_,_,U,_,_,U,U,?_];exact#[_,U,_,U,_,_,_,_,U,U,Bi lk _ (z3 z hz),_,_,_,U,U,U,hk _ U]
   rw[aaF,show (Nv ps).map (λz=>D.int (z.2.2:Nat))=(BM ps).map (λn=>D.int (n:Nat)) by rw[<- z2,aan];rfl];show#[_,U,_,_,U,?_];rw[aan];show b5 (kD∘λm:Str×(Bool×Nat×Nat)=>.inr m.1) (λm=>D.tup [.int (m.2.2.1:Nat),.int (m.2.2.2:Nat)]) (λm=>m.2.1) _ (λm hm k N hk hN=>?_) ?_
   .have ea:=Bi lk m hm;show#[_,U,_,U,_,_,_,_,U,U,ea,_,_,_,U,U,U,#[U,U,U],_,U,?_];rw[cJ];cases hb:m.2.1 with
    | true=>exact n5 U #[_,U,_,U,_,_,_,_,U,U,ea,_,U,_,U,hk hb _ U]
    | false=>exact kx U (hN hb _ U)
   rw[List.nil_append,show ((pI ps).filter λm=>m.2.1).map (λm=>D.tup [.int (m.2.2.1:Nat),.int (m.2.2.2:Nat)])=(F9 ps).map (λe=>D.tup [.int (e.1:Nat),.int (e.2:Nat)]) by unfold F9;rw[List.map_map];rfl];show#[_,U,_,_,_,U,U,U,_,.inr U,?_];show aQ Cf (λ_=>D.bl true) _ (λl hl k hk=>?_) ?_
   .exact#[_,U,_,U,_,U,_,U,_,U,Vy.mk (UE lk) (Ew lk ht hf l hl) (hk _ U)]
   rw[aaF];show#[(sD W ps t).map λ_=>true,by rw[aan];rfl,_,U,?_];have iZ:((sD W ps t).map λ_=>true).all id=true:=aa9.mpr λx hx=>by
    let(_,_,rfl):=aak.mp hx
    rfl
   show kx (by rw[iZ];rfl) ?_;let(c1,c2):=Im lk ht hf;exact#[_,U,_,U,SI.mk lk hk ht hf hs #[_,U,#[c1,c1,.inl c2],congrArg D.bl (jS _)]]
  .rintro dn p td s E e ⟨x8,x9,fQ,fK,d7,⟨h8,h9,h10,h11,h12⟩,rfl⟩ hN hE;have fb:∀ b,a7 b (dn++[p])=a7 b dn++if p.asked=b then fi p else []:=λb=>by simp[a7]
   have hp:p∈ps:=by rw[e];simp
   have hlf:(a7 false ps).length=(a7 false dn).length+((if p.asked=false then fi p else []).length+(a7 false td).length):=by rw[e];simp[a7]
   have jN:(a7 true ps).length=(a7 true dn).length+((if p.asked=true then fi p else []).length+(a7 true td).length):=by rw[e];simp[a7]
   let(zs,ez,eb,hz):=rO p;let(bb,kd,tabs):=p;show#[_,U,U,_,_,U,_,_,U,_,_,U,_,_,U,U,?_];rw[ez];show#[_,U,_,.inr U,?_];cases bb with
   | false =>
    rw[if_pos U,eb,aaa] at hlf;have f1:a7 false (dn++[#[false,kd,tabs]])=a7 false dn++zs.map (·.1):=(fb false).trans (by rw[if_pos U,eb]);have f2:a7 true (dn++[#[false,kd,tabs]])=a7 true dn:=(fb true).trans (by rw[if_neg Bool.noConfusion,aal]);show eN (λz:(Str×!(Str×Tm))×!D=>D.tup z.2) (λd2 s=>∃ d7:Sl,d7.pl=true/\s=#[Yd d a b W ps t [.dat (.str (bc false)),.dat (.str kd.name),.dat (BL #[false,kd,tabs]),.dat (.tup (zs.map λz=>D.tup z.2)),d7,.no,.no,.no],[some (.lst ((a7 false dn++d2.map (·.1)).map tp)),some (.lst ((a7 true dn).map tp))]]) ?_ ?_ _ #[d7,h12,by rw[aaQ,aal];rfl]
    .rintro s ⟨y12,g12,rfl⟩;show hN _ #[.dat (.str (bc false)),.dat (.str kd.name),.dat (BL #[false,kd,tabs]),.dat (.tup (zs.map λz=>D.tup z.2)),y12,#[U,U,U,U,g12],?_];rw[f1,f2]
    .rintro d2 z t2 s E2 e3 ⟨y12,g12,rfl⟩ hN2 hE2;let(a0,a1):=hz z (by rw[e3];simp);show#[_,U,_,U,#[U,U,U],.inr #[_,U,?_]];rw[cJ];show#[_,_,_,U,U,U,0,a,_,U,U,U,U,?_];show#[_,U,_,_,_,U,U,a0,_,U,_,_,_,U,U,a1,?_];show#[_,.inr U,?_];show aQ jU (λr=>D.str r.1) _ (λr hr k hk=>?_) ?_
     .right;exact hk _ U
     rw[aaF];show#[_,U,_,_,U,U,?_,?_]
     .have:=congrArg List.length e3;rw[aab,aam] at this;rw[aaa,aab,aaa];cbv
     .refine hN2 _ #[.dat (.tup z.2),U,?_];rw[show (a7 false dn++(d2++[z]).map (·.1)).map tp=(a7 false dn++d2.map (·.1)).map tp++[tp z.1] by simp]
      rfl
   | true =>
    rw[if_pos U,eb,aaa] at jN;have f1:a7 true (dn++[#[true,kd,tabs]])=a7 true dn++zs.map (·.1):=(fb true).trans (by rw[if_pos U,eb]);have f2:a7 false (dn++[#[true,kd,tabs]])=a7 false dn:=(fb false).trans (by rw[if_neg Bool.noConfusion,aal]);show eN (λz:(Str×!(Str×Tm))×!D=>D.tup z.2) (λd2 s=>∃ d7:Sl,d7.pl=true/\s=#[Yd d a b W ps t [.dat (.str (bc true)),.dat (.str kd.name),.dat (BL #[true,kd,tabs]),.dat (.tup (zs.map λz=>D.tup z.2)),d7,.no,.no,.no],[some (.lst ((a7 false dn).map tp)),some (.lst ((a7 true dn++d2.map (·.1)).map tp))]]) ?_ ?_ _ #[d7,h12,by rw[aaQ,aal];rfl]
    .rintro s ⟨y12,g12,rfl⟩;show hN _ #[.dat (.str (bc true)),.dat (.str kd.name),.dat (BL #[true,kd,tabs]),.dat (.tup (zs.map λz=>D.tup z.2)),y12,#[U,U,U,U,g12],?_];rw[f1,f2]
    .rintro d2 z t2 s E2 e3 ⟨y12,g12,rfl⟩ hN2 hE2;let(a0,a1):=hz z (by rw[e3];simp);show#[_,U,_,U,#[U,U,U],.inr #[_,U,?_]];rw[cJ];show#[_,_,_,U,U,U,1,b,_,U,U,U,U,?_];show#[_,U,_,_,_,U,U,a0,_,U,_,_,_,U,U,a1,?_];show#[_,.inr U,?_];show aQ jU (λr=>D.str r.1) _ (λr hr k hk=>?_) ?_
     .right;exact hk _ U
     rw[aaF];show#[_,U,_,_,U,U,?_,?_]
     .have:=congrArg List.length e3;rw[aab,aam] at this;rw[aaa,aab,aaa];cbv
     .refine hN2 _ #[.dat (.tup z.2),U,?_];rw[show (a7 true dn++(d2++[z]).map (·.1)).map tp=(a7 true dn++d2.map (·.1)).map tp++[tp z.1] by simp]
      rfl
end
inductive iY(w:FB):!SL->!(Str×AT)->Prop
 | nil:iY w [] []
 | cons {e:SL} {k:Str} {v:AT} {es:!SL} {kvs:!(Str×AT)}:(∃ t,e.key=.str k t)->e.hash=hashStr w k->e.val=v->iY w es kvs->iY w (e::es) ((k,v)::kvs)
theorem iY.dict{P:Fa}{w:FB}{es:Array SL}{ep:Nat}{kvs:!(Str×AT)}(h:iY w es.toList kvs)(nd:(kvs.map (·.1)).Nodup):Obj.IsDictOf (strKind P w) #[.type "dict",none,.dict es ep,#v[]] kvs:=by
 show#[es,ep,#[U,U,U],U,λe he=>?_,?_,nd]
 .have he:e∈es.toList:=Array.mem_toList_iff.mpr he;clear nd
  revert he
  generalize es.toList=l at h
  induction h with
  | nil=>exact λz=>nomatch z
  | cons hk hh hv _ ih =>
   intro he;rcases aaj.mp he with rfl | he
   .let(t,ht):=hk;exact#[_,by rw[ht];exact PySem.strKind_is P w _ t,hh]
   .exact ih he
 .clear nd;generalize es.toList=l at h
  induction h with
  | nil=>exact .nil
  | cons hk hh hv _ ih =>
   let(t,ht):=hk;exact .cons (by rw[ht];exact PySem.strKind_is P w _ t) hv ih
theorem Ak{kvs:!(Str×AT)}{Q:Str->AC->Prop}(h:∀ p∈kvs,∃ f,p.2=.ref f/\Q p.1 f)(i:Str)(f:AC)(e:valueAt kvs i=some (.ref f)):Q i f:=by
 let(p,hp,e2):=aaI.mp e;let(f',e3,q):=h p (List.mem_of_find?_eq_some hp);have e1:p.1=i:=by simpa using List.find?_some hp
 rw[e3] at e2;cases e2;rw[<- e1];exact q
theorem zY{kvs:!(Str×AT)}(hv:∀ p∈kvs,∃ f,p.2=AT.ref f){i:Str}(h:i∈kvs.map (·.1)):∃ a,valueAt kvs i=some (.ref a):=by
 let(p,hp,e):=aak.mp h;cases q:kvs.find? λkv=>kv.1=i with
 | none=>exact absurd (List.find?_eq_none.mp q p hp) (by simp[e])
 | some p' =>
  let(f,e3):=hv p' (List.mem_of_find?_eq_some q);exact#[f,by unfold valueAt;rw[q,<- e3];rfl]
theorem EY{f:Fm}(h:f.fl=true):qm f∈(["name","num","op","zero","let","make","ask"]:!Str):=by cases f<;>first | exact absurd h Bool.false_ne_true | (simp only[qm];decide+kernel)
theorem KL{f:Fm}(h:f.fl=true):qm f∈(["name","num","op","zero","let","make","ask","case","new"]:!Str):=by
 have:=aaH (["case","new"]:!Str) (EY h);exact this
theorem Ju(f:hX):vZ f∈(["term","want","tell","alike","bind","asker"]:!Str):=by cases f<;>(simp only[vZ];decide+kernel)
theorem Nl(f:hX):vZ f∈(["term","want","tell","alike","bind","asker","case","row"]:!Str):=by
 have:=aaH (["case","row"]:!Str) (Ju f);exact this
theorem R5(f:gE):zq f∈(["term","row","split","other","join"]:!Str):=by cases f<;>(simp only[zq];decide+kernel)
section
variable{P:Fa}{w:FB}{K:Frag}{mg:Str->Option AT}{base:Db}{CX:ya}{q:D3}{k m:Nat}{sp:Sp}{f:AC}
theorem O9{n:Nat}{us:!AT}(h:us.length=n+1):∃ a r,us=a::r/\r.length=n:=by
 cases us with
 | nil=>cases h
 | cons a r=>exact#[a,r,U,Nat.succ.inj h]
theorem SF{us:!AT}(h:us.length=1):∃ a,us=[a]:=by
 let(a,r,rfl,k):=O9 h;exact#[a,by rw[aaO k]]
theorem zS{us:!AT}(h:us.length=2):∃ a b,us=[a,b]:=by
 let(a,r,rfl,k):=O9 h;let(b,rfl):=SF k;exact#[a,b,U]
theorem Yq{us:!AT}(h:us.length=3):∃ a b c,us=[a,b,c]:=by
 let(a,r,rfl,k):=O9 h;let(b,c,rfl):=zS k;exact#[a,b,c,U]
theorem X8{us:!AT}(h:us.length=4):∃ a b c d,us=[a,b,c,d]:=by
 let(a,r,rfl,k):=O9 h;let(b,c,d,rfl):=Yq k;exact#[a,b,c,d,U]
theorem us5{us:!AT}(h:us.length=5):∃ a b c d e,us=[a,b,c,d,e]:=by
 let(a,r,rfl,k):=O9 h;let(b,c,d,e,rfl):=X8 k;exact#[a,b,c,d,e,U]
theorem T6(g:C4 P w K mg base CX q k sp)(hk:k<=m):C4 P w K mg base CX q m sp :=
 let #[f,fd,J,r]:=g
 #[f,fd,J.mono hk,r]
theorem bX(g:C4 P w K mg base aP q k sp)(h:mg q.1=some (.ref f))(hk:k<=m):nB P w K mg base m f sp:=by
 let(f2,fd,J,F,m2,b):=g;rw[h] at m2;cases m2;exact#[fd,_,J.mono hk,F.kp,b]
theorem nB.up(g:nB P w K mg base k f sp)(hk:k<=m):nB P w K mg base m f sp :=
 let #[fd,ps,J,r]:=g
 #[fd,ps,J.mono hk,r]
theorem kC{fd:Go}{ps:!Str}{t:mh}(h:∀ rs ds cs R,¬ t rs ds cs R):bZ P w K mg base aP k f fd ps (b3 K t) :=
 #[λvs H Q E z=>by let(_,_,_,_,_,_,_,_,z,_):=z;exact absurd z (h _ _ _ _),λA outer s H args us vs Q E hr he hb hv z=>by let(_,_,_,_,_,_,_,_,z,_):=z;exact absurd z (h _ _ _ _)]
theorem xp{C B:AC}{i:Str}(hi:i∉(["name","num","op","zero","let","make","ask"]:!Str)):∀ rs ds cs R,¬ Cd C B i rs ds cs R:=by
 rintro rs ds cs R ⟨x,a,b,W,ps,r,g,f,ts,sc,st,dn,_,_,_,⟨h1,_,⟨_,h2,_⟩,_⟩,_⟩;have h2:(f.fl&&yT ts)=true:=h2;have h3:f.fl=true:=by
  cases q:f.fl with
  | true=>rfl
  | false=>rw[q] at h2;cases h2
 exact hi (h1▸EY h3)
theorem wR{C B:AC}{i:Str}(hi:i∉(["term","want","tell","alike","bind","asker"]:!Str)):∀ rs ds cs R,¬ E7 C B i rs ds cs R:=by
 rintro rs ds cs R ⟨x,a,b,W,ps,r,g,tk,st,dn,_,_,_,⟨h1,_⟩,_⟩;exact hi (h1▸Ju tk)
end
theorem all_mk{l:PySem.W.OpenLaw}{w:FB}{K:Frag}{h:Db}{mg:Str->Option AT}{fa C B Y Vf VC VH VB Xl GW HU Hd IG HJ Hc HH GP Ir Io Ht xI vm xJ xo QY Ts NU U5 S8 CQ En Dh QG DZ EO Fh Fi Eg Df Oc Um Sm Qq Qr P5 U4 FQ Dp Dn:AC}{epM ZH epN epL:Nat}{YY YO YS Yx:Array SL}(X:K.In h)(G:h.Ns GM mg)(hfa:mg "law"=some (.ref fa)){WR Qk QC RO SJ Qi US Pr RX N8 Sj Rr Ud SR Tq S5 NT OQ Tv UR SG TN Pm SQ TQ UZ Tb SN Uv Pf Ro Qn:Option AC}{Xq Sy TF SV T3 P7 OY Tn N6 Oo N5 OE Od RG Ow TK:Array (Option AT)}{Xw NW PL Ru J8 Oi QK P0 N4 Ur IT Tz O4 QL QH PU JK U1 OZ QU NS OM IX OG Pj PM RF Ti Jn QV Sn U0 QB R4 JO TX UK Pc Rf OC JW Rv R1 Sx QX Pq JS O1 RH Oe Rt Rg Jd Pk Ue R3 OJ QN Jm PV Pw Sa SU Qv Jw Td PB Tx QT OU Jr U3 Uo Pn Pt Ol JB Qb OF T8 S4 U9 IS S6 T5 UP PQ RK Jk UI T7 Qp Q0 UY Ja Ql:AT}(FMI:Own K mg gR)(FAI:Own K mg fB)(Zr:Own K mg ee)(FLN:Own K mg jB)(ZD:Own K mg lD)(FLO:Own K mg n8)(FLZ:Own K mg jD)(FLL:Own K mg lH)(W2:Own K mg jP)(Xa:Own K mg lz)(WM:Own K mg oN)(Zw:Own K mg qe)(V1:Own K mg nT)(X5:Own K mg nz)(W8:Own K mg lh)(WA:Own K mg nG)(X9:Own K mg lM)(XF:Own K mg sQ)(Zv:Own K mg dU)(Z3:Own K mg cA)(Xc:Own K mg gY)(ZC:Own K mg dP)(FTT:Own K mg bR)(Z8:Own K mg jF)(FCU:Own K mg lg)(FCO:Own K mg nW)(FCZ:Own K mg ka)(FCL:Own K mg lr)(FCK:Own K mg jQ)(FCA:Own K mg lF)(Wv:Own K mg lA)(Wa:Own K mg lE)(Xx:Own K mg nE)(FCT:Own K mg fz)(FCC:Own K mg g7)(FCB:Own K mg fR)(FCS:Own K mg fc)(FCF:Own K mg kz)(FDe:Own K mg iE)(FDr:Own K mg bD)(FWo:Own K mg fw)(FPa:Own K mg gU)(FHe:Own K mg gW)(FTh:Own K mg dR)(ZJ:Own K mg gT)(Sd:Own K mg iR)(UL:Own K mg ib)(QS:Own K mg ix)(Qg:Own K mg eZ)(FWd:Own K mg gQ)(FCs:Own K mg g6)(Z7:Own K mg ff)(FDb:Own K mg eK)(FPq:Own K mg jc)(Zx:Own K mg c5)(Z2:Own K mg eE)(FLR:Own K mg dQ)(ZX:Own K mg iJ)(aLa:nsIn K GM "law"=some (some (.ref Xl)))(lLa:K.lookup Xl=some #[Xw,WR,.func (fnOf "law" "law" (bF l9) (aL l9) (ai l9) .none NW PL Ru Qk J8 Oi),Xq])(cLa:codeIn K J8 "law"=true)(kLa:keepIn K (.ref Xl)=true)(aC:nsIn K GM "TermLook"=some (some (.ref C)))(OW:findIn K (.ref C) "__init__"=some (some (.ref GW)))(XN:K.lookup GW=some #[QK,QC,.func (fnOf "__init__" "TermLook.__init__" (bF fW) (aL fW) (ai fW) .none P0 N4 Ur RO IT Tz),Sy])(Xn:codeIn K IT "TermLook.__init__"=true)(Wg:keepIn K (.ref GW)=true)(Q8:PySem.W.isFn K (.ref GW)=true)(OL:findIn K (.ref C) "plan"=some (some (.ref HU)))(XG:K.lookup HU=some #[O4,SJ,.func (fnOf "plan" "TermLook.plan" (bF gg) (aL gg) (ai gg) .none QL QH PU Qi JK U1),TF])(XY:codeIn K JK "TermLook.plan"=true)(Qu:keepIn K (.ref HU)=true)(OP:PySem.W.isFn K (.ref HU)=true)(UG:findIn K (.ref C) "take_kind"=some (some (.ref Hd)))(VS:K.lookup Hd=some #[OZ,US,.func (fnOf "take_kind" "TermLook.take_kind" (bF cM) (aL cM) (ai cM) .none QU NS OM Pr IX OG),SV])(Xs:codeIn K IX "TermLook.take_kind"=true)(Oh:keepIn K (.ref Hd)=true)(Tw:PySem.W.isFn K (.ref Hd)=true)(Rm:findIn K (.ref C) "tell_kind"=some (some (.ref IG)))(Wu:K.lookup IG=some #[Pj,RX,.func (fnOf "tell_kind" "TermLook.tell_kind" (bF cN) (aL cN) (ai cN) .none PM RF Ti N8 Jn QV),T3])(WG:codeIn K Jn "TermLook.tell_kind"=true)(R7:keepIn K (.ref IG)=true)(Uk:PySem.W.isFn K (.ref IG)=true)(C1:PySem.W.plainGet K C Str.empty=true)(C2:PySem.W.hasDictIn K C=true)(C3:PySem.W.plainOver K C=true)(C4_:findIn K (.ref C) "__setattr__"=some (some (.builtin "object.__setattr__")))(WT:findIn K (.ref C) "heads"=some none)(VQ:findIn K (.ref C) "text_row"=some none)(Wt:findIn K (.ref C) "tables_let"=some none)(W0:findIn K (.ref C) "ahead"=some none)(Wc:findIn K (.ref C) "done"=some none)(CM1:PySem.W.makesIn K C=true)(CM4:keepIn K (.ref C)=true)(aB:nsIn K GM "Heads"=some (some (.ref B)))(RA:findIn K (.ref B) "__init__"=some (some (.ref HJ)))(WD:K.lookup HJ=some #[Sn,Sj,.func (fnOf "__init__" "Heads.__init__" (bF gd) (aL gd) (ai gd) .none U0 QB R4 Rr JO TX),P7])(W9:codeIn K JO "Heads.__init__"=true)(X1:keepIn K (.ref HJ)=true)(O7:PySem.W.isFn K (.ref HJ)=true)(RW:findIn K (.ref B) "side_of_maker"=some (some (.ref Hc)))(Wh:K.lookup Hc=some #[UK,Ud,.func (fnOf "side_of_maker" "Heads.side_of_maker" (bF bP) (aL bP) (ai bP) .none Pc Rf OC SR JW Rv),OY])(Xp:codeIn K JW "Heads.side_of_maker"=true)(QJ:keepIn K (.ref Hc)=true)(OX:PySem.W.isFn K (.ref Hc)=true)(Sz:findIn K (.ref B) "bound_in_cell"=some (some (.ref HH)))(X2:K.lookup HH=some #[R1,Tq,.func (fnOf "bound_in_cell" "Heads.bound_in_cell" (bF bS) (aL bS) (ai bS) .none Sx QX Pq S5 JS O1),Tn])(XT:codeIn K JS "Heads.bound_in_cell"=true)(Ry:keepIn K (.ref HH)=true)(Pl:PySem.W.isFn K (.ref HH)=true)(B1:PySem.W.plainGet K B Str.empty=true)(B2:PySem.W.hasDictIn K B=true)(B3:PySem.W.plainOver K B=true)(Z1:findIn K (.ref B) "__setattr__"=some (some (.builtin "object.__setattr__")))(Yb:findIn K (.ref B) "kinds"=some none)(W4:findIn K (.ref B) "makers"=some none)(XZ:findIn K (.ref B) "askers"=some none)(BM1:PySem.W.makesIn K B=true)(BM4:keepIn K (.ref B)=true)(aY:nsIn K GM "Coding"=some (some (.ref Y)))(Qm:findIn K (.ref Y) "__init__"=some (some (.ref GP)))(Yh:K.lookup GP=some #[RH,NT,.func (fnOf "__init__" "Coding.__init__" (bF fZ) (aL fZ) (ai fZ) .none Oe Rt Rg OQ Jd Pk),N6])(W6:codeIn K Jd "Coding.__init__"=true)(WH:keepIn K (.ref GP)=true)(Sh:PySem.W.isFn K (.ref GP)=true)(Qw:findIn K (.ref Y) "plan"=some (some (.ref Ir)))(Yn:K.lookup Ir=some #[Ue,Tv,.func (fnOf "plan" "Coding.plan" (bF fY) (aL fY) (ai fY) .none R3 OJ QN UR Jm PV),Oo])(Xz:codeIn K Jm "Coding.plan"=true)(Vb:keepIn K (.ref Ir)=true)(Up:PySem.W.isFn K (.ref Ir)=true)(UC:findIn K (.ref Y) "tell_row"=some (some (.ref Io)))(Xd:K.lookup Io=some #[Pw,SG,.func (fnOf "tell_row" "Coding.tell_row" (bF c9) (aL c9) (ai c9) .none Sa SU Qv TN Jw Td),N5])(WV:codeIn K Jw "Coding.tell_row"=true)(PH:keepIn K (.ref Io)=true)(T9:PySem.W.isFn K (.ref Io)=true)(UQ:findIn K (.ref Y) "here"=some (some (.ref Ht)))(Wn:K.lookup Ht=some #[PB,Pm,.func (fnOf "here" "Coding.here" (bF gc) (aL gc) (ai gc) .none Tx QT OU SQ Jr U3),OE])(Wf:codeIn K Jr "Coding.here"=true)(Po:keepIn K (.ref Ht)=true)(Q6:PySem.W.isFn K (.ref Ht)=true)(Y1:PySem.W.plainGet K Y Str.empty=true)(Y2:PySem.W.hasDictIn K Y=true)(Y3:PySem.W.plainOver K Y=true)(Y4_:findIn K (.ref Y) "__setattr__"=some (some (.builtin "object.__setattr__")))(Yc:findIn K (.ref Y) "heads"=some none)(VW:findIn K (.ref Y) "ways"=some none)(Wo:findIn K (.ref Y) "coded"=some none)(VT:findIn K (.ref Y) "ahead"=some none)(YM1:PySem.W.makesIn K Y=true)(YM4:keepIn K (.ref Y)=true)(aLN:nsIn K GM "look_name"=some (some (.ref QY)))(aLU:nsIn K GM "look_num"=some (some (.ref Ts)))(aLO:nsIn K GM "look_op"=some (some (.ref NU)))(ZO:nsIn K GM "look_zero"=some (some (.ref U5)))(ZA:nsIn K GM "look_let"=some (some (.ref S8)))(Yj:nsIn K GM "look_make"=some (some (.ref CQ)))(XQ:nsIn K GM "look_ask"=some (some (.ref En)))(Ww:nsIn K GM "look_case"=some (some (.ref Dh)))(Zz:nsIn K GM "look_new"=some (some (.ref QG)))(Ym:nsIn K GM "do_want"=some (some (.ref DZ)))(Xk:nsIn K GM "do_tell"=some (some (.ref EO)))(Yk:nsIn K GM "do_alike"=some (some (.ref Fh)))(Yi:nsIn K GM "do_bind"=some (some (.ref Fi)))(V3:nsIn K GM "do_asker"=some (some (.ref Eg)))(Yo:nsIn K GM "do_case"=some (some (.ref Df)))(aCN:nsIn K GM "code_name"=some (some (.ref Oc)))(ZG:nsIn K GM "code_num"=some (some (.ref Um)))(Zy:nsIn K GM "code_op"=some (some (.ref Sm)))(ZV:nsIn K GM "code_zero"=some (some (.ref Qq)))(Zp:nsIn K GM "code_let"=some (some (.ref Qr)))(ZM:nsIn K GM "code_make"=some (some (.ref P5)))(Z5:nsIn K GM "code_ask"=some (some (.ref U4)))(Yr:nsIn K GM "do_split"=some (some (.ref FQ)))(XU:nsIn K GM "do_other"=some (some (.ref Dp)))(WB:nsIn K GM "do_join"=some (some (.ref Dn)))(ZR:nsIn K GM "do_term_termlooker"=some (some (.ref xI)))(RD:K.lookup xI=some #[Uo,TQ,.func (fnOf "do_term" "do_term" (bF a9) (aL a9) (ai a9) .none Pn Pt Ol UZ JB Qb),Od])(SY:codeIn K JB "do_term"=true)(Q5:keepIn K (.ref xI)=true)(aaN:nsIn K GM "do_row_termlooker"=some (some (.ref vm)))(PY:K.lookup vm=some #[OF,Tb,.func (fnOf "do_row" "do_row" (bF bK) (aL bK) (ai bK) .none T8 S4 U9 SN IS S6),RG])(Ph:codeIn K IS "do_row"=true)(QZ:keepIn K (.ref vm)=true)(Z4:nsIn K GM "do_term_coder"=some (some (.ref xJ)))(T4:K.lookup xJ=some #[T5,Uv,.func (fnOf "do_term" "do_term" (bF bW) (aL bW) (ai bW) .none UP PQ RK Pf Jk UI),Ow])(Og:codeIn K Jk "do_term"=true)(Sr:keepIn K (.ref xJ)=true)(aaM:nsIn K GM "do_row_coder"=some (some (.ref xo)))(U7:K.lookup xo=some #[T7,Ro,.func (fnOf "do_row" "do_row" (bF cn) (aL cn) (ai cn) .none Qp Q0 UY Qn Ja Ql),TK])(Q1:codeIn K Ja "do_row"=true)(OV:keepIn K (.ref xo)=true)(Ra:nsIn K GM "all"=some none)(Nr:nsIn K GM "bool"=some none)(Mz:nsIn K GM "dict"=some none)(xl:nsIn K GM "enumerate"=some none)(TZ:nsIn K GM "int"=some none)(vC:nsIn K GM "isinstance"=some none)(R6:nsIn K GM "len"=some none)(JZ:nsIn K GM "list"=some none)(Th:nsIn K GM "max"=some none)(O5:nsIn K GM "min"=some none)(G3:nsIn K GM "range"=some none)(zc:nsIn K GM "reversed"=some none)(HG:nsIn K GM "tuple"=some none)(O6:nsIn K GM "zip"=some none)(TC:nsIn K GM "str"=some none)(aDM:nsIn K GM "TERMS_termlooker"=some (some (.ref Vf)))(lDM:K.lookup Vf=some #[.type "dict",none,.dict YY epM,#v[]])(nDM:(Vf == KM)=false)(vDM:iY w YY.toList [("name",.ref QY),("num",.ref Ts),("op",.ref NU),("zero",.ref U5),("let",.ref S8),("make",.ref CQ),("ask",.ref En),("case",.ref Dh),("new",.ref QG)])(aDK:nsIn K GM "TASKS_termlooker"=some (some (.ref VC)))(lDK:K.lookup VC=some #[.type "dict",none,.dict YO ZH,#v[]])(nDK:(VC == KM)=false)(vDK:iY w YO.toList [("term",.ref xI),("want",.ref DZ),("tell",.ref EO),("alike",.ref Fh),("bind",.ref Fi),("asker",.ref Eg),("case",.ref Df),("row",.ref vm)])(aDN:nsIn K GM "TERMS_coder"=some (some (.ref VH)))(lDN:K.lookup VH=some #[.type "dict",none,.dict YS epN,#v[]])(Z6:(VH == KM)=false)(vDN:iY w YS.toList [("name",.ref Oc),("num",.ref Um),("op",.ref Sm),("zero",.ref Qq),("let",.ref Qr),("make",.ref P5),("ask",.ref U4)])(ZQ:nsIn K GM "TASKS_coder"=some (some (.ref VB)))(Zn:K.lookup VB=some #[.type "dict",none,.dict Yx epL,#v[]])(nDL:(VB == KM)=false)(Z9:iY w Yx.toList [("term",.ref xJ),("row",.ref xo),("split",.ref FQ),("other",.ref Dp),("join",.ref Dn)]) :
  ∃ fd:Go,(∀ (s:Cl) (v:AT),BindsTo s fd #[[v],[]] [("_law_script",v)])/\∀ base:Db,K.In base->base.Ns GM mg->bZ l.prog w K mg base aP 62 fa fd ["_law_script"] (AZ K):=by
 have e:=hfa.symm.trans (aaA X G aLa);cases e;have T:Txt K mg:=#[aaP X G Ra,aaP X G Nr,aaP X G Mz,aaP X G xl,aaP X G TZ,aaP X G vC,aaP X G R6,aaP X G JZ,aaP X G Th,aaP X G O5,aaP X G G3,aaP X G zc,aaP X G HG,aaP X G O6,aaP X G TC];have V:sY K C:=#[#[C1,C2,C3,C4_],WT,VQ,Wt,W0,Wc];have Uh:sx K B:=#[#[B1,B2,B3,Z1],Yb,W4,XZ];have Zc:sj K Y:=#[#[Y1,Y2,Y3,Y4_],Yc,VW,Wo,VT];have FLa:=cw (st:=l9) lLa cLa kLa;have FvtI:=cw (st:=fW) XN Xn Wg;have BvtI:=FvtI.binds (ps:=["self","heads","row","tables_let"]) λ_ _ _ _ _ _ us hl=>by
  let(_,_,_,_,rfl):=X8 hl
  rfl
 have FvtP:=cw (st:=gg) XG XY Qu;have BvtP:=FvtP.binds (ps:=["self","tasks"]) λ_ _ _ _ _ _ us hl=>by
  let(_,_,rfl):=zS hl
  rfl
 have OtP:ia K C "TermLook.plan" df:=#[_,_,FvtP,#[OL,OP,Qu],BvtP];have FvtK:=cw (st:=cM) VS Xs Oh;have BvtK:=FvtK.binds (ps:=["self"]) λ_ _ _ _ _ _ us hl=>by
  let(_,rfl):=SF hl
  rfl
 have OtK:ia K C "TermLook.take_kind" bU:=#[_,_,FvtK,#[UG,Tw,Oh],BvtK];have FvtD:=cw (st:=cN) Wu WG R7;have BvtD:=FvtD.binds (ps:=["self","kind"]) λ_ _ _ _ _ _ us hl=>by
  let(_,_,rfl):=zS hl
  rfl
 have OtD:ia K C "TermLook.tell_kind" cm:=#[_,_,FvtD,#[Rm,Uk,R7],BvtD];have FvhI:=cw (st:=gd) WD W9 X1;have BvhI:=FvhI.binds (ps:=["self","program"]) λ_ _ _ _ _ _ us hl=>by
  let(_,_,rfl):=zS hl
  rfl
 have FvhS:=cw (st:=bP) Wh Xp QJ;have BvhS:=FvhS.binds (ps:=["self","maker"]) λ_ _ _ _ _ _ us hl=>by
  let(_,_,rfl):=zS hl
  rfl
 have OhS:ia K B "Heads.side_of_maker" cZ:=#[_,_,FvhS,#[RW,OX,QJ],BvhS];have FvhB:=cw (st:=bS) X2 XT Ry;have BvhB:=FvhB.binds (ps:=["self","maker","asker"]) λ_ _ _ _ _ _ us hl=>by
  let(_,_,_,rfl):=Yq hl
  rfl
 have OhB:ia K B "Heads.bound_in_cell" cX:=#[_,_,FvhB,#[Sz,Pl,Ry],BvhB];have FvcI:=cw (st:=fZ) Yh W6 WH;have BvcI:=FvcI.binds (ps:=["self","program"]) λ_ _ _ _ _ _ us hl=>by
  let(_,_,rfl):=zS hl
  rfl
 have FvcP:=cw (st:=fY) Yn Xz Vb;have BvcP:=FvcP.binds (ps:=["self","tasks"]) λ_ _ _ _ _ _ us hl=>by
  let(_,_,rfl):=zS hl
  rfl
 have OcP:ia K Y "Coding.plan" cP:=#[_,_,FvcP,#[Qw,Up,Vb],BvcP];have FvcR:=cw (st:=c9) Xd WV PH;have BvcR:=FvcR.binds (ps:=["self","row"]) λ_ _ _ _ _ _ us hl=>by
  let(_,_,rfl):=zS hl
  rfl
 have OcR:ia K Y "Coding.tell_row" cg:=#[_,_,FvcR,#[UC,T9,PH],BvcR];have FvcH:=cw (st:=gc) Wn Wf Po;have BvcH:=FvcH.binds (ps:=["self"]) λ_ _ _ _ _ _ us hl=>by
  let(_,rfl):=SF hl
  rfl
 have OcH:ia K Y "Coding.here" eW:=#[_,_,FvcH,#[UQ,Q6,Po],BvcH];have FDTM:vF K xI fo:=#[_,cw (st:=a9) RD SY Q5,(cw (st:=a9) RD SY Q5).binds λ_ _ _ _ _ _ us hl=>by
  let(_,_,rfl):=zS hl
  rfl]
 have FDRO:vF K vm kQ:=#[_,cw (st:=bK) PY Ph QZ,(cw (st:=bK) PY Ph QZ).binds λ_ _ _ _ _ _ us hl=>by
  let(_,_,rfl):=zS hl
  rfl]
 have FDTC:vF K xJ jl:=#[_,cw (st:=bW) T4 Og Sr,(cw (st:=bW) T4 Og Sr).binds λ_ _ _ _ _ _ us hl=>by
  let(_,_,rfl):=zS hl
  rfl]
 have FDRC:vF K xo jJ:=#[_,cw (st:=cn) U7 Q1 OV,(cw (st:=cn) U7 Q1 OV).binds λ_ _ _ _ _ _ us hl=>by
  let(_,_,rfl):=zS hl
  rfl]
 have DM:Ci l.prog w K Vf [("name",.ref QY),("num",.ref Ts),("op",.ref NU),("zero",.ref U5),("let",.ref S8),("make",.ref CQ),("ask",.ref En),("case",.ref Dh),("new",.ref QG)]:=#[#[_,lDM,vDM.dict (by change List.Nodup (["name","num","op","zero","let","make","ask","case","new"]:!Str);decide+kernel)],nDM];have mM:=aaA X G aDM;have DK:Ci l.prog w K VC [("term",.ref xI),("want",.ref DZ),("tell",.ref EO),("alike",.ref Fh),("bind",.ref Fi),("asker",.ref Eg),("case",.ref Df),("row",.ref vm)]:=#[#[_,lDK,vDK.dict (by change List.Nodup (["term","want","tell","alike","bind","asker","case","row"]:!Str);decide+kernel)],nDK];have mK:=aaA X G aDK;have DN:Ci l.prog w K VH [("name",.ref Oc),("num",.ref Um),("op",.ref Sm),("zero",.ref Qq),("let",.ref Qr),("make",.ref P5),("ask",.ref U4)]:=#[#[_,lDN,vDN.dict (by change List.Nodup (["name","num","op","zero","let","make","ask"]:!Str);decide+kernel)],Z6];have mN:=aaA X G aDN;have DL:Ci l.prog w K VB [("term",.ref xJ),("row",.ref xo),("split",.ref FQ),("other",.ref Dp),("join",.ref Dn)]:=#[#[_,Zn,Z9.dict (by change List.Nodup (["term","row","split","other","join"]:!Str);decide+kernel)],nDL];have mL:=aaA X G ZQ;show#[fnOf "law" "law" (bF l9) (aL l9) (ai l9) .none NW PL Ru Qk J8 Oi,λs v=>.of_eq U,λbase _ _=>?_];have gTh:=Of (P:=l.prog) (w:=w) (base:=base) FTh T;have gDr:=λd l'=>(LZ (P:=l.prog) (w:=w) (base:=base) FDr T).imp λ_ _=>G6 (d:=d) (l:=l');have gWo:=λd l'=>Dk (gDr d l') FWo T;have gPa:=λd l'=>TB (gDr d l') FPa T;have gHe:=λd l'=>RZ (gDr d l') (gPa d l') FHe T;have gWd:=λd l'=>SD (gWo d l') (gHe d l') FWd T;have gBo:=λd l'=>P6 (gDr d l') ZJ T;have gLe:=λd l'=>JH (gDr d l') Sd T 2;have gTe:=λd l'=>Jv (gDr d l') gTh (gBo d l') (gLe d l') UL QS Qg T;have gAs:=λd l'=>JP (gDr d l') gTh (Jx (gTe d l' 16) UL T) QS T ();have gCs:=λd l'=>O2 (n:=11) (gDr d l') (gTe d l' 12) FCs T ();have gPr:=λd l'=>UW (gDr d l') (gCs d l') Z7 T ();have gDb:=λd l'=>Se (gDr d l') (gWo d l') FDb T;have gPq:=λd l'=>P4 (gDr d l') (gDb d l') (gWd d l') (T6 (gPr d l') ()) gTh (gAs d l') (gTe d l' 12) FPq T;have gMI:=Rk (P:=l.prog) (w:=w) (base:=base) FMI T;have gAI:=Rw (P:=l.prog) (w:=w) (base:=base) FAI T;have gPL:=Sq (P:=l.prog) (w:=w) (base:=base) (mg:=mg) OtP V T;have gTK:=Rp (P:=l.prog) (w:=w) (base:=base) (mg:=mg) OtK V T;have gTD:=Ox (P:=l.prog) (w:=w) (base:=base) (mg:=mg) OtD V T;have gSM:=Us (P:=l.prog) (w:=w) (base:=base) (mg:=mg) OhS Uh T;have gBC:=Q7 (P:=l.prog) (w:=w) (base:=base) (mg:=mg) OhB Uh T;have gPH:=SW gPL Zr V T;have gLN:=UJ gTD FLN V Uh T;have gLU:=Va gTD ZD V Uh T;have gLO:=QF gPL FLO V Uh T;have gLZ:=QW gPL FLZ V Uh T;have gLL:=RN gPL FLL V Uh T;have gLMK:=J2 gPH W2 V Uh T;have gLSK:=Kr gPL Xa V Uh T;have gLCS:C4 l.prog w K mg base aP oN 3 (b3 K (Cd C B "case")):=WM.c λ_ _ _=>kC (xp (-()));have gLW:C4 l.prog w K mg base aP qe 3 (b3 K (Cd C B "new")):=Zw.c λ_ _ _=>kC (xp (-()));have O0:=(Ak (kvs:=[("name",.ref QY),("num",.ref Ts),("op",.ref NU),("zero",.ref U5),("let",.ref S8),("make",.ref CQ),("ask",.ref En),("case",.ref Dh),("new",.ref QG)]) (Q:=λi f=>nB l.prog w K mg base 3 f (b3 K (Cd C B i))) λp hp=>by
  simp only[List.mem_cons,List.not_mem_nil,or_false] at hp;rcases hp with rfl | rfl | rfl | rfl | rfl | rfl | rfl | rfl | rfl
  .exact#[_,U,bX gLN (aaA X G aLN) ()]
  .exact#[_,U,bX gLU (aaA X G aLU) ()]
  .exact#[_,U,bX gLO (aaA X G aLO) ()]
  .exact#[_,U,bX gLZ (aaA X G ZO) ()]
  .exact#[_,U,bX gLL (aaA X G ZA) ()]
  .exact#[_,U,bX gLMK (aaA X G Yj) ()]
  .exact#[_,U,bX gLSK (aaA X G XQ) ()]
  .exact#[_,U,bX gLCS (aaA X G Ww) ()]
  .exact#[_,U,bX gLW (aaA X G Zz) ()])
 have hIm:=λ(f:Fm) (h:f.fl=true)=>zY (kvs:=[("name",.ref QY),("num",.ref Ts),("op",.ref NU),("zero",.ref U5),("let",.ref S8),("make",.ref CQ),("ask",.ref En),("case",.ref Dh),("new",.ref QG)]) (λp hp=>by
  simp only[List.mem_cons,List.not_mem_nil,or_false] at hp;rcases hp with rfl | rfl | rfl | rfl | rfl | rfl | rfl | rfl | rfl<;>exact#[_,rfl]) (KL h)
 have gDTM:=Mg DM mM O0 hIm FDTM V Uh T;have gDWA:=Mb gTK V1 V Uh T;have gDTE:=KZ gTD X5 V Uh T;have gDAL:=J0 gTK gTD W8 V Uh T;have gDBI:=MB gTK gPL WA V Uh T;have gDAS:=Kh gTK gPH X9 V Uh T;have gDCA:C4 l.prog w K mg base aP sQ 4 (b3 K (E7 C B "case")):=XF.c λ_ _ _=>kC (wR (-()));have gDRO:nB l.prog w K mg base 4 vm (b3 K (E7 C B "row")):=FDRO.imp λfd h=>#[_,kC (wR (-())),h.1.kp,h.2];have Rq:=(Ak (kvs:=[("term",.ref xI),("want",.ref DZ),("tell",.ref EO),("alike",.ref Fh),("bind",.ref Fi),("asker",.ref Eg),("case",.ref Df),("row",.ref vm)]) (Q:=λi f=>nB l.prog w K mg base 4 f (b3 K (E7 C B i))) λp hp=>by
  simp only[List.mem_cons,List.not_mem_nil,or_false] at hp;rcases hp with rfl | rfl | rfl | rfl | rfl | rfl | rfl | rfl
  .exact#[_,U,gDTM.up ()]
  .exact#[_,U,bX gDWA (aaA X G Ym) ()]
  .exact#[_,U,bX gDTE (aaA X G Xk) ()]
  .exact#[_,U,bX gDAL (aaA X G Yk) ()]
  .exact#[_,U,bX gDBI (aaA X G Yi) ()]
  .exact#[_,U,bX gDAS (aaA X G V3) ()]
  .exact#[_,U,bX gDCA (aaA X G Yo) ()]
  .exact#[_,U,gDRO.up ()])
 have N7:=λf=>zY (kvs:=[("term",.ref xI),("want",.ref DZ),("tell",.ref EO),("alike",.ref Fh),("bind",.ref Fi),("asker",.ref Eg),("case",.ref Df),("row",.ref vm)]) (λp hp=>by
  simp only[List.mem_cons,List.not_mem_nil,or_false] at hp;rcases hp with rfl | rfl | rfl | rfl | rfl | rfl | rfl | rfl<;>exact#[_,rfl]) (Nl f)
 have gLT:=QO gPL gTK DK mK Rq N7 Zv V T;have gI:Mr l.prog w K mg base "TermLook" ["self","heads","row","tables_let"] C 1 (AS K C (WU C)):=#[_,_,Ut FvtI V,#[CM1,OW,Q8,CM4],BvtI,aaA X G aC];have gKT:=NX gI gLT Z3 T;have gHD:Mr l.prog w K mg base "Heads" ["self","program"] B 2 (AS K B (Vt B)):=#[_,_,UA gMI gAI FvhI Uh T,#[BM1,RA,O7,BM4],BvhI,aaA X G aB];have gLTM:=Kl gHD gKT Xc T;have gWA:=Te gAI ZC T;have gCP:=Qf (P:=l.prog) (w:=w) (base:=base) (mg:=mg) OcP Zc T;have gCR:=N9 (P:=l.prog) (w:=w) (base:=base) (mg:=mg) OcR Zc T;have gCH:=Tt (P:=l.prog) (w:=w) (base:=base) (mg:=mg) OcH Zc T;have gTT:=OH (P:=l.prog) (w:=w) (base:=base) FTT T;have gCN:=Pu (B:=B) gCR Z8 Zc T;have gCU:=QI (B:=B) gCR FCU Zc T;have gCO:=P8 (B:=B) gCP gTT FCO Zc T;have gCZ:=Tu (B:=B) gCP gTT FCZ Zc T;have gCL:=O8 (B:=B) gCP FCL Zc T;have gCK:=TV gCP gTT gSM FCK Zc Uh T;have gCA:=RM (B:=B) gCP gTT FCA Zc T;have hCm:=(Ak (kvs:=[("name",.ref Oc),("num",.ref Um),("op",.ref Sm),("zero",.ref Qq),("let",.ref Qr),("make",.ref P5),("ask",.ref U4)]) (Q:=λi f=>nB l.prog w K mg base 3 f (b3 K (Dm Y B i))) λp hp=>by
  simp only[List.mem_cons,List.not_mem_nil,or_false] at hp;rcases hp with rfl | rfl | rfl | rfl | rfl | rfl | rfl
  .exact#[_,U,bX gCN (aaA X G aCN) ()]
  .exact#[_,U,bX gCU (aaA X G ZG) ()]
  .exact#[_,U,bX gCO (aaA X G Zy) ()]
  .exact#[_,U,bX gCZ (aaA X G ZV) ()]
  .exact#[_,U,bX gCL (aaA X G Zp) ()]
  .exact#[_,U,bX gCK (aaA X G ZM) ()]
  .exact#[_,U,bX gCA (aaA X G Z5) ()])
 have hIn:=λ(f:Fm) (h:f.fl=true)=>zY (kvs:=[("name",.ref Oc),("num",.ref Um),("op",.ref Sm),("zero",.ref Qq),("let",.ref Qr),("make",.ref P5),("ask",.ref U4)]) (λp hp=>by
  simp only[List.mem_cons,List.not_mem_nil,or_false] at hp;rcases hp with rfl | rfl | rfl | rfl | rfl | rfl | rfl<;>exact#[_,rfl]) (EY h)
 have gDTC:=KC DN mN hCm hIn FDTC Zc T;have gDRC:=Kc (B:=B) gCR FDRC Zc T;have gDSC:=Mh (B:=B) gCR gCH gCP Wv Zc T;have gDOC:=My (B:=B) gCR gCH gCP Wa Zc T;have gDJC:=Kw (B:=B) gCH Xx Zc T;have hCk:=(Ak (kvs:=[("term",.ref xJ),("row",.ref xo),("split",.ref FQ),("other",.ref Dp),("join",.ref Dn)]) (Q:=λi f=>nB l.prog w K mg base 4 f (b3 K (Gu Y B i))) λp hp=>by
  simp only[List.mem_cons,List.not_mem_nil,or_false] at hp;rcases hp with rfl | rfl | rfl | rfl | rfl
  .exact#[_,U,gDTC.up ()]
  .exact#[_,U,gDRC.up ()]
  .exact#[_,U,bX gDSC (aaA X G Yr) ()]
  .exact#[_,U,bX gDOC (aaA X G XU) ()]
  .exact#[_,U,bX gDJC (aaA X G WB) ()])
 have hIl:=λf=>zY (kvs:=[("term",.ref xJ),("row",.ref xo),("split",.ref FQ),("other",.ref Dp),("join",.ref Dn)]) (λp hp=>by
  simp only[List.mem_cons,List.not_mem_nil,or_false] at hp;rcases hp with rfl | rfl | rfl | rfl | rfl<;>exact#[_,rfl]) (R5 f)
 have gCT:=QD gCH gCP DL mL hCk hIl FCT Zc T;have gCI:Mr l.prog w K mg base "Coding" ["self","program"] Y 4 (AS K Y (UO Y B)):=#[_,_,Rh gHD gWA FvcI Zc,#[YM1,Qm,Sh,YM4],BvcI,aaA X G aY];have gCC:=Pe gBC gCT FCC Zc Uh T;have gCB:=Sv gCC FCB Zc Uh T;have gCS:=Sk gCB FCS Zc Uh T;have gCF:=ON gCI gLTM gCT gCS FCF Zc T;have gNB:=TU (P:=l.prog) (w:=w) (base:=base) Zx T;exact MW gPq gCF (Ul (P:=l.prog) (w:=w) (base:=base) Z2 T) (Qs gNB ZX T) (Ou gNB FLR T) (LA (P:=l.prog) (w:=w) (base:=base) FDe T) FLa T
theorem walk{l:PySem.W.OpenLaw}{q:Fa}{loose:!Str}{XP:(Str->Option AT)->Db->Prop}{YP:FB->Db->Prop}{d:DefRec}{K:TD->Frag}(hn:l.most=some 63)(Ku:d.params.defaults=[])(hY:∀ (w:FB) (h:Db),YP w h->(K w.params).In h)(F:∀ (w:FB) (mg:Str->Option AT) (fa:AC) (h:Db),(K w.params).In h->h.Ns GM mg->mg d.name=some (.ref fa) ->
   ∃ fd:Go,(∀ (s:Cl) (u:AT),BindsTo s fd #[[u],[]] [("_law_script",u)])/\∀ base:Db,(K w.params).In base->base.Ns GM mg->bZ l.prog w (K w.params) mg base aP 62 fa fd ["_law_script"] (AZ (K w.params))) :
  PySem.W.WalkO q loose XP YP l.row.toRowW d [] (λf vs=>PySem.call f vs) :=
 L2.Hg (n:=63) (k:=62) (x:="_law_script") (CX:=λ_=>aP) (sp:=λw=>AZ (K w.params)) hn () Ku #[U,by decide,by decide] hY F (λ_ _ a ns hl _ hS=>#[a,ns,U,hS,hl,λ_=>rfl]) λ_ _ _ _ _ z=>z
end F2
end
end
end
section
local macro_rules
 | `(#check [$n,*])=>do return Lean.mkNullNode (<-n.getElems.mapM fun x=>`(command|theorem $(Lean.mkIdent (.mkSimple s!"tw{x.raw.isNatLit?.get!}")):ident :True:=trivial))
namespace PySem.W.Fast
#check [11228221157387326253,11417962233655279784,10348020485426824406,12795635758135460141,6275414093760829330,8627022999527431776,16688261844508069221,5977614447662795734,8836331461596780945,2900073901988143678,3470737423193408472,4423743471360931381,6042282061929605794,8878811520339559218,15046161472175784663,14708995581841555288,7539285197269635097,16373223477708894329,12842637275687951335,17607646473155712923,15367194945595881294,7461645322930602709,4354744937523325276,5895988238420713358,4295014213357316729,8621653922476347096,3805338643228304168,14694099761267132122,4108624565395285002,15150364530259733883,6192655425506827068,13584145063680605994,16782688557694706976,14363720895807271419,2103075705340586848,10028194346870582816,9754953088914318454,18077054554621009673,7497877763087317439,540902448991337292,2286375242375015606,9504195961285047645,17933301734548625303,10750288592384708738,15322168142918125244,5021032735491923329,545790437262140343,11928358642170967383,3361777964779297566,54302165078423933,978212467193907508,12984231643599958026,15895811194833533652,1905654268002155575,14362476173196744296,6649630754729680273,5652950791768173576,6297355829586332678,1738406399262840970,18262161528387921415,11094527386840514285,4735746267941607375,5620886069111644875,5737317051979039505,6274570284994608225,16304112322258093830,17833245209721636876,10228403439816359321,12003314680632392203,4678134347427339576,15001245944564554637,13014584714683795308,4322905282593955496,8216647471290993417,12834341603569438846,11134220752697601391,1856784627440221321,15088231810965612967,999887882130371802,8998979481108869110,6602078815223570335,419363471280468917,9447893549110487161,6919174144528944550,6899582348689714214,13096497787780799650,4628251226481840323,3446874862705267059,12077934799444753889,7381753791433461854,8183192820092399350,11530324767031036249,13773773099697222873,9898461825490614673,12491277841322869153,15832194048368648360,11110672127712547975,5164296342145137394,5961684933312093809,17379055634803800785,7364765478788730080,2314872167360284874,1886107669823667133,2313486348472379739,11041826085581847554,8738025540702931527,3442576407853401683,1742732811615295812,10798628595742194054,1870865279747532578,16159451366055332255,9379669198314341384,5307531803400325184,2184737735958948579,12548413374729110121,407371380214159635,9515038038867495173,425362983657403,15543313352013687644,12198829963578099810,11661086641967395377,13395955545726205973,11704238736420776901,412609224546669050,13867248284680052557,9775250340738110600,13170362559346212597,827282252966396822,5620364158189971736,3206661930352731592,11392661276537174008,11913683000870584750,4114915169316281292,11961768835882153016,9120485802417841885,1762376617724539899,10190087963680048423,7594304576851932736,970736333686636963,1089810769062519291,7565503222304974443,8073814621064550179,14054807350571593791,6823945166603375933,16569135900988023842,3752478054208381240,664430182735758792,18356444013278711531,17008372387111792423,13437897821103766568,16603868824852923881,16129984957237923717,12786857977197114492,4667981733759093830,13581992810366175082,10529789690443045588,4464213128502645237,11317699501068761284,17413083360250641927,7213720747978321753,3365939644041130373,6634735942167115465,17967099600568103620,10971453474871449492,9366554889995709451,1979062035890305576,1796912777251289188,11285517525202588236,6323922480721395181,18403467430637418483,14966333128605786946,15621709168612656617,15877499433438466338,3330862780755830800,1848338949078880896,10283173656446280816,231191668175401541,2325079073296080509,9677120135659945233,9334900258376284262,9349819962593526579,17849345109133169125,12395317818014364826,522711194633298482,13476256057983772713,6096994306621298286,9009420236729088698,9216229712174836998,17677115408526481085,1106341945261397021,1522887366139513882,4023308221603685704,12638437028693668632,14391303050090995317,9632185745644346298,10572756550871901403,11053913523507982754,14923706767777549143,14393492513546177880,6859283627202147427,27504619379893280,11830682484208463212,10548582995977453197,1944004502611833512,14853993498746405693,8100326044547976775,1679984183532441204,18275690175030917217,4808331920175189459,16880826024455713867,11474099654201215110,5871729463698263230,11797422775673986423,11973236993720474894,5747961077513265638,11732105816613763756,5294630829542229083,17270810904620942050,14614711882407985388,9628166750177229702,2109366239725300066,5300766185572760366,5722160348087878550,15018020372213445724,6310203052779202940,17551730426918905429,17938823919204729640,18063101599438271460,6312036861666176849,12335911876418285522,5429288529727912412,4507838141999681756,9277662773770454241,4907973660977373976,8886299781073875748,11004258237485851693,957875750126094699,869690914030906346,7183911086236461118,5363685806656691408,11058875676894054591,18167260750117788320,6914192862000639424,17197230364471350817,13468670360999611845,5066475384566758017,3422415723512180821,5451687889086274970,10713370002594019654,16951348494030766987,8586250921154958695,2228493106962973809,2652542313621593853,590178525904277752,11212459510564609802,317697969308531919,3419994743081566262,1932055167156430090,10148227892999179644,11692578986716498762,6563733223813722299,10333645860100973438,3042286515660811597,8814417951680521903,5245699196183486390,15622384814138002621,4655232951160861474,4889588925998891410,14522933763991257827,9236221981966364440,11932869340407271386,17403981830214370000,16088275463981037223,7119489093358946680,11388730622639304270,15244351425304874482,3824338061318869715,6338991219377196174,9507620147151464251,13996970759921564236,11754934104730018074,11927911746819576012,4865094700141319455,6394092593631029010,6575316190836265273,8611963061758074997,9797340731627248085,14638838623541945151,3051407472469963067,5021086542055661950,17368202440815043885,8937657608052057563,13568615018586305999,11203899561984781484,17863276728804126360,14449644187258407161,3655744814719981515,7806645387596506187,15624478770456123415,15398653270256943189,3810892118168165073,13634849924448160092,11849747895669928654,17525915071791514589,17713389386167436387,10235566415171045957,3405864603232782365,11256448161889017484,17991169691681464194,5056815595794208284,17946451940783338952,7681238174003127911,9020563836181220383,5426036248286027216,1547070768509977147,9296996088687113443,13262561619603095748,4623449913891396831,8512047405074884644,491340599935908622,9849233149609931074,6326970251331575147,10810754079892131145,11957552998034308656,6961661975561630777,16659672670155474614,16657888731810780000,8170210638609458198,7241743747012442924,16402904443935560589,14184034558727124199,1422063652696361615,3861776070748187995,2140823691232238383,1897372773258479615,8110753557145730586,8344926894608823468,7712060902141741910,12979539623692050288,17673211773504960627,4003547396417267386,14652088447683766544,6316119645391147241,9773475748044490966,8439514900751777780,4048249094534578974,18184844887259420526,17817582449912131704,3692388051126562790,436715220620696093,662678805389148655,2911941233149485820,15051502410423171430,179682258725221812,11342966961786024358,10198513136903289117,2826202032696808636,3628991581937879069,12269140953760444560,14088615795418371864,5128435723207902795,7192013741193883930,13496618617331391734,12292497544581727436,8929119915523919498,636058475213815983,10851256174914562868,5764175128187553049]
end PySem.W.Fast
end
open PySem PySem.W PyProof.Rows
set_option maxHeartbeats 0 in
theorem PySem.Challenge.cw_sideturn_k39_what_code_is_holds : PySem.Challenge.rw_sideturn_k39_what_code_is.Holds := by
 w_on;o_law;k_head;(case hw=>w_witness2)
 k_fill
 refine F2.walk (l:=PySem.Challenge.rw_sideturn_k39_what_code_is) U U (λw h Y=>PySem.W.kIn_of Y) ?F
 case F =>
  intro w mg fa h KX G hmg
  refine' F2.all_mk KX G hmg _ _ _ _ _ _ _ _ _ _ _ _ _ _ _ _ _ _ _ _ _ _ _ _ _ _ _ _ _ _ _ _ _ _ _ _ _ _ _ _ _ _ _ _ _ _ _ _ _ _ _ _ _ _ _ _ _ _ _ _ _ _ _ _ _ _ _ _ _ _ _ _ _ _ _ _ _ _ _ _ _ _ _ _ _ _ _ _ _ _ _ _ _ _ _ _ _ _ _ _ _ _ _ _ _ _ _ _ _ _ _ _ _ _ _ _ _ _ _ _ _ _ _ _ _ _ _ _ _ _ _ _ _ _ _ _ _ _ _ _ _ _ _ _ _ _ _ _ _ _ _ _ _ _ _ _ _ _ _ _ _ _ _ _ _ _ _ _ _ _ _ _ _ _ _ _ _ _ _ _ _ _ _ _ _ _ _ _ _ _ _ _ _ _ _ _ _ _ _ _ _ _ _ _ _ _ _ _ _ _ _ _ _ _ _ _ _ _ _ _ _ _
  all_goals try (refine' DL.KJ KX G ?a ?l ?c ?k ?b;(case a=>k_is);(case l=>k_is);(case c=>k_is);(case k=>k_is);(case b=>intro _ _ _ _ _ _ us hl;first | (obtain⟨_,rfl⟩:=F2.SF hl;rfl) | (obtain⟨_,_,rfl⟩:=F2.zS hl;rfl) | (obtain⟨_,_,_,rfl⟩:=F2.Yq hl;rfl) | (obtain⟨_,_,_,_,rfl⟩:=F2.X8 hl;rfl) | (obtain⟨_,_,_,_,_,rfl⟩:=F2.us5 hl;rfl)))
  all_goals try first | k_is | rfl
  all_goals (repeat (first | exact .nil | refine .cons ⟨_,U⟩ rfl U ?_))
