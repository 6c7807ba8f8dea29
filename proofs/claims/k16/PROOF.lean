import PyProof.Rows.All
import Wide.All
import OpenK.AllK
import Wide.FinOn
import Lean
import PyProof.EqAt
import PyProof.EqKinds
import PyProof.TupleCall
import PyProof.ZipIter
import PyProof.NeData
import PyProof.Draws
import PyProof.EnumMake
import PyProof.IsiHeapPairs
import PyProof.IsiNone
import PyProof.ConsumeWalk
import PyProof.TupleOfStr
import PyProof.DictWalks
import KE.KDictSum
import KE.KDictOf
import PyProof.IsiH_list
import PySem.Challenge.RW_sideturn_k16_values_and_their_texts
set_option genSizeOf false
set_option genInjectivity false
set_option Elab.async false
set_option linter.all false
set_option maxRecDepth 100000
set_option maxHeartbeats 8000000
open Lean in
def cv:Nat->Term->MacroM (TSyntax `rcasesPat)
 |0,_=>Macro.throwUnsupported
 |n+1,t=>do match t with
  |`(($a,$b,*))=>let p<-(#[a]++b.getElems).mapM (cv n);`(rcasesPat|⟨$[$p:rcasesPat],*⟩)
  |`($x:ident)=>`(rcasesPat|$x:ident)
  |`(_)=>`(rcasesPat|_)
  |`(())=>`(rcasesPat|⟨⟩)
  |_=>Macro.throwUnsupported
section
local macro_rules
 | `(tactic|let ($a,$b,*):=$e)=>do `(tactic|obtain $(<-cv 9 (<-`(($a,$b,*)))):rcasesPat:=$e)
local macro_rules
 | `(#[$a,*])=>`(⟨$a,*⟩)
local macro_rules
 | `(#v[$a,*])=>`(List.toArray [$a,*])
local macro_rules
 | `(↑$s)=>`(($s).heap.objs.size)
local macro_rules
 | `(tactic|cbv)=>`(tactic|first|with_reducible assumption|with_reducible exact Nat.le_refl _|with_reducible exact Nat.lt_succ_self _|lia|omega)
local macro_rules
 | `(tactic|ac_nf)=>`(tactic|first|exact .inl rfl|exact .inr rfl|assumption)
local macro_rules
 | `(tactic|ac_rfl)=>`(tactic|first|decide|cbv)
local macro_rules
 | `(command|def $i:declId $s:optDeclSig $v:declVal)=>`(command|noncomputable def $i:declId $s:optDeclSig $v:declVal)
local macro_rules
 | `(command|abbrev $i:declId $s:optDeclSig $v:declVal)=>`(command|noncomputable abbrev $i:declId $s:optDeclSig $v:declVal)
local macro_rules
 | `(!$x)=>`(List $x)
local macro_rules
 | `(tactic|show $t)=>`(tactic|refine $t)
open PySem renaming Addr→AC,Value→AT,wpAny_bind→Ch,Expr→Cl,Shared→Da,wpAny→Db,Heap→EQ,sizeLine→Ev,wpAny_pure→FB,Stmt→FM,Builtin→FS,World→Fa,Around→Fk,Program→Fr,PyData→GE,starEach→GM,FuncData→GT,mainGlobals→Gc,NameKind→Go,compareOp→IN,backTo→IR,IsPair→Ix,wpAny_field→KB,rawInt→KF,wpAny_mono→KM,wpAny_holding→NE,wpAny_seqItems→Os,wpAny_newObj_type→PP,Keyword→Ps,binaryOp→P3,sysModules→Re,backToKw→Rs,keywordEach→SC,wpAny_call_entry→SL,Params→ST,DictEntry→SZ
local macro_rules
 | `(())=>`(by decide)
theorem TD(h:True:=by rfl):True:=h
theorem TW(h:True:=by decide):True:=h
local macro_rules
 | `($x⁻¹)=>`(autoParam $x TD._auto_1)
local macro_rules
 | `(~~~$x)=>`(autoParam $x TW._auto_1)
open PySem.W (Frag nsIn findIn keepIn typeIn kitOne fnOf kitAny codeIn InstAt Looks specialIn)
section
open PySem
def Ss:=@List.length_map
def Su:=@EQ.get?_push_of_some
def Sv:=@List.length_append
def Sw:=@List.getElem?_eq_some_iff
def Sx:=@Nat.le_refl
def Sy:=@List.mem_cons_of_mem
def Sz:=@List.map_append
def SA:=@List.map_cons
def SD:=@List.mem_cons_self
def SE:=@EQ.lt_size
def SF:=@List.mem_singleton
def SG:=@List.length_cons
def SH:=@EQ.get?_push_size
def SI:=@Nat.le_trans
def SJ:=@List.getElem?_eq_getElem
def SK:=@Bool.false_ne_true
def SM:=@List.getElem?_set_ne
def SN:=@List.mem_append
def SO:=@List.mem_cons
def SQ:=@List.size_toArray
def SR:=@Nat.ne_of_lt
def SU:=@List.mem_map_of_mem
def SV:=@List.mem_map
def SW:=@Nat.lt_of_lt_of_le
def SX:=@List.nil_append
def SY:=@List.append_nil
def S0:=@List.append_assoc
def S3:=@Nat.zero_le
def S4:=@Option.some.inj
def S5:=@List.mem_append_right
def S6:=@List.map_map
def S7:=@List.getElem?_set_self
def S8:=@PySem.W.mg_none_of
def S9:=@EQ.get?_update_other
def Ta:=@List.mem_of_getElem?
def Tb:=@List.getElem?_map
def Tc:=@PySem.F.slot_list_pop
def Td:=@PySem.F.type_list_pop
def Te:=@Option.map_eq_some_iff
def Tf:=@EQ.get?_update_self
def Tg:=@List.drop_eq_getElem_cons
def Th:=@EQ.size_push
def Ti:=@List.length_drop
def Tj:=@List.length_filter_le
def Tn:=@Str.length_append
def To:=@List.nodup_append
def Tp:=@List.mem_append_left
def Tq:=@List.mem_of_mem_take
def Tr:=@Bool.and_eq_true
def Ts:=@List.length_take
def Tt:=@List.map_nil
def Tu:=@List.exists_cons_of_ne_nil
def Tv:=@List.take_sublist
def Tw:=@List.reverse_cons
def Tx:=@PySem.mem_of_lookup
def Tz:=@List.getElem_of_mem
def TB:=@List.mem_filter
def TC:=@List.length_set
def TF:=@List.getElem?_append_left
def TH:=@List.all_eq_true
def TK:=@List.of_mem_zip
def TL:=@Nat.lt_irrefl
def TM:=@List.getElem?_append_right
def TN:=@Int.emod_lt_of_pos
def TQ:=@Option.isSome_iff_exists
def TR:=@Int.emod_nonneg
def TU:=@List.flatMap_cons
def TV:=@List.eq_nil_of_length_eq_zero
def TX:=@PySem.F.plainAttrs_list
def TY:=@List.lookup_cons
def TZ:=@List.drop_drop
def T1:=@PySem.StrLaws.glued_eq_join
def T2:=@List.nodup_cons
def T3:=@List.take_append_drop
def T4:=@List.any_cons
def T5:=@List.sum_cons
def T6:=@List.length_range
def T7:=@List.Sublist.refl
def T8:=@List.mem_range
def T9:=@PySem.F.slot_list_extend
def Ua:=@PySem.F.type_list_extend
def Ub:=@List.length_pos_iff
def Uc:=@List.length_reverse
def Ud:=@List.getElem?_drop
def Ue:=@Int.natCast_add
def Ug:=@List.take_add_one
def Uh:=@Int.toNat_natCast
def Ui:=@Nat.ne_of_gt
def Uj:=@Array.getElem?_toList
def Uk:=@List.drop_zero
def Ul:=@PySem.boot_len
def Um:=@List.getElem_inj
def Uo:=@List.map_reverse
def Up:=@List.mem_of_mem_drop
def Uq:=@Nat.mul_le_mul_right
def Ur:=@List.getElem?_of_mem
def Us:=@List.nodup_iff_pairwise_ne
def Ut:=@Nat.le_succ
def Uu:=@List.map_congr_left
def Uv:=@Int.toNat_of_nonneg
def Uw:=@List.Sublist.append
def Ux:=@Bool.eq_iff_iff
def Uy:=@Int.ediv_nonneg
def Uz:=@Nat.le_of_eq
def UA:=@PySem.W.callWith_K
def UB:=@PySem.F.slot_list_append
def UC:=@PySem.F.type_list_append
def UD:=@List.map_singleton
def UE:=@List.append_cancel_left
def UG:=@Int.eq_ofNat_of_zero_le
def UH:=@List.all_cons
def UI:=@List.getElem_mem
def UJ:=@List.drop_length
def UK:=@Nat.le_add_right
def UL:=@List.map_fst_zip
def UM:=@List.mem_flatMap
def UN:=@Int.ediv_le_self
def UO:=@List.length_zip
end
open PySem in
abbrev UP:=AT->Da->Prop
open PySem in
abbrev UQ:=!(AC×Obj)
open PySem in abbrev US (N:Env)(e:Cl)(r:!Cl):Prop:=GM (e::r) N=(false,eval e N)::GM r N
open PySem in abbrev UT (N:Env)(p:Pos)(r:!Cl):Prop:=(IR p (GM r N)).any (·.1)=false
open PySem in abbrev UU (x:Str):Prop:=(x == ("__debug__":Str))=false
theorem U.{u}{α:Sort u}{a:α}:a=a:=rfl
namespace L2
open PySem PySem.Spec PyProof.Rows
abbrev Key:=Sum Int Str
def pP:Key->AT->Bool
 | .inl k,v=>AT.isInt k v
 | .inr x,v=>AT.isStrOf x v
def OB(w:Fa):Key->Int
 | .inl k=>hashInt k
 | .inr x=>hashStr w x
theorem bR:∀ {k:Key} {v:AT},pP k v=true->(∃ i t,k=Sum.inl i/\v=AT.int i t)\/(∃ x t,k=Sum.inr x/\v=AT.str x t)
 | .inl i,v,h=>by
  let(t,e):=AT.isInt_shape (k:=i) (v:=v) h;exact .inl #[i,t,U,e]
 | .inr x,v,h=>by
  let(t,e):=AT.isStrOf_shape (x:=x) (v:=v) h;exact .inr #[x,t,U,e]
theorem yp(i:Int)(t:Tok):pP (.inl i) (.int i t)=true:=by simp[pP,AT.isInt]
theorem yB(x:Str)(t:Tok):pP (.inr x) (.str x t)=true:=by simp[pP,AT.isStrOf]
theorem FT(a b:Int):decide ((Sum.inl a:Key)=Sum.inl b)=(a == b):=by
 by_cases e:a=b
 .subst e;simp
 .have h:¬ (Sum.inl a:Key)=Sum.inl b:=λq=>e (Sum.inl.inj q);rw[decide_eq_false h];exact (beq_eq_false_iff_ne.mpr e).symm
theorem He(a b:Str):decide ((Sum.inr a:Key)=Sum.inr b)=decide (a=b):=by
 by_cases e:a=b
 .subst e;simp
 .have h:¬ (Sum.inr a:Key)=Sum.inr b:=λq=>e (Sum.inr.inj q);rw[decide_eq_false h,decide_eq_false e]
theorem GW(a:Int)(b:Str):decide ((Sum.inl a:Key)=Sum.inr b)=false:=decide_eq_false (λq=>nomatch q)
theorem GA(a:Str)(b:Int):decide ((Sum.inr a:Key)=Sum.inl b)=false:=decide_eq_false (λq=>nomatch q)
def b8(prog:Fr)(w:Fa):PySem.KeyKind prog w Key where
 is:=pP
 hash:=OB w
 inj:=λv a b ha hb=>by
  rcases bR ha with ⟨i,t,rfl,rfl⟩ | ⟨x,t,rfl,rfl⟩
  .rcases bR hb with ⟨j,u,rfl,e⟩ | ⟨y,u,rfl,e⟩
   .injection e with e1 _;rw[e1]
   .exact nomatch e
  .rcases bR hb with ⟨j,u,rfl,e⟩ | ⟨y,u,rfl,e⟩
   .exact nomatch e
   .injection e with e1 _;rw[e1]
 byValue:=λk v h=>by
  rcases bR h with ⟨i,t,rfl,rfl⟩ | ⟨x,t,rfl,rfl⟩<;>rfl
 pyHash:=λhv h=>by
  rcases bR hv with ⟨i,t,rfl,rfl⟩ | ⟨x,t,rfl,rfl⟩
  .exact wpAny_pyHash_int h
  .exact wpAny_pyHash_str h
 eqBool:=λhu hv h=>by
  rcases bR hu with ⟨i,t,rfl,rfl⟩ | ⟨x,t,rfl,rfl⟩
  .rcases bR hv with ⟨j,u,rfl,rfl⟩ | ⟨y,u,rfl,rfl⟩
   .rw[FT] at h;exact wpAny_eqBool_int h
   .rw[GW] at h;exact SeqAt.EqAt.int_str i t y u _ _ _ _ h
  .rcases bR hv with ⟨j,u,rfl,rfl⟩ | ⟨y,u,rfl,rfl⟩
   .rw[GA] at h;exact SeqAt.EqAt.str_int x t j u _ _ _ _ h
   .rw[He] at h;exact wpAny_eqBool_str h
 «strs»:=λk x t v h=>by
  rcases bR h with ⟨i,u,rfl,e⟩ | ⟨y,u,rfl,e⟩
  .exact nomatch e
  .injection e with e1 _;subst e1;cases v<;>rfl
theorem sX(prog:Fr)(w:Fa)(i:Int)(t:Tok):(b8 prog w).is (.inl i) (.int i t)=true:=yp i t
theorem t7(prog:Fr)(w:Fa)(x:Str)(t:Tok):(b8 prog w).is (.inr x) (.str x t)=true:=yB x t
set_option genInjectivity true in inductive V where
 | bH | bl (b:Bool) | int (i:Int) | str (x:Str) | xN (b:Array UInt8) | MB (b:UInt64) | ref (a:AC) | ty (n:String)
 deriving DecidableEq
def RelV:V->AT->Prop
 | .bH,u=>u=AT.none
 | .bl b,u=>u=AT.bool b
 | .int i,u=>∃ t,u=AT.int i t
 | .str x,u=>∃ t,u=AT.str x t
 | .xN b,u=>∃ t,u=AT.bytes b t
 | .MB b,u=>∃ t,u=AT.float b t
 | .ref a,u=>u=AT.ref a
 | .ty n,u=>u=AT.type n
abbrev Vals:!V->!AT->Prop:=Paired RelV
theorem Vals.length{xs:!V}{us:!AT}(r:Vals xs us):xs.length=us.length:=Paired.length r
theorem Vals.get:∀ {xs:!V} {us:!AT} {i:Nat} {x:V},Vals xs us->xs[i]?=some x->∃ u,us[i]?=some u/\RelV x u
 | _,_,_,_,.nil,e=>by simp at e
 | _,_,0,_,.cons r _,e=>by simp at e;subst e;exact#[_,rfl,r]
 | _,_,i+1,x,.cons _ t,e=>by
  let(u,h1,h2):=Vals.get (i:=i) (x:=x) t (by simpa using e);exact#[u,by simpa using h1,h2]
theorem Vals.set{x:V}{u:AT}(r:RelV x u):∀ {xs:!V} {us:!AT} (i:Nat),Vals xs us->Vals (xs.set i x) (us.set i u)
 | _,_,_,.nil=>.nil
 | _,_,0,.cons _ t=>.cons r t
 | _,_,i+1,.cons q t=>.cons q (Vals.set r i t)
theorem Vals.append:∀ {xs ys:!V} {us ws:!AT},Vals xs us->Vals ys ws->Vals (xs++ys) (us++ws)
 | _,_,_,_,.nil,s=>s
 | _,_,_,_,.cons r t,s=>.cons r (Vals.append t s)
theorem Vals.take:∀ {xs:!V} {us:!AT} (n:Nat),Vals xs us->Vals (xs.take n) (us.take n)
 | _,_,0,_=>.nil
 | _,_,_+1,.nil=>.nil
 | _,_,n+1,.cons r t=>.cons r (Vals.take n t)
theorem Vals.drop:∀ {xs:!V} {us:!AT} (n:Nat),Vals xs us->Vals (xs.drop n) (us.drop n)
 | _,_,0,r=>r
 | _,_,_+1,.nil=>.nil
 | _,_,n+1,.cons _ t=>Vals.drop n t
def jq:Option V->Option AT->Prop
 | some v,some u=>RelV v u
 | none,none=>True
 | _,_=>False
def KV{κ:Type}:!(κ×V)->!(κ×AT)->Prop:=Paired λ(p:κ×V) (q:κ×AT)=>p.1=q.1/\RelV p.2 q.2
def kV:Key->V
 | .inl i=>.int i
 | .inr x=>.str x
inductive HO where
  | lst (xs:!V)
  | tup (xs:!V)
  | dK (kvs:!(Key×V)) | dT (kvs:!(!Key×V))
  | set (S:Int->Bool) (n:Nat)
  | ins (C dx:AC) (fs:!(Str×V))
  | own (x:AC)
  | xd (fs:!(Str×V))
  | met (f x:AC)
  | Pt (lo hi:Int)
  | ja (o:Obj) (u:HO)
  | Fh (ps:Array AT)
  | ext (φ:EQ->Prop)
abbrev Hp:=AC->Option HO
def upd(H:Hp)(a:AC)(o:HO):Hp:=λb=>if b=a then some o else H b
theorem ay{H:Hp}{a:AC}{o:HO}:upd H a o a=some o:=by unfold upd;rw[if_pos U]
theorem av{H:Hp}{a b:AC}{o:HO}(h:b≠a):upd H a o b=H b:=by unfold upd;rw[if_neg h]
theorem qQ{H:Hp}{a:AC}{o u:HO}:upd (upd H a o) a u=upd H a u:=by
 funext b;unfold upd;split<;>rfl
theorem D8{H:Hp}{a b:AC}{o u:HO}(h:H a=some o)(h':H b=some u)(d:o≠u):a≠b:=by
 intro e;subst e;rw[h] at h';exact d (S4 h')
theorem aE{H:Hp}{a b:AC}{o:HO}(h:H a=some o)(h':H b=none):a≠b:=by
 intro e;subst e;rw[h] at h';cases h'
def iI(h:EQ)(a:AC)(items:Array AT):Prop:=∃ o,h.get? a=some o/\o.cls=.type "tuple"/\∃ n,o.data=.seq items n/\o.dict=none
theorem iI.tup{h:EQ}{a:AC}{items:Array AT}(x:iI h a items):IsTup h a items:=let #[o,e,c,n,d,_]:=x;#[o,e,c,n,d]
theorem iI.new(h:EQ)(items:Array AT):iI (h.push { cls:=.type "tuple",data:=.seq items }) h.objs.size items:=#[_,SH _ U,U,_,U,U]
section
variable(P:Fr)(w:Fa)
def bQ(H:Hp)(h:EQ)(a:AC):HO->Prop
 | .lst xs=>xs.length<=Ev/\∃ (its:!AT) (n:Nat),Vals xs its/\h.get? a=some { cls:=.type "list",data:=.seq its.toArray n }
 | .tup xs=>xs.length<=Ev/\∃ its:!AT,Vals xs its/\iI h a its.toArray
 | .dK kvs=>kvs.length<=Ev/\(a == Re)=false/\∃ vs,KV kvs vs/\h.DictOf (b8 P w) a vs
 | .dT kvs=>kvs.length<=Ev/\(a == Re)=false/\∃ xs:!(!Key×AC×AT),
   Paired (λ(p:!Key×V) (q:!Key×AC×AT)=>p.1=q.1/\H q.2.1=some (.tup (p.1.map kV))/\RelV p.2 q.2.2) kvs xs /\
   ∃ o es ep,h.get? a=some o/\o.ExactDict/\o.data=.dict es ep/\es.toList=xs.map (entryOfKey (tupleKind (b8 P w)))/\(xs.map (·.1)).Nodup
 | .set S n=>h.SetOf (intKind P w) a S n
 | .ins C dx fs=>H dx=some (.own a)/\fs.length<=1000/\dx≠a/\h.get? a=some (PySem.W.instObj C dx) /\
   ∃ mA,h.Ns1 dx mA/\(∀ f,jq (fs.lookup f) (mA f))/\PySem.Within mA (fs.map (·.1))
 | .own _=>∃ o,h.get? a=some o
 | .xd fs=>∃ mA,h.Ns1 a mA/\∀ f,jq (fs.lookup f) (mA f)
 | .Pt lo hi=>∃ t u v,h.get? a=some { cls:=.type "range",data:=.fields #v[.int lo t,.int hi u,.int 1 v] }
 | .ja o u=>h.get? a=some o/\bQ H h a u
 | .Fh ps=>h.get? a=some { cls:=.none,data:=.fields ps }
 | .met f x=>h.get? a=some (PySem.W.methodObj (.ref f) (.ref x))
 | .ext φ=>φ h/\(∃ o,h.get? a=some o)/\∀ h1 h2:EQ,φ h1->(∀ o,h1.get? a=some o->h2.get? a=some o)->φ h2
def jV(H:Hp)(h:EQ):Prop:=∀ a o,H a=some o->bQ P w H h a o
end
section
variable{P:Fr}{w:Fa}{H H':Hp}{h h':EQ}{a:AC}{o:HO}
theorem bQ.lt(x:bQ P w H h a o):a < h.objs.size:=by
 cases o with
 | lst xs=>let(_,_,_,_,e):=x;exact SE e
 | tup xs=>let(_,_,_,p):=x;exact p.tup.lt
 | dK kvs=>let(_,_,_,_,o,_,_,e,_):=x;exact SE e
 | dT kvs=>let(_,_,_,_,o,_,_,e,_):=x;exact SE e
 | set S n=>let(o,_,_,_,e,_):=x;exact SE e
 | ins C dx fs=>let(_,_,_,e,_):=x;exact SE e
 | own y=>let(_,e):=x;exact SE e
 | xd fs=>let(_,(_,_,_,e,_),_):=x;exact SE e
 | Pt lo hi=>let(_,_,_,e):=x;exact SE e
 | ja ob u=>let(e,_):=x;exact SE e
 | Fh ps=>exact SE (show h.get? a=some _ from x)
 | met f y=>exact SE (show h.get? a=some _ from x)
 | ext φ=>let(_,(_,e),_):=x;exact SE e
theorem Paired.yJ{α β:Type}{F G:α->β->Prop}:∀ {l₁:!α} {l₂:!β},Paired F l₁ l₂->(∀ a b,F a b->G a b)->Paired G l₁ l₂
 | _,_,.nil,_=>.nil
 | _,_,.cons r t,f=>.cons (f _ _ r) (Paired.yJ t f)
theorem bQ.uv(x:bQ P w H h a o)(k:∀ b u,(b=a\/H b=some (.own a))->h.get? b=some u->h'.get? b=some u)(ho:∀ b,H b=some (.own a)->H' b=some (.own a))(ht:∀ b xs,H b=some (.tup xs)->H' b=some (.tup xs)):bQ P w H' h' a o:=by
 induction o with
 | lst xs=>let(z,its,n,r,e):=x;exact#[z,its,n,r,k _ _ (.inl U) e]
 | tup xs=>let(z,its,r,ob,e,c):=x;exact#[z,its,r,ob,k _ _ (.inl U) e,c]
 | dK kvs=>let(z,y,vs,r,ob,es,ep,e,c):=x;exact#[z,y,vs,r,ob,es,ep,k _ _ (.inl U) e,c]
 | dT kvs =>
  let(z,y,xs,r,ob,es,ep,e,c):=x;exact#[z,y,xs,Paired.yJ r λp q z=>#[z.1,ht _ _ z.2.1,z.2.2],ob,es,ep,k _ _ (.inl U) e,c]
 | set S n=>let(ob,es,ep,t,e,c):=x;exact#[ob,es,ep,t,k _ _ (.inl U) e,c]
 | ins C dx fs =>
  let(d,z,ne,e,mA,(od,es,ep,e2,c),r):=x;exact#[ho _ d,z,ne,k _ _ (.inl U) e,mA,#[od,es,ep,k _ _ (.inr d) e2,c],r]
 | own y=>let(ob,e):=x;exact#[ob,k _ _ (.inl U) e]
 | xd fs=>let(mA,(od,es,ep,e,c),r):=x;exact#[mA,#[od,es,ep,k _ _ (.inl U) e,c],r]
 | Pt lo hi=>let(t,u,v,e):=x;exact#[t,u,v,k _ _ (.inl U) e]
 | ja ob u ih=>let(e,q):=x;exact#[k _ _ (.inl U) e,ih q]
 | Fh ps =>
  have e:h.get? a=some { cls:=.none,data:=.fields ps }:=x;change h'.get? a=some { cls:=.none,data:=.fields ps };exact k a _ (.inl U) e
 | met f y =>
  have e:h.get? a=some (PySem.W.methodObj (.ref f) (.ref y)):=x;change h'.get? a=some (PySem.W.methodObj (.ref f) (.ref y));exact k a _ (.inl U) e
 | ext φ=>let(p,(o,e),st):=x;exact#[st _ _ p λo q=>k _ _ (.inl U) q,#[o,k _ _ (.inl U) e],st]
theorem jV.lt(x:jV P w H h)(e:H a=some o):a < h.objs.size:=(x a o e).lt
theorem jV.fresh(x:jV P w H h)(e:h.objs.size<=a):H a=none:=by
 cases q:H a with
 | none=>rfl
 | some u=>exact absurd (SW (x.lt q) e) (TL _)
theorem jV.kept(x:jV P w H h)(k:∀ b u,h.get? b=some u->h'.get? b=some u):jV P w H h':=λa o e =>
 (x a o e).uv (λb u _ q=>k b u q) (λ_ q=>q) λ_ _ q=>q
theorem jV.laid(x:jV P w H h)(k:∀ b u,h.get? b=some u->h'.get? b=some u)(hp:h.objs.size<=a)(new:bQ P w (upd H a o) h' a o):jV P w (upd H a o) h':=λb u e=>by
 have hn:=x.fresh hp;by_cases hb:b=a
 .subst hb;rw[ay] at e;cases e;exact new
 .rw[av hb] at e;exact (x b u e).uv (λc v _ q=>k c v q) (λc q=>by rw[av (aE q hn)];exact q) λc xs q=>by rw[av (aE q hn)];exact q
end
def Rd(H:Hp)(a:AC)(u:HO):Prop:=H a=some u\/∃ o,H a=some (.ja o u)
theorem Rd.ok{P:Fr}{w:Fa}{H:Hp}{h:EQ}{a:AC}{u:HO}(r:Rd H a u)(x:jV P w H h):bQ P w H h a u:=by
 rcases r with r | ⟨o,r⟩
 .exact x a u r
 .let(_,q):=x a _ r;exact q
def JT:Option HO->Prop
 | some (.lst _)=>True
 | some (.dK _)=>True
 | some (.dT _)=>True
 | some (.set _ _)=>True
 | some (.ins _ _ _)=>True
 | some (.ext _)=>True
 | _=>False
section
variable{P:Fr}{w:Fa}{H:Hp}{h h':EQ}{x e:AC}{o':HO}
theorem jV.write(ok:jV P w H h)(mu:JT (H x))(he:e=x\/H e=some (.own x))(k:∀ b u,b≠e->h.get? b=some u->h'.get? b=some u)(Ij:∃ u,h'.get? e=some u)(new:bQ P w (upd H x o') h' x o'):jV P w (upd H x o') h':=λb u q=>by
 have nown:∀ c y,H c=some (.own y)->c≠x:=λc y r z=>by subst z;rw[r] at mu;exact mu
 have CM:∀ c xs,H c=some (.tup xs)->c≠x:=λc xs r z=>by subst z;rw[r] at mu;exact mu
 by_cases hb:b=x
 .subst hb;rw[ay] at q;cases q;exact new
 .rw[av hb] at q;by_cases hbe:b=e
  .have q':H b=some (.own x):=by
    rcases he with z | z
    .exact absurd (hbe.trans z) hb
    .rw[hbe];exact z
   rw[q] at q';cases q';let(v,hv):=Ij;exact#[v,by rw[hbe];exact hv]
  .refine (ok b u q).uv (λc v hc r=>k c v ?_ r) (λc r=>by rw[av (nown c b r)];exact r) λc xs r=>by rw[av (CM c xs r)];exact r
   rcases hc with rfl | hc
   .exact hbe
   .rintro rfl;rcases he with z | z
    .exact nown c b hc z
    .rw[hc] at z;cases z;exact hb U
end
structure Un(fs ex:!AC)(H H':Hp)(h h':EQ):Prop where
 keep:∀ b o,h.get? b=some o->H b=none->b∉fs->b∉ex->h'.get? b=some o
 slot:∀ b o,h.get? b=some o->H b=none->b∈fs->b∉ex->∃ sl,h'.get? b=some { o with slots:=sl }
 free:∀ b o,h.get? b=some o->H b=none->b∉ex->H' b=none
 there:∀ b o,h.get? b=some o->b∉ex->∃ o',h'.get? b=some o'
 uG:∀ b xs,H b=some (.tup xs)->H' b=some (.tup xs)
 qv:∀ b o u,H b=some (.ja o u)->H' b=some (.ja o u)
 tV:∀ b ps,H b=some (.Fh ps)->∃ more,H' b=some (.Fh (ps++more))
section
variable{fs RN ex Sj:!AC}{H H1 H2:Hp}{h h1 h2 h':EQ}{a x e:AC}{o:HO}
theorem Un.any(u:Un fs ex H H1 h h1){b:AC}{ob:Obj}(q:h.get? b=some ob)(n:H b=none)(hx:b∉ex):∃ sl,h1.get? b=some { ob with slots:=sl }:=by
 by_cases hb:b∈fs
 .exact u.slot b ob q n hb hx
 .exact#[ob.slots,u.keep b ob q n hb hx]
theorem Un.kept(k:∀ b u,h.get? b=some u->h'.get? b=some u):Un fs ex H H h h' :=
 #[λb ob q _ _ _=>k b ob q,λb ob q _ _ _=>#[ob.slots,k b ob q],λ_ _ _ n _=>n,λb ob q _=>#[ob,k b ob q],λ_ _ q=>q,λ_ _ _ q=>q,λ_ ps q=>#[#v[],by rw[q];simp]]
theorem Un.refl:Un fs ex H H h h:=Un.kept λ_ _ q=>q
theorem Un.laid(k:∀ b u,h.get? b=some u->h'.get? b=some u)(hp:h.objs.size<=a)(hn:H a=none):Un fs ex H (upd H a o) h h' where
 keep:=λb u q _ _ _=>k b u q
 slot:=λb u q _ _ _=>#[u.slots,k b u q]
 free:=λb u q n _=>by rw[av (SR (SW (SE q) hp))];exact n
 there:=λb u q _=>#[u,k b u q]
 uG:=λb xs q=>by rw[av (aE q hn)];exact q
 qv:=λb u xs q=>by rw[av (aE q hn)];exact q
 tV:=λb ps q=>#[#v[],by rw[av (aE q hn),q];simp]
theorem Un.write(mu:JT (H x))(he:e=x\/H e=some (.own x))(k:∀ b u,b≠e->h.get? b=some u->h'.get? b=some u)(Ij:∃ u,h'.get? e=some u):Un fs ex H (upd H x o) h h':=by
 have hx:∀ b,H b=none->b≠x:=λb n z=>by subst z;rw[n] at mu;exact mu
 have hb:∀ b,H b=none->b≠e:=λb n z=>by
  subst z;rcases he with r | r
  .exact hx b n r
  .rw[n] at r;cases r
 have hm:∀ b u,H b=some u->¬ JT (some u)->b≠x:=λb u q nm z=>by subst z;rw[q] at mu;exact nm mu
 show#[λb u q n _ _=>k b u (hb b n) q,λb u q n _ _=>#[u.slots,k b u (hb b n) q],λb u q n _=>by rw[av (hx b n)];exact n,λb u q _=>?_,
  λb xs q=>by rw[av (hm b _ q λz=>z)];exact q,λb u xs q=>by rw[av (hm b _ q λz=>z)];exact q,λb ps q=>#[#v[],by rw[av (hm b _ q λz=>z),q];simp]]
 by_cases hbe:b=e
 .subst hbe;exact Ij
 .exact#[u,k b u hbe q]
end
def MG(h:EQ)(H:Hp):!AC:=(List.range h.objs.size).filter λa=>(H a).isSome
def so(h:EQ)(H:Hp):EQ:=PySem.W.hideAll h (MG h H)
theorem yx(h:EQ)(H:Hp):(so h H).objs.size=h.objs.size:=PySem.W.hideAll_size _ _
theorem BZ{h:EQ}{H:Hp}{b:AC}{o:Obj}(e:h.get? b=some o)(n:H b=none):(so h H).get? b=some o :=
 PySem.W.hideAll_get _ e λhm=>by
  have q:(H b).isSome=true:=(TB.mp hm).2;rw[n] at q;simp at q
theorem DM{h:EQ}{H:Hp}{b:AC}{o:Obj}(e:(so h H).get? b=some o):h.get? b=some o/\H b=none:=by
 have e':h.get? b=some o:=PySem.W.of_hideAll (MG h H) e;show#[e',?_];cases q:H b with
 | none=>rfl
 | some x =>
  have hm:b∈MG h H:=List.mem_filter.mpr #[List.mem_range.mpr (EQ.lt_size e'),by simp[q]];have z:(so h H).get? b=none:=PySem.W.hideAll_none (MG h H) hm;rw[z] at e;cases e
structure Mod(K:Frag)(mg:Str->Option AT)(base:EQ):Prop where
 Ic:K.In base
 glob:base.Ns Gc mg
 blt:∃ mb,base.Ns builtinsNs mb/\∀ x:Str,x≠"__name__"->mb x=bootBuiltins x
 nolimit:base.NoLimit
structure Cx where
 prog:Fr
 w:Fa
 K:Frag
 mg:Str->Option AT
 base:EQ
 A:Fk
 N:!Str
 s₀:Da
 H₀:Hp
 env:Env
 outer:!Env
 stack:!Env
 ex:!AC
 fn:Str->Bool
 calm:Bool
 pn:UQ
 xe:UP
def zR(l:!Env):!AC:=l.filterMap (·.frame)
abbrev Cx.fs(X:Cx):!AC:=zR X.outer
def HP(sc:Scope)(x:Str):Prop:=sc.names.lookup x=some .local\/sc.names.lookup x=some .cell\/sc.names.lookup x=some .free
def Loc(sc:Scope)(x:Str):Prop:=sc.names.lookup x=some .local\/sc.names.lookup x=some .cell
def Look(env:Env)(h:EQ)(m:Str->Option AT)(x:Str)(u:AT):Prop :=
 (env.kindOf x=some .local/\m x=some u)\/((env.kindOf x=some .cell\/env.kindOf x=some .free)/\∃ c,env.cells.lookup x=some c/\h.IsCell c (some u))
structure Cx.Ok(X:Cx):Prop where
 mod:Mod X.K X.mg X.base
 kind:X.env.scope.kind=.function
 glob:X.env.globals=Gc
 blt:X.env.builtins=builtinsNs
 above:X.s₀.heap.objs.size<=X.env.locals
 inj:∀ x y c,X.env.cells.lookup x=some c->X.env.cells.lookup y=some c->x=y
 has:∀ x,(X.env.kindOf x=some .cell\/X.env.kindOf x=some .free)->∃ c,X.env.cells.lookup x=some c
 Jb:∀ x c,X.fn x=true->X.env.cells.lookup x=some c->X.s₀.heap.objs.size<=c
 hd:X.calm=true->X.A.handled=none
 frames:X.A.frames=some X.stack
 MC:X.stack=X.outer\/(X.stack=X.env::X.outer/\X.env.frame=some X.env.locals)
 MM:∀ b∈X.ex,b≠X.env.locals/\∀ x c,X.env.cells.lookup x=some c->c≠b
 bs:∀ b o,X.base.get? b=some o->X.s₀.heap.get? b=some o/\X.H₀ b=none
 Di:X.base.objs.size<=X.s₀.heap.objs.size
 zD:∀ b o,X.base.get? b=some o->b∉X.ex
 BN:∀ b∈X.ex,b∉X.fs
 me:X.s₀.heap.FunFrames X.base X.outer
 F3:∀ b∈X.fs,X.H₀ b=none
structure Inv(X:Cx)(Sc:UQ)(σ:!(Option V))(H:Hp)(s:Da):Prop where
 ok:X.Ok
 os:s.os=X.s₀.os
 bare:AllBare s.gens
 base:Un X.fs X.ex X.H₀ H X.s₀.heap s.heap
 loc:∃ m,s.heap.Ns X.env.locals m/\∀ (i:Nat) (x:Str) (v:V),X.N[i]?=some x->σ[i]?=some (some v)->HP X.env.scope x->∃ u,RelV v u/\Look X.env s.heap m x u
 cell:∀ x c,X.env.cells.lookup x=some c->∃ v,s.heap.IsCell c v
 free:H X.env.locals=none
 iQ:∀ x c,X.env.cells.lookup x=some c->H c=none
 pin:∀ p∈X.pn++Sc,s.heap.get? p.1=some p.2/\H p.1=none/\p.1≠X.env.locals/\p.1∉X.fs/\∀ v,p.2.data≠.cell v
 bj:jV X.prog X.w H s.heap
 len:σ.length=X.N.length
section
variable{X:Cx}{Sc:UQ}{σ:!(Option V)}{H H':Hp}{s:Da}{h':EQ}
theorem Cx.Ok.OY(ok:X.Ok){b:AC}{o:Obj}(e:X.base.get? b=some o):b∉X.fs:=λhb=>by
 have:=(ok.me.mem hb).1;rw[e] at this;cases this
theorem Inv.bs(I:Inv X Sc σ H s):∀ b o,X.base.get? b=some o->s.heap.get? b=some o/\H b=none:=λb o e =>
 #[I.base.keep b o (I.ok.bs b o e).1 (I.ok.bs b o e).2 (I.ok.OY e) (I.ok.zD b o e),I.base.free b o (I.ok.bs b o e).1 (I.ok.bs b o e).2 (I.ok.zD b o e)]
theorem Inv.bk(I:Inv X Sc σ H s):∀ b o,X.base.get? b=some o->s.heap.get? b=some o:=λb o e=>(I.bs b o e).1
theorem Inv.mod(I:Inv X Sc σ H s):Mod X.K X.mg X.base:=I.ok.mod
theorem Inv.xA(I:Inv X Sc σ H s):X.K.In s.heap:=I.ok.mod.Ic.keeps I.bk
theorem Inv.lt(I:Inv X Sc σ H s):X.env.locals < ↑s:=let #[_,hn,_]:=I.loc;hn.lt
theorem Inv.sz(I:Inv X Sc σ H s):X.s₀.heap.objs.size<=↑s:=SI I.ok.above (Nat.le_of_lt I.lt)
theorem Inv.NB(I:Inv X Sc σ H s){a:AC}(h:↑s<=a):a∉X.fs:=λhb=>by
 let(_,o,ho,_):=I.ok.me.mem hb;exact absurd (SW (SE ho) (SI I.sz h)) (TL _)
theorem Inv.Fp(I:Inv X Sc σ H s):∀ x c,X.env.cells.lookup x=some c->c≠X.env.locals:=λx c e z=>by
 let(v,o,ho,hd):=I.cell x c e;let(m,(o',es,ep,yV,hd',_),_):=I.loc;rw[z,yV] at ho;cases ho;rw[hd'] at hd;cases hd
theorem Inv.me(I:Inv X Sc σ H s):s.heap.FunFrames X.base X.outer:=by
 have all:∀ (l:!Env),(∀ b∈zR l,b∈X.fs)->X.s₀.heap.FunFrames X.base l->s.heap.FunFrames X.base l:=by
  intro l
  induction l with
  | nil=>intro _ _;trivial
  | cons env r ih =>
   intro hs hl;let(hk,(L,o,hf,hn,ho,hd),hr):=hl;have hL:L∈X.fs:=hs L (by unfold zR;rw[List.filterMap_cons,hf];exact List.mem_cons_self);let(sl,e):=I.base.slot L o ho (I.ok.F3 L hL) hL λz=>I.ok.BN L z hL;exact#[hk,#[L,_,hf,hn,e,hd],ih (λb hb=>hs b (by unfold zR;rw[List.filterMap_cons,hf];exact List.mem_cons_of_mem _ hb)) hr]
 exact all X.outer (λ_ hb=>hb) I.ok.me
theorem Inv.stack(I:Inv X Sc σ H s):s.heap.FunFrames X.base X.stack:=by
 rcases I.ok.MC with e | ⟨e,hf⟩
 .rw[e];exact I.me
 .rw[e];let(m,hn,_):=I.loc;show .cons (by rw[I.ok.kind];decide) hf hn ?_ I.me;exact EQ.get?_none_of_le (SI I.ok.Di I.ok.above)
theorem Inv.wm(I:Inv X Sc σ H s):∀ b∈zR X.stack,b∈X.env.locals::X.fs:=λb hb=>by
 rcases I.ok.MC with e | ⟨e,hf⟩
 .rw[e] at hb;exact Sy _ hb
 .rw[e] at hb;unfold zR at hb;rw[List.filterMap_cons,hf] at hb;exact hb
theorem Inv.xj(I:Inv X Sc σ H s):∀ b∈zR X.stack,H b=none:=λb hb=>by
 rcases SO.mp (I.wm b hb) with e | hb
 .rw[e];exact I.free
 .let(_,o,ho,_):=I.ok.me.mem hb;exact I.base.free b o ho (I.ok.F3 b hb) λz=>I.ok.BN b z hb
theorem Inv.step{g':Array GenState}{t':Nat}{d':Drawn}{ch:!AC}(I:Inv X Sc σ H s)(xn:∀ b∈ch,(b∈X.ex\/X.s₀.heap.objs.size<=b)/\b≠X.env.locals/\(∀ x c,X.env.cells.lookup x=some c->c≠b)/\∀ p∈X.pn++Sc,p.1≠b)(keep:∀ b o,b≠X.env.locals->b∉X.fs->b∉ch->s.heap.get? b=some o->H b=none->h'.get? b=some o)(slot:∀ b o,b≠X.env.locals->b∈X.fs->b∉ch->s.heap.get? b=some o->H b=none->∃ sl,h'.get? b=some { o with slots:=sl })(free:∀ b o,b∉ch->s.heap.get? b=some o->H b=none->H' b=none)(there:∀ b o,b∉ch->s.heap.get? b=some o->∃ o',h'.get? b=some o')(uG:∀ b xs,H b=some (.tup xs)->H' b=some (.tup xs))(qv:∀ b o u,H b=some (.ja o u)->H' b=some (.ja o u))(tV:∀ b ps,H b=some (.Fh ps)->∃ more,H' b=some (.Fh (ps++more)))(ns:∀ m,s.heap.Ns X.env.locals m->h'.Ns X.env.locals m)(bj:jV X.prog X.w H' h')(hg:AllBare g') :
  Inv X Sc σ H' { s with heap:=h',gens:=g',drawn:=d',toks:=t' }:=by
 have neL:∀ b o,X.s₀.heap.get? b=some o->b≠X.env.locals:=λb o e=>SR (SW (SE e) I.ok.above);have neC:∀ b o,X.s₀.heap.get? b=some o->b∉X.ex->b∉ch:=λb o e hx hb=>by
  rcases (xn b hb).1 with z | z
  .exact hx z
  .exact absurd (SW (SE e) z) (TL _)
 have cellK:∀ x c,X.env.cells.lookup x=some c->∀ v,s.heap.IsCell c v->h'.IsCell c v:=λx c e v z1r=>by
  let(o,ho,hd):=z1r;have nch:c∉ch:=λz=>(xn c z).2.2.1 x c e U;by_cases hc:c∈X.fs
  .let(sl,q):=slot c o (I.Fp x c e) hc nch ho (I.iQ x c e);exact#[_,q,hd]
  .exact#[o,keep c o (I.Fp x c e) hc nch ho (I.iQ x c e),hd]
 show#[I.ok,I.os,hg,#[λb o e n hb hx=>?_,λb o e n hb hx=>?_,λb o e n hx=>?_,λb o e hx=>?_,λb xs e=>uG b xs (I.base.uG b xs e),λb o xs e=>qv b o xs (I.base.qv b o xs e),λb ps e=>?_],?_,λx c e=>?_,?_,λx c e=>?_,λp hp=>?_,bj,I.len]
 .exact keep b o (neL b o e) hb (neC b o e hx) (I.base.keep b o e n hb hx) (I.base.free b o e n hx)
 .let(sl,e1):=I.base.slot b o e n hb hx;let(sl',e2):=slot b _ (neL b o e) hb (neC b o e hx) e1 (I.base.free b o e n hx);exact#[sl',e2]
 .let(o',e1):=I.base.there b o e hx;exact free b o' (neC b o e hx) e1 (I.base.free b o e n hx)
 .let(o',e1):=I.base.there b o e hx;exact there b o' (neC b o e hx) e1
 .let(m1,e1):=I.base.tV b ps e;let(m2,e2):=tV b _ e1;exact#[m1++m2,by rw[e2,Array.append_assoc]]
 .let(m,hn,hl):=I.loc;show#[m,ns m hn,λi x v e1 e2 e3=>?_];let(u,r,l):=hl i x v e1 e2 e3;show#[u,r,?_];rcases l with l | ⟨k,c,e,z⟩
  .exact .inl l
  .exact .inr #[k,c,e,cellK x c e _ z]
 .let(v,z):=I.cell x c e;exact#[v,cellK x c e v z]
 .let(m,(o,_,_,ho,_),_):=I.loc;exact free _ o (λz=>(xn _ z).2.1 U) ho I.free
 .let(v,o,ho,hd):=I.cell x c e;exact free c o (λz=>(xn c z).2.2.1 x c e U) ho (I.iQ x c e)
 .let(e,n,ne,nf,d):=I.pin p hp;have nch:p.1∉ch:=λz=>(xn p.1 z).2.2.2 p hp U;exact#[keep p.1 p.2 ne nf nch e n,free p.1 p.2 nch e n,ne,nf,d]
theorem Inv.un{t':Nat}(I:Inv X Sc σ H s)(u:Un X.fs [] H H' s.heap h')(bj:jV X.prog X.w H' h'):Inv X Sc σ H' { s with heap:=h',toks:=t' }:=by
 let(m,(o,es,ep,ho,r),_):=id I.loc;let(sl,hL):=u.any ho I.free (by simp);exact I.step (g':=s.gens) (d':=s.drawn) (ch:=[]) (λ_ z=>nomatch z) (λb o _ hb _ e n=>u.keep b o e n hb (by simp)) (λb o _ hb _ e n=>u.slot b o e n hb (by simp)) (λb o _ e n=>u.free b o e n (by simp)) (λb o _ e=>u.there b o e (by simp)) u.uG u.qv u.tV (λm' hm=>by
  let(o',es',ep',yV,r'):=hm;rw[ho] at yV;cases yV;exact#[_,es',ep',hL,r']) bj I.bare
theorem Inv.call{g':Array GenState}{t':Nat}{d':Drawn}{ch:!AC}(I:Inv X Sc σ H s)(u:Un (zR X.stack) ch H H' s.heap h')(bj:jV X.prog X.w H' h')(hg:AllBare g')(xn:∀ b∈ch,(b∈X.ex\/X.s₀.heap.objs.size<=b)/\b≠X.env.locals/\(∀ x c,X.env.cells.lookup x=some c->c≠b)/\∀ p∈X.pn++Sc,p.1≠b) :
  Inv X Sc σ H' { s with heap:=h',gens:=g',drawn:=d',toks:=t' }:=by
 let(m,(o,es,ep,ho,r),_):=id I.loc;let(sl,hL):=u.any ho I.free λz=>(xn _ z).2.1 U;exact I.step (ch:=ch) xn (λb o hL hb hc e n=>u.keep b o e n (λz=>(SO.mp (I.wm b z)).elim hL hb) hc) (λb o _ _ hc e n=>u.any e n hc) (λb o hc e n=>u.free b o e n hc) (λb o hc e=>u.there b o e hc) u.uG u.qv u.tV (λm' hm=>by
  let(o',es',ep',yV,r'):=hm;rw[ho] at yV;cases yV;exact#[_,es',ep',hL,r']) bj hg
theorem Inv.turned{t':Nat}{it:AC}(I:Inv X Sc σ H s)(k:∀ b o,b≠it->s.heap.get? b=some o->h'.get? b=some o)(hn:H it=none)(hL:it≠X.env.locals)(h1:it∈X.ex\/X.s₀.heap.objs.size<=it)(h2:∀ x c,X.env.cells.lookup x=some c->c≠it)(h3:∀ p∈X.pn++Sc,p.1≠it):Inv X Sc σ H { s with heap:=h',toks:=t' }:=by
 have nit:∀ b u,H b=some u->b≠it:=λb u e z=>by rw[z,hn] at e;cases e
 show I.step (g':=s.gens) (d':=s.drawn) (ch:=[it]) (λb hb=>?_) (λb o _ _ hc e _=>k b o (λz=>hc (by simp[z])) e) (λb o _ _ hc e _=>#[o.slots,k b o (λz=>hc (by simp[z])) e]) (λ_ _ _ _ n=>n)
  (λb o hc e=>#[o,k b o (λz=>hc (by simp[z])) e]) (λ_ _ e=>e) (λ_ _ _ e=>e) (λb ps e=>#[#v[],by rw[e];simp]) (λm hm=>?_) (λb u e=>?_) I.bare
 .have e:b=it:=by simpa using hb
  subst e;exact#[h1,hL,h2,h3]
 .let(o,es,ep,ho,r):=hm;exact#[o,es,ep,k _ o (Ne.symm hL) ho,r]
 .refine (I.bj b u e).uv (λc v hc q=>k c v ?_ q) (λ_ q=>q) λ_ _ q=>q;rcases hc with z | z
  .rw[z];exact nit b u e
  .exact nit c _ z
theorem Inv.tok(I:Inv X Sc σ H s)(t:Nat):Inv X Sc σ H { s with toks:=t }:=I.un (h':=s.heap) (t':=t) Un.refl I.bj
theorem Inv.kept{t':Nat}(I:Inv X Sc σ H s)(k:∀ b u,s.heap.get? b=some u->h'.get? b=some u):Inv X Sc σ H { s with heap:=h',toks:=t' }:=I.un (Un.kept k) (I.bj.kept k)
theorem Inv.laid{a:AC}{o:HO}{t':Nat}(I:Inv X Sc σ H s)(k:∀ b u,s.heap.get? b=some u->h'.get? b=some u)(hp:↑s<=a)(new:bQ X.prog X.w (upd H a o) h' a o) :
  Inv X Sc σ (upd H a o) { s with heap:=h',toks:=t' }:=I.un (Un.laid k hp (I.bj.fresh hp)) (I.bj.laid k hp new)
theorem Inv.write{x e:AC}{o:HO}{t':Nat}(I:Inv X Sc σ H s)(mu:JT (H x))(he:e=x\/H e=some (.own x))(k:∀ b u,b≠e->s.heap.get? b=some u->h'.get? b=some u)(Ij:∃ u,h'.get? e=some u)(new:bQ X.prog X.w (upd H x o) h' x o):Inv X Sc σ (upd H x o) { s with heap:=h',toks:=t' }:=I.un (Un.write mu he k Ij) (I.bj.write mu he k Ij new)
theorem Inv.weak{σ':!(Option V)}(I:Inv X Sc σ H s)(hl:σ'.length=σ.length)(w:∀ (i:Nat) v,σ'[i]?=some (some v)->σ[i]?=some (some v)):Inv X Sc σ' H s :=
 #[I.ok,I.os,I.bare,I.base,let #[m,hn,hl']:=I.loc;#[m,hn,λi x v e1 e2 e3=>hl' i x v e1 (w i v e2) e3],I.cell,I.free,I.iQ,I.pin,I.bj,hl.trans I.len]
theorem Inv.wK{Ex:UQ}(I:Inv X Sc σ H s)(h:∀ p∈Ex,s.heap.get? p.1=some p.2/\H p.1=none/\p.1≠X.env.locals/\p.1∉X.fs/\∀ v,p.2.data≠.cell v):Inv X Ex σ H s :=
 #[I.ok,I.os,I.bare,I.base,I.loc,I.cell,I.free,I.iQ,λp hp=>(SN.mp hp).elim (λz=>I.pin p (Tp _ z)) (h p),I.bj,I.len]
theorem t6{N:!Str}(hN:N.Nodup){i j:Nat}{x:Str}(a:N[i]?=some x)(b:N[j]?=some x):i=j:=by
 let(h1,e1):=Sw.mp a;let(h2,e2):=Sw.mp b;exact (Um hN).mp (e1.trans e2.symm)
abbrev UW (X:Cx)(x:Str):Prop:=X.fn x=true\/X.env.scope.names.lookup x=some .local
theorem qm{M:Model}{A:Fk}{E:UP}{i:Nat}{x:Str}{v:V}{u:AT}{Q:Unit->Da->Prop}(I:Inv X Sc σ H s)(hN:X.N.Nodup)(hi:X.N[i]?=some x)(hx:Loc X.env.scope x)(r:RelV v u)(h:∀ s',Inv X Sc (σ.set i (some v)) H s'->(∃ a,EQ.SameBut a s.heap s'.heap/\(a=X.env.locals\/X.env.cells.lookup x=some a))->Q Unit.unit s')(hf:UW X x:=by ac_nf):Db M A (storeName X.env x u) Q E s:=by
 let(m,hn,hl):=id I.loc;have hcls:(X.env.scope.kind == .class||(X.env.scope.kind == .module&&X.env.locals != X.env.globals))=false:=by rw[I.ok.kind];rfl
 have hiσ:i < σ.length:=by rw[I.len];exact (Sw.mp hi).1
 have Fp:=I.Fp;have tracked:∀ {a:AC} {h':EQ},(∃ o,s.heap.get? a=some o/\H a=none)->EQ.SameBut a s.heap h'->jV X.prog X.w H h':=λ{a h'} ha hs b ob e=>by
  let(_,_,hfree):=ha;show (I.bj b ob e).uv (λc w' hc q=>(hs.2 c ?_).trans q) (λ_ q=>q) λ_ _ q=>q;rintro rfl;rcases hc with rfl | hc
  .rw[hfree] at e;cases e
  .rw[hfree] at hc;cases hc
 rcases hx with hk | hk
 .refine wpAny_storeName_local hk hn (λh' hn' hs=>?_) hcls;let(oL,_,_,hoL,_):=id hn;show h _ #[I.ok,I.os,I.bare,#[λb o e n hb hx=>?_,λb o e n hb hx=>?_,I.base.free,λb o e hx=>?_,I.base.uG,I.base.qv,I.base.tV],#[_,hn',λj y v' e1 e2 e3=>?_],λy c e=>?_,I.free,I.iQ,λp hp=>?_,tracked #[oL,hoL,I.free] hs,by simpa using I.len] #[_,hs,.inl U]
  .exact (hs.2 b (SR (SW (SE e) I.ok.above))).trans (I.base.keep b o e n hb hx)
  .let(sl,e1):=I.base.slot b o e n hb hx;exact#[sl,(hs.2 b (SR (SW (SE e) I.ok.above))).trans e1]
  .let(o',e1):=I.base.there b o e hx;exact#[o',(hs.2 b (SR (SW (SE e) I.ok.above))).trans e1]
  .by_cases hj:j=i
   .subst hj;rw[hi] at e1;cases e1;rw[S7 hiσ] at e2;cases e2;exact#[u,r,.inl #[hk,by simp]]
   .rw[SM (Ne.symm hj)] at e2;let(u',r',q):=hl j y v' e1 e2 e3;show#[u',r',?_];rcases q with ⟨k,e⟩ | ⟨k,c,e,z⟩
    .refine .inl #[k,?_];have:y≠x:=λe=>hj (t6 hN e1 (e▸hi));simp[this,e]
    .exact .inr #[k,c,e,z.sameBut hs (Fp y c e)]
  .let(w',z):=I.cell y c e;exact#[w',z.sameBut hs (Fp y c e)]
  .let(e,n,ne,nf,d):=I.pin p hp;exact#[(hs.2 p.1 ne).trans e,n,ne,nf,d]
 .have hfn:X.fn x=true:=by
   rcases hf with z | z
   .exact z
   .rw[z] at hk;cases hk
  let(c,hc):=I.ok.has x (.inl hk);let(w',z):=I.cell x c hc;show wpAny_storeName_cell I.ok.kind hk hc z (λh' hc' hs=>?_);let(oc,hoc,hocd):=id z;show h { s with heap:=h' } #[I.ok,I.os,I.bare,#[λb o e n hb hx=>?_,λb o e n hb hx=>?_,I.base.free,λb o e hx=>?_,I.base.uG,I.base.qv,I.base.tV],#[m,hn.sameBut hs (Ne.symm (Fp x c hc)),λj y v' e1 e2 e3=>?_],λy c' e=>?_,I.free,I.iQ,λp hp=>?_,tracked #[oc,hoc,I.iQ x c hc] hs,by simpa using I.len] #[c,hs,.inr hc]
  .exact (hs.2 b (SR (SW (SE e) (I.ok.Jb x c hfn hc)))).trans (I.base.keep b o e n hb hx)
  .let(sl,e1):=I.base.slot b o e n hb hx;exact#[sl,(hs.2 b (SR (SW (SE e) (I.ok.Jb x c hfn hc)))).trans e1]
  .let(o',e1):=I.base.there b o e hx;exact#[o',(hs.2 b (SR (SW (SE e) (I.ok.Jb x c hfn hc)))).trans e1]
  .by_cases hj:j=i
   .subst hj;rw[hi] at e1;cases e1;rw[S7 hiσ] at e2;cases e2;exact#[u,r,.inr #[.inl hk,c,hc,hc']]
   .rw[SM (Ne.symm hj)] at e2;let(u',r',q):=hl j y v' e1 e2 e3;show#[u',r',?_];rcases q with q | ⟨k,c',e,z'⟩
    .exact .inl q
    .refine .inr #[k,c',e,z'.sameBut hs ?_];rintro rfl;exact hj (t6 hN e1 (I.ok.inj _ _ _ e hc▸hi))
  .by_cases hcc:c'=c
   .subst hcc;exact#[_,hc']
   .let(w2,z2):=I.cell y c' e;exact#[w2,z2.sameBut hs hcc]
  .let(e,n,ne,nf,d):=I.pin p hp;show#[(hs.2 p.1 ?_).trans e,n,ne,nf,d];intro q;rw[q,hoc] at e;have q':oc=p.2:=S4 e;exact d w' (by rw[<- q'];exact hocd)
theorem j7{M:Model}{A:Fk}{E:UP}{i:Nat}{x:Str}{v:V}{u:AT}{Q:Unit->Da->Prop}(I:Inv X Sc σ H s)(hN:X.N.Nodup)(hi:X.N[i]?=some x)(hx:Loc X.env.scope x)(r:RelV v u)(h:∀ s',Inv X Sc (σ.set i (some v)) H s'->Q Unit.unit s')(hf:UW X x:=by ac_nf):Db M A (storeName X.env x u) Q E s :=
 qm I hN hi hx r (λs' I' _=>h s' I') hf
theorem Inv.IZ{s':Da}{ch:!AC}(I:Inv X Sc σ H s)(ho:s'.os=s.os)(u:Un (zR X.stack) ch H H' s.heap s'.heap)(bj:jV X.prog X.w H' s'.heap)(hg:AllBare s'.gens)(xn:∀ b∈ch,(b∈X.ex\/X.s₀.heap.objs.size<=b)/\b≠X.env.locals/\(∀ x c,X.env.cells.lookup x=some c->c≠b)/\∀ p∈X.pn++Sc,p.1≠b):Inv X Sc σ H' s':=by
 let(h',g',d',t',o'):=s';have e:o'=s.os:=ho;subst e;exact I.call (g':=g') (t':=t') (d':=d') u bj hg xn
end
abbrev XK:=AT->Option AC->Hp->Prop
abbrev St:=!(Option V)
abbrev VK:=V->Hp->Prop
abbrev TE:=St->Hp->VK->Prop
abbrev TT:=St->Hp->(Bool->Hp->Prop)->Prop
abbrev TA:=St->Hp->(!V->Hp->Prop)->Prop
structure Ends where
 nx:St->Hp->Prop
 rt:VK
 bk:St->Hp->Prop:=λ_ _=>False
 ct:St->Hp->Prop:=λ_ _=>False
abbrev TS:=Ends->St->Hp->Prop
def EP(X:Cx)(Sc:UQ)(σ:St)(Q:VK)(u:AT)(s':Da):Prop:=∃ v H',Inv X Sc σ H' s'/\RelV v u/\Q v H'
def TP(X:Cx)(Sc:UQ)(σ:St)(Q:Bool->Hp->Prop)(b:Bool)(s':Da):Prop:=∃ H',Inv X Sc σ H' s'/\Q b H'
def AP(X:Cx)(Sc:UQ)(σ:St)(Q:!V->Hp->Prop)(us:!AT)(s':Da):Prop:=∃ vs H',Inv X Sc σ H' s'/\Vals vs us/\Q vs H'
def SP(X:Cx)(Sc:UQ)(D:Ends)(f:Flow)(s':Da):Prop :=
 match f with
 | .next=>∃ σ' H',Inv X Sc σ' H' s'/\D.nx σ' H'
 | .brk=>∃ σ' H',Inv X Sc σ' H' s'/\D.bk σ' H'
 | .cont=>∃ σ' H',Inv X Sc σ' H' s'/\D.ct σ' H'
 | .ret u=>∃ v σ' H',Inv X Sc σ' H' s'/\RelV v u/\D.rt v H'
def PE(X:Cx)(e:Cl)(t:TE):Prop :=
 ∀ (Sc:UQ) (s:Da) (σ:St) (H:Hp) (Q:VK),Inv X Sc σ H s->t σ H Q->Db (model X.prog X.w) X.A (eval e X.env) (EP X Sc σ Q) X.xe s
def PT(X:Cx)(e:Cl)(t:TT):Prop :=
 ∀ (Sc:UQ) (s:Da) (σ:St) (H:Hp) (Q:Bool->Hp->Prop),Inv X Sc σ H s->t σ H Q->Db (model X.prog X.w) X.A (isTrue e X.env (eval e X.env)) (TP X Sc σ Q) X.xe s
def PW(X:Cx)(e:Cl)(t:TT):Prop :=
 ∀ (whole:Sem AT) (Sc:UQ) (s:Da) (σ:St) (H:Hp) (Q:Bool->Hp->Prop),Inv X Sc σ H s->t σ H Q->Db (model X.prog X.w) X.A (isTrue e X.env whole) (TP X Sc σ Q) X.xe s
theorem PW.pt{X:Cx}{e:Cl}{t:TT}(h:PW X e t):PT X e t:=h _
def PA(X:Cx)(es:!Cl)(t:TA):Prop :=
 ∀ (pos:Pos) (Sc:UQ) (s:Da) (σ:St) (H:Hp) (Q:!V->Hp->Prop),Inv X Sc σ H s->t σ H Q->Db (model X.prog X.w) X.A (spliced (IR pos (GM es X.env))) (AP X Sc σ Q) X.xe s
def PS(X:Cx)(st:FM)(t:TS):Prop :=
 ∀ (Sc:UQ) (s:Da) (σ:St) (H:Hp) (D:Ends),Inv X Sc σ H s->t D σ H->Db (model X.prog X.w) X.A (exec st X.env) (SP X Sc D) X.xe s
def mK(X:Cx)(st:!FM)(t:TS):Prop :=
 ∀ (Sc:UQ) (s:Da) (σ:St) (H:Hp) (D:Ends),Inv X Sc σ H s->t D σ H->Db (model X.prog X.w) X.A (execs st X.env) (SP X Sc D) X.xe s
theorem bx{α:Type}{t:Sem α}{Q Q':α->Da->Prop}{M:Model}{A:Fk}{E:UP}{s:Da}(h:Db M A t Q E s)(hQ:∀ a s,Q a s->Q' a s):Db M A t Q' E s:=KM h hQ λ_ _ x=>x
theorem el2{α β:Type}{P Q R:α->β->Prop}{C:Prop}(h:∃ a b,P a b/\Q a b/\R a b)(k:∀ a b,P a b->Q a b->R a b->C):C:=h.elim λa h=>h.elim λb h=>k a b h.1 h.2.1 h.2.2
section
variable{X:Cx}
def bB(i:Nat):TE:=λσ H Q=>∃ v,σ[i]?=some (some v)/\Q v H
def tC(v:V):TE:=λ_ H Q=>Q v H
theorem v8{i:Nat}{x:Str}{pos:Pos}(hN:X.N[i]?=some x)(hv:HP X.env.scope x)(hd: ~~~(UU x))(rR: ~~~((x == ("__classdict__":Str))=false)):PE X (.Name x pos) (bB i):=by
 intro Sc s σ H Q I h;let(v,e,h):=h;let(m,hn,hl):=I.loc;let(u,r,l):=hl i x v hN e hv;have fin:EP X Sc σ Q u s:=#[v,H,I,r,h];rcases l with ⟨hk,hm⟩ | ⟨hk,c,hc,hcell⟩
 .exact wpAny_Name (wpAny_loadName_local I.ok.kind hk hn hm fin) hd
 .rcases hk with hk | hk
  .exact wpAny_Name (wpAny_loadName_cell I.ok.kind hk hc hcell fin) hd
  .exact wpAny_Name (wpAny_loadName_free I.ok.kind hk hc hcell fin rR) hd
theorem bz{i j pos}:PE X (.Constant (.int i) j pos) (tC (.int i)):=λ_ _ _ H _ I h=>wpAny_Constant_int #[.int i,H,I.tok _,#[_,U],h]
theorem EJ{b j pos}:PE X (.Constant (.bool b) j pos) (tC (.bl b)):=λ_ _ _ H _ I h=>Constant_bool #[.bl b,H,I,U,h]
theorem Gr{j pos}:PE X (.Constant .none j pos) (tC .bH):=λ_ _ _ H _ I h=>Constant_none #[.bH,H,I,U,h]
theorem cf{x j pos}:PE X (.Constant (.str x) j pos) (tC (.str x)):=λ_ _ _ H _ I h=>Calls.Constant_str #[.str x,H,I.tok _,#[_,U],h]
def Gl(X:Cx)(x:Str):Prop:=X.env.kindOf x=some .globalImplicit
theorem qR{E:UP}{Sc:UQ}{s:Da}{σ:St}{H:Hp}{x:Str}{u:AT}{pos:Pos}{Q:UP}(I:Inv X Sc σ H s)(hg:Gl X x)(hm:X.mg x=some u)(h:Q u s)(hd: ~~~(UU x)):Db (model X.prog X.w) X.A (eval (.Name x pos) X.env) Q E s :=
 Calls.Name_function_global I.ok.kind hg (Calls.loadGlobal_global (by rw[I.ok.glob];exact I.mod.glob.keeps I.bk) hm h) hd
theorem gj{E:UP}{Sc:UQ}{s:Da}{σ:St}{H:Hp}{x:Str}{u:AT}{pos:Pos}{Q:UP}(I:Inv X Sc σ H s)(hg:Gl X x)(hm:X.mg x=none)(hv:bootBuiltins x=some u)(h:Q u s)(hn: ~~~(x≠"__name__"))(hd: ~~~(UU x)):Db (model X.prog X.w) X.A (eval (.Name x pos) X.env) Q E s:=by
 let(mb,h1,h2):=I.mod.blt;exact Calls.Name_function_global I.ok.kind hg (Calls.loadGlobal_builtin (by rw[I.ok.glob];exact I.mod.glob.keeps I.bk) hm (by rw[I.ok.blt];exact h1.keeps I.bk) ((h2 x hn).trans hv) h) hd
theorem hX{x:Str}{v:V}{u:AT}{pos:Pos}(hg:Gl X x)(hm:X.mg x=some u)(r:RelV v u)(hd: ~~~(UU x)):PE X (.Name x pos) (tC v) :=
 λ_ _ _ H _ I h=>qR I hg hm #[v,H,I,r,h] hd
theorem df{x:Str}{v:V}{u:AT}{pos:Pos}(hg:Gl X x)(hm:X.mg x=none)(hv:bootBuiltins x=some u)(r:RelV v u)(hn: ~~~(x≠"__name__"))(hd: ~~~(UU x)):PE X (.Name x pos) (tC v) :=
 λ_ _ _ H _ I h=>gj I hg hm hv #[v,H,I,r,h] hn hd
variable{a b:Cl}{ta tb:TE}{pos:Pos}
def PC(X:Cx)(op:CmpOp)(a b:Cl)(t:TE):Prop :=
 ∀ (Sc:UQ) (s:Da) (σ:St) (H:Hp) (Q:VK),Inv X Sc σ H s->t σ H Q ->
  Db (model X.prog X.w) X.A (eval a X.env) (λv s₁=>Db (model X.prog X.w) X.A (eval b X.env) (λu s₂=>Db (model X.prog X.w) X.A (IN op v u) (EP X Sc σ Q) X.xe s₂) X.xe s₁) X.xe s
def tB(t:TE):TT:=λσ H Q=>t σ H λx H1=>∃ c,x=.bl c/\Q c H1
theorem BD{op:CmpOp}{t:TE}(h:PC X op a b t)(h1:behindInMarks op b=false:=by first | exact LU _ () () | rfl):PT X (.Compare a [op] [b] pos) (tB t):=by
 intro Sc s σ H Q I hw;show wpAny_isTrue_Compare1 (bx (h Sc s σ H _ I hw) λv s1 h1=>bx h1 λu s2 h2=>bx h2 λc s3 #[x,H1,I1,r1,q1]=>?_) h1;let(d,rfl,q):=q1;cases r1;exact wpAny_truthy_bool #[H1,I1,q]
theorem HH{e:Cl}{t:TE}(h:PE X e t)(he:∀ whole,isTrue e X.env whole=(do let v <- whole;standAt e.pos;holding [v] (truthy v)):=by intro _;rfl):PT X e (tB t):=by
 intro Sc s σ H Q I hw;show isTrue_plain (bx (h Sc s σ H _ I hw) λv s1 zz=>el2 zz λx H1 I1 r1 q1=>?_) (he _);let(d,rfl,q):=q1;cases r1;exact wpAny_truthy_bool #[H1,I1,q]
variable{tA Mu:TT}{rest:!Cl}
def JZ(t u:TT):TT:=λσ H Q=>t σ H λc H1=>if c=true then u σ H1 Q else Q false H1
def RB(t u:TT):TT:=λσ H Q=>t σ H λc H1=>if c=true then Q true H1 else u σ H1 Q
def Pp(t:TT):TT:=λσ H Q=>t σ H λc H1=>Q (not c) H1
theorem pw_and1(ha:PT X a tA):PW X (.BoolOp .And [a] pos) tA:=by
 intro wh Sc s σ H Q I h;show isTrue_and (bx (ha Sc s σ H Q I h) λc s1 e=>?_);cases c with
 | true=>exact isTrue_and_nil e
 | false=>exact e
theorem pw_or1(ha:PT X a tA):PW X (.BoolOp .Or [a] pos) tA:=by
 intro wh Sc s σ H Q I h;show isTrue_or (bx (ha Sc s σ H Q I h) λc s1 e=>?_);cases c with
 | false=>exact isTrue_or_nil e
 | true=>exact e
theorem pw_and(ha:PT X a tA)(hb:PW X (.BoolOp .And (b::rest) pos) Mu):PW X (.BoolOp .And (a::b::rest) pos) (JZ tA Mu):=by
 intro wh Sc s σ H Q I h;show isTrue_and (bx (ha Sc s σ H _ I h) λc s1 #[H1,I1,q1]=>?_);cases c with
 | true=>exact hb wh Sc s1 σ H1 Q I1 q1
 | false=>exact#[H1,I1,q1]
theorem pw_or(ha:PT X a tA)(hb:PW X (.BoolOp .Or (b::rest) pos) Mu):PW X (.BoolOp .Or (a::b::rest) pos) (RB tA Mu):=by
 intro wh Sc s σ H Q I h;show isTrue_or (bx (ha Sc s σ H _ I h) λc s1 #[H1,I1,q1]=>?_);cases c with
 | true=>exact#[H1,I1,q1]
 | false=>exact hb wh Sc s1 σ H1 Q I1 q1
theorem Bg(ha:PT X a tA):PT X (.UnaryOp .Not a pos) (Pp tA):=by
 intro Sc s σ H Q I h;exact isTrue_not (ha Sc s σ H (λc H1=>Q (not c) H1) I h)
def KJ(ta tb:TE):TE:=λσ H Q=>ta σ H λx H1=>∃ c,x=.bl c/\if c=true then tb σ H1 Q else Q (.bl false) H1
def Oy(ta tb:TE):TE:=λσ H Q=>ta σ H λx H1=>∃ c,x=.bl c/\if c=true then Q (.bl true) H1 else tb σ H1 Q
def Jf(ta:TE):TE:=λσ H Q=>ta σ H λx H1=>∃ c,x=.bl c/\Q (.bl (not c)) H1
theorem vV{op}{t:TE}(h:PE X a t):PE X (.BoolOp op [a] pos) t:=λSc s σ H Q I hw=>BoolOp_one (h Sc s σ H Q I hw)
theorem AO(ha:PE X a ta)(hb:PE X (.BoolOp .And (b::rest) pos) tb):PE X (.BoolOp .And (a::b::rest) pos) (KJ ta tb):=by
 intro Sc s σ H Q I h;show BoolOp_and (bx (ha Sc s σ H _ I h) λv s1 zz=>el2 zz λx H1 I1 r1 q1=>?_);let(c,rfl,q1):=q1;cases r1;show wpAny_truthy_bool ?_;cases c with
 | true=>exact hb Sc s1 σ H1 Q I1 q1
 | false=>exact#[.bl false,H1,I1,U,q1]
theorem Jd(ha:PE X a ta)(hb:PE X (.BoolOp .Or (b::rest) pos) tb):PE X (.BoolOp .Or (a::b::rest) pos) (Oy ta tb):=by
 intro Sc s σ H Q I h;show BoolOp_or (bx (ha Sc s σ H _ I h) λv s1 z0q=>?_);let(x,H1,I1,r1,q1):=z0q;let(c,rfl,q1):=q1;cases r1;show wpAny_truthy_bool ?_;cases c with
 | false=>exact hb Sc s1 σ H1 Q I1 q1
 | true=>exact#[.bl true,H1,I1,U,q1]
theorem Hg(ha:PE X a ta):PE X (.UnaryOp .Not a pos) (Jf ta):=by
 intro Sc s σ H Q I h;show UnaryOp_ (bx (ha Sc s σ H _ I h) λv s1 zz=>el2 zz λx H1 I1 r1 q1=>?_);let(c,rfl,q1):=q1;cases r1;exact not_of (wpAny_truthy_bool #[.bl (not c),H1,I1,U,q1])
def R4(t:TT)(ta tb:TE):TE:=λσ H Q=>t σ H λc H1=>if c=true then ta σ H1 Q else tb σ H1 Q
theorem BJ{c:Cl}(hc:PT X c tA)(ha:PE X a ta)(hb:PE X b tb):PE X (.IfExp c a b pos) (R4 tA ta tb):=by
 intro Sc s σ H Q I h;show wpAny_IfExp (bx (hc Sc s σ H _ I h) λd s1 #[H1,I1,q1]=>?_);cases d with
 | true=>exact ha Sc s1 σ H1 Q I1 q1
 | false=>exact hb Sc s1 σ H1 Q I1 q1
end
def dR(K:Frag)(H:Hp)(a:AC)(xs:!V):Prop :=
 Rd H a (.lst xs) \/
  ∃ (o:Obj) (its:Array AT) (n:Nat),K.lookup a=some o/\o.cls=.type "list"/\o.dict=none/\o.data=.seq its n/\its.size<=Ev/\Vals xs its.toList
def jS(K:Frag)(H:Hp)(a:AC)(xs:!V):Prop :=
 Rd H a (.tup xs) \/
  ∃ (o:Obj) (its:Array AT) (n:Nat),K.lookup a=some o/\o.cls=.type "tuple"/\o.data=.seq its n/\its.size<=Ev/\Vals xs its.toList
def Oi:AT->Option V
 | .none=>some .bH
 | .bool b=>some (.bl b)
 | .int i _=>some (.int i)
 | .str x _=>some (.str x)
 | .bytes b _=>some (.xN b)
 | .float b _=>some (.MB b)
 | .ref a=>some (.ref a)
 | .type n=>some (.ty n)
 | _=>none
theorem RelV.abs{x:V}{u:AT}(r:RelV x u):Oi u=some x:=by
 cases x with
 | bH=>cases r;rfl
 | bl _=>cases r;rfl
 | int _=>let(t,rfl):=r;rfl
 | str _=>let(t,rfl):=r;rfl
 | xN _=>let(t,rfl):=r;rfl
 | MB _=>let(t,rfl):=r;rfl
 | ref _=>cases r;rfl
 | ty _=>cases r;rfl
theorem RelV.inj{x y:V}{u:AT}(r:RelV x u)(q:RelV y u):x=y:=S4 (r.abs.symm.trans q.abs)
theorem Vals.inj:∀ {xs ys:!V} {us:!AT},Vals xs us->Vals ys us->xs=ys
 | _,_,_,.nil,.nil=>rfl
 | _,_,_,.cons r t,.cons r' t'=>by rw[r.inj r',Vals.inj t t']
section
variable{X:Cx}{Sc:UQ}{σ:St}{H:Hp}{s:Da}{a:AC}{xs ys:!V}
theorem dR.of{K:Frag}(h:H a=some (.lst xs)):dR K H a xs:=.inl (.inl h)
theorem jS.of{K:Frag}(h:H a=some (.tup xs)):jS K H a xs:=.inl (.inl h)
theorem Inv.list(I:Inv X Sc σ H s)(h:dR X.K H a xs):∃ its:!AT,Vals xs its/\PlainL s.heap a its.toArray/\xs.length<=Ev:=by
 rcases h with h | ⟨o,its,n,hk,hc,hd,hs,hz,r⟩
 .let(z,its,n,r,e):=h.ok I.bj;exact#[its,r,#[_,n,e,U,U,U],z]
 .refine#[its.toList,r,#[o,n,I.xA a o hk,hc,hd,by simpa using hs],?_];have e:=r.length;simp only[Array.length_toList] at e;cbv
theorem Inv.tuple(I:Inv X Sc σ H s)(h:jS X.K H a xs):∃ its:!AT,Vals xs its/\IsTup s.heap a its.toArray/\xs.length<=Ev:=by
 rcases h with h | ⟨o,its,n,hk,hc,hs,hz,r⟩
 .let(z,its,r,p):=h.ok I.bj;exact#[its,r,p.tup,z]
 .refine#[its.toList,r,#[o,I.xA a o hk,hc,n,by simpa using hs],?_];have e:=r.length;simp only[Array.length_toList] at e;cbv
theorem Inv.t9(I:Inv X Sc σ H s)(h:dR X.K H a xs)(h':dR X.K H a ys):xs=ys:=by
 let(its,r,(o,n,e,_,_,d),_):=I.list h;let(its',r',(o',n',e',_,_,d'),_):=I.list h';rw[e] at e';cases e';rw[d] at d';injection d' with d1 _;have:its=its':=by simpa using congrArg Array.toList d1
 subst this;exact r.inj r'
theorem Inv.pf(I:Inv X Sc σ H s)(h:jS X.K H a xs)(h':jS X.K H a ys):xs=ys:=by
 let(its,r,(o,e,_,n,d),_):=I.tuple h;let(its',r',(o',e',_,n',d'),_):=I.tuple h';rw[e] at e';cases e';rw[d] at d';injection d' with d1 _;have:its=its':=by simpa using congrArg Array.toList d1
 subst this;exact r.inj r'
end
abbrev Cx.o9(X:Cx)(E:UP):Cx:={ X with xe:=E }
abbrev Cx.y8(X:Cx):Cx:=X.o9 λ_ _=>False
theorem Cx.Ok.o9{X:Cx}(ok:X.Ok)(E:UP):(X.o9 E).Ok :=
 #[ok.mod,ok.kind,ok.glob,ok.blt,ok.above,ok.inj,ok.has,ok.Jb,ok.hd,ok.frames,ok.MC,ok.MM,ok.bs,ok.Di,ok.zD,ok.BN,ok.me,ok.F3]
theorem Cx.Ok.iC{X:Cx}{E:UP}(ok:(X.o9 E).Ok):X.Ok :=
 #[ok.mod,ok.kind,ok.glob,ok.blt,ok.above,ok.inj,ok.has,ok.Jb,ok.hd,ok.frames,ok.MC,ok.MM,ok.bs,ok.Di,ok.zD,ok.BN,ok.me,ok.F3]
section
variable{X:Cx}{Sc:UQ}{σ:St}{H:Hp}{s:Da}{E:UP}
theorem Inv.o9(I:Inv X Sc σ H s)(E:UP):Inv (X.o9 E) Sc σ H s:=#[I.ok.o9 E,I.os,I.bare,I.base,I.loc,I.cell,I.free,I.iQ,I.pin,I.bj,I.len]
theorem Inv.iC(I:Inv (X.o9 E) Sc σ H s):Inv X Sc σ H s:=#[I.ok.iC,I.os,I.bare,I.base,I.loc,I.cell,I.free,I.iQ,I.pin,I.bj,I.len]
theorem SP.iC{D:Ends}{f:Flow}{s':Da}(h:SP (X.o9 E) Sc D f s'):SP X Sc D f s':=by
 cases f with
 | next=>let(σ',H',I,q):=h;exact#[σ',H',I.iC,q]
 | brk=>let(σ',H',I,q):=h;exact#[σ',H',I.iC,q]
 | cont=>let(σ',H',I,q):=h;exact#[σ',H',I.iC,q]
 | ret u=>let(v,σ',H',I,r,q):=h;exact#[v,σ',H',I.iC,r,q]
theorem mK.y8{st:!FM}{t:TS}(h:mK X.y8 st t):mK X st t:=λSc s σ H D I hw =>
 KM (h Sc s σ H D (I.o9 _) hw) (λ_ _ q=>q.iC) λ_ _ z=>False.elim z
end
section
variable{X:Cx}{st:FM}{rest:!FM}{t u:TS}{e:Cl}{te:TE}{pos:Pos}
def EZ:TS:=λD σ H=>D.nx σ H
def mX(t u:TS):TS:=λD σ H=>t { D with nx:=u D } σ H
theorem mO:mK X [] EZ:=λ_ _ σ H _ I h=>wpAny_execs_nil #[σ,H,I,h]
theorem bF(h1:PS X st t)(h2:mK X rest u):mK X (st::rest) (mX t u):=by
 intro Sc s σ H D I h;show wpAny_execs_cons (bx (h1 Sc s σ H { D with nx:=u D } I h) λf s1 q=>?_);cases f with
 | next =>
  let(σ',H',I',q):=q;exact h2 Sc s1 σ' H' D I' q
 | ret v=>exact q
 | brk=>exact q
 | cont=>exact q
theorem eV(h1:PS X st t):mK X [st] t:=by
 intro Sc s σ H D I h;show wpAny_execs_cons (bx (h1 Sc s σ H D I h) λf s1 q=>?_);cases f with
 | next=>exact wpAny_execs_nil q
 | ret v=>exact q
 | brk=>exact q
 | cont=>exact q
theorem Inv.quiet{Sc:UQ}{σ:St}{H:Hp}{s:Da}(I:Inv X Sc σ H s):interactive X.env=false:=by simp[interactive,I.ok.kind]
def KH(te:TE):TS:=λD σ H=>te σ H λ_ H1=>D.nx σ H1
theorem C9(he:PE X e te)(hs:(swapsWith e none pos.line X.env=pure false)⁻¹):PS X (.Expr e pos) (KH te):=by
 intro Sc s σ H D I h;exact wpAny_Expr_any (bx (he Sc s σ H _ I h) λv s1 zz=>el2 zz λx H1 I1 r1 q1=>#[σ,H1,I1,q1]) I.quiet hs
def Co(te:TE):TS:=λD σ H=>te σ H D.rt
theorem iL(he:PE X e te):PS X (.Return (some e) pos) (Co te):=by
 intro Sc s σ H D I h;exact wpAny_Return_some (bx (he Sc s σ H _ I h) λv s1 zz=>el2 zz λx H1 I1 r1 q1=>#[x,σ,H1,I1,r1,q1])
def Jc(c:TT)(t u:TS):TS:=λD σ H=>c σ H λb H1=>if b=true then t D σ H1 else u D σ H1
theorem zA{c:Cl}{a b:!FM}{tc:TT}(hc:PT X c tc)(ha:mK X a t)(hb:mK X b u):PS X (.If c a b pos) (Jc tc t u):=by
 intro Sc s σ H D I h;show wpAny_If (bx (hc Sc s σ H _ I h) λd s1 #[H1,I1,q1]=>?_);cases d with
 | true=>exact ha Sc s1 σ H1 D I1 q1
 | false=>exact hb Sc s1 σ H1 D I1 q1
def Gu:TS:=λ_ _ _=>False
theorem yE{pG:!FM}:mK X pG Gu:=λ_ _ _ _ _ _ h=>h.elim
end
abbrev TG:=V->St->Hp->(St->Hp->Prop)->Prop
abbrev DP:=!V->St->Hp->(St->Hp->Prop)->Prop
def PG(X:Cx)(target:Cl)(t:TG):Prop :=
 ∀ (Sc:UQ) (s:Da) (σ:St) (H:Hp) (v:V) (u:AT) (Q:St->Hp->Prop),Inv X Sc σ H s->RelV v u->t v σ H Q ->
  Db (model X.prog X.w) X.A (assign target X.env u) (λ_ s'=>∃ σ' H',Inv X Sc σ' H' s'/\Q σ' H') X.xe s
def Eh(X:Cx)(ts:!Cl)(t:DP):Prop :=
 ∀ (Sc:UQ) (s:Da) (σ:St) (H:Hp) (vs:!V) (us:!AT) (Q:St->Hp->Prop),Inv X Sc σ H s->Vals vs us->t vs σ H Q ->
  Db (model X.prog X.w) X.A (assignInOrder ((assignEach ts X.env).map (·.2)) us) (λ_ s'=>∃ σ' H',Inv X Sc σ' H' s'/\Q σ' H') X.xe s
abbrev FU:=V->V->V->Hp->(Hp->Prop)->Prop
def LC(X:Cx)(t:FU):Prop :=
 ∀ (Sc:UQ) (s:Da) (σ:St) (H:Hp) (o i v:V) (ov iv u:AT) (Q:Hp->Prop),Inv X Sc σ H s->RelV o ov->RelV i iv->RelV v u->t o i v H Q ->
  Db (model X.prog X.w) X.A (setItem ov iv u) (λ_ s'=>∃ H',Inv X Sc σ H' s'/\Q H') X.xe s
section
variable{X:Cx}{pos:Pos}
def dm(i:Nat):TG:=λv σ H Q=>Q (σ.set i (some v)) H
theorem dD{i:Nat}{x:Str}(hN:X.N.Nodup)(hi:X.N[i]?=some x)(hx:Loc X.env.scope x)(hf:UW X x:=by ac_nf):PG X (.Name x pos) (dm i):=by
 intro Sc s σ H v u Q I r h;exact wpAny_assign_Name (j7 I hN hi hx r (λs' I'=>#[_,H,I',h]) hf)
def Nd:DP:=λvs σ H Q=>vs=[]/\Q σ H
def Kl(t:TG)(u:DP):DP:=λvs σ H Q=>∃ v r,vs=v::r/\t v σ H λσ' H'=>u r σ' H' Q
theorem Du:Eh X [] Nd:=by
 intro Sc s σ H vs us Q I r h;let(e,h):=h;subst e;cases r;exact assignInOrder_nil #[σ,H,I,h]
theorem AZ{e:Cl}{es:!Cl}{t:TG}{u:DP}(h1:PG X e t)(h2:Eh X es u)(hs:((assignEach (e::es) X.env).map (·.2)=assign e X.env::(assignEach es X.env).map (·.2))⁻¹):Eh X (e::es) (Kl t u):=by
 intro Sc s σ H vs us Q I r h;let(v,vr,e1,h):=h;subst e1;cases r with
 | cons r rr =>
  rw[hs];show assignInOrder_cons (bx (h1 Sc s σ H _ _ _ I r h) λ_ s1 #[σ1,H1,I1,q1]=>?_);exact h2 Sc s1 σ1 H1 _ _ Q I1 rr q1
def Ou(K:Frag)(n:Nat)(t:DP):TG:=λv σ H Q=>∃ a xs,v=.ref a/\jS K H a xs/\xs.length=n/\t xs σ H Q
theorem FH{es:!Cl}{k:Nat}{t:DP}{n:Nat}(hc:X.calm=true)(h:Eh X es t)(hn:((assignEach es X.env).length=n)⁻¹)(lQ:((assignEach es X.env).findIdx? (·.1)=none)⁻¹):PG X (.Tuple es k pos) (Ou X.K n t):=by
 intro Sc s σ H v u Q I r hw;let(a,xs,e1,hq,hl,hw):=hw;subst e1;cases r;let(its,rv,ht,hz):=I.tuple hq;show assign_Tuple_tuple (I.ok.hd hc) ht (by simp[hn,<- hl,rv.length]) lQ λh' hx=>?_;have I1:Inv X Sc σ H { s with heap:=h' }:=I.kept (t':=s.toks) λb o e=>hx b o (SR (SE e)) e;exact h Sc _ σ H xs _ Q I1 (by simpa using rv) hw
def JY(to ti:TE)(t:FU):TG:=λv σ H Q=>to σ H λo H1=>ti σ H1 λi H2=>t o i v H2 λH3=>Q σ H3
theorem GQ{o i:Cl}{to ti:TE}{t:FU}(ho:PE X o to)(hi:PE X i ti)(hs:LC X t)(ha:∀ v,assign (.Subscript o i pos) X.env v=(do
   let ov <- holding [v] (eval o X.env);let iv <- holding [v,ov] (eval i X.env)
   standAt pos
   holding [v,ov,iv] (setItem ov iv v)
   release [v,ov,iv] []):=by intro _;rfl):PG X (.Subscript o i pos) (JY to ti t):=by
 intro Sc s σ H v u Q I r h;rw[ha];show Ch (NE (bx (ho Sc s σ H _ I h) λov s1 z1q=>?_));let(x,H1,I1,r1,q1):=z1q;show Ch (NE (bx (hi Sc s1 σ H1 _ I1 q1) λiv s2 z2q=>?_));let(y,H2,I2,r2,q2):=z2q;show Ch (wpAny_standAt (Ch (NE (bx (hs Sc s2 σ H2 x y v ov iv u _ I2 r1 r2 r q2) λ_ s3 z3q=>?_))));let(H3,I3,q3):=z3q;exact wpAny_release #[σ,H3,I3,q3]
def jr(te:TE)(g:TG):TS:=λD σ H=>te σ H λx H1=>g x σ H1 D.nx
theorem A1{tg e:Cl}{te:TE}{g:TG}(he:PE X e te)(hg:PG X tg g)(hs:(swapsWithSole [tg] e pos.line X.env=pure false)⁻¹)(hw:(swappedStores [tg] e X.env=pure none)⁻¹)(h1:((assignEach [tg] X.env).map (·.2)=[assign tg X.env])⁻¹):PS X (.Assign [tg] e pos) (jr te g):=by
 intro Sc s σ H D I h;show wpAny_Assign_stores (bx (he Sc s σ H _ I h) λv s1 zz=>el2 zz λx H1 I1 r1 q1=>?_) hs hw;rw[h1];exact bx (hg Sc s1 σ H1 x v _ I1 r1 q1) λ_ s2 q=>q
theorem fE{i:Nat}{x:Str}{e:Cl}{te:TE}{pos':Pos}(hN:X.N.Nodup)(hi:X.N[i]?=some x)(hx:Loc X.env.scope x)(he:PE X e te)(hs:(swapsWith e (some (.Name x pos')) pos.line X.env=pure false)⁻¹)(hf:UW X x:=by ac_nf) :
  PS X (.Assign [.Name x pos'] e pos) (jr te (dm i)):=by
 intro Sc s σ H D I h;show wpAny_Assign_Name (bx (he Sc s σ H _ I h) λv s1 zz=>el2 zz λy H1 I1 r1 q1=>?_) hs;exact j7 I1 hN hi hx r1 (λs2 I2=>#[_,H1,I2,q1]) hf
def KZ(i j:Nat)(ta:TA):TS:=λD σ H=>ta σ H λvs H1=>∃ v w,vs=[v,w]/\D.nx ((σ.set i (some v)).set j (some w)) H1
theorem Gx{i j:Nat}{x y:Str}{a b:Cl}{ta:TA}{px py pt:Pos}{kt k2 pt2}(hc:X.calm=true)(hN:X.N.Nodup)(hi:X.N[i]?=some x)(hj:X.N[j]?=some y)(QN:i≠j)(hx:X.env.scope.names.lookup x=some .local)(hy:X.env.scope.names.lookup y=some .local)(ha:PA X [a,b] ta)(hw:swappedStores [.Tuple [.Name x px,.Name y py] kt pt] (.Tuple [a,b] k2 pt2) X.env=pure (some [x,y]))(hs:(swapsWithSole [.Tuple [.Name x px,.Name y py] kt pt] (.Tuple [a,b] k2 pt2) pos.line X.env=pure false)⁻¹) :
  PS X (.Assign [.Tuple [.Name x px,.Name y py] kt pt] (.Tuple [a,b] k2 pt2) pos) (KZ i j ta):=by
 intro Sc s σ H D I h;rw[exec_Assign_arm];show Ch (wpAny_standAt ?_);rw[hs];show Ch (FB ?_);rw[if_neg ()];show Ch (Tuple_ (bx (ha _ Sc s σ H _ I h) λus s1 zz=>el2 zz λvs H1 I1 r1 q1=>?_));let(v,w,e1,q1):=q1;subst e1;obtain⟨u1,u2,rfl,rv,rw'⟩:∃ u1 u2,us=[u1,u2]/\RelV v u1/\RelV w u2:=by
  cases r1 with
  | cons p q =>
   cases q with
   | cons p' q' =>
    cases q';exact#[_,_,U,p,p']
 show PP ?_ (by change 2<=Ev;decide);have I2:Inv X Sc σ H1 { s1 with heap:=s1.heap.push { cls:=.type "tuple",data:=.seq [u1,u2].toArray } }:=I1.kept (t':=s1.toks) λb o e=>Su _ e;rw[hw];show Ch (FB ?_);change Db (model X.prog X.w) X.A (do rule "assign.swapped-stores";let items <- unpackItems (.ref ↑s1) 2 none;assignInOrder [λv=>bindName X.env y v,λv=>bindName X.env x v] items.reverse;pure Flow.next) _ _ _;show Ch (wpAny_rule (Ch (unpackItems_tuple (items:=#v[u1,u2]) (I.ok.hd hc) (IsTup.new s1.heap _) λh' hx'=>?_)));have I3:=I2.kept (h':=h') (t':=s1.toks) λb o e=>hx' b o (SR (SE e)) e;change Db _ _ (assignInOrder [λv=>bindName X.env y v,λv=>bindName X.env x v] [u2,u1] >>= λ_=>pure Flow.next) _ _ _;show Ch (assignInOrder_cons (wpAny_bindName (j7 I3 hN hj (.inl hy) rw' (λs2 I4=>?_) (.inr hy))));show assignInOrder_cons (wpAny_bindName (j7 I4 hN hi (.inl hx) rv (λs3 I5=>assignInOrder_nil (FB ?_)) (.inr hx)));rw[List.set_comm _ _ (Ne.symm QN)] at I5;exact#[_,H1,I5,q1]
def Ah(c:TT)(tb:TS):TS:=λD σ H=>∃ W:Nat->St->Hp->Prop,(∃ m,W m σ H)/\∀ m σ H,W m σ H ->
 c σ H λb H1=>if b=true then ∃ N:St->Hp->Prop,(∀ σ' H',N σ' H'->∃ m',m' < m/\W m' σ' H')/\tb { D with nx:=N,ct:=N,bk:=D.nx } σ H1 else D.nx σ H1
theorem uy{c:Cl}{body:!FM}{tc:TT}{tb:TS}(hp:PassesOwn (model X.prog X.w) X.A X.env X.xe)(hc:PT X c tc)(hb:mK X body tb):PS X (.While c body [] pos) (Ah tc tb):=by
 intro Sc s σ H D I h;let(W,(m0,w0),turn):=h;show wpAny_While (codeAny_whileLoop (λn s'=>∃ σ' H',Inv X Sc σ' H' s'/\W n σ' H') ?_ m0 #[σ,H,I,w0]);rintro n s1 ⟨σ1,H1,I1,w1⟩;show wpAny_passesOwn hp (bx (hc Sc s1 σ1 H1 _ I1 (turn n σ1 H1 w1)) λb s2 z4q=>?_);let(H2,I2,q2):=z4q;cases b with
 | true =>
  let(N,hN,q2):=q2;rw[if_pos U];show wpAny_passesOwn hp (bx (hb Sc s2 σ1 H2 _ I2 q2) λf s3 q3=>?_);cases f with
  | next =>
   let(σ3,H3,I3,n3):=q3;let(m',hm,w3):=hN σ3 H3 n3;exact#[m',hm,σ3,H3,I3,w3]
  | cont =>
   let(σ3,H3,I3,n3):=q3;let(m',hm,w3):=hN σ3 H3 n3;exact#[m',hm,σ3,H3,I3,w3]
  | brk=>exact q3
  | ret v=>exact q3
 | false =>
  rw[if_neg SK];exact wpAny_execs_nil #[σ1,H2,I2,q2]
end
structure It where
 go:Nat->Hp->Prop
 IH:Nat->Hp->V->Hp->Prop
 stop:Nat->Hp->Prop
def ee(X:Cx)(Sc:UQ)(H:Hp)(b:AC):Prop :=
 H b=none/\b≠X.env.locals/\b∉X.fs/\(b∈X.ex\/X.s₀.heap.objs.size<=b)/\(∀ x c,X.env.cells.lookup x=some c->c≠b)/\∀ p∈X.pn++Sc,p.1≠b
theorem Inv.mq{X:Cx}{Sc:UQ}{σ:St}{H H':Hp}{s:Da}{b:AC}(I:Inv X Sc σ H s)(hb:↑s<=b)(hn:H' b=none):ee X Sc H' b:=by
 show#[hn,Ui (SW I.lt hb),I.NB hb,.inr (SI I.sz hb),λx c e z=>?_,λp hp z=>?_]
 .let(v,q):=I.cell x c e;exact absurd (SW q.lt (by rw[z];exact hb)) (TL _)
 .exact absurd (SW (SE (I.pin p hp).1) (by rw[z];exact hb)) (TL _)
structure Turn(P:Fr)(w:Fa)(K:Frag)(tg:Cl)(J:It)(fp:!AC)(it:AC)(tn:Nat->EQ->Prop):Prop where
 mem:it∈fp
 obj:∀ i h,tn i h->∀ b∈fp,∃ o,h.get? b=some o/\∀ v,o.data≠.cell v
 keep:∀ i h h',tn i h->(∀ b∈fp,∀ o,h.get? b=some o->h'.get? b=some o)->tn i h'
 item:∀ (X:Cx),X.prog=P->X.w=w->X.K=K->X.calm=true->∀ (i:Nat) (Sc:UQ) (s:Da) (σ:St) (H:Hp) (E:UP),Inv X Sc σ H s->(∀ b∈fp,ee X Sc H b)->tn i s.heap->J.go i H ->
  Db (model P w) X.A (pyNext (.ref it)) (λr s1=>∃ u,r=some u /\
   Db (model P w) X.A (letOwnedTupleGo tg (.ref it) u) (λ_ s2=>∃ x H',Inv X Sc σ H' s2/\RelV x u/\J.IH i H x H'/\tn (i+1) s2.heap/\∀ b∈fp,H' b=none) E s1) E s
 done:∀ (X:Cx),X.prog=P->X.w=w->X.K=K->X.calm=true->∀ (i:Nat) (Sc:UQ) (s:Da) (σ:St) (H:Hp) (E:UP),Inv X Sc σ H s->(∀ b∈fp,ee X Sc H b)->tn i s.heap->J.stop i H ->
  Db (model P w) X.A (pyNext (.ref it)) (λr s1=>r=none/\Inv X Sc σ H s1) E s
 self:∀ (A:Fk) (i:Nat) (s:Da) (Q:UP) (E:UP),tn i s.heap->Q (.ref it) s->Db (model P w) A (pyIter (.ref it)) Q E s
abbrev TI:=St->Hp->(It->Hp->Prop)->Prop
def PQ(X:Cx)(Sc:UQ)(σ:St)(tg:Cl)(R:It->Hp->Prop)(Mr:AT)(s2:Da):Prop :=
 ∃ (it:AC) (fp:!AC) (tn:Nat->EQ->Prop) (J:It) (H':Hp),Mr=.ref it/\Inv X Sc σ H' s2/\Turn X.prog X.w X.K tg J fp it tn/\tn 0 s2.heap/\(∀ b∈fp,ee X Sc H' b)/\R J H'
def PI(X:Cx)(tg iter:Cl)(wi:TI):Prop :=
 ∀ (Sc:UQ) (s:Da) (σ:St) (H:Hp) (R:It->Hp->Prop),Inv X Sc σ H s->wi σ H R ->
  Db (model X.prog X.w) X.A (eval iter X.env) (λv s1=>Db (model X.prog X.w) X.A (pyIter v) (PQ X Sc σ tg R) X.xe s1) X.xe s
theorem wA{M:Model}{A:Fk}{E:UP}{s:Da}{tg:Cl}{it:AC}{u:AT}{o:Obj}{n:String}{vs:Array AT}{Q:Unit->Da->Prop}(ho:s.heap.get? it=some o)(hc:o.cls=.type n)(hd:o.data=.fields vs)(hn:["enumerate","zip","dict_itemiterator","dict_reverseitemiterator","odict_iterator","itertools.zip_longest","itertools.pairwise"].contains n=false)(hQ:Q Unit.unit s):Db M A (letOwnedTupleGo tg (.ref it) u) Q E s:=by
 unfold letOwnedTupleGo;cases tg<;>first
  | exact FB hQ
  | (cases u<;>first
    | exact FB hQ
    | (show Ch (wpAny_load ho ?_)
       rw[hc,hd];change Db M A (if (["enumerate","zip","dict_itemiterator","dict_reverseitemiterator","odict_iterator","itertools.zip_longest","itertools.pairwise"].contains n&&vs[0]? == some (KF _))=true then _ else _) Q E s;rw[if_neg (by intro h;rw[hn,Bool.false_and] at h;cases h)];exact FB hQ))
def Hv(K:Frag)(a:AC):It :=
 #[λi H=>∃ xs x,dR K H a xs/\xs[i]?=some x,λi H x H'=>H'=H/\∀ xs,dR K H a xs->xs[i]?=some x,λi H=>∃ xs,dR K H a xs/\xs.length<=i]
def Qj(K:Frag)(a:AC):It :=
 #[λi H=>∃ xs x,jS K H a xs/\xs[i]?=some x,λi H x H'=>H'=H/\∀ xs,jS K H a xs->xs[i]?=some x,λi H=>∃ xs,jS K H a xs/\xs.length<=i]
def Mz(lo:Int)(n:Nat):It:=#[λi _=>i < n,λi H x H'=>H'=H/\x=.int (lo+i),λi _=>n<=i]
theorem qa{P:Fr}{w:Fa}{K:Frag}{tg:Cl}(a it:AC):Turn P w K tg (Hv K a) [it] it (λi h=>h.IsListIter it a i) where
 mem:=by simp
 obj:=λi h st b hb=>by
  have e:b=it:=by simpa using hb
  subst e;let(o,e,c,d):=st;exact#[o,e,λv z=>by rw[d] at z;cases z]
 keep:=λi h h' st k=>st.at λo e=>k it (by simp) o e
 item:=by
  intro X hP hw hK hc i Sc s σ H E I hf st hg;subst hP hw hK;let(xs,x,hq,hx):=hg;let(its,rv,p,hz):=I.list hq;let(u,hu,ru):=rv.get hx;let(f0,f1,f2,f3,f4,f5):=hf it (by simp);show wpAny_pyNext_list_item st p.isList (x:=u) (by simpa using hu) λh' st' sb=>?_;have I1:Inv X Sc σ H { s with heap:=h' }:=I.turned (t':=s.toks) (λb o hb e=>(sb.2 b hb).trans e) f0 f1 f3 f4 f5;let(o,e,c,d):=id st';exact#[u,U,wA (s:={ s with heap:=h' }) e c d () #[x,H,I1,ru,#[U,λys hy=>by rw[I.t9 hy hq];exact hx],st',λb hb=>(hf b hb).1]]
 done:=by
  intro X hP hw hK hc i Sc s σ H E I hf st hg;subst hP hw hK;let(xs,hq,hx):=hg;let(its,rv,p,hz):=I.list hq;let(f0,f1,f2,f3,f4,f5):=hf it (by simp);have hl:=rv.length;exact wpAny_pyNext_list_end (I.ok.hd hc) st p.isList (by simp;cbv) λh' eb=>#[U,I.turned (t':=s.toks) (λb o hb e=>eb b o hb e) f0 f1 f3 f4 f5]
 self:=λ_ _ _ _ _ st h=>wpAny_pyIter_listiter st h
theorem vA{P:Fr}{w:Fa}{K:Frag}{tg:Cl}(a it:AC):Turn P w K tg (Qj K a) [it] it (λi h=>h.IsTupleIter it a i) where
 mem:=by simp
 obj:=λi h st b hb=>by
  have e:b=it:=by simpa using hb
  subst e;let(o,e,c,d):=st;exact#[o,e,λv z=>by rw[d] at z;cases z]
 keep:=λi h h' st k=>st.at λo e=>k it (by simp) o e
 item:=by
  intro X hP hw hK hc i Sc s σ H E I hf st hg;subst hP hw hK;let(xs,x,hq,hx):=hg;let(its,rv,p,hz):=I.tuple hq;let(u,hu,ru):=rv.get hx;let(f0,f1,f2,f3,f4,f5):=hf it (by simp);show wpAny_pyNext_tuple_item st (show s.heap.IsTuple a its.toArray from p) (x:=u) (by simpa using hu) λh' st' sb=>?_;have I1:Inv X Sc σ H { s with heap:=h' }:=I.turned (t':=s.toks) (λb o hb e=>(sb.2 b hb).trans e) f0 f1 f3 f4 f5;let(o,e,c,d):=id st';exact#[u,U,wA (s:={ s with heap:=h' }) e c d () #[x,H,I1,ru,#[U,λys hy=>by rw[I.pf hy hq];exact hx],st',λb hb=>(hf b hb).1]]
 done:=by
  intro X hP hw hK hc i Sc s σ H E I hf st hg;subst hP hw hK;let(xs,hq,hx):=hg;let(its,rv,p,hz):=I.tuple hq;let(f0,f1,f2,f3,f4,f5):=hf it (by simp);have hl:=rv.length;exact wpAny_pyNext_tuple_end (I.ok.hd hc) st (show s.heap.IsTuple a its.toArray from p) (by simp;cbv) λh' eb=>#[U,I.turned (t':=s.toks) (λb o hb e=>eb b o hb e) f0 f1 f3 f4 f5]
 self:=λ_ _ _ _ _ st h=>wpAny_pyIter_tupleiter st h
theorem vO{P:Fr}{w:Fa}{K:Frag}{tg:Cl}(it:AC)(lo:Int)(n:Nat):Turn P w K tg (Mz lo n) [it] it (λi h=>IsRangeIter h it (lo+(i:Nat) * 1) ((n:Int) - (i:Nat)) 1) where
 mem:=by simp
 obj:=λi h st b hb=>by
  have e:b=it:=by simpa using hb
  subst e;exact#[_,st,λv z=>by
   have z':Data.fields _=Data.cell v:=z;cases z']
 keep:=λi h h' st k=>k it (by simp) _ st
 item:=by
  intro X hP hw hK hc i Sc s σ H E I hf st hg;subst hP hw hK;let(f0,f1,f2,f3,f4,f5):=hf it (by simp);have W:=Walks.range (prog:=X.prog) (w:=X.w) (I.ok.hd hc) it lo 1 n;show W.item i s _ _ hg st λv h' tk hv st' kk=>?_;let(t,rfl):=hv;have I1:Inv X Sc σ H { s with heap:=h',toks:=tk }:=I.turned (λb o hb e=>kk b o (by simpa using hb) e) f0 f1 f3 f4 f5;show#[_,U,wA (s:={ s with heap:=h',toks:=tk }) (n:="range_iterator") st' U U () #[.int (lo+i),H,I1,#[t,?_],#[U,U],st',λb hb=>(hf b hb).1]];rw[Int.mul_one]
 done:=by
  intro X hP hw hK hc i Sc s σ H E I hf st hg;subst hP hw hK;let(f0,f1,f2,f3,f4,f5):=hf it (by simp);exact wpAny_pyNext_range_end (I.ok.hd hc) st (by have:n<=i:=hg;cbv) λh' eb=>#[U,I.turned (t':=s.toks) (λb o hb e=>eb b o hb e) f0 f1 f3 f4 f5]
 self:=λ_ _ _ _ _ st h=>wpAny_pyIter_rangeiter st h
section
variable{X:Cx}{tg:Cl}
def wQ(K:Frag)(tl:TE):TI:=λσ H R=>tl σ H λx H1=>∃ a,x=.ref a/\(∃ xs,dR K H1 a xs)/\R (Hv K a) H1
theorem qL{l:Cl}{tl:TE}(hl:PE X l tl):PI X tg l (wQ X.K tl):=by
 intro Sc s σ H R I h;show bx (hl Sc s σ H _ I h) λv s1 z5q=>?_;let(x,H1,I1,r1,q1):=z5q;let(a,e,(xs,hq),q):=q1;subst e;cases r1;let(its,rv,p,hz):=I1.list hq;show wpAny_pyIter_list p.isList ?_;show#[↑s1,[↑s1],_,_,H1,U,I1.kept (t':=s1.toks) λb o e=>Su _ e,qa a _,#[_,SH _ U,U,U],λb hb=>?_,q];have e:b=↑s1:=by simpa using hb
 subst e;exact I1.mq (Sx _) (I1.bj.fresh (Sx _))
theorem BG{Sc:UQ}{σ:St}{H:Hp}{s:Da}{R:It->Hp->Prop}{E:UP}{lo hi:Int}{t u v:Tok}{tk:Nat}(I:Inv X Sc σ H s)(h1:-(2 ^ 62)<=lo)(h2:lo < 2 ^ 62)(h3:-(2 ^ 62)<=hi)(h4:hi < 2 ^ 62)(q:R (Mz lo (hi - lo).toNat) H):Db (model X.prog X.w) X.A (pyIter (.ref ↑s)) (PQ X Sc σ tg R) E { s with heap:=s.heap.push { cls:=.type "range",data:=.fields #v[.int lo t,.int hi u,.int 1 v] },toks:=tk }:=by
 show wpAny_pyIter_range (IsRange.new ..) (small_one h1 h2 h3 h4) ?_;have I1:Inv X Sc σ H { s with heap:=s.heap.push { cls:=.type "range",data:=.fields #v[.int lo t,.int hi u,.int 1 v] },toks:=tk }:=I.kept λb o e=>Su _ e;show#[(s.heap.push { cls:=.type "range",data:=.fields #v[.int lo t,.int hi u,.int 1 v] }).objs.size,[(s.heap.push { cls:=.type "range",data:=.fields #v[.int lo t,.int hi u,.int 1 v] }).objs.size],_,_,H,U,
  I1.kept (t':=tk) λb o e=>Su _ e,vO _ lo (hi - lo).toNat,?_,λb hb=>?_,q]
 .have e1:lo+((0:Nat):Int) * 1=lo:=by simp
  have e2:(((hi - lo).toNat:Nat):Int) - ((0:Nat):Int)=FS.Range.rangeSize lo hi 1:=by rw[rangeSize_one];split<;>cbv
  change IsRangeIter _ _ (lo+((0:Nat):Int) * 1) ((((hi - lo).toNat:Nat):Int) - ((0:Nat):Int)) 1;rw[e1,e2];exact SH _ U
 .have e:b=(s.heap.push { cls:=.type "range",data:=.fields #v[.int lo t,.int hi u,.int 1 v] }).objs.size:=by simpa using hb
  subst e;exact I1.mq (Sx _) (I1.bj.fresh (Sx _))
def Mj(ta:TA):TI:=λσ H R=>ta σ H λvs H1=>∃ j:Int,vs=[.int j]/\-(2 ^ 62)<=j/\j < 2 ^ 62/\R (Mz 0 j.toNat) H1
theorem yF{a:Cl}{ta:TA}{p pos:Pos}(hg:Gl X "range")(hm:X.mg "range"=none)(ha:PA X [a] ta)(hs:(GM [a] X.env=[(false,eval a X.env)])⁻¹):PI X tg (.Call (.Name "range" p) [a] [] pos) (Mj ta):=by
 intro Sc s σ H R I h;show Call_ (gj I hg hm boot_range (PyProof.Rows.callWith_type1 (bx (ha pos Sc s σ H _ I h) λus s1 zz=>el2 zz λvs H1 I1 r1 q1=>?_) hs U));let(j,e,q1,q2,q):=q1;subst e;cases r1 with
 | cons r rr =>
  cases rr;let(t,rfl):=r;exact call_range_1 (BG I1 (by cbv) (by cbv) q1 q2 (by simpa using q))
def Jw(wi:TI)(g:TG)(tb:TS):TS:=λD σ H=>wi σ H λJ H1=>∃ W:Nat->Nat->St->Hp->Prop,(∃ m,W 0 m σ H1)/\∀ i m σ H,W i m σ H ->
 (J.stop i H/\D.nx σ H)\/(J.go i H/\∃ N:St->Hp->Prop,(∀ σ' H',N σ' H'->∃ m',m' < m/\W (i+1) m' σ' H')/\∀ x H',J.IH i H x H'->g x σ H' λσ2 H2=>tb { D with nx:=N,ct:=N,bk:=D.nx } σ2 H2)
def n6(fp:!AC)(h:EQ):UQ:=fp.filterMap λb=>(h.get? b).map λo=>(b,o)
theorem gZ{fp:!AC}{h:EQ}{b:AC}{o:Obj}(hb:b∈fp)(e:h.get? b=some o):(b,o)∈n6 fp h:=List.mem_filterMap.mpr #[b,hb,by rw[e];rfl]
theorem yW{fp:!AC}{h:EQ}{p:AC×Obj}(hp:p∈n6 fp h):p.1∈fp/\h.get? p.1=some p.2:=by
 let(b,hb,e):=List.mem_filterMap.mp hp;cases q:h.get? b with
 | none=>rw[q] at e;cases e
 | some o =>
  rw[q] at e;have e':(b,o)=p:=S4 e;subst e';exact#[hb,q]
theorem Inv.pinned{Sc:UQ}{σ:St}{H:Hp}{s:Da}{fp:!AC}(I:Inv X Sc σ H s)(hf:∀ b∈fp,ee X Sc H b)(ho:∀ b∈fp,∃ o,s.heap.get? b=some o/\∀ v,o.data≠.cell v):Inv X (Sc++n6 fp s.heap) σ H s :=
 I.wK λp hp=>(SN.mp hp).elim (λz=>I.pin p (S5 _ z)) λz=>by
  let(hb,e):=yW z;let(f0,f1,f2,_):=hf p.1 hb;let(o,e',d):=ho p.1 hb;rw[e] at e';cases e';exact#[e,f0,f1,f2,d]
theorem Inv.kX{Sc pl:UQ}{σ:St}{H:Hp}{s:Da}(I:Inv X (Sc++pl) σ H s):Inv X Sc σ H s:=I.wK λp hp=>I.pin p (S5 _ (Tp _ hp))
abbrev UX (i:Cl)(N:Env):Prop:=∀ x,foldedSetIterable i N x=pure x
theorem BS{iter:Cl}{body:!FM}{wi:TI}{g:TG}{tb:TS}{pos:Pos}(hp:PassesOwn (model X.prog X.w) X.A X.env X.xe)(hc:X.calm=true)(hi:PI X tg iter wi)(hg:PG X tg g)(hb:mK X body tb)(hs:UX iter X.env:=by intro _;rfl):PS X (.For tg iter body [] pos) (Jw wi g tb):=by
 intro Sc s σ H D I h;show wpAny_For (bx (hi Sc s σ H _ I h) λv s1 h1=>bx h1 λMr s2 h2=>?_) hs;let(it,fp,tn,J,H2,e,I2,T,EU,f2,W,(m0,w0),turn):=h2;subst e
 -- what stays true of the iterator's objects through the loop
 have stat:∀ {H':Hp},(∀ b∈fp,H' b=none)->∀ b∈fp,ee X Sc H' b:=λhn b hb=>#[hn b hb,(f2 b hb).2];show codeAny_forLoop_any (λn s'=>∃ i σ' H',Inv X Sc σ' H' s'/\tn i s'.heap/\(∀ b∈fp,H' b=none)/\W i n σ' H') ?_ m0 #[0,σ,H2,I2,EU,λb hb=>(f2 b hb).1,w0];rintro n s3 ⟨i,σ3,H3,I3,st3,fr3,w3⟩;rcases turn i n σ3 H3 w3 with ⟨stop,qn⟩ | ⟨go,N,hN,step⟩
 .refine wpAny_passesOwn hp (bx (T.done X U U U hc i Sc s3 σ3 H3 X.xe I3 (stat fr3) st3 stop) λr s4 z6q=>?_);let(hr,I4):=z6q;subst hr;exact wpAny_execs_nil #[σ3,H3,I4,qn]
 .refine wpAny_passesOwn hp (bx (T.item X U U U hc i Sc s3 σ3 H3 X.xe I3 (stat fr3) st3 go) λr s4 z7q=>?_);let(u,hr,h4):=z7q;subst hr;show wpAny_passesOwn hp (bx h4 λ_ s5 z8q=>?_);let(x,H5,I5,r5,y5,st5,fr5):=z8q;have I5':=I5.pinned (stat fr5) (T.obj _ _ st5);show wpAny_passesOwn hp (bx (hg _ s5 σ3 H5 x u _ I5' r5 (step x H5 y5)) λ_ s6 z9q=>?_);let(σ6,H6,I6,q6):=z9q;show wpAny_passesOwn hp (bx (hb _ s6 σ6 H6 _ I6 q6) λf s7 q7=>?_);have again:∀ {σ7:St} {H7:Hp},Inv X (Sc++n6 fp s5.heap) σ7 H7 s7->N σ7 H7->∃ m,m < n/\∃ i σ' H',Inv X Sc σ' H' s7/\tn i s7.heap/\(∀ b∈fp,H' b=none)/\W i m σ' H':=λ{σ7 H7} I7 n7=>by
   let(m',hm,w7):=hN σ7 H7 n7;show#[m',hm,i+1,σ7,H7,I7.kX,T.keep _ _ _ st5 λb hb o e=>(I7.pin (b,o) (S5 _ (S5 _ (gZ hb e)))).1,λb hb=>?_,w7];let(o,e,d):=T.obj _ _ st5 b hb;exact (I7.pin (b,o) (S5 _ (S5 _ (gZ hb e)))).2.1
  cases f with
  | next=>let(σ7,H7,I7,n7):=q7;exact again I7 n7
  | cont=>let(σ7,H7,I7,n7):=q7;exact again I7 n7
  | brk=>let(σ7,H7,I7,q7):=q7;exact#[σ7,H7,I7.kX,q7]
  | ret v=>let(x7,σ7,H7,I7,r7,q7):=q7;exact#[x7,σ7,H7,I7.kX,r7,q7]
end
theorem Ac{K:Frag}{a:AC}{xs:!V}{g:TG}{tb:TS}{D:Ends}{σ:St}{H:Hp}(Pv:Nat->St->Hp->Prop)(h0:Pv 0 σ H)(hl:∀ i σ H,i<=xs.length->Pv i σ H->dR K H a xs)(hs:∀ i x σ H,xs[i]?=some x->Pv i σ H->g x σ H λσ2 H2=>tb { D with nx:=Pv (i+1),ct:=Pv (i+1),bk:=D.nx } σ2 H2)(hd:∀ σ H,Pv xs.length σ H->D.nx σ H) :
  ∃ W:Nat->Nat->St->Hp->Prop,(∃ m,W 0 m σ H)/\∀ i m σ H,W i m σ H ->
   ((Hv K a).stop i H/\D.nx σ H)\/((Hv K a).go i H/\∃ N:St->Hp->Prop,(∀ σ' H',N σ' H'->∃ m',m' < m/\W (i+1) m' σ' H')/\∀ x H',(Hv K a).IH i H x H'->g x σ H' λσ2 H2=>tb { D with nx:=N,ct:=N,bk:=D.nx } σ2 H2):=by
 show#[λi m σ H=>m=xs.length - i/\i<=xs.length/\Pv i σ H,#[xs.length,by simp,Nat.zero_le _,h0],?_];rintro i m σ H ⟨rfl,hi,p⟩;have q:=hl i σ H hi p;by_cases gq:i < xs.length
 .refine .inr #[#[xs,xs[i],q,by simp[gq]],Pv (i+1),λσ' H' p'=>#[xs.length - (i+1),by cbv,U,gq,p'],λx H' y=>?_];let(e,y):=y;subst e;exact hs i x σ _ (y xs q) p
 .have e:i=xs.length:=by cbv
  subst e;exact .inl #[#[xs,q,Sx _],hd σ H p]
abbrev R2:=V->V->Hp->VK->Prop
def gQ(X:Cx)(f:AT->AT->Sem AT)(r:R2):Prop :=
 ∀ (Sc:UQ) (s:Da) (σ:St) (H:Hp) (x y:V) (v u:AT) (Q:VK),Inv X Sc σ H s->RelV x v->RelV y u->r x y H Q ->
  Db (model X.prog X.w) X.A (f v u) (EP X Sc σ Q) X.xe s
def OQ(X:Cx)(f:AT->Sem AT)(r:V->Hp->VK->Prop):Prop :=
 ∀ (Sc:UQ) (s:Da) (σ:St) (H:Hp) (x:V) (v:AT) (Q:VK),Inv X Sc σ H s->RelV x v->r x H Q ->
  Db (model X.prog X.w) X.A (f v) (EP X Sc σ Q) X.xe s
def dW(X:Cx)(f:AT)(r:!V->Hp->VK->Prop):Prop :=
 ∀ (Sc:UQ) (s:Da) (σ:St) (H:Hp) (xs:!V) (us:!AT) (Q:VK),Inv X Sc σ H s->Vals xs us->r xs H Q ->
  Db (model X.prog X.w) X.A (call f us) (EP X Sc σ Q) X.xe s
def NA(X:Cx)(r:V->Hp->(Bool->Hp->Prop)->Prop):Prop :=
 ∀ (Sc:UQ) (s:Da) (σ:St) (H:Hp) (x:V) (v:AT) (Q:Bool->Hp->Prop),Inv X Sc σ H s->RelV x v->r x H Q ->
  Db (model X.prog X.w) X.A (truthy v) (TP X Sc σ Q) X.xe s
def iM(r:R2)(ta tb:TE):TE:=λσ H Q=>ta σ H λx H1=>tb σ H1 λy H2=>r x y H2 Q
def R8(r:V->Hp->VK->Prop)(ta:TE):TE:=λσ H Q=>ta σ H λx H1=>r x H1 Q
def rI(C:Int->Int->Prop)(g:Int->Int->V):R2:=λx y H Q=>∃ i j,x=.int i/\y=.int j/\C i j/\Q (g i j) H
def sE(g:Int->Int->V):R2:=λx y H Q=>∃ i j,x=.int i/\y=.int j/\Q (g i j) H
def rU(g:Int->V):V->Hp->VK->Prop:=λx H Q=>∃ i,x=.int i/\Q (g i) H
section
variable{X:Cx}{a b c:Cl}{ta tb tc:TE}{pos:Pos}
theorem Fz(ha:PE X a ta)(hb:PE X b tb){Sc:UQ}{s:Da}{σ:St}{H:Hp}{R:V->V->Hp->Prop}(I:Inv X Sc σ H s)(h:ta σ H λx H1=>tb σ H1 λy H2=>R x y H2){Q:UP}{f:AT->AT->Sem AT}(hf:∀ v u s2 x y H2,Inv X Sc σ H2 s2->RelV x v->RelV y u->R x y H2->Db (model X.prog X.w) X.A (f v u) Q X.xe s2) :
  Db (model X.prog X.w) X.A (eval a X.env) (λv s₁=>Db (model X.prog X.w) X.A (eval b X.env) (λu s₂=>Db (model X.prog X.w) X.A (f v u) Q X.xe s₂) X.xe s₁) X.xe s:=by
 show bx (ha Sc s σ H _ I h) λv s1 zz=>el2 zz λx H1 I1 r1 q1=>?_;show bx (hb Sc s1 σ H1 _ I1 q1) λu s2 zz=>el2 zz λy H2 I2 r2 q2=>?_;exact hf v u s2 x y H2 I2 r1 r2 q2
theorem cP{op:Operator}{r:R2}(ho:gQ X (P3 op) r)(ha:PE X a ta)(hb:PE X b tb):PE X (.BinOp a op b pos) (iM r ta tb):=by
 intro Sc s σ H Q I h;exact wpAny_BinOp (Fz ha hb I h λv u s2 x y H2 I2 rx ry q=>ho Sc s2 σ H2 x y v u Q I2 rx ry q)
theorem KA{op:UnaryOp}{r:V->Hp->VK->Prop}(ho:OQ X (unaryOp op) r)(ha:PE X a ta):PE X (.UnaryOp op a pos) (R8 r ta):=by
 intro Sc s σ H Q I h;exact UnaryOp_ (bx (ha Sc s σ H _ I h) λv s1 zz=>el2 zz λx H1 I1 r1 q1=>ho Sc s1 σ H1 x v Q I1 r1 q1)
theorem MJ{f:AT->AT->Sem AT}{C:Int->Int->Prop}{g:Int->Int->Int}(rule:∀ (i j:Int) (t u:Tok) (s:Da) (Q:UP) (E:UP),C i j->Q (.int (g i j) s.toks) { s with toks:=s.toks+1 }->Db (model X.prog X.w) X.A (f (.int i t) (.int j u)) Q E s) :
  gQ X f (rI C λi j=>.int (g i j)):=by
 intro Sc s σ H x y v u Q I rx ry h;let(i,j,rfl,rfl,hc,q):=h;let(t,rfl):=rx;let(t',rfl):=ry;exact rule i j t t' s _ _ hc #[.int (g i j),H,I.tok _,#[_,U],q]
theorem Kp{f:AT->AT->Sem AT}{g:Int->Int->Int}(rule:∀ (i j:Int) (t u:Tok) (s:Da) (Q:UP) (E:UP),Q (.int (g i j) s.toks) { s with toks:=s.toks+1 }->Db (model X.prog X.w) X.A (f (.int i t) (.int j u)) Q E s) :
  gQ X f (sE λi j=>.int (g i j)):=by
 intro Sc s σ H x y v u Q I rx ry h;let(i,j,rfl,rfl,q):=h;let(t,rfl):=rx;let(t',rfl):=ry;exact rule i j t t' s _ _ #[.int (g i j),H,I.tok _,#[_,U],q]
theorem DU{f:AT->AT->Sem AT}{g:Int->Int->Bool}(rule:∀ (i j:Int) (t u:Tok) (s:Da) (Q:UP) (E:UP),Q (.bool (g i j)) s->Db (model X.prog X.w) X.A (f (.int i t) (.int j u)) Q E s) :
  gQ X f (sE λi j=>.bl (g i j)):=by
 intro Sc s σ H x y v u Q I rx ry h;let(i,j,rfl,rfl,q):=h;let(t,rfl):=rx;let(t',rfl):=ry;exact rule i j t t' s _ _ #[.bl (g i j),H,I,U,q]
def Kq(i j:Int):Prop:=0<=j/\j<=1000000/\i.natAbs < 2 ^ 64
def sv(i j:Int):Prop:=(-(2 ^ 64) < i/\i < 2 ^ 64)\/(-(2 ^ 64) < j/\j < 2 ^ 64)
theorem sv.ok{i j:Int}(h:sv i j):IntMulOk i j:=by
 rcases h with ⟨h1,h2⟩ | ⟨h1,h2⟩
 .exact .of_left (intBits_le_64 h1 h2)
 .exact .of_right (intBits_le_64 h1 h2)
theorem bX:gQ X (P3 .Add) (sE λi j=>.int (i+j)):=Kp λ_ _ _ _ _ _ _ q=>add_int q
theorem gw:gQ X (P3 .Sub) (sE λi j=>.int (i - j)):=Kp λ_ _ _ _ _ _ _ q=>sub_int q
theorem iN:gQ X (P3 .Mult) (rI sv λi j=>.int (i * j)):=MJ λ_ _ _ _ _ _ _ hc q=>mul_int q hc.ok
theorem fF:gQ X (P3 .Mod) (rI (λ_ j=>0 < j) λi j=>.int (i % j)):=MJ λi j _ _ _ _ _ hc q=>by
 have h1:(0:Int) < j:=hc;exact mod_int' (by cbv) (by rw[Int.fmod_eq_emod_of_nonneg i (by cbv)];exact q)
theorem HG:gQ X (P3 .Pow) (rI Kq λi j=>.int (i ^ j.toNat)):=MJ λ_ _ _ _ _ _ _ hc q=>pow_int_small hc.1 hc.2.1 hc.2.2 q
theorem Sf{f:AT->Sem AT}{g:Int->Int}(rule:∀ (i:Int) (t:Tok) (s:Da) (Q:UP) (E:UP),Q (.int (g i) s.toks) { s with toks:=s.toks+1 }->Db (model X.prog X.w) X.A (f (.int i t)) Q E s) :
  OQ X f (rU λi=>.int (g i)):=by
 intro Sc s σ H x v Q I rx h;let(i,rfl,q):=h;let(t,rfl):=rx;exact rule i t s _ _ #[.int (g i),H,I.tok _,#[_,U],q]
theorem GX:OQ X (unaryOp .USub) (rU λi=>.int (-i)):=Sf λ_ _ _ _ _ q=>neg_int q
end
def Dp:V->V->Bool
 | .bH,.bH=>true | .bH,.int _=>true | .int _,.bH=>true | .bH,.bl _=>true | .bl _,.bH=>true | .bH,.str _=>true | .str _,.bH=>true
 | .int _,.int _=>true | .bl _,.bl _=>true | .str _,.str _=>true | .xN _,.xN _=>true
 | .int _,.str _=>true | .str _,.int _=>true | .bl _,.str _=>true | .str _,.bl _=>true
 | _,_=>false
def OA:R2:=λx y H Q=>Dp x y=true/\Q (.bl (decide (x=y))) H
def P9:R2:=λx y H Q=>Dp x y=true/\Q (.bl (not (decide (x=y)))) H
theorem xt{i j:Int}:decide (V.int i=V.int j)=(i == j):=by
 rw[Ux];simp
theorem BV{i j:Bool}:decide (V.bl i=V.bl j)=(i == j):=by
 rw[Ux];simp
theorem wI{i j:Str}:decide (V.str i=V.str j)=(i == j):=by
 rw[Ux];simp
theorem xq{i j:Array UInt8}:decide (V.xN i=V.xN j)=(i.toList == j.toList):=by
 rw[Ux];cases i;cases j;simp
section
variable{X:Cx}{a b c:Cl}{ta tb tc:TE}{pos:Pos}
theorem aX{Sc:UQ}{σ:St}{H:Hp}{s:Da}{Q:VK}{k k':Bool}(I:Inv X Sc σ H s)(q:Q (.bl k) H)(e:k=k'):EP X Sc σ Q (.bool k') s:=by
 subst e;exact#[.bl k,H,I,U,q]
theorem ba:gQ X (IN .Eq) OA:=by
 intro Sc s σ H x y v u Q I rx ry h;let(hs,q):=h;cases x with
 | bH =>
  cases rx;cases y with
  | bH=>cases ry;exact PySem.EqNone.eq_none_none (aX I q (by simp))
  | bl j=>cases ry;exact PySem.EqNone.eq_none_bool (aX I q (by simp))
  | int j=>let(t',rfl):=ry;exact PySem.EqNone.eq_none_int (aX I q (by simp))
  | str j=>let(t',rfl):=ry;exact PySem.EqNone.eq_none_str (aX I q (by simp))
  | _=>exact absurd (show false=true from hs) SK
 | bl i =>
  cases rx;cases y with
  | bH=>cases ry;exact PySem.EqNone.eq_bool_none (aX I q (by simp))
  | bl j=>cases ry;exact eq_bool (aX I q BV)
  | str j=>let(t',rfl):=ry;exact PySem.EqMixed.eq_bool_str (aX I q (by simp))
  | _=>exact absurd (show false=true from hs) SK
 | int i =>
  let(t,rfl):=rx;cases y with
  | bH=>cases ry;exact PySem.EqNone.eq_int_none (aX I q (by simp))
  | int j=>let(t',rfl):=ry;exact eq_int (aX I q xt)
  | str j=>let(t',rfl):=ry;exact PySem.EqMixed.eq_int_str (aX I q (by simp))
  | _=>exact absurd (show false=true from hs) SK
 | str i =>
  let(t,rfl):=rx;cases y with
  | bH=>cases ry;exact PySem.EqNone.eq_str_none (aX I q (by simp))
  | bl j=>cases ry;exact PySem.EqMixed.eq_str_bool (aX I q (by simp))
  | int j=>let(t',rfl):=ry;exact PySem.EqMixed.eq_str_int (aX I q (by simp))
  | str j=>let(t',rfl):=ry;exact eq_str (aX I q wI)
  | _=>exact absurd (show false=true from hs) SK
 | xN i =>
  let(t,rfl):=rx;cases y with
  | xN j=>let(t',rfl):=ry;exact PySem.W.eq_bytes (aX I q xq)
  | _=>exact absurd (show false=true from hs) SK
 | _=>cases y<;>exact absurd (show false=true from hs) SK
theorem tY:gQ X (IN .NotEq) P9:=by
 intro Sc s σ H x y v u Q I rx ry h;let(hs,q):=h;cases x with
 | bH =>
  cases rx;cases y with
  | bH=>cases ry;exact PySem.EqNone.ne_none_none (aX I q (by simp))
  | bl j=>cases ry;exact PySem.EqNone.ne_none_bool (aX I q (by simp))
  | int j=>let(t',rfl):=ry;exact PySem.EqNone.ne_none_int (aX I q (by simp))
  | str j=>let(t',rfl):=ry;exact PySem.EqNone.ne_none_str (aX I q (by simp))
  | _=>exact absurd (show false=true from hs) SK
 | bl i =>
  cases rx;cases y with
  | bH=>cases ry;exact PySem.EqNone.ne_bool_none (aX I q (by simp))
  | bl j=>cases ry;exact ne_bool (aX I q (congrArg not BV))
  | str j=>let(t',rfl):=ry;exact PySem.EqMixed.ne_bool_str (aX I q (by simp))
  | _=>exact absurd (show false=true from hs) SK
 | int i =>
  let(t,rfl):=rx;cases y with
  | bH=>cases ry;exact PySem.EqNone.ne_int_none (aX I q (by simp))
  | int j=>let(t',rfl):=ry;exact ne_int (aX I q (congrArg not xt))
  | str j=>let(t',rfl):=ry;exact PySem.EqMixed.ne_int_str (aX I q (by simp))
  | _=>exact absurd (show false=true from hs) SK
 | str i =>
  let(t,rfl):=rx;cases y with
  | bH=>cases ry;exact PySem.EqNone.ne_str_none (aX I q (by simp))
  | bl j=>cases ry;exact PySem.EqMixed.ne_str_bool (aX I q (by simp))
  | int j=>let(t',rfl):=ry;exact PySem.EqMixed.ne_str_int (aX I q (by simp))
  | str j=>let(t',rfl):=ry;exact ne_str (aX I q (congrArg not wI))
  | _=>exact absurd (show false=true from hs) SK
 | xN i =>
  let(t,rfl):=rx;cases y with
  | xN j=>let(t',rfl):=ry;exact PySem.W.ne_bytes (aX I q (congrArg not xq))
  | _=>exact absurd (show false=true from hs) SK
 | _=>cases y<;>exact absurd (show false=true from hs) SK
theorem BR:gQ X (IN .Lt) (sE λi j=>.bl (decide (i < j))):=DU λ_ _ _ _ _ _ _ q=>lt_int q
theorem EM:gQ X (IN .LtE) (sE λi j=>.bl (decide (i<=j))):=DU λ_ _ _ _ _ _ _ q=>le_int q
theorem ku:gQ X (IN .Gt) (sE λi j=>.bl (decide (j < i))):=DU λ_ _ _ _ _ _ _ q=>gt_int q
theorem Ea:gQ X (IN .GtE) (sE λi j=>.bl (decide (j<=i))):=DU λ_ _ _ _ _ _ _ q=>ge_int q
theorem zO:gQ X (IN .Is) (λx y H Q=>y=.bH/\Q (.bl (decide (x=.bH))) H):=by
 intro Sc s σ H x y v u Q I rx ry h;let(rfl,q):=h;cases ry;show is_none_gen (aX I q ?_);cases x<;>first
  | (cases rx;rfl)
  | (let(t,rfl):=rx;rfl)
theorem Cv:gQ X (IN .IsNot) (λx y H Q=>y=.bH/\Q (.bl (not (decide (x=.bH)))) H):=by
 intro Sc s σ H x y v u Q I rx ry h;let(rfl,q):=h;cases ry;show isnot_none_gen (aX I q ?_);cases x<;>first
  | (cases rx;rfl)
  | (let(t,rfl):=rx;rfl)
theorem ax(b:Cl){op:CmpOp}(h: ~~~(op≠.In))(h2: ~~~(op≠.NotIn)):behindInMarks op b=false:=by
 have e1:(op == CmpOp.In)=false:=by cases op<;>first | rfl | exact absurd U h
 have e2:(op == CmpOp.NotIn)=false:=by cases op<;>first | rfl | exact absurd U h2
 cases b<;>simp[behindInMarks,e1,e2]
theorem r8{op:CmpOp}{r:R2}(ho:gQ X (IN op) r)(ha:PE X a ta)(hb:PE X b tb)(hm:behindInMarks op b=false):PE X (.Compare a [op] [b] pos) (iM r ta tb):=by
 intro Sc s σ H Q I h;exact wpAny_Compare1 (Fz ha hb I h λv u s2 x y H2 I2 rx ry q=>ho Sc s2 σ H2 x y v u Q I2 rx ry q) hm
def mV(t:TE):TT:=λσ H Q=>t σ H λx H'=>∃ k,x=.bl k/\Q k H'
theorem ib{op:CmpOp}{r:R2}(ho:gQ X (IN op) r)(ha:PE X a ta)(hb:PE X b tb)(hm:behindInMarks op b=false):PT X (.Compare a [op] [b] pos) (mV (iM r ta tb)):=by
 intro Sc s σ H Q I h;show wpAny_isTrue_Compare1 (bx (ha Sc s σ H _ I h) λv s1 zz=>el2 zz λx H1 I1 r1 q1=>bx (hb Sc s1 σ H1 _ I1 q1) λu s2 zz=>el2 zz λy H2 I2 r2 q2 =>
  bx (ho Sc s2 σ H2 x y v u _ I2 r1 r2 q2) λc s3 #[z,H3,I3,r3,k,e,q3]=>?_) hm
 subst e;cases r3;exact wpAny_truthy_bool #[H3,I3,q3]
def vW(r r':R2)(ta tb tc:TE):TE:=λσ H Q=>ta σ H λx H1=>tb σ H1 λy H2=>r x y H2 λz H3=>∃ k,z=.bl k /\
 (if k=true then tc σ H3 λw' H4=>r' y w' H4 Q else Q (.bl false) H3)
theorem Bt{op Ao:CmpOp}{r r':R2}(ho:gQ X (IN op) r)(yV:gQ X (IN Ao) r')(ha:PE X a ta)(hb:PE X b tb)(hc:PE X c tc)(hm:lastMarks [op,Ao] [b,c]=false:=by with_unfolding_all rfl):PE X (.Compare a [op,Ao] [b,c] pos) (vW r r' ta tb tc):=by
 intro Sc s σ H Q I h;show Compare_chain (bx (ha Sc s σ H _ I h) λv s1 zz=>el2 zz λx H1 I1 r1 q1=>chain_link (bx (hb Sc s1 σ H1 _ I1 q1) λu s2 zz=>el2 zz λy H2 I2 r2 q2 =>
  bx (ho Sc s2 σ H2 x y v u _ I2 r1 r2 q2) λd s3 #[z,H3,I3,r3,k,e,q3]=>?_)) hm
 subst e;cases r3;show wpAny_truthy_bool ?_;cases k with
 | false=>exact ite_ff #[.bl false,H3,I3,U,q3]
 | true=>exact ite_tt (chain_last (bx (hc Sc s3 σ H3 _ I3 q3) λw' s4 zz=>el2 zz λz' H4 I4 r4 q4=>yV Sc s4 σ H4 y z' u w' Q I4 r2 r4 q4))
theorem tU{op Ao:CmpOp}{r r':R2}(ho:gQ X (IN op) r)(yV:gQ X (IN Ao) r')(ha:PE X a ta)(hb:PE X b tb)(hc:PE X c tc)(hm:lastMarks [op,Ao] [b,c]=false:=by with_unfolding_all rfl):PT X (.Compare a [op,Ao] [b,c] pos) (mV (vW r r' ta tb tc)):=by
 intro Sc s σ H Q I h;show isTrue_chain (bx (ha Sc s σ H _ I h) λv s1 zz=>el2 zz λx H1 I1 r1 q1=>test_link (bx (hb Sc s1 σ H1 _ I1 q1) λu s2 zz=>el2 zz λy H2 I2 r2 q2 =>
  bx (ho Sc s2 σ H2 x y v u _ I2 r1 r2 q2) λd s3 #[z,H3,I3,r3,k,e,q3]=>?_)) hm
 subst e;cases r3;show wpAny_truthy_bool ?_;cases k with
 | false =>
  let(k',e',q'):=q3;cases e';exact ite_ff #[H3,I3,q']
 | true =>
  show ite_tt (test_last (bx (hc Sc s3 σ H3 _ I3 q3) λw' s4 zz=>el2 zz λz' H4 I4 r4 q4=>bx (yV Sc s4 σ H4 y z' u w' _ I4 r2 r4 q4) λd' s5 #[z2,H5,I5,r5,k2,e2,q5]=>?_));subst e2;cases r5;exact wpAny_truthy_bool #[H5,I5,q5]
def LS(K:Frag)(x:V)(H:Hp)(k:Bool):Prop :=
 match x with
 | .bH=>k=false
 | .bl b=>k=b
 | .int i=>k=(i != 0)
 | .str y=>y.length<=Ev/\k=((y.length:Int) != 0)
 | .xN y=>y.size<=Ev/\k=((y.size:Int) != 0)
 | .ref p=>(∃ xs,dR K H p xs/\k=(not xs.isEmpty))\/(∃ xs,jS K H p xs/\k=(not xs.isEmpty))\/∃ kvs,H p=some (.dK kvs)/\k=(not kvs.isEmpty)
 | _=>False
theorem uX{κ:Type}{kvs:!(κ×V)}{vs:!(κ×AT)}(r:KV kvs vs):(not vs.isEmpty)=(not kvs.isEmpty):=by
 cases r<;>rfl
theorem oB{xs:!V}{its:!AT}(r:Vals xs its):(not its.toArray.isEmpty)=(not xs.isEmpty):=by
 cases r<;>simp
theorem jK:(Ev:Nat) < 2 ^ 63:=by rw[sizeLine_eq];decide
theorem Hj:NA X (λx H Q=>∃ k,LS X.K x H k/\Q k H):=by
 intro Sc s σ H x v Q I rx h;let(k,e,q):=h;have hl:=jK;have hs:Ev=16777216:=sizeLine_eq;cases x with
 | bH =>
  cases rx;have e':k=false:=e;subst e';exact truthy_none #[H,I,q]
 | bl b =>
  cases rx;have e':k=b:=e;subst e';exact wpAny_truthy_bool #[H,I,q]
 | int i =>
  let(t,rfl):=rx;have e':k=(i != 0):=e;subst e';exact PySem.P.truthy_int #[H,I,q]
 | str y =>
  let(t,rfl):=rx;obtain⟨hy,e'⟩:y.length<=Ev/\k=((y.length:Int) != 0):=e;subst e';exact PySem.P.truthy_str (by cbv) #[H,I.tok _,q]
 | xN y =>
  let(t,rfl):=rx;obtain⟨hy,e'⟩:y.size<=Ev/\k=((y.size:Int) != 0):=e;subst e';exact PySem.W.truthy_bytes (by cbv) #[H,I.tok _,q]
 | ref p =>
  cases rx;have e':(∃ xs,dR X.K H p xs/\k=(not xs.isEmpty))\/(∃ xs,jS X.K H p xs/\k=(not xs.isEmpty))\/∃ kvs,H p=some (.dK kvs)/\k=(not kvs.isEmpty):=e;rcases e' with ⟨xs,hx,e'⟩ | ⟨xs,hx,e'⟩ | ⟨kvs,hx,e'⟩
  .subst e';let(its,r,pl,hz):=I.list hx;have hlen:=r.length;exact wpAny_truthy_list pl.isList (by simp only[List.size_toArray];cbv) #[H,I.tok _,by rw[oB r];exact q]
  .subst e';let(its,r,pl,hz):=I.tuple hx;have hlen:=r.length;exact truthy_tuple pl (by simp only[List.size_toArray];cbv) #[H,I.tok _,by rw[oB r];exact q]
  .subst e';obtain⟨hz,hS,vs,r,m⟩:kvs.length<=Ev/\(p == Re)=false/\∃ vs,KV kvs vs/\s.heap.DictOf (b8 X.prog X.w) p vs:=I.bj p _ hx;have hlen:kvs.length=vs.length:=Paired.length r;exact wpAny_truthy_dict hS m (by cbv) #[H,I.tok _,by rw[uX r];exact q]
 | _=>exact (show False from e).elim
theorem ur(ha:PE X a ta)(he:∀ whole,isTrue a X.env whole=(do let v <- whole;standAt a.pos;holding [v] (truthy v))) :
  PT X a (λσ H Q=>ta σ H λx H'=>∃ k,LS X.K x H' k/\Q k H'):=by
 intro Sc s σ H Q I h;exact isTrue_plain (bx (ha Sc s σ H _ I h) λv s1 zz=>el2 zz λx H1 I1 r1 q1=>Hj Sc s1 σ H1 x v Q I1 r1 q1) (he _)
theorem aQ:gQ X (P3 .Add) (λx y H Q=>∃ i j,x=.str i/\y=.str j/\i.length+j.length<=Ev/\Q (.str (i++j)) H):=by
 intro Sc s σ H x y v u Q I rx ry h;let(i,j,rfl,rfl,hz,q):=h;let(t,rfl):=rx;let(t',rfl):=ry;exact add_str (λt' tk=>#[.str (i++j),H,I.tok _,#[_,U],q]) hz
theorem vals1{x:V}{us:!AT}(r:Vals [x] us):∃ u,us=[u]/\RelV x u:=by
 cases r with
 | cons r1 r2=>cases r2;exact#[_,U,r1]
theorem vals2{x y:V}{us:!AT}(r:Vals [x,y] us):∃ u w',us=[u,w']/\RelV x u/\RelV y w':=by
 cases r with
 | cons r1 r2 =>
  cases r2 with
  | cons r3 r4=>cases r4;exact#[_,_,U,r1,r3]
theorem la(hc:X.calm=true):dW X (.builtin "max") (λxs H Q=>∃ i j,xs=[.int i,.int j]/\Q (.int (if j > i then j else i)) H):=by
 intro Sc s σ H xs us Q I r h;let(i,j,rfl,q):=h;let(u,w',rfl,(t,rfl),(t',rfl)):=vals2 r;show max_two_ints (I.ok.hd hc) λh' tk k=>#[_,H,I.kept k,?_,q];by_cases hj:j > i
 .rw[if_pos hj,if_pos hj];exact#[_,U]
 .rw[if_neg hj,if_neg hj];exact#[_,U]
theorem yq(hc:X.calm=true):dW X (.builtin "min") (λxs H Q=>∃ i j,xs=[.int i,.int j]/\Q (.int (if j < i then j else i)) H):=by
 intro Sc s σ H xs us Q I r h;let(i,j,rfl,q):=h;let(u,w',rfl,(t,rfl),(t',rfl)):=vals2 r;show min_two_ints (I.ok.hd hc) λh' tk k=>#[_,H,I.kept k,?_,q];by_cases hj:j < i
 .rw[if_pos hj,if_pos hj];exact#[_,U]
 .rw[if_neg hj,if_neg hj];exact#[_,U]
theorem gK:dW X (.type "int") (λxs H Q=>(∃ i,xs=[.int i]/\Q (.int i) H)\/∃ k,xs=[.bl k]/\Q (.int (if k then 1 else 0)) H):=by
 intro Sc s σ H xs us Q I r h;rcases h with ⟨i,rfl,q⟩ | ⟨k,rfl,q⟩
 .let(u,rfl,t,rfl):=vals1 r;exact call_int_int #[.int i,H,I,#[_,U],q]
 .let(u,rfl,r1):=vals1 r;cases r1;exact call_int_bool #[.int (if k then 1 else 0),H,I.tok _,#[_,U],q]
theorem rE:dW X (.type "str") (λxs H Q=>∃ i,xs=[.int i]/\i.natAbs.log2 < 1920/\Q (.str (toString i)) H):=by
 intro Sc s σ H xs us Q I r h;let(i,rfl,hz,q):=h;let(u,rfl,t,rfl):=vals1 r;exact PySem.P.str_of_int hz #[.str _,H,I.tok _,#[_,U],q]
end
structure we(h:EQ)(x dx C:AC)(mA:Str->Option AT):Prop where
 obj:h.get? x=some (PySem.W.instObj C dx)
 ns:h.Ns1 dx mA
 ne:dx≠x
theorem yA{h:EQ}{dx:AC}{mA:Str->Option AT}(n:h.Ns1 dx mA):∃ od,h.get? dx=some od/\∀ name,PySem.W.lookIn name od=some (mA name):=by
 let(o,es,ep,ho,hd,hk,_,hm):=n;show#[o,ho,λname=>?_];have e:=hm name;unfold nsFind findBy at e;rw[<- Array.find?_toList] at e;unfold PySem.W.lookIn;rw[hd];dsimp only;split
 .rename_i y q
  rw[q] at e;exact congrArg some e
 .rename_i q
  rw[q] at e;have a:es.toList.any (·.refKey)=false:=by
   rw[List.any_eq_false];intro y hy;let(z,t,hkey):=hk y (Array.mem_toList_iff.mp hy);simp[SZ.refKey,hkey]
  have a':¬ es.toList.any (·.refKey)=true:=by rw[a];exact SK
  rw[if_neg a'];exact congrArg some e
theorem we.look{h:EQ}{x dx C:AC}{mA:Str->Option AT}(I:we h x dx C mA):∃ od,InstAt h x (PySem.W.instObj C dx) C (some od)/\∀ name,PySem.W.lookIn name od=some (mA name) :=
 let #[od,ho,hl]:=yA I.ns
 #[od,#[I.obj,U,U,ho],hl]
section
variable{prog:Fr}{w:Fa}{A:Fk}{E:UP}{s:Da}{K:Frag}{x dx C f:AC}{mA:Str->Option AT}{name:Str}{v:AT}
theorem get_map{expr:Bool}{Q:UP}(X:K.In s.heap)(I:we s.heap x dx C mA)(hg:PySem.W.plainGet K C name=true)(hh:PySem.W.hasDictIn K C=true)(ha:findIn K (.ref C) name=some none)(hv:mA name=some v)(Ho:PySem.W.handedIn v=true)(h:Q v { s with toks:=s.toks+1 }) :
  Db (model prog w) A (getAttr (.ref x) name expr) Q E s:=by
 let(od,J,hl):=I.look;exact PySem.W.get_value X J (PySem.W.plainGet_of hg).1 (PySem.W.findObj_own hh ha U (by rw[hl,hv])) Ho h
theorem zS{pl:Sem Bool}{Q:AT×!AT->Da->Prop}(X:K.In s.heap)(I:we s.heap x dx C mA)(hg:PySem.W.plainGet K C name=true)(hf:findIn K (.ref C) name=some (some (.ref f)))(ht:PySem.W.isFn K (.ref f)=true)(hv:mA name=none)(h:Q (.ref f,[.ref x]) s) :
  Db (model prog w) A (getMethod (.ref x) name pl) Q E s:=by
 let(od,J,hl):=I.look;exact PySem.W.method_fn X J (PySem.W.plainGet_of hg).1 (PySem.W.plainGet_of hg).2 hf (beq_iff_eq.mp ht) (by change (PySem.W.lookIn name od).map (·.isSome)=some false;rw[hl,hv];rfl) h
theorem CB{ns:!Str}{Q:Unit->Da->Prop}(X:K.In s.heap)(I:we s.heap x dx C mA)(hs:findIn K (.ref C) "__setattr__"=some (some (.builtin "object.__setattr__")))(hp:PySem.W.plainOver K C=true)(ht:PySem.W.takerIn K C name=some none)(hh:PySem.W.hasDictIn K C=true)(hw:PySem.Within mA ns)(hsz:ns.length<=Ev)(h:∀ h',we h' x dx C (λy=>if y=name then some v else mA y)->EQ.SameBut dx s.heap h'->Q Unit.unit { s with heap:=h',toks:=s.toks+2 }) :
  Db (model prog w) A (setAttr (.ref x) name v) Q E s:=by
 let(od,J,hl):=I.look;show PySem.W.set_plain X J hs (PySem.W.osa_open (s:={ s with toks:=s.toks+1 }) (r:=none) X J hp ht λb=>?_);let(cd,hc,hd'):=PySem.W.any_some hh;have hx:s.heap.get? x=some #[.ref C,some dx,.plain,#v[]]:=I.obj;show Ch (FB (Ch (Ch (wpAny_loadPart hx (Ch (Looks.here (s:={ s with toks:=s.toks+1 }) (PySem.W.looks_clsIn X hc) ?_))))));rw[hd'];show FB (a:=some dx) (Ch (FB (Ch ?_)));show wpAny_nsSet1 (s:={ s with toks:=s.toks+1 }) I.ns λh' Ih t5=>?_;let(oD,esD,epD,hoD,Kf,hcD):=Ih.count (PySem.Within.cons name v hw);show Ch (wpAny_lookBehind hoD (by rw[Kf];exact pastItsLine_dict (SI hcD (by rw[SG];cbv))) ?_);exact FB (h _ #[(t5.2 _ (Ne.symm I.ne)).trans I.obj,Ih,I.ne] t5)
theorem zw{R:Result->Da->Prop}{vs:!AT}{kw:!(Str×AT)}(X:K.In s.heap)(hm:PySem.W.makesIn K C=true)(hi:findIn K (.ref C) "__init__"=some (some (.ref f)))(hf:typeIn K (.ref f)=some (.type "function"))(h:codeAny (model prog w) (A.under (.builtin "type.__call__" #[.ref C::vs,kw])) (.call (.ref f) #[.ref (↑s+1)::vs,kw]) (PySem.W.InitBack (↑s+1) R)
   { s with heap:=(s.heap.push PySem.W.emptyDict).push (PySem.W.instObj C ↑s) }) :
  codeAny (model prog w) A (.call (.ref C) #[vs,kw]) R s:=by
 let(hh,g,d,t,os):=s;exact PySem.W.make_core (PySem.W.makes_of X hm) (PySem.W.looks_findIn X hi) (λself=>PySem.W.bind_fn X self hf) (.inl U) h
end
def eg(f:Str)(v:V):!(Str×V)->!(Str×V)
 | []=>[(f,v)]
 | (g,x)::r=>if g=f then (g,v)::r else (g,x)::eg f v r
theorem lZ(f g:Str)(v:V):∀ fs:!(Str×V),(eg f v fs).lookup g=if g=f then some v else fs.lookup g
 | []=>by
  change List.lookup g [(f,v)]=_;by_cases h:g=f
  .have hb:(g == f)=true:=beq_iff_eq.mpr h;simp only[List.lookup,hb,if_pos h]
  .have hb:(g == f)=false:=beq_eq_false_iff_ne.mpr h;simp only[List.lookup,hb,if_neg h]
 | (k,x)::r=>by
  have ih:=lZ f g v r;rw[show eg f v ((k,x)::r)=(if k=f then (k,v)::r else (k,x)::eg f v r) from U];by_cases hk:k=f
  .rw[if_pos hk];by_cases h:g=k
   .have hb:(g == k)=true:=beq_iff_eq.mpr h;simp only[List.lookup,hb,if_pos (h.trans hk)]
   .have hb:(g == k)=false:=beq_eq_false_iff_ne.mpr h;simp only[List.lookup,hb,if_neg (λe:g=f=>h (e.trans hk.symm))]
  .rw[if_neg hk];by_cases h:g=k
   .have hb:(g == k)=true:=beq_iff_eq.mpr h;simp only[List.lookup,hb,if_neg (λe:g=f=>hk (h.symm.trans e))]
   .have hb:(g == k)=false:=beq_eq_false_iff_ne.mpr h;simp only[List.lookup,hb];exact ih
theorem lB(f:Str)(v:V):∀ fs:!(Str×V),f∈(eg f v fs).map (·.1)/\∀ g,g∈fs.map (·.1)->g∈(eg f v fs).map (·.1)
 | []=>#[by simp[eg],λg h=>by simp at h]
 | (k,x)::r=>by
  let(i1,i2):=lB f v r;rw[show eg f v ((k,x)::r)=(if k=f then (k,v)::r else (k,x)::eg f v r) from U];by_cases hk:k=f
  .rw[if_pos hk];subst hk;exact#[by simp,λg h=>by simpa using h]
  .rw[if_neg hk];show#[?_,λg h=>?_]
   .rw[SA];exact Sy _ i1
   .rw[SA] at h ⊢;rcases SO.mp h with e | e
    .exact SO.mpr (.inl e)
    .exact Sy _ (i2 g e)
theorem l8(f:Str)(v:V):∀ fs:!(Str×V),(eg f v fs).length<=fs.length+1
 | []=>by simp[eg]
 | (k,x)::r=>by
  have ih:=l8 f v r;rw[show eg f v ((k,x)::r)=(if k=f then (k,v)::r else (k,x)::eg f v r) from U];by_cases hk:k=f
  .rw[if_pos hk,SG,SG];cbv
  .rw[if_neg hk,SG,SG];cbv
theorem jq.some_of{v:V}{o:Option AT}(r:jq (some v) o):∃ u,o=some u/\RelV v u:=by
 cases o with
 | none=>exact (show False from r).elim
 | some u=>exact#[u,U,r]
theorem jq.none_of{o:Option AT}(r:jq none o):o=none:=by
 cases o with
 | none=>rfl
 | some u=>exact (show False from r).elim
theorem yQ{v:V}{u:AT}(r:RelV v u):PySem.W.handedIn u=true:=by
 cases v with
 | bH=>cases (show u=AT.none from r);rfl
 | bl b=>cases (show u=AT.bool b from r);rfl
 | int i=>let(t,e):=(show ∃ t,u=AT.int i t from r);cases e;rfl
 | str x=>let(t,e):=(show ∃ t,u=AT.str x t from r);cases e;rfl
 | xN b=>let(t,e):=(show ∃ t,u=AT.bytes b t from r);cases e;rfl
 | MB b=>let(t,e):=(show ∃ t,u=AT.float b t from r);cases e;rfl
 | ref a=>cases (show u=AT.ref a from r);rfl
 | ty n=>cases (show u=AT.type n from r);rfl
section
variable{P:Fr}{w:Fa}{H H':Hp}{h h':EQ}{a C dx:AC}{fs RN:!(Str×V)}
theorem rM(bj:jV P w H h)(e:H a=some (.ins C dx fs)):∃ mA,we h a dx C mA/\(∀ f,jq (fs.lookup f) (mA f))/\PySem.Within mA (fs.map (·.1))/\fs.length<=1000/\H dx=some (.own a):=by
 let(d,z,ne,ob,mA,n,r,q):=(show bQ P w H h a (.ins C dx fs) from bj a _ e);exact#[mA,#[ob,n,ne],r,q,z,d]
end
structure wN(K:Frag)(C:AC):Prop where
 pg:PySem.W.plainGet K C Str.empty=true
 hd:PySem.W.hasDictIn K C=true
 po:PySem.W.plainOver K C=true
 sa:findIn K (.ref C) "__setattr__"=some (some (.builtin "object.__setattr__"))
theorem wN.get{K:Frag}{C:AC}(c:wN K C)(f:Str):PySem.W.plainGet K C f=true:=c.pg
def d3(K:Frag)(C:AC)(f:Str):Prop:=findIn K (.ref C) f=some none
theorem d3.Mb{K:Frag}{C:AC}{f:Str}(n:d3 K C f):PySem.W.takerIn K C f=some none:=by
 unfold PySem.W.takerIn;rw[show findIn K (.ref C) f=some none from n]
 rfl
structure Meth(K:Frag)(C:AC)(m:Str)(f:AC):Prop where
 at_:findIn K (.ref C) m=some (some (.ref f))
 fn:PySem.W.isFn K (.ref f)=true
 kp:keepIn K (.ref f)=true
section
variable{X:Cx}{Sc:UQ}{σ:St}{H:Hp}{s:Da}{a C dx:AC}{fs:!(Str×V)}{f:Str}{v:V}{A:Fk}{E:UP}
theorem vy{b:Bool}{Q:UP}(I:Inv X Sc σ H s)(e:H a=some (.ins C dx fs))(c:wN X.K C)(n:d3 X.K C f)(l:fs.lookup f=some v)(h:∀ u s',Inv X Sc σ H s'->RelV v u->Q u s'):Db (model X.prog X.w) A (getAttr (.ref a) f b) Q E s:=by
 let(mA,O,r,_,_,_):=rM I.bj e;let(u,hu,ru):=jq.some_of (v:=v) (o:=mA f) (by rw[<- l];exact r f);exact get_map I.xA O (c.get f) c.hd n hu (yQ ru) (h u _ (I.tok _) ru)
theorem vt{m:Str}{g:AC}{pl:Sem Bool}{Q:AT×!AT->Da->Prop}(I:Inv X Sc σ H s)(e:H a=some (.ins C dx fs))(c:wN X.K C)(k:Meth X.K C m g)(l:fs.lookup m=none)(h:Q (.ref g,[.ref a]) s):Db (model X.prog X.w) A (getMethod (.ref a) m pl) Q E s:=by
 let(mA,O,r,_,_,_):=rM I.bj e;have hn:mA m=none:=jq.none_of (by rw[<- l];exact r m);exact zS I.xA O (c.get m) k.at_ k.fn hn h
theorem vY{y:V}{u:AT}{Q:Unit->Da->Prop}(I:Inv X Sc σ H s)(e:H a=some (.ins C dx fs))(c:wN X.K C)(n:d3 X.K C f)(hl:fs.length < 1000)(ry:RelV y u)(h:∀ s',Inv X Sc σ (upd H a (.ins C dx (eg f y fs))) s'->Q Unit.unit s'):Db (model X.prog X.w) A (setAttr (.ref a) f u) Q E s:=by
 let(mA,O,r,wi,_,ho):=rM I.bj e;have hz:(fs.map (·.1)).length<=Ev:=by rw[Ss,sizeLine_eq];cbv
 show CB I.xA O c.sa c.po n.Mb c.hd wi hz λh' O' sb=>h _ ?_;have hd:∃ o,h'.get? dx=some o:=let #[o,_,_,e',_]:=O'.ns;#[o,e'];show I.write (x:=a) (e:=dx) (by rw[e];exact True.intro) (.inr ho) (λb q hb z=>(sb.2 b hb).trans z) hd ?_;show#[by rw[av O.ne];exact ho,?_,O.ne,O'.obj,_,O'.ns,λg=>?_,λg hg=>?_]
 .have:=l8 f y fs;cbv
 .show jq ((eg f y fs).lookup g) (if g=f then some u else mA g);rw[lZ];by_cases q:g=f
  .rw[if_pos q,if_pos q];exact ry
  .rw[if_neg q,if_neg q];exact r g
 .by_cases q:g=f
  .rw[q];exact (lB f y fs).1
  .refine (lB f y fs).2 g (wi g λz=>hg ?_);change (if g=f then some u else mA g)=none;rw[if_neg q];exact z
theorem Inv.made(I:Inv X Sc σ H s):Inv X Sc σ (upd (upd H ↑s (.own (↑s+1))) (↑s+1) (.ins C ↑s []))
  { s with heap:=(s.heap.push PySem.W.emptyDict).push (PySem.W.instObj C ↑s) }:=by
 have e1:(s.heap.push PySem.W.emptyDict).get? ↑s=some PySem.W.emptyDict:=SH s.heap U;have e2:((s.heap.push PySem.W.emptyDict).push (PySem.W.instObj C ↑s)).get? (↑s+1)=some (PySem.W.instObj C ↑s):=by
  have:=SH (s.heap.push PySem.W.emptyDict) (o:=PySem.W.instObj C ↑s) U
  rwa [Th] at this
 have e3:(s.heap.push PySem.W.emptyDict).Ns ↑s (λ_=>none):=#[PySem.W.emptyDict,#v[],_,e1,U,(λe he=>absurd he (by simp)),λ_=>rfl];have I1:=I.laid (a:=↑s) (o:=.own (↑s+1)) (h':=s.heap.push PySem.W.emptyDict) (t':=s.toks) (λb u q=>Su _ q) (Sx _) #[_,e1];show I1.laid (a:=↑s+1) (o:=.ins C ↑s []) (t':=s.toks) (λb u q=>Su _ q) (Uz (Th _ _)) ?_;have ne:↑s≠↑s+1:=SR (Nat.lt_succ_self _);show#[by rw[av ne,ay],S3 _,ne,e2,λ_=>none,(EQ.Ns1.of_empty e3).at λo q=>Su _ q,λ_=>True.intro,λy hy=>absurd U hy]
theorem Dy{prog:Fr}{w:Fa}{env:Env}{e:Cl}{f:Str}{pos:Pos}{s:Da}{Q:UP}(hb:attributeBase e f env (eval e env)=eval e env)(h:Db (model prog w) A (eval e env) (λo s₁=>Db (model prog w) A (getAttr o f true) Q E s₁) E s):Db (model prog w) A (eval (.Attribute e f pos) env) Q E s :=
 Attribute_any_ h (by rw[arm_eval_Attribute,hb])
end
def Nc(K:Frag)(ta:TE)(f:Str):TE:=λσ H Q=>ta σ H λx H1=>∃ a C dx fs v,x=.ref a/\H1 a=some (.ins C dx fs)/\wN K C/\d3 K C f/\fs.lookup f=some v/\Q v H1
def NG(K:Frag)(ta tv:TE)(f:Str):TS:=λD σ H=>tv σ H λy H1=>ta σ H1 λx H2=>∃ a C dx fs,x=.ref a/\H2 a=some (.ins C dx fs)/\wN K C/\d3 K C f/\fs.length < 1000 /\
 D.nx σ (upd H2 a (.ins C dx (eg f y fs)))
section
variable{X:Cx}{o e value:Cl}{f:Str}{pos pos' u9:Pos}{ta tv:TE}
theorem Gh(he:PE X e ta)(hb:attributeBase e f X.env (eval e X.env)=eval e X.env):PE X (.Attribute e f pos) (Nc X.K ta f):=by
 intro Sc s σ H Q I h;show Dy hb (bx (he Sc s σ H _ I h) λu s1 #[x,H1,I1,rx,a,C,dx,fs,v,ex,ea,c,n,l,q]=>?_);subst ex;obtain rfl:u=AT.ref a:=rx;exact vy I1 ea c n l λu' s2 I2 ru=>#[v,H1,I2,ru,q]
theorem vE(ha:PE X o ta)(hv:PE X value tv)(hs:swapsWith value (some (.Attribute o f pos')) pos.line X.env=pure false):PS X (.Assign [.Attribute o f pos'] value pos) (NG X.K ta tv f):=by
 intro Sc s σ H D I h;show plainObj_wpAny_Assign_Attribute (bx (hv Sc s σ H _ I h) λu s1 zz=>el2 zz λy H1 I1 ry q=>bx (ha Sc s1 σ H1 _ I1 q) λov s2 #[x,H2,I2,rx,a,C,dx,fs,ex,ea,c,n,l,q2]=>?_) hs;subst ex;obtain rfl:ov=AT.ref a:=rx;exact vY I2 ea c n l ry λs3 I3=>#[σ,_,I3,q2]
end
section
variable{X:Cx}{Sc:UQ}{σ:St}{H:Hp}{s:Da}{A:Fk}{E:UP}{Q:UP}{c:AT}{b:Bool}
end
structure cx(k:Nat)(A:Fk):Prop where
 hd:A.handled=none
 dp:A.depth+3 * k+5 < recursionLimit
 un:A.units+16 * k+200 < cLine
theorem cx.mono{j k:Nat}{A:Fk}(r:cx k A)(h:j<=k):cx j A:=#[r.hd,by have:=r.dp;cbv,by have:=r.un;cbv]
theorem cx.deeper{k:Nat}{A:Fk}(r:cx (k+1) A)(env:Env):cx k (A.deeper env) :=
 #[r.hd,by have:=r.dp;change A.depth+1+3 * k+5 < _;cbv,by have:=r.un;change A.units+3+16 * k+200 < _;cbv]
theorem wb{A:Fk}{C:AC}{us:!AT}{kw:!(Str×AT)}:(A.under (.builtin "type.__call__" #[.ref C::us,kw])).depth=A.depth+1:=by
 first | rfl | simp[Fk.under,Code.weight,Code.isCreation,Code.isGuard,Code.isCaller,Code.frames,Code.isFrame,guardIds]
theorem u6{A:Fk}{C:AC}{us:!AT}{kw:!(Str×AT)}:(A.under (.builtin "type.__call__" #[.ref C::us,kw])).units=A.units+1:=by
 first | rfl | simp[Fk.under,Code.cUnits,Code.frames,Code.isFrame]
theorem cx.make{k:Nat}{A:Fk}(r:cx (k+1) A)(C:AC)(us:!AT)(kw:!(Str×AT)):cx k (A.under (.builtin "type.__call__" #[.ref C::us,kw])) :=
 #[r.hd,by have:=r.dp;rw[wb];cbv,by have:=r.un;rw[u6];cbv]
theorem cx.depth{k:Nat}{A:Fk}(r:cx k A):A.depth < recursionLimit:=by have:=r.dp;cbv
theorem cx.units{k:Nat}{A:Fk}(r:cx k A):A.units+64 < cLine:=by have:=r.un;cbv
def De:TA:=λ_ H Q=>Q [] H
def tJ(ta:TE)(tr:TA):TA:=λσ H Q=>ta σ H λx H1=>tr σ H1 λxs H2=>Q (x::xs) H2
section
variable{X:Cx}{e:Cl}{es:!Cl}{te:TE}{t:TA}{pos:Pos}
theorem gd:PA X [] De:=λ_ _ _ _ H Q I h=>Calls.spliced_nil #[[],H,I,.nil,h]
theorem cR(ha:PE X e te)(hr:PA X es t)(hs:(US X.env e es)⁻¹):PA X (e::es) (tJ te t):=by
 intro pos Sc s σ H Q I h;rw[hs];change Db _ _ (spliced ((false,eval e X.env)::IR pos (GM es X.env))) _ _ s;show Calls.spliced_cons (bx (ha Sc s σ H _ I h) λu s1 zz=>el2 zz λx H1 I1 r1 q1=>?_);exact bx (hr pos Sc s1 σ H1 _ I1 q1) λus s2 zz=>el2 zz λxs H2 I2 r2 q2=>#[x::xs,H2,I2,.cons r1 r2,q2]
def Of(t:TA):TE:=λσ H Q=>t σ H λxs H1=>xs.length<=Ev/\∀ p,H1 p=none->Q (.ref p) (upd H1 p (.tup xs))
def NV(t:TA):TE:=λσ H Q=>t σ H λxs H1=>xs.length<=Ev/\∀ p,H1 p=none->Q (.ref p) (upd H1 p (.lst xs))
theorem GD{x1}(h:PA X es t):PE X (.Tuple es x1 pos) (Of t):=by
 intro Sc s σ H Q I hq;show wpAny_Tuple_spliced (bx (h pos Sc s σ H _ I hq) λus s1 #[xs,H1,I1,r,z,q]=>#[by rw[<- r.length];exact z,?_]);have hf:H1 ↑s1=none:=I1.bj.fresh (Sx _);show#[.ref ↑s1,upd H1 ↑s1 (.tup xs),I1.laid (t':=s1.toks) (λb u e=>Su _ e) (Sx _) ?_,U,q _ hf];exact#[z,us,r,iI.new _ _]
theorem HD(h:PA X es t):PE X (.List es pos) (NV t):=by
 intro Sc s σ H Q I hq;show wpAny_List_spliced (bx (h pos Sc s σ H _ I hq) λus s1 #[xs,H1,I1,r,z,q]=>#[by rw[<- r.length];exact z,?_]);have hf:H1 ↑s1=none:=I1.bj.fresh (Sx _);show#[.ref ↑s1,upd H1 ↑s1 (.lst xs),I1.laid (t':=s1.toks) (λb u e=>Su _ e) (Sx _) ?_,U,q _ hf];exact#[z,us,0,r,SH _ U]
end
abbrev Sp:=!V->Hp->VK->XK->Prop
abbrev u4:=!Env->Hp->Da->XK->UP
structure vU(P:Fr)(w:Fa)(K:Frag)(mg:Str->Option AT)(base:EQ)(A:Fk)(outer:!Env)(s:Da)(H:Hp):Prop where
 frames:A.frames=some outer
 mod:Mod K mg base
 bs:∀ b o,base.get? b=some o->s.heap.get? b=some o/\H b=none
 Di:base.objs.size<=↑s
 me:s.heap.FunFrames base outer
 F3:∀ b∈zR outer,H b=none
 bj:jV P w H s.heap
 bare:AllBare s.gens
def CE(outer:!Env)(P:Fr)(w:Fa)(H:Hp)(s:Da)(Q:VK)(u:AT)(s':Da):Prop :=
 ∃ v H',s'.os=s.os/\AllBare s'.gens/\Un (zR outer) [] H H' s.heap s'.heap/\jV P w H' s'.heap/\RelV v u/\Q v H'
def CR(CX:u4)(outer:!Env)(P:Fr)(w:Fa)(H:Hp)(s:Da)(Q:VK)(E:XK)(r:Result)(s':Da):Prop :=
 match r with
 | .ok (.ret u)=>CE outer P w H s Q u s'
 | .ok _=>False
 | .error e=>CX outer H s E e s'
structure bN(P:Fr)(w:Fa)(K:Frag)(mg:Str->Option AT)(base:EQ)(CX:u4)(k:Nat)(f:AC)(fd:GT)(ps:!Str)(sp:Sp):Prop where
 len:∀ vs H Q E,sp vs H Q E->vs.length=ps.length
 run:∀ (A:Fk) (outer:!Env) (s:Da) (H:Hp) (args:Args) (us:!AT) (vs:!V) (Q:VK) (E:XK),cx k A->vU P w K mg base A outer s H->BindsTo s fd args (ps.zip us)->Vals vs us->sp vs H Q E ->
  codeAny (model P w) A (.call (.ref f) args) (CR CX outer P w H s Q E) s
theorem bN.mono{P:Fr}{w:Fa}{K:Frag}{mg:Str->Option AT}{base:EQ}{CX:u4}{j k:Nat}{f:AC}{fd:GT}{ps:!Str}{sp:Sp}(F:bN P w K mg base CX j f fd ps sp)(h:j<=k) :
  bN P w K mg base CX k f fd ps sp:=#[F.len,λA outer s H args us vs Q E hr=>F.run A outer s H args us vs Q E (hr.mono h)]
theorem bN.imp{P:Fr}{w:Fa}{K:Frag}{mg:Str->Option AT}{base:EQ}{CX:u4}{k:Nat}{f:AC}{fd:GT}{ps:!Str}{sp LH:Sp}(F:bN P w K mg base CX k f fd ps sp)(h:∀ vs H Q E,LH vs H Q E->sp vs H Q E):bN P w K mg base CX k f fd ps LH :=
 #[λvs H Q E q=>F.len vs H Q E (h _ _ _ _ q),λA outer s H args us vs Q E hr he hb hv hs=>F.run A outer s H args us vs Q E hr he hb hv (h _ _ _ _ hs)]
theorem vU.make{P:Fr}{w:Fa}{K:Frag}{mg:Str->Option AT}{base:EQ}{A:Fk}{outer:!Env}{s:Da}{H:Hp}(e:vU P w K mg base A outer s H)(C:AC)(us:!AT)(kw:!(Str×AT)) :
  vU P w K mg base (A.under (.builtin "type.__call__" #[.ref C::us,kw])) outer s H:=#[by first | exact e.frames | (simpa [Fk.under,Code.envs,Code.isFrame,pushEnvs] using e.frames),e.mod,e.bs,e.Di,e.me,e.F3,e.bj,e.bare]
section
variable{X:Cx}{Sc:UQ}{σ:St}{H:Hp}{s s':Da}
theorem Inv.Ke(I:Inv X Sc σ H s):vU X.prog X.w X.K X.mg X.base X.A X.stack s H :=
 #[I.ok.frames,I.ok.mod,I.bs,SI I.ok.Di I.sz,I.stack,I.xj,I.bj,I.bare]
theorem Inv.after{Q:VK}{u:AT}(I:Inv X Sc σ H s)(h:CE X.stack X.prog X.w H s Q u s'):EP X Sc σ Q u s':=by
 let(v,H',os,bare,un,bj,r,q):=h;let(hh,g,d,t,os'):=s';obtain rfl:os'=s.os:=os;exact#[v,H',I.call (h':=hh) (g':=g) (d':=d) (t':=t) (ch:=[]) un bj bare (λb z=>absurd z (by simp)),r,q]
end
def Ba(sp:Sp)(qY:!V)(E:XK)(t:TA):TE:=λσ H Q=>t σ H λvs H1=>sp (vs++qY) H1 Q E
def LY(C:AC)(m:Str)(sp:Sp)(qY:!V)(E:XK)(ta:TE)(t:TA):TE:=λσ H Q=>ta σ H λx H1=>∃ a dx fs,x=.ref a/\H1 a=some (.ins C dx fs)/\fs.lookup m=none /\
 t σ H1 λvs H2=>sp (x::(vs++qY)) H2 Q E
def Le(C:AC)(sp:Sp)(qY:!V)(E:XK)(t:TA):TE:=λσ H Q=>t σ H λvs H1=>∀ x dx,H1 x=none->H1 dx=none->dx≠x ->
 sp (.ref x::(vs++qY)) (upd (upd H1 dx (.own x)) x (.ins C dx [])) (λv H2=>v=.bH/\Q (.ref x) H2) E
def Binds(K:Frag)(fd:GT)(ps:!Str)(ds:!AT):Prop :=
 ∀ (s:Da) (us:!AT),K.In s.heap->(us++ds).length=ps.length->BindsTo s fd #[us,[]] (ps.zip (us++ds))
theorem Binds.all{K:Frag}{fd:GT}{ps:!Str}(h:∀ us:!AT,us.length=ps.length->bindArgs fd #[us,[]]=pure (ps.zip us)):Binds K fd ps []:=λs us _ hl=>by
 rw[SY] at hl ⊢;exact .of_eq (h us hl)
def Passes(CX:u4)(X:Cx)(E:XK):Prop:=∀ (Sc:UQ) (σ:St) (H:Hp) (s:Da) (e:AT) (s':Da),Inv X Sc σ H s->CX X.stack H s E e s'->X.xe e s'
section
variable{X:Cx}{CX:u4}{k:Nat}{f C:AC}{fd:GT}{ps:!Str}{sp:Sp}{qY:!V}{ds:!AT}{E:XK}{x m:Str}{p pos apos:Pos}{e o:Cl}{es:!Cl}{ta:TE}{t:TA}
theorem wc{Sc:UQ}{σ:St}{H:Hp}{s:Da}{Q:VK}{us:!AT}{vs:!V}(F:bN X.prog X.w X.K X.mg X.base CX k f fd ps sp)(hr:cx k X.A)(hb:Binds X.K fd ps ds)(hd:Vals qY ds)(hx:Passes CX X E)(I:Inv X Sc σ H s)(r:Vals vs us)(h:sp (vs++qY) H Q E):Db (model X.prog X.w) X.A (call (.ref f) us) (EP X Sc σ Q) X.xe s:=by
 have r2:Vals (vs++qY) (us++ds):=r.append hd;have hl:(us++ds).length=ps.length:=by rw[<- r2.length];exact F.len _ _ _ _ h
 show wpAny_call (codeAny_mono (F.run X.A X.stack s H #[us,[]] (us++ds) (vs++qY) Q E hr I.Ke (hb s us I.xA hl) r2 h) λr s' hq=>?_);cases r with
 | error e=>exact hx Sc σ H s e s' I hq
 | ok fl =>
  cases fl with
  | ret u=>exact I.after hq
  | next=>exact False.elim hq
  | brk=>exact False.elim hq
  | cont=>exact False.elim hq
theorem kh(F:bN X.prog X.w X.K X.mg X.base CX k f fd ps sp)(hr:cx k X.A)(hg:Gl X x)(hm:X.mg x=some (.ref f))(hk:keepIn X.K (.ref f)=true)(hb:Binds X.K fd ps ds)(hd:Vals qY ds)(hx:Passes CX X E)(ha:PA X (e::es) t)(kJ: ~~~(UU x))(he:(US X.env e es)⁻¹)(ie:(UT X.env pos es)⁻¹) :
  PE X (.Call (.Name x p) (e::es) [] pos) (Ba sp qY E t):=by
 intro Sc s σ H Q I h;show wpAny_Call_Name_kw (qR I hg hm ?_ kJ);show UA (h₀:=X.base) I.ok.mod.Ic hk (bx (ha pos Sc s σ H _ I h) λus s1 zz=>el2 zz λvs H1 I1 r q=>#[I1.xA,?_]) he ie;exact wc F hr hb hd hx I1 r q
theorem Cy{pl:Sem Bool}(he:PE X o ta)(c:wN X.K C)(hm:Meth X.K C m f)(F:bN X.prog X.w X.K X.mg X.base CX k f fd ps sp)(hr:cx k X.A)(hb:Binds X.K fd ps ds)(hd:Vals qY ds)(hx:Passes CX X E)(ha:PA X (e::es) t)(lQ:(US X.env e es)⁻¹)(ie:(UT X.env pos es)⁻¹)(ht:(eval (.Call (.Attribute o m apos) (e::es) [] pos) X.env=(do
   let ov <- eval o X.env
   standAt apos.atName
   let (f,first) <- holding [ov] (getMethod ov m pl)
   callWith pos f first (IR pos (GM (e::es) X.env)) (Rs pos (SC [] X.env))))⁻¹) :
  PE X (.Call (.Attribute o m apos) (e::es) [] pos) (LY C m sp qY E ta t):=by
 intro Sc s σ H Q I h;show PySem.W.methodCall_KW (pl:=pl) (bx (he Sc s σ H _ I h) λu s1 #[x,H1,I1,rx,a,dx,fs,ex,ea,l,q]=>?_) ht;subst ex;obtain rfl:u=AT.ref a:=rx;show vt I1 ea c hm l ?_;show UA (first:=[.ref a]) (h₀:=X.base) I.ok.mod.Ic hm.kp (bx (ha pos Sc s1 σ H1 _ I1 q) λus s2 zz=>el2 zz λvs H2 I2 r q2=>#[I2.xA,?_]) lQ ie;exact wc (us:=.ref a::us) (vs:=.ref a::vs) F hr hb hd hx I2 (.cons U r) q2
structure Mk(K:Frag)(C f:AC):Prop where
 makes:PySem.W.makesIn K C=true
 init:findIn K (.ref C) "__init__"=some (some (.ref f))
 fn:PySem.W.isFn K (.ref f)=true
 kp:keepIn K (.ref C)=true
theorem zK{Sc:UQ}{σ:St}{H:Hp}{s:Da}{Q:VK}{us:!AT}{vs:!V}(M:Mk X.K C f)(F:bN X.prog X.w X.K X.mg X.base CX k f fd ps sp)(hr:cx (k+1) X.A)(hb:Binds X.K fd ps ds)(hd:Vals qY ds)(hx:Passes CX X E)(I:Inv X Sc σ H s)(r:Vals vs us)(h:∀ x dx,H x=none->H dx=none->dx≠x->sp (.ref x::(vs++qY)) (upd (upd H dx (.own x)) x (.ins C dx [])) (λv H2=>v=.bH/\Q (.ref x) H2) E) :
  Db (model X.prog X.w) X.A (call (.ref C) us) (EP X Sc σ Q) X.xe s:=by
 have hq:=h (↑s+1) ↑s (I.bj.fresh (Ut _)) (I.bj.fresh (Sx _)) (SR (Nat.lt_succ_self _));have I2:=Inv.made (C:=C) I;have r2:Vals (V.ref (↑s+1)::(vs++qY)) (AT.ref (↑s+1)::(us++ds)):=.cons U (r.append hd);have hl:(AT.ref (↑s+1)::us++ds).length=ps.length:=by
  have e:=r2.length;rw[F.len _ _ _ _ hq] at e;exact e.symm
 show wpAny_call (zw (f:=f) I.xA M.makes M.init (beq_iff_eq.mp M.fn) (codeAny_mono (F.run _ X.stack _ _ #[AT.ref (↑s+1)::us,[]] (AT.ref (↑s+1)::(us++ds)) _ _ E (hr.make C us [])
  (I2.Ke.make C us []) (hb _ (AT.ref (↑s+1)::us) I2.xA hl) r2 hq) λr s' hq'=>?_))
 cases r with
 | error e=>exact hx Sc σ _ _ e s' I2 hq'
 | ok fl =>
  cases fl with
  | ret u =>
   let(v,H',I3,rv,ev,q3):=I2.after hq';subst ev;exact#[rv,#[V.ref (↑s+1),H',I3,U,q3]]
  | next=>exact False.elim hq'
  | brk=>exact False.elim hq'
  | cont=>exact False.elim hq'
theorem CQ(M:Mk X.K C f)(F:bN X.prog X.w X.K X.mg X.base CX k f fd ps sp)(hr:cx (k+1) X.A)(hg:Gl X x)(hm:X.mg x=some (.ref C))(hb:Binds X.K fd ps ds)(hd:Vals qY ds)(hx:Passes CX X E)(ha:PA X (e::es) t)(kJ: ~~~(UU x))(he:(US X.env e es)⁻¹)(ie:(UT X.env pos es)⁻¹) :
  PE X (.Call (.Name x p) (e::es) [] pos) (Le C sp qY E t):=by
 intro Sc s σ H Q I h;show wpAny_Call_Name_kw (qR I hg hm ?_ kJ);show UA (h₀:=X.base) I.ok.mod.Ic M.kp (bx (ha pos Sc s σ H _ I h) λus s1 zz=>el2 zz λvs H1 I1 r q=>#[I1.xA,?_]) he ie;exact zK M F hr hb hd hx I1 r q
end
section
variable{X:Cx}{CX:u4}{k:Nat}{f C:AC}{fd:GT}{ps ks:!Str}{sp:Sp}{E:XK}{x m:Str}{p pos apos RY:Pos}{e o:Cl}{es:!Cl}{So:!Ps}{te ta:TE}{t tk:TA}{nm:Option Str}
variable{g:!AT->!AT->!AT}{gV:!V->!V->!V}
end
structure au(N P:!Str)(sc:Scope):Prop where
 kind:sc.kind=.function
 co:sc.isCoroutine=false
 gen:sc.isGenerator=false
 nd:N.Nodup
 pre:N.take P.length=P
 par:∀ x∈P,sc.names.lookup x=some .local\/sc.names.lookup x=some .cell
 HJ:∀ y∈sc.names,y.2≠.free
theorem pD{kindOf:Str->Option Go}{x:Str}:∀ {binds:!(Str×AT)} {m:Str->Option AT},(∀ v,(x,v)∉binds)->bindL kindOf binds m x=m x
 | [],_,_=>rfl
 | (n,v)::r,m,h=>by
  unfold bindL;rw[pD λw hw=>h w (Sy _ hw)];split
  .have:x≠n:=by rintro rfl;exact h v SD
   simp[this]
  .rfl
theorem pH{kindOf:Str->Option Go}{x:Str}:∀ {binds:!(Str×AT)} {m:Str->Option AT},(∀ v,(x,v)∉binds)->bindC kindOf binds m x=m x
 | [],_,_=>rfl
 | (n,v)::r,m,h=>by
  unfold bindC;rw[pH λw hw=>h w (Sy _ hw)];split
  .rfl
  .have:x≠n:=by rintro rfl;exact h v SD
   simp[this]
theorem pR{kindOf:Str->Option Go}{x:Str}{v:AT}:∀ {P:!Str} {vs:!AT} {i:Nat} {m:Str->Option AT},P.Nodup->P[i]?=some x->vs[i]?=some v->kindOf x=some .local ->
  bindL kindOf (P.zip vs) m x=some v
 | [],_,_,_,_,h,_,_=>by simp at h
 | _::_,[],_,_,_,_,h,_=>by simp at h
 | p::P,w::vs,0,m,nd,h1,h2,hk=>by
  simp at h1 h2;subst h1;subst h2;change bindL kindOf ((p,w)::P.zip vs) m p=_;unfold bindL;rw[pD λv hv=>(T2.mp nd).1 (TK hv).1,if_pos hk];simp
 | p::P,w::vs,i+1,m,nd,h1,h2,hk=>by
  change bindL kindOf ((p,w)::P.zip vs) m x=_;unfold bindL;exact pR (i:=i) (List.nodup_cons.mp nd).2 (by simpa using h1) (by simpa using h2) hk
theorem pY{kindOf:Str->Option Go}{x:Str}{v:AT}:∀ {P:!Str} {vs:!AT} {i:Nat} {m:Str->Option AT},P.Nodup->P[i]?=some x->vs[i]?=some v->kindOf x≠some .local ->
  bindC kindOf (P.zip vs) m x=some v
 | [],_,_,_,_,h,_,_=>by simp at h
 | _::_,[],_,_,_,_,h,_=>by simp at h
 | p::P,w::vs,0,m,nd,h1,h2,hk=>by
  simp at h1 h2;subst h1;subst h2;change bindC kindOf ((p,w)::P.zip vs) m p=_;unfold bindC;rw[pH λv hv=>(T2.mp nd).1 (TK hv).1,if_neg hk];simp
 | p::P,w::vs,i+1,m,nd,h1,h2,hk=>by
  change bindC kindOf ((p,w)::P.zip vs) m x=_;unfold bindC;exact pY (i:=i) (List.nodup_cons.mp nd).2 (by simpa using h1) (by simpa using h2) hk
def start(N:!Str)(vs:!V):St:=vs.map some++List.replicate (N.length - vs.length) none
def kB(CX:u4)(P:Fr)(w:Fa)(K:Frag)(mg:Str->Option AT)(base:EQ)(N:!Str)(qual:Str)(scope:Scope)(f:AC)(cd:AT)(A:Fk)(outer:!Env)(s:Da)(H:Hp)(E:XK):Cx where
 prog:=P
 w:=w
 K:=K
 mg:=mg
 base:=base
 A:=A.deeper (envOfC qual scope ↑s f cd)
 N:=N
 s₀:=s
 H₀:=H
 env:=envOfC qual scope ↑s f cd
 outer:=outer
 stack:=envOfC qual scope ↑s f cd::outer
 ex:=[]
 calm:=true
 fn:=λ_=>true
 pn:=[]
 xe:=λe s'=>Db (model P w) (A.deeper (envOfC qual scope ↑s f cd)) (leaving (envOfC qual scope ↑s f cd) e) (λ_ DY=>CX outer H s E e DY) (λe' DY=>CX outer H s E e' DY) s'
theorem tK{sc:Scope}{n:Nat}{x:Str}(h:sc.names.lookup x=some .cell):∃ c,(cellsFrom n sc.names []).lookup x=some c:=by
 have q:=PySem.W.cellsFrom_some sc.names n [] (.inl h);exact TQ.mp q
theorem yl{CX:u4}{P:Fr}{w:Fa}{K:Frag}{mg:Str->Option AT}{base:EQ}{N ps:!Str}{qual:Str}{scope:Scope}{f:AC}{cd:AT}{A:Fk}{outer:!Env}{s s1:Da}{H:Hp}{E:XK}{us:!AT}{vs:!V}(S:au N ps scope)(hd:A.handled=none)(e0:vU P w K mg base A outer s H)(hl:vs.length=ps.length)(r:Vals vs us)(x:InCallC s ↑s (bindL (envOfC qual scope ↑s f cd).kindOf (ps.zip us) λ_=>none) (cellsFrom (↑s+1) scope.names []) (bindC (envOfC qual scope ↑s f cd).kindOf (ps.zip us) λ_=>none) s1) :
  Inv (kB CX P w K mg base N qual scope f cd A outer s H E) [] (start N vs) H s1:=by
 have ie:ps.length<=N.length:=by have:=congrArg List.length S.pre;rw[Ts] at this;cbv
 let(h1,tk,rfl,hk):=x.done;have noA:∀ b:AC,b∉(kB CX P w K mg base N qual scope f cd A outer s H E).ex:=λb z=>absurd (show b∈([]:!AC) from z) (by simp);show#[#[e0.mod,S.kind,U,U,Sx _,λy z c h1 h2=>?_,λy hy=>?_,λy c _ h=>?_,λ_=>hd,Fk.frames_deeper e0.frames,.inr #[U,U],λb z=>absurd z (noA b),e0.bs,e0.Di,λb _ _=>noA b,λb z=>absurd z (noA b),e0.me,e0.F3],
  rfl,e0.bare,Un.kept hk,#[_,x.toInCall.ns,λi y v h1 h2 h3=>?_],λy c h=>#[_,x.cell y c h],e0.bj.fresh (Nat.le_refl _),λy c h=>?_,λp hp=>absurd (show p∈([]:UQ) from hp) (by simp),e0.bj.kept hk,?_]
 .exact name_of_addr x.apart (Tx h1) (Tx h2)
 .have hy:scope.names.lookup y=some .cell\/scope.names.lookup y=some .free:=hy;rcases hy with hy | hy
  .exact tK hy
  .exact absurd U (S.HJ _ (Tx hy))
 .exact Nat.le_of_lt (x.above y c (Tx h))
 .have hi:i < vs.length:=by
   unfold start at h2;by_cases hi:i < vs.length
   .exact hi
   .rw[List.getElem?_append_right (by simpa using hi)] at h2;rw[List.getElem?_replicate] at h2;split at h2<;>cases h2
  have ha:vs[i]?=some v:=by
   unfold start at h2;rw[List.getElem?_append_left (by simpa using hi),List.getElem?_map] at h2;cases e:vs[i]? with
   | none=>rw[e] at h2;cases h2
   | some a=>rw[e] at h2;cases h2;rfl
  let(u,hu,rv):=r.get ha;have hp:ps[i]?=some y:=by
   rw[<- S.pre,List.getElem?_take_of_lt (by cbv)];exact h1
  have ndP:ps.Nodup:=by rw[<- S.pre];exact S.nd.sublist (Tv _ _)
  show#[u,rv,?_];rcases S.par y (Ta hp) with k | k
  .exact .inl #[k,pR ndP hp hu k]
  .let(c,e):=tK (n:=↑s+1) k;show .inr #[.inl k,c,e,?_];have q:=x.cell y c e;rw[pY ndP hp hu (by change scope.names.lookup y≠_;rw[k];decide)] at q;exact q
 .exact e0.bj.fresh (Nat.le_of_lt (x.above y c (Tx h)))
 .unfold start;change _=N.length;rw[Sv,Ss,List.length_replicate];cbv
theorem Kx{CX:u4}{P:Fr}{w:Fa}{K:Frag}{mg:Str->Option AT}{base:EQ}{k:Nat}{f:AC}{name qual:Str}{params:Arguments}{body:!FM}{scope:Scope}{dV kV doc pm br ct oc:AT}{an od:Option AC}{Ce:Array (Option AT)}{N ps:!Str}{sp:Sp}(lk:K.lookup f=some #[oc,od,.func (fnOf name qual params body scope dV kV doc pm an br ct),Ce])(rR:codeIn K br qual=true)(S:au N ps scope)(len:∀ vs H Q E,sp vs H Q E->vs.length=ps.length)(zy:∀ (A:Fk) (outer:!Env) (s:Da) (H:Hp) (vs:!V) (Q:VK) (E:XK),cx k (A.deeper (envOfC qual scope ↑s f br))->sp vs H Q E ->
   ∃ t,mK (kB CX P w K mg base N qual scope f br A outer s H E) body t/\t { nx:=λ_ H'=>Q .bH H',rt:=Q } (start N vs) H) :
  bN P w K mg base CX (k+1) f (fnOf name qual params body scope dV kV doc pm an br ct) ps sp:=by
 show#[len,λA outer s H args us vs Q E hr e0 hb r ED=>?_];have hl:=len _ _ _ _ ED;have KX:K.In s.heap:=e0.mod.Ic.keeps λb o e=>(e0.bs b o e).1;have lim:s.heap.NoLimit:=e0.mod.nolimit.keeps λb o e=>(e0.bs b o e).1;have hkind:∀ y∈ps.zip us,scope.names.lookup y.1=some .local\/(scope.names.lookup y.1=some .cell/\((cellsFrom (↑s+1) scope.names []).lookup y.1).isSome=true):=λz2r hy=>by
  let(n,v):=z2r;rcases S.par n (TK hy).1 with q | q
  .exact .inl q
  .exact .inr #[q,PySem.W.cellsFrom_some _ _ _ (.inl q)]
 show codeAny_call_function hr.depth (KX _ _ lk) U S.co S.gen U (PySem.W.codeRec_of KX rR) (hb _ _ _ _ ?_);show wpAny_newFunctionEnv_cells S.kind hkind λenv he s1 x=>?_;subst he;show#[lim.keeps x.toInCall.keep,codeAny_func ?_];let(t,ht,hq):=zy A outer s H vs Q E (hr.deeper _) ED;have I:Inv (kB CX P w K mg base N qual scope f br A outer s H E) [] (start N vs) H s1:=yl S hr.hd e0 hl r x;show KM (ht [] s1 (start N vs) H _ I hq) (λfl s' hs=>?_) λe s' hs=>hs;have fin:∀ {σ':St} {H':Hp} {v:V} {u:AT},Inv (kB CX P w K mg base N qual scope f br A outer s H E) [] σ' H' s'->RelV v u->Q v H'->CE outer P w H s Q u s' :=
  λ{σ' H' v u} J rv q=>#[v,H',J.os,J.bare,J.base,J.bj,rv,q]
 cases fl with
 | ret u =>
  let(v,σ',H',J,rv,q):=hs;exact fin J rv q
 | next =>
  let(σ',H',J,q):=hs;exact fin (v:=V.bH) (u:=AT.none) J U q
 | brk =>
  let(_,_,_,q):=hs;exact False.elim q
 | cont =>
  let(_,_,_,q):=hs;exact False.elim q
section
variable{X:Cx}{x:Str}{p pos:Pos}{e:Cl}{es:!Cl}{t:TA}{id T:String}{r:!V->Hp->VK->Prop}
def Fu(r:!V->Hp->VK->Prop)(t:TA):TE:=λσ H Q=>t σ H λvs H1=>r vs H1 Q
theorem fH(hc:dW X (.builtin id) r)(hg:Gl X x)(hm:X.mg x=none)(hv:bootBuiltins x=some (.builtin id))(ha:PA X (e::es) t)(hn: ~~~(x≠"__name__"))(kJ: ~~~(UU x))(he:(US X.env e es)⁻¹)(ie:(UT X.env pos es)⁻¹):PE X (.Call (.Name x p) (e::es) [] pos) (Fu r t):=by
 intro Sc s σ H Q I h;show wpAny_Call_Name_kw (gj I hg hm hv ?_ hn kJ);exact PyProof.Rows.callWith_builtin1 (bx (ha pos Sc s σ H _ I h) λus s1 zz=>el2 zz λvs H1 I1 r1 q1=>hc Sc s1 σ H1 vs us Q I1 r1 q1) he ie
theorem pZ(hc:dW X (.type T) r)(hg:Gl X x)(hm:X.mg x=none)(hv:bootBuiltins x=some (.type T))(ha:PA X (e::es) t)(hn: ~~~(x≠"__name__"))(kJ: ~~~(UU x))(he:(US X.env e es)⁻¹)(ie:(UT X.env pos es)⁻¹):PE X (.Call (.Name x p) (e::es) [] pos) (Fu r t):=by
 intro Sc s σ H Q I h;show wpAny_Call_Name_kw (gj I hg hm hv ?_ hn kJ);exact PyProof.Rows.callWith_type1 (bx (ha pos Sc s σ H _ I h) λus s1 zz=>el2 zz λvs H1 I1 r1 q1=>hc Sc s1 σ H1 vs us Q I1 r1 q1) he ie
end
end L2
namespace HT
open PySem PyProof.Rows
section
open PySem.SeqAt
open PySem.AutoSeq1 (wpAny_loadPart')
open PySem.MeetsSeq PySem.MeetsSeq2 PySem.MeetsSeq3
end
section
variable{prog:Fr}{w:Fa}{A:Fk}{E:UP}{s:Da}
def bO(n d:Nat):Option Int->Nat
 | none=>d
 | some v=>if v < 0 then (v+(n:Int)).toNat else min v.toNat n
theorem Bz(n d:Nat):bO n d none=d:=rfl
theorem Ga(n d:Nat)(hd:d<=n)(o:Option Int):bO n d o<=n:=by
 cases o with
 | none=>exact hd
 | some v =>
  change (if v < 0 then (v+(n:Int)).toNat else min v.toNat n)<=n;by_cases hv:v < 0
  .rw[if_pos hv];cbv
  .rw[if_neg hv];exact Nat.min_le_right _ _
theorem xV(v:Int)(n d:Nat):(if v < 0 then max (v+(n:Int)) 0 else min v (n:Int))=((bO n d (some v):Nat):Int):=by
 change (if v < 0 then max (v+(n:Int)) 0 else min v (n:Int))=(((if v < 0 then (v+(n:Int)).toNat else min v.toNat n):Nat):Int);by_cases hv:v < 0
 .simp only[if_pos hv];cbv
 .simp only[if_neg hv];cbv
theorem vT(lo hi:Option Int)(n:Nat):FS.Slice.sliceAdjust lo hi 1 (n:Int)=(((bO n 0 lo:Nat):Int),((bO n n hi:Nat):Int)):=by
 have h1:¬ ((1:Int) < 0):=by cbv
 unfold FS.Slice.sliceAdjust;simp only[h1,if_false];show Prod.ext ?_ ?_
 .cases lo with
  | none=>rfl
  | some v=>exact xV v n 0
 .cases hi with
  | none=>rfl
  | some v=>exact xV v n n
theorem vM(i j:Nat):FS.Slice.slicePlaces (i:Int) (j:Int) 1=j - i:=by
 unfold FS.Slice.slicePlaces;have h1:(1:Int) > 0:=by cbv
 simp only[h1,if_true,Int.ediv_one];split<;>cbv
theorem oo{v:AT}{o:Option Int}{Q:Option Int->Da->Prop}(p:IsPart v o)(h:Q o s):Db (model prog w) A (FS.Slice.slicePartIndex v) Q E s:=by
 cases p with
 | none=>exact slicePart_none h
 | int i t=>exact slicePart_int h
theorem gA{sl:AC}{vl vu:AT}{lo hi:Option Int}{n:Nat}{Q:Int×Int×Nat->Da->Prop}(hs:s.heap.IsSliceOf sl vl vu .none)(pl:IsPart vl lo)(pu:IsPart vu hi)(h:Q (((bO n 0 lo:Nat):Int),1,bO n n hi - bO n 0 lo) s):Db (model prog w) A (FS.Slice.sliceApplied (.ref sl) (pure (n:Int))) Q E s:=by
 let(os,uT,hcs,hds):=id hs;unfold FS.Slice.sliceApplied FS.Slice.sliceFields;show Ch (Ch (KB uT hds (x:=vl) U (Ch (KB uT hds (x:=vu) U (Ch (KB uT hds (x:=.none) U (FB ?_)))))));show Ch (slicePart_none ?_);change Db _ _ (if ((1:Int) == 0)=true then _ else _) _ _ s;rw[if_neg ()];show Ch (oo pl (Ch (oo pu (Ch (FB ?_)))));change Db _ _ (match FS.Slice.sliceAdjust lo hi 1 (n:Int) with | (lo,hi)=>pure (lo,(1:Int),FS.Slice.slicePlaces lo hi 1)) _ _ s;rw[vT lo hi n];change Db _ _ (pure (((bO n 0 lo:Nat):Int),(1:Int),FS.Slice.slicePlaces ((bO n 0 lo:Nat):Int) ((bO n n hi:Nat):Int) 1)) _ _ s;rw[vM];exact FB h
theorem Al(xs:Array AT)(i k:Nat):((List.range k).filterMap λ(m:Nat)=>xs[((i:Int)+(m:Int) * 1).toNat]?).toArray=((xs.toList.drop i).take k).toArray:=by
 have e:(λ(m:Nat)=>xs[((i:Int)+(m:Int) * 1).toNat]?)=λm=>xs[i+m]?:=by
  funext m
  have:((i:Int)+(m:Int) * 1).toNat=i+m:=by cbv
  rw[this]
 rw[e];have:=pick_run xs i k;rw[List.filterMap_map] at this;have e2:((λx=>xs[x]?)∘λx=>i+x)=λm=>xs[i+m]?:=rfl;rw[e2] at this;rw[this]
theorem kq{t sl:AC}{items:Array AT}{vl vu:AT}{lo hi:Option Int}{Q:UP}(ht:IsTup s.heap t items)(hs:s.heap.IsSliceOf sl vl vu .none)(pl:IsPart vl lo)(pu:IsPart vu hi)(hw:¬ (bO items.size 0 lo=0/\bO items.size items.size hi=items.size))(h:Q (.ref ↑s) { s with heap:=s.heap.push { cls:=.type "tuple",data:=.seq ((items.toList.drop (bO items.size 0 lo)).take (bO items.size items.size hi - bO items.size 0 lo)).toArray } })(hsz:items.size<=Ev):Db (model prog w) A (getItem (.ref t) (.ref sl)) Q E s:=by
 have htake:sizeOk (.seq ((items.toList.drop (bO items.size 0 lo)).take (bO items.size items.size hi - bO items.size 0 lo)).toArray):=by
  change ((items.toList.drop (bO items.size 0 lo)).take (bO items.size items.size hi - bO items.size 0 lo)).toArray.size<=Ev;rw[SQ,Ts,Ti,Array.length_toList];cbv
 have hj:bO items.size items.size hi<=items.size:=Ga _ _ (Sx _) hi;let(os,uT,hcs,hds):=id hs;have hTs:s.TypeIs (.ref sl) "slice":=#[os,uT,hcs];unfold getItem
 try with_reducible show NE ?_
 first | show Ch (FB ?_) | skip
 show Ch (wpAny_sequenceKey ht.typeIs () ?_);show Ch (wpAny_callSpecial?_slot (name:=Str.ofString "__getitem__") ht.typeIs PyProof.Rows.slot_tuple_getitem
  (SL PyProof.Rows.slot_tuple_getitem ht.typeIs entry_tuple_getitem ?_ (args_tuple_getitem _ _)))
 change Db _ _ (FS.Tuple.tupleItemsOf (.ref t) >>= _) _ _ s;show Ch (tupleItemsOf_ ht ?_);show Ch (wpAny_typeOf hTs ?_);rw[if_pos ()];show Ch (gA hs pl pu ?_);have hno:¬ ((((bO items.size 0 lo:Nat):Int) == 0&&(1:Int) == 1&&(bO items.size items.size hi - bO items.size 0 lo) == items.size)=true):=by
  intro q;rw[Tr,Tr] at q;have q1:((bO items.size 0 lo:Nat):Int)=0:=eq_of_beq q.1.1;have q2:bO items.size items.size hi - bO items.size 0 lo=items.size:=eq_of_beq q.2;exact hw #[by cbv,by cbv]
 change Db _ _ (if (((bO items.size 0 lo:Nat):Int) == 0&&(1:Int) == 1&&(bO items.size items.size hi - bO items.size 0 lo) == items.size)=true then _ else _) _ _ s;rw[if_neg hno,Al]
 first
  | exact Ch (m:=FS.Tuple.tupleExact _) (PP (FB #[_,U,FB h]) htake)
  | exact Ch (m:=FS.Tuple.tupleExact _) (PP (Ch (FB (FB #[_,U,FB h]))) htake)
  | exact Ch (Ch (m:=FS.Tuple.tupleExact _) (PP (FB (FB #[_,U,FB h])) htake))
  | exact Ch (Ch (m:=FS.Tuple.tupleExact _) (PP (FB #[_,U,FB h]) htake))
end
end HT
namespace L2
open PySem PySem.Spec PyProof.Rows
abbrev TO:=St->Hp->(Option Int->Hp->Prop)->Prop
def PO(X:Cx)(e:Option Cl)(t:TO):Prop :=
 ∀ (Sc:UQ) (s:Da) (σ:St) (H:Hp) (Q:Option Int->Hp->Prop),Inv X Sc σ H s->t σ H Q ->
  Db (model X.prog X.w) X.A (evalPart e X.env) (λu s'=>∃ o H',Inv X Sc σ H' s'/\IsPart u o/\Q o H') X.xe s
def C5:TO:=λ_ H Q=>Q none H
def AG(t:TE):TO:=λσ H Q=>t σ H λx H1=>∃ i,x=.int i/\Q (some i) H1
section
variable{X:Cx}{e:Cl}{te:TE}{lo hi:Option Cl}{tl th:TO}{pos p2:Pos}
theorem C0:PO X none C5:=by
 intro Sc s σ H Q I h;rw[evalPart_none];exact FB #[none,H,I,.none,h]
theorem sH(h:PE X e te):PO X (some e) (AG te):=by
 intro Sc s σ H Q I hw;rw[evalPart_some];show bx (h Sc s σ H _ I hw) λu s1 zz=>el2 zz λx H1 I1 r1 q1=>?_;let(i,rfl,q):=q1;let(t,rfl):=r1;exact#[some i,H1,I1,.int i t,q]
def Ll(X:Cx)(r:V->Option Int->Option Int->Hp->VK->Prop):Prop :=
 ∀ (Sc:UQ) (s:Da) (σ:St) (H:Hp) (x:V) (v vl vu:AT) (lo hi:Option Int) (sl:AC) (Q:VK),Inv X Sc σ H s->RelV x v->s.heap.IsSliceOf sl vl vu .none->IsPart vl lo->IsPart vu hi->r x lo hi H Q ->
  ∃ T id,typeLookup (.type T) "__getitem__"=pure (some (.builtin id))/\s.TypeIs v T/\Db (model X.prog X.w) X.A (getItem v (.ref sl)) (EP X Sc σ Q) X.xe s
def Qy(r:V->Option Int->Option Int->Hp->VK->Prop)(te:TE)(tl th:TO):TE:=λσ H Q=>te σ H λx H1=>tl σ H1 λl H2=>th σ H2 λu H3=>r x l u H3 Q
theorem j4{r:V->Option Int->Option Int->Hp->VK->Prop}(hr:Ll X r)(he:PE X e te)(hl:PO X lo tl)(hu:PO X hi th):PE X (.Subscript e (.Slice lo hi none p2) pos) (Qy r te tl th):=by
 intro Sc s σ H Q I h;show Subscript_ (bx (he Sc s σ H _ I h) λv s1 z0q=>?_);let(x,H1,I1,r1,q1):=z0q;show wpAny_Slice (bx (hl Sc s1 σ H1 _ I1 q1) λvl s2 zz=>el2 zz λl H2 I2 pl q2=>bx (hu Sc s2 σ H2 _ I2 q2) λvu s3 z1q=>?_);let(u,H3,I3,pu,q3):=z1q;rw[evalPart_none];show FB ?_;have I4:Inv X Sc σ H3 { s3 with heap:=s3.heap.push { cls:=.type "slice",data:=.fields #v[vl,vu,.none] } }:=I3.kept (t':=s3.toks) λb ob q=>Su _ q;let(T,id,hT,ht,hg):=hr Sc { s3 with heap:=s3.heap.push { cls:=.type "slice",data:=.fields #v[vl,vu,.none] } } σ H3 x v vl vu l u ↑s3 Q I4 r1 (EQ.IsSliceOf.new ..) pl pu q3;change Db (model X.prog X.w) X.A (subscriptTail e (.Slice lo hi none p2) v (.ref ↑s3)) (EP X Sc σ Q) X.xe { s3 with heap:=s3.heap.push { cls:=.type "slice",data:=.fields #v[vl,vu,.none] } };exact tail_any (ops:=[.ref ↑s3,v]) ht hT hg (by with_unfolding_all rfl)
def nI(xs:!V)(lo hi:Option Int):!V:=(xs.drop (HT.bO xs.length 0 lo)).take (HT.bO xs.length xs.length hi - HT.bO xs.length 0 lo)
theorem lP(xs:!V)(lo hi:Option Int):(nI xs lo hi).length<=xs.length:=by
 unfold nI;rw[Ts,Ti];cbv
def Ot(K:Frag):V->Option Int->Option Int->Hp->VK->Prop:=λx lo hi H Q=>∃ a xs,x=.ref a/\jS K H a xs /\
 ¬ (HT.bO xs.length 0 lo=0/\HT.bO xs.length xs.length hi=xs.length)/\∀ p,H p=none->Q (.ref p) (upd H p (.tup (nI xs lo hi)))
theorem Ft:Ll X (Ot X.K):=by
 intro Sc s σ H x v vl vu lo hi sl Q I rx hs pl pu h;let(a,xs,rfl,hx,hw,q):=h;cases rx;let(its,r,ht,hz):=I.tuple hx;have hlen:its.toArray.size=xs.length:=by rw[SQ];exact r.length.symm
 show#["tuple",_,PyProof.Rows.slot_tuple_getitem.lookup,ht.typeIs,?_];show HT.kq ht hs pl pu (by rw[hlen];exact hw) ?_ (by rw[hlen];exact hz);rw[hlen];show#[.ref ↑s,_,I.laid (t':=s.toks) (o:=.tup (nI xs lo hi)) (λb ob q=>Su _ q) (Sx _) ?_,U,q _ (I.bj.fresh (Sx _))];exact#[SI (lP xs lo hi) hz,_,(r.drop (HT.bO xs.length 0 lo)).take (HT.bO xs.length xs.length hi - HT.bO xs.length 0 lo),iI.new _ _]
end
def BF(n:Nat)(i:Int):Option Nat:=if 0<=i then (if i < n then some i.toNat else none) else if -(n:Int)<=i then some (i+n).toNat else none
def iw{α:Type}(xs:!α)(i:Int):Option α:=(BF xs.length i).bind λj=>xs[j]?
theorem xm{n:Nat}{i:Int}{j:Nat}(h:BF n i=some j):seqIndex? i n=some j/\j < n/\-(n:Int)<=i/\i < n:=by
 unfold BF at h;by_cases h0:0<=i
 .rw[if_pos h0] at h;by_cases h1:i < n
  .rw[if_pos h1] at h;have e:i.toNat=j:=S4 h;exact#[by rw[seqIndex_of h0 h1,e],by cbv,by cbv,h1]
  .rw[if_neg h1] at h;cases h
 .rw[if_neg h0] at h;by_cases h1:-(n:Int)<=i
  .rw[if_pos h1] at h;have e:(i+n).toNat=j:=S4 h;exact#[by rw[seqIndex_neg (by cbv) h1,e],by cbv,h1,by cbv]
  .rw[if_neg h1] at h;cases h
theorem sG{α:Type}{xs:!α}{i:Int}{v:α}(h:iw xs i=some v):∃ j,seqIndex? i xs.length=some j/\xs[j]?=some v/\j < xs.length/\-(xs.length:Int)<=i/\i < xs.length:=by
 unfold iw at h;cases e:BF xs.length i with
 | none=>rw[e] at h;cases h
 | some j =>
  rw[e] at h;let(h1,h2,h3,h4):=xm e;exact#[j,h1,h,h2,h3,h4]
theorem eY{α:Type}{xs:!α}{j:Nat}{v:α}(h:xs[j]?=some v):iw xs (j:Int)=some v:=by
 have hj:j < xs.length:=(Sw.mp h).1;have e:BF xs.length (j:Int)=some j:=by
  unfold BF;rw[if_pos (by cbv),if_pos (by cbv)];simp
 unfold iw;rw[e];exact h
def mz(b:Cl):Prop:=∀ o i,subscripted b false o i=operate [o,i] (getItem o i)
def JH(X:Cx)(r:R2):Prop :=
 ∀ (value slice:Cl) (Sc:UQ) (s:Da) (σ:St) (H:Hp) (x y:V) (v u:AT) (Q:VK),Inv X Sc σ H s->RelV x v->RelV y u->r x y H Q ->
  subscripted slice false v u=operate [v,u] (getItem v u)->Db (model X.prog X.w) X.A (subscriptTail value slice v u) (EP X Sc σ Q) X.xe s
def Ia(X:Cx)(id:String)(r:V->!V->Hp->VK->Prop):Prop :=
 ∀ (Sc:UQ) (s:Da) (σ:St) (H:Hp) (x:V) (xs:!V) (v:AT) (us:!AT) (Q:VK),Inv X Sc σ H s->RelV x v->Vals xs us->r x xs H Q ->
  Db (model X.prog X.w) X.A (call (.builtin id) (v::us)) (EP X Sc σ Q) X.xe s
section
variable{X:Cx}{a b:Cl}{ta tb:TE}{pos:Pos}
theorem zt{r:R2}(hr:JH X r)(ha:PE X a ta)(hb:PE X b tb)(hs:mz b):PE X (.Subscript a b pos) (iM r ta tb):=by
 intro Sc s σ H Q I h;exact Subscript_ (Fz ha hb I h λv u s2 x y H2 I2 rx ry q=>hr a b Sc s2 σ H2 x y v u Q I2 rx ry q (hs _ _))
def Ff(K:Frag):R2:=λx y H Q=>∃ p xs i v,x=.ref p/\y=.int i/\dR K H p xs/\iw xs i=some v/\Q v H
def Lj(K:Frag):R2:=λx y H Q=>∃ p xs i v,x=.ref p/\y=.int i/\jS K H p xs/\iw xs i=some v/\Q v H
def JS:R2:=λx y H Q=>∃ z i c,x=.str z/\y=.int i/\z.length<=Ev/\iw z.cps.toList i=some c/\Q (.str #[#v[c]]) H
theorem wD:JH X (Ff X.K):=by
 intro value slice Sc s σ H x y v u Q I rx ry h hs;let(p,xs,i,z,rfl,rfl,hq,he,q):=h;cases rx;let(t,rfl):=ry;let(its,r,pl,hz):=I.list hq;let(j,h1,h2,h3,h4,h5):=sG he;let(w,ew,rw'):=r.get h2;have hl:=r.length;have hn:=jK;have fin:EP X Sc σ Q w s:=#[z,H,I,rw',q];by_cases h0:0<=i
 .have hj:i.toNat=j:=by
   rw[seqIndex_of h0 h5] at h1;exact S4 h1
  exact item_listR pl.isList h0 (by cbv) (by rw[hj];simpa using ew) fin hs
 .have hj:(i+(its.toArray.size:Int)).toNat=j:=by
   rw[seqIndex_neg (by cbv) h4] at h1;rw[SQ,<- hl];exact S4 h1
  exact subscriptTail_builtinR (x:=w) pl.isList.typeIs slot_list_getitem.lookup
   (wpAny_getItem_list_neg (Q:=λr s'=>r=w/\EP X Sc σ Q r s') pl.isList (by cbv) (by rw[List.size_toArray]<;>cbv) (by cbv) (by rw[hj];simpa using ew) #[U,fin]) hs
theorem GN:JH X (Lj X.K):=by
 intro value slice Sc s σ H x y v u Q I rx ry h hs;let(p,xs,i,z,rfl,rfl,hq,he,q):=h;cases rx;let(t,rfl):=ry;let(its,r,pl,hz):=I.tuple hq;let(j,h1,h2,h3,h4,h5):=sG he;let(w,ew,rw'):=r.get h2;have hl:=r.length;have hn:=jK;have fin:EP X Sc σ Q w s:=#[z,H,I,rw',q];exact subscriptTail_builtinR (x:=w) pl.typeIs slot_tuple_getitem.lookup
  (getItem_tuple (j:=j) (Q:=λr s'=>r=w/\EP X Sc σ Q r s') pl (by cbv) (by cbv) (by rw[List.size_toArray,<- hl];exact h1) (by simpa using ew) #[U,fin]) hs
theorem qH:JH X JS:=by
 intro value slice Sc s σ H x y v u Q I rx ry h hs;let(z,i,c,rfl,rfl,hz,he,q):=h;let(t,rfl):=rx;let(t',rfl):=ry;let(j,h1,h2,h3,h4,h5):=sG he;have hl:z.cps.toList.length=z.length:=by simp[Str.length]
 rw[hl] at h1 h4 h5;have hn:=jK;exact tail_any (typeIs_str s z t) slot_str_getitem.lookup (getItem_str (c:=c) (by
  have e1:decide (i < -(2 ^ 63:Int))=false:=decide_eq_false (by cbv);have e2:decide (i ≥ 2 ^ 63)=false:=decide_eq_false (by cbv);rw[e1,e2,Bool.or_false]) (by rw[h1];simpa using h2) #[.str #[#v[c]],H,I.tok _,#[_,U],q]) hs
theorem v5(its:!AT)(n j:Nat)(u:AT):Obj.mapSeq (·.setIfInBounds j u) { cls:=.type "list",data:=.seq its.toArray n }={ cls:=.type "list",data:=.seq (its.set j u).toArray n }:=by
 simp[Obj.mapSeq]
theorem Inv.lst{Sc:UQ}{σ:St}{H:Hp}{s:Da}{p:AC}{xs:!V}(I:Inv X Sc σ H s)(h:H p=some (.lst xs)) :
  ∃ (its:!AT) (n:Nat),Vals xs its/\s.heap.get? p=some { cls:=.type "list",data:=.seq its.toArray n }/\xs.length<=Ev:=by
 let(z,its,n,r,e):=I.bj p _ h;exact#[its,n,r,e,z]
theorem Inv.G5{Sc:UQ}{σ:St}{H:Hp}{s:Da}{p:AC}{xs ys:!V}{its its':!AT}{n n':Nat}{f:Obj->Obj}(I:Inv X Sc σ H s)(h:H p=some (.lst xs))(ho:s.heap.get? p=some { cls:=.type "list",data:=.seq its.toArray n })(hf:f { cls:=.type "list",data:=.seq its.toArray n }={ cls:=.type "list",data:=.seq its'.toArray n' })(r:Vals ys its')(hz:ys.length<=Ev)(t:Nat) :
  Inv X Sc σ (upd H p (.lst ys)) { s with heap:=s.heap.update p f,toks:=t }:=by
 have e:(s.heap.update p f).get? p=some { cls:=.type "list",data:=.seq its'.toArray n' }:=by
  rw[Tf f ho (by rw[hf]<;>rfl),hf]
 show I.write (x:=p) (e:=p) (by rw[h];trivial) (.inl U) (λb u hb q=>(S9 _ _ (Ne.symm hb)).trans q) #[_,e] ?_;exact#[hz,its',n',r,e]
def Ec:V->V->V->Hp->(Hp->Prop)->Prop:=λo i v H Q=>∃ p xs k j,o=.ref p/\i=.int k/\H p=some (.lst xs)/\BF xs.length k=some j/\Q (upd H p (.lst (xs.set j v)))
theorem set_list:LC X Ec:=by
 intro Sc s σ H o i v ov iv u Q I ro ri rv h;let(p,xs,k,j,rfl,rfl,hp,hj,q):=h;cases ro;let(t,rfl):=ri;let(its,n,r,ho,hz):=I.lst hp;let(h1,h2,h3,h4):=xm hj;have hl:=r.length;have hn:=jK;have I':Inv X Sc σ (upd H p (.lst (xs.set j v))) { s with heap:=s.heap.update p (Obj.mapSeq (·.setIfInBounds j u)) } :=
  I.G5 hp ho (v5 its n j u) (r.set rv j) (by rw[TC];exact hz) s.toks
 by_cases h0:0<=k
 .have hk:k.toNat=j:=by
   rw[seqIndex_of h0 h4] at h1;exact S4 h1
  exact PySem.W.ki_setAt ho h0 (by cbv) (by rw[SQ,<- hl];exact h4) (by rw[hk];exact#[_,I',q])
 .have hk:(k+(its.toArray.size:Int)).toNat=j:=by
   rw[seqIndex_neg (by cbv) h3] at h1;rw[SQ,<- hl];exact S4 h1
  exact PySem.W.ki_setBack ho (by cbv) (by rw[SQ,<- hl];exact h3) (by cbv) (by rw[hk];exact#[_,I',q])
theorem qV(lo hi:Option Int)(n:Nat):(sliceBounds lo hi none n).1=((HT.bO n 0 lo:Nat):Int)/\(sliceBounds lo hi none n).2.1=((HT.bO n n hi:Nat):Int)/\(sliceBounds lo hi none n).2.2=1:=by
 show#[?_,?_,U]
 .cases lo with
  | none=>simp[sliceBounds,HT.bO]
  | some i =>
   simp only[sliceBounds,HT.bO,Option.getD_none,show (1:Int) > 0 by decide,if_true];by_cases h:i < 0
   .simp only[h,if_true]<;>cbv
   .simp only[h,if_false]<;>cbv
 .cases hi with
  | none=>simp[sliceBounds,HT.bO]
  | some i =>
   simp only[sliceBounds,HT.bO,Option.getD_none,show (1:Int) > 0 by decide,if_true];by_cases h:i < 0
   .simp only[h,if_true]<;>cbv
   .simp only[h,if_false]<;>cbv
theorem oU(its:!AT)(lo hi:Option Int):slicePick its.toArray lo hi none=((its.drop (HT.bO its.length 0 lo)).take (HT.bO its.length its.length hi - HT.bO its.length 0 lo)).toArray:=by
 let(h1,h2,h3):=qV lo hi its.toArray.size;unfold slicePick;rw[h1,h2,h3];simp only[sliceRange_one,pick_run,List.size_toArray]<;>rfl
def JW(K:Frag):V->Option Int->Option Int->Hp->VK->Prop:=λx lo hi H Q=>∃ a xs,x=.ref a/\dR K H a xs/\∀ p,H p=none->Q (.ref p) (upd H p (.lst (nI xs lo hi)))
theorem xu:Ll X (JW X.K):=by
 intro Sc s σ H x v vl vu lo hi sl Q I rx hs pl pu h;let(a,xs,rfl,hx,q):=h;cases rx;let(its,r,ht,hz):=I.list hx;have hlen:=r.length;show#["list",_,slot_list_getitem.lookup,ht.isList.typeIs,?_];show wpAny_getItem_list_slice ht.isList hs pl pu .none (by simp) ?_ (by rw[List.size_toArray]<;>cbv);rw[oU,<- hlen];show#[.ref ↑s,_,I.laid (t':=s.toks) (o:=.lst (nI xs lo hi)) (λb ob q=>Su _ q) (Sx _) ?_,U,q _ (I.bj.fresh (Sx _))];exact#[SI (lP xs lo hi) hz,_,0,(r.drop (HT.bO xs.length 0 lo)).take (HT.bO xs.length xs.length hi - HT.bO xs.length 0 lo),SH _ U]
def jC:V->Bool
 | .bH=>true
 | .bl _=>true
 | .int _=>true
 | .str _=>true
 | _=>false
def Cg:V->V->Bool
 | .bH,.bH=>true
 | .bl a,.bl b=>a == b
 | .bl a,.int b=>(if a then 1 else 0) == b
 | .int a,.bl b=>a == (if b then 1 else 0)
 | .int a,.int b=>a == b
 | .str a,.str b=>a == b
 | _,_=>false
theorem Fo{A:Fk}{s:Da}{y x:V}{u v:AT}(ry:RelV y u)(rx:RelV x v)(fy:jC y=true)(fx:jC x=true):SeqAt.EqAt A s u v (Cg y x):=by
 cases y with
 | bH =>
  cases ry;cases x with
  | bH=>cases rx;exact SeqAt.EqAt.same _
  | bl b=>cases rx;exact SeqAt.EqAt.none_bool b
  | int b=>let(t,rfl):=rx;exact SeqAt.EqAt.none_int b t
  | str b=>let(t,rfl):=rx;exact SeqAt.EqAt.none_str b t
  | _=>exact absurd (show false=true from fx) SK
 | bl a =>
  cases ry;cases x with
  | bH=>cases rx;exact SeqAt.EqAt.bool_none a
  | bl b=>cases rx;exact SeqAt.EqAt.bool_bool a b
  | int b=>let(t,rfl):=rx;exact SeqAt.EqAt.bool_int a b t
  | str b=>let(t,rfl):=rx;exact SeqAt.EqAt.bool_str a b t
  | _=>exact absurd (show false=true from fx) SK
 | int a =>
  let(t',rfl):=ry;cases x with
  | bH=>cases rx;exact SeqAt.EqAt.int_none a t'
  | bl b=>cases rx;exact SeqAt.EqAt.int_bool a t' b
  | int b=>let(t,rfl):=rx;exact SeqAt.EqAt.int_int a t' b t
  | str b=>let(t,rfl):=rx;exact SeqAt.EqAt.int_str a t' b t
  | _=>exact absurd (show false=true from fx) SK
 | str a =>
  let(t',rfl):=ry;cases x with
  | bH=>cases rx;exact SeqAt.EqAt.str_none a t'
  | bl b=>cases rx;exact SeqAt.EqAt.str_bool a t' b
  | int b=>let(t,rfl):=rx;exact SeqAt.EqAt.str_int a t' b t
  | str b=>let(t,rfl):=rx;exact SeqAt.EqAt.str_str a t' b t
  | _=>exact absurd (show false=true from fx) SK
 | _=>exact absurd (show false=true from fy) SK
def vf(x:V)(u:AT):Bool:=match u with
 | .none=>Cg .bH x
 | .bool b=>Cg (.bl b) x
 | .int i _=>Cg (.int i) x
 | .str z _=>Cg (.str z) x
 | _=>false
theorem Bx{x y:V}{u:AT}(r:RelV y u)(f:jC y=true):vf x u=Cg y x:=by
 cases y with
 | bH=>cases r;rfl
 | bl b=>cases r;rfl
 | int i=>let(t,rfl):=r;rfl
 | str z=>let(t,rfl):=r;rfl
 | _=>exact absurd (show false=true from f) SK
theorem j2{x:V}:∀ {xs:!V} {us:!AT},Vals xs us->xs.all jC=true->us.any (vf x)=xs.any λy=>Cg y x
 | _,_,.nil,_=>rfl
 | y::xs,u::us,.cons r t,f=>by
  rw[UH,Tr] at f;rw[T4,T4,Bx r f.1,j2 t f.2]
theorem iK{A:Fk}{s:Da}{x:V}{v:AT}(rx:RelV x v)(fx:jC x=true):∀ {xs:!V} {us:!AT},Vals xs us->xs.all jC=true->∀ u∈us,SeqAt.EqAt A s u v (vf x u)
 | _,_,.nil,_=>λu hu=>by cases hu
 | y::xs,u::us,.cons r t,f=>λu' hu=>by
  rw[UH,Tr] at f;rcases SO.mp hu with rfl | hu
  .rw[Bx r f.1];exact Fo r rx f.1 fx
  .exact iK rx fx t f.2 u' hu
def yL(x:V)(xs:!V):Bool:=xs.any λy=>Cg y x
def HW(K:Frag)(neg:Bool):R2:=λx y H Q=>∃ p xs,y=.ref p/\(dR K H p xs\/jS K H p xs)/\jC x=true/\xs.all jC=true/\Q (.bl (if neg then (not (yL x xs)) else yL x xs)) H
theorem qc:gQ X (IN .In) (HW X.K false):=by
 intro Sc s σ H x y v u Q I rx ry h;let(p,xs,rfl,hq,fx,fs,q):=h;cases ry;rcases hq with hq | hq
 .let(its,r,pl,hz):=I.list hq;show SeqAt.in_listAt (vf x) pl.isList (λw hw=>iK rx fx r fs w (by simpa using hw)) #[.bl _,H,I,U,?_];rw[show its.toArray.any (vf x)=its.any (vf x) by simp,j2 r fs];exact q
 .let(its,r,pl,hz):=I.tuple hq;show SeqAt.in_tupleAt (vf x) pl (λw hw=>iK rx fx r fs w (by simpa using hw)) #[.bl _,H,I,U,?_];rw[show its.toArray.any (vf x)=its.any (vf x) by simp,j2 r fs];exact q
theorem kz:gQ X (IN .NotIn) (HW X.K true):=by
 intro Sc s σ H x y v u Q I rx ry h;let(p,xs,rfl,hq,fx,fs,q):=h;cases ry;rcases hq with hq | hq
 .let(its,r,pl,hz):=I.list hq;show SeqAt.notIn_listAt (vf x) pl.isList (λw hw=>iK rx fx r fs w (by simpa using hw)) #[.bl _,H,I,U,?_];rw[show its.toArray.any (vf x)=its.any (vf x) by simp,j2 r fs];exact q
 .let(its,r,pl,hz):=I.tuple hq;show SeqAt.notIn_tupleAt (vf x) pl (λw hw=>iK rx fx r fs w (by simpa using hw)) #[.bl _,H,I,U,?_];rw[show its.toArray.any (vf x)=its.any (vf x) by simp,j2 r fs];exact q
theorem eU:dW X (.builtin "len") (λxs H Q=>∃ p ys,xs=[.ref p]/\(dR X.K H p ys\/jS X.K H p ys)/\Q (.int ys.length) H):=by
 intro Sc s σ H xs us Q I r h;let(p,ys,rfl,hq,q):=h;let(u,rfl,rx):=vals1 r;cases rx;have hn:=jK;rcases hq with hq | hq
 .let(its,r',pl,hz):=I.list hq;have hlen:=r'.length;exact Calls.call_len_list pl.isList (by simp only[List.size_toArray]<;>cbv) #[.int ys.length,H,I.tok _,#[s.toks+1,by rw[List.size_toArray,hlen]],q]
 .let(its,r',pl,hz):=I.tuple hq;have hlen:=r'.length;exact len_tuple pl (by simp only[List.size_toArray]<;>cbv) #[.int ys.length,H,I.tok _,#[s.toks+1,by rw[List.size_toArray,hlen]],q]
theorem j3:dW X (.builtin "len") (λxs H Q=>∃ z,xs=[.str z]/\z.length<=Ev/\Q (.int z.length) H):=by
 intro Sc s σ H xs us Q I r h;let(z,rfl,hz,q):=h;let(u,rfl,t,rfl):=vals1 r;have hn:=jK;exact len_str (by cbv) #[.int z.length,H,I.tok _,#[_,U],q]
theorem kH:dW X (.type "list") (λxs H Q=>∃ p ys,xs=[.ref p]/\(dR X.K H p ys\/jS X.K H p ys)/\∀ l,H l=none->Q (.ref l) (upd H l (.lst ys))):=by
 intro Sc s σ H xs us Q I r h;let(p,ys,rfl,hq,q):=h;let(u,rfl,rx):=vals1 r;cases rx;have fin:∀ (its:!AT),Vals ys its->ys.length<=Ev->∀ (h':EQ) (c':Nat),(∀ b o',s.heap.get? b=some o'->h'.get? b=some o') ->
   h'.get? ↑s=some { cls:=.type "list",dict:=none,data:=.seq its.toArray c',slots:=#v[] }->EP X Sc σ Q (.ref ↑s) { s with heap:=h' }:=λits r' hz h' c' kp e =>
  #[.ref ↑s,_,I.laid (t':=s.toks) kp (Sx _) (show bQ X.prog X.w _ h' _ (.lst ys) from #[hz,its,c',r',e]),U,q _ (I.bj.fresh (Sx _))]
 rcases hq with hq | hq
 .let(its,r',pl,hz):=I.list hq;have hlen:=r'.length;let(o,ho,hc,n,hd):=pl.isList;exact call_list_seq p (.inl U) ho hc hd (λh' c' kp e=>fin its r' hz h' c' kp e) (by simp only[List.size_toArray]<;>cbv)
 .let(its,r',pl,hz):=I.tuple hq;have hlen:=r'.length;let(o,ho,hc,n,hd):=pl;exact call_list_seq p (.inr U) ho hc hd (λh' c' kp e=>fin its r' hz h' c' kp e) (by simp only[List.size_toArray]<;>cbv)
theorem pb:dW X (.type "tuple") (λxs H Q=>∃ p ys,xs=[.ref p]/\((dR X.K H p ys/\∀ l,H l=none->Q (.ref l) (upd H l (.tup ys)))\/(jS X.K H p ys/\Q (.ref p) H))):=by
 intro Sc s σ H xs us Q I r h;let(p,ys,rfl,h):=h;let(u,rfl,rx):=vals1 r;cases rx;rcases h with ⟨hq,q⟩ | ⟨hq,q⟩
 .let(its,r',pl,hz):=I.list hq;have hlen:=r'.length;show call_tuple_list pl.isList (λh' kp=>?_) (by simp only[List.size_toArray]<;>cbv);have I1:Inv X Sc σ H { s with heap:=h' }:=I.kept (t':=s.toks) kp;have I2:Inv X Sc σ (upd H h'.objs.size (.tup ys)) { s with heap:=h'.push { cls:=.type "tuple",data:=.seq its.toArray } } :=
   I1.laid (t':=s.toks) (λb o e=>Su _ e) (Sx _) (show bQ X.prog X.w _ _ _ (.tup ys) from #[hz,its,r',iI.new _ _])
  exact#[.ref h'.objs.size,_,I2,U,q _ (I1.bj.fresh (Sx _))]
 .let(its,r',pl,hz):=I.tuple hq;exact call_tuple_same pl #[.ref p,H,I,U,q]
def O2(K:Frag)(T:String)(x:V)(H:Hp):Prop:=match x with
 | .str _=>T="str"
 | .int _=>T="int"
 | .ref p=>(T="list"/\∃ xs,dR K H p xs)\/(T="tuple"/\∃ o,K.lookup p=some o/\o.cls=.type "tuple"/\o.dict=none) \/
   (T="dict"/\((∃ kvs,H p=some (.dK kvs))\/∃ kvs,H p=some (.dT kvs)))\/(T="set"/\∃ S n,H p=some (.set S n))
 | _=>False
theorem AW{Sc:UQ}{σ:St}{H:Hp}{s:Da}{T:String}{x:V}{v:AT}(I:Inv X Sc σ H s)(r:RelV x v)(ty:O2 X.K T x H) :
  s.TypeIs v T/\∀ a,v=.ref a->∃ ob,s.heap.get? a=some ob/\ob.dict=none:=by
 cases x with
 | str z =>
  let(t,rfl):=r;cases (show T="str" from ty);exact#[typeIs_str s z t,λ_ e=>nomatch e]
 | int i =>
  let(t,rfl):=r;cases (show T="int" from ty);exact#[typeIs_int s i t,λ_ e=>nomatch e]
 | ref p =>
  cases r;rcases ty with ⟨rfl,xs,hq⟩ | ⟨rfl,o,hk,hc,hd⟩ | ⟨rfl,hk⟩ | ⟨rfl,S,n,hk⟩
  .let(its,_,pl,_):=I.list hq;show#[pl.isList.typeIs,λa e=>?_];cases e;let(o,n,e,c,hd,_):=pl;exact#[o,e,hd]
  .refine#[#[o,I.xA p o hk,hc],λa e=>?_];cases e;exact#[o,I.xA _ o hk,hd]
  .have z:∃ o,s.heap.get? p=some o/\o.ExactDict:=by
    rcases hk with ⟨kvs,hk⟩ | ⟨kvs,hk⟩
    .let(_,_,_,_,o,_,_,e,ex,_):=I.bj p _ hk;exact#[o,e,ex]
    .let(_,_,_,_,o,_,_,e,ex,_):=I.bj p _ hk;exact#[o,e,ex]
   let(o,e,ex):=z;show#[#[o,e,ex.1],λa e2=>?_];cases e2;exact#[o,e,ex.2.1]
  .let(o,_,_,_,e,ex,_):=I.bj p _ hk;show#[#[o,e,ex.1],λa e2=>?_];cases e2;exact#[o,e,ex.2.1]
 | _=>exact False.elim ty
def Ge(K:Frag)(T:String)(r:V->!V->Hp->VK->Prop)(to:TE):TE:=λσ H Q=>to σ H λx H1=>O2 K T x H1/\r x [] H1 Q
def Qn(K:Frag)(T:String)(r:V->!V->Hp->VK->Prop)(to:TE)(t:TA):TE:=λσ H Q=>to σ H λx H1=>O2 K T x H1/\t σ H1 λxs H2=>r x xs H2 Q
variable{o e:Cl}{es:!Cl}{to:TE}{t:TA}{name:Str}{apos cE:Pos}{T id:String}{r:V->!V->Hp->VK->Prop}
theorem wg(pa:PlainAttrs T)(slot:Slot T name id)(zI:typeOf (.builtin id)=pure (.type "method_descriptor"))(hm:Ia X id r)(ho:PE X o to)(fB:(attributeBase o name X.env (eval o X.env)=eval o X.env)⁻¹)(c5:((apos.endLine == cE.line)=true)⁻¹):PE X (.Call (.Attribute o name apos) [] [] cE) (Ge X.K T r to):=by
 intro Sc s σ H Q I h;show wpAny_Call_method0_late fB c5 (bx (ho Sc s σ H _ I h) λv s1 z2q=>?_);let(x,H1,I1,r1,ty,q1):=z2q;let(h1,h2):=AW I1 r1 ty;exact#[T,id,pa,slot,zI,h1,h2,Calls.callWith_builtin U (PySem.evalArgs_none (hm Sc s1 σ H1 x [] v [] Q I1 r1 .nil q1))]
theorem AH(pa:PlainAttrs T)(slot:Slot T name id)(zI:typeOf (.builtin id)=pure (.type "method_descriptor"))(hm:Ia X id r)(ho:PE X o to)(ha:PA X (e::es) t)(fB:(attributeBase o name X.env (eval o X.env)=eval o X.env)⁻¹)(qG:(((IR cE (GM (e::es) X.env)).all (λx=>(not x.1))&&(Rs cE (SC [] X.env)).all (λx=>x.1.isSome)
   && decide ((e::es).length+([]:!Ps).length+(if ([]:!Ps).isEmpty then 0 else 1) < 30))=true)⁻¹)(c5:((apos.endLine == cE.line)=true)⁻¹)(hs:(US X.env e es)⁻¹)(ic:((IR cE (GM es X.env)).any (·.1)=false)⁻¹) :
  PE X (.Call (.Attribute o name apos) (e::es) [] cE) (Qn X.K T r to t):=by
 intro Sc s σ H Q I h;show wpAny_Call_method_late fB qG c5 U (bx (ho Sc s σ H _ I h) λv s1 z3q=>?_);let(x,H1,I1,r1,ty,q1):=z3q;let(h1,h2):=AW I1 r1 ty;show#[T,id,pa,slot,zI,h1,h2,?_];have hA:=ha cE Sc s1 σ H1 _ I1 q1;rw[hs] at hA ⊢;show Calls.callWith_builtin (by change (false||(IR cE (GM es X.env)).any (·.1))=false;rw[ic]<;>rfl) (Calls.evalArgs_plain ?_);exact bx hA λus s2 #[vs,H2,I2,r2,q2]=>hm Sc s2 σ H2 x vs v us Q I2 r1 r2 q2
end
def JC(X:Cx)(id:String)(r:V->!V->Hp->VK->Prop):Prop :=
 ∀ (Sc:UQ) (s:Da) (σ:St) (H:Hp) (x:V) (xs:!V) (v:AT) (us:!AT) (Q:VK),Inv X Sc σ H s->RelV x v->Vals xs us->r x xs H Q ->
  Db (model X.prog X.w) X.A (call (.builtin id) (v::us)) (EP X Sc σ Q) X.xe s
theorem Vals.one{x:V}{us:!AT}(h:Vals [x] us):∃ u,us=[u]/\RelV x u:=by
 cases h with
 | cons r t=>cases t with
  | nil=>exact#[_,U,r]
theorem Vals.two{x y:V}{us:!AT}(h:Vals [x,y] us):∃ u v,us=[u,v]/\RelV x u/\RelV y v:=by
 cases h with
 | cons r t=>cases t with
  | cons q t=>cases t with
   | nil=>exact#[_,_,U,r,q]
theorem Vals.zero:∀ {us:!AT},Vals [] us->us=[]
 | _,.nil=>rfl
theorem Vals.dropLast{xs:!V}{us:!AT}(h:Vals xs us):Vals xs.dropLast us.dropLast:=by
 induction h with
 | nil=>exact .nil
 | cons r t ih =>
  cases t with
  | nil=>exact .nil
  | cons q t'=>exact .cons r ih
theorem Vals.eraseIdx:∀ {xs:!V} {us:!AT} (i:Nat),Vals xs us->Vals (xs.eraseIdx i) (us.eraseIdx i)
 | _,_,_,.nil=>.nil
 | _,_,0,.cons _ t=>t
 | _,_,i+1,.cons r t=>.cons r (Vals.eraseIdx i t)
theorem Vals.reverse{xs:!V}{us:!AT}(h:Vals xs us):Vals xs.reverse us.reverse:=by
 induction h with
 | nil=>exact .nil
 | cons r t ih=>rw[Tw,Tw];exact Vals.append ih (.cons r .nil)
theorem v7{α:Type}(l:!α):l.eraseIdx (l.length - 1)=l.dropLast:=by
 induction l with
 | nil=>rfl
 | cons a r ih =>
  cases r with
  | nil=>rfl
  | cons b r =>
   have e:(a::b::r).length - 1=((b::r).length - 1)+1:=by
    have h1:(a::b::r).length=r.length+2:=rfl;have h2:(b::r).length=r.length+1:=rfl;cbv
   rw[e,List.eraseIdx_cons_succ,ih]
   all_goals rfl
theorem pJ{α:Type}:∀ (l:!α) (i:Nat),(l.eraseIdx i).length<=l.length
 | [],_=>Sx _
 | _::_,0=>Ut _
 | _::r,i+1=>Nat.succ_le_succ (pJ r i)
section
variable{X:Cx}{Sc:UQ}{σ:St}{H:Hp}{s:Da}{l b:AC}{xs ys zs:!V}
theorem Inv.CL{its its':!AT}{n:Nat}{f:Array AT->Array AT}{t':Nat}(I:Inv X Sc σ H s)(hH:H l=some (.lst xs))(e:s.heap.get? l=some { cls:=.type "list",data:=.seq its.toArray n })(hf:f its.toArray=its'.toArray)(hv:Vals ys its')(hz:ys.length<=Ev) :
  Inv X Sc σ (upd H l (.lst ys)) { s with heap:=s.heap.update l (Obj.mapSeq f),toks:=t' }:=by
 have q:=PySem.IsL.update e f;rw[hf] at q;show I.write (x:=l) (e:=l) (by rw[hH];exact trivial) (.inl U) (λb' u hb hu=>(S9 s.heap (Obj.mapSeq f) (Ne.symm hb)).trans hu) #[_,q] ?_;exact#[hz,its',_,hv,q]
theorem Inv.JL{its:!AT}{t':Nat}(I:Inv X Sc σ H s)(hv:Vals ys its)(hz:ys.length<=Ev) :
  Inv X Sc σ (upd H ↑s (.lst ys)) { s with heap:=s.heap.push { cls:=.type "list",data:=.seq its.toArray },toks:=t' } :=
 I.laid (λ_ _ q=>Su _ q) (Sx _) #[hz,its,0,hv,SH _ U]
theorem Inv.fresh(I:Inv X Sc σ H s):H ↑s=none:=I.bj.fresh (Sx _)
theorem Inv.uZ(I:Inv X Sc σ H s)(hH:H l=some (.lst xs)):xs.length<=Ev/\∃ (its:!AT) (n:Nat),Vals xs its/\xs.length=its.length/\s.heap.get? l=some { cls:=.type "list",data:=.seq its.toArray n }:=by
 let(z,its,n,r,e):=I.bj l _ hH;exact#[z,its,n,r,r.length,e]
theorem B3{n:Nat}(h:n<=Ev):FS.List.listTooLong n=false:=by
 unfold FS.List.listTooLong;exact decide_eq_false (by cbv)
end
section
variable{X:Cx}
def wM:V->!V->Hp->VK->Prop:=λx vs H Q=>∃ l xs y,x=.ref l/\vs=[y]/\H l=some (.lst xs)/\xs.length < Ev/\Q .bH (upd H l (.lst (xs++[y])))
theorem i5:JC X "list.append" wM:=by
 intro Sc s σ H x vs v us Q I rx rv h;let(l,xs,y,rfl,rfl,hH,hz,q):=h;cases rx;let(u,rfl,ru):=rv.one;let(z,its,n,r,hl,e):=I.uZ hH;show call_meets F.slot_list_append #[_,e,U] F.entry_list_append (F.args_list_append_2 _ _) (PySem.list_append l its.toArray n u (by rw[SQ];cbv)) #[e,?_];show#[.bH,_,I.CL (its':=its++[u]) hH e (by simp) (r.append (.cons ru .nil)) ?_,U,q];rw[Sv,List.length_singleton];cbv
def xB:V->!V->Hp->VK->Prop:=λx vs H Q=>∃ l b xs zs,x=.ref l/\vs=[.ref b]/\H l=some (.lst xs)/\H b=some (.lst zs)/\xs.length+zs.length<=Ev/\Q .bH (upd H l (.lst (xs++zs)))
theorem jb:JC X "list.extend" xB:=by
 intro Sc s σ H x vs v us Q I rx rv h;let(l,b,xs,zs,rfl,rfl,hH,hB,hz,q):=h;cases rx;let(u,rfl,ru):=rv.one;cases ru;let(z,its,n,r,hl,e):=I.uZ hH;let(z2,dZ,n2,r2,HU,e2):=I.uZ hB;have hsz:its.toArray.size+dZ.toArray.size<=Ev:=by rw[SQ,SQ];cbv
 have hlong:¬ ((not its.toArray.isEmpty)&&FS.List.listTooLong (its.toArray.size+dZ.toArray.size))=true:=by
  rw[B3 hsz,Bool.and_false];exact SK
 show call_meets F.slot_list_extend #[_,e,U] F.entry_list_extend (F.args_list_extend_2 _ _)
  (AutoSeq1.list_extend_list_list_0 l its.toArray n b dZ.toArray n2 hlong (by rw[SQ];cbv) (by cbv)) #[e,e2,?_]
 show#[.bH,_,I.CL (its':=its++dZ) hH e (by simp) (r.append r2) ?_,U,q];rw[Sv];cbv
def Hi:V->!V->Hp->VK->Prop:=λx vs H Q=>∃ l xs y,x=.ref l/\vs=[]/\H l=some (.lst xs)/\xs[xs.length - 1]?=some y/\Q y (upd H l (.lst xs.dropLast))
theorem iz:JC X "list.pop" Hi:=by
 intro Sc s σ H x vs v us Q I rx rv h;let(l,xs,y,rfl,rfl,hH,hy,q):=h;cases rx;have hus:=rv.zero;subst hus;let(z,its,n,r,hl,e):=I.uZ hH;let(u,hu,ru):=r.get hy;have hy':its.toArray[its.toArray.size - 1]?=some u:=by
  change its.toArray[its.length - 1]?=some u;rw[<- Uj,<- hl];exact hu
 show call_meets F.slot_list_pop #[_,e,U] F.entry_list_pop (F.args_list_pop_1 _) (MeetsSeq.list_pop_last l its.toArray n u hy' (by rw[SQ];cbv)) #[e,?_];show#[y,_,I.CL (its':=its.dropLast) hH e ?_ r.dropLast ?_,ru,q]
 .show its.toArray.eraseIdxIfInBounds (its.toArray.size - 1)=its.dropLast.toArray;rw[SQ,List.eraseIdxIfInBounds_toArray,v7]
 .rw[List.length_dropLast];cbv
def zB:V->!V->Hp->VK->Prop:=λx vs H Q=>∃ l xs i k y,x=.ref l/\vs=[.int i]/\H l=some (.lst xs)/\-(2 ^ 63)<=i/\i < 2 ^ 63/\seqIndex? i xs.length=some k/\xs[k]?=some y/\Q y (upd H l (.lst (xs.eraseIdx k)))
theorem oh:JC X "list.pop" zB:=by
 intro Sc s σ H x vs v us Q I rx rv h;let(l,xs,i,k,y,rfl,rfl,hH,h1,h2,hk,hy,q):=h;cases rx;let(u,rfl,ru):=rv.one;let(t,rfl):=ru;let(z,its,n,r,hl,e):=I.uZ hH;let(w,hw,rw'):=r.get hy;show call_meets F.slot_list_pop #[_,e,U] F.entry_list_pop (F.args_list_pop_2 _ _)
  (MeetsSeq.list_pop_at l its.toArray n i t k w (fitsIndex_both h1 h2) (by rw[SQ,<- hl];exact hk) (by rw[<- Uj];exact hw) (by rw[SQ];cbv)) #[e,?_]
 show#[y,_,I.CL (its':=its.eraseIdx k) hH e ?_ (r.eraseIdx k) ?_,rw',q]
 .show its.toArray.eraseIdxIfInBounds k=(its.eraseIdx k).toArray;rw[List.eraseIdxIfInBounds_toArray]
 .have:=pJ xs k;cbv
def Jz:R2:=λx y H Q=>∃ l b xs zs,x=.ref l/\y=.ref b/\H l=some (.lst xs)/\H b=some (.lst zs)/\xs.length+zs.length<=Ev/\∀ p,H p=none->Q (.ref p) (upd H p (.lst (xs++zs)))
theorem bV:gQ X (P3 .Add) Jz:=by
 intro Sc s σ H x y v u Q I rx ry h;let(l,b,xs,zs,rfl,rfl,hH,hB,hz,q):=h;cases rx;cases ry;let(z,its,n,r,hl,e):=I.uZ hH;let(z2,dZ,n2,r2,HU,e2):=I.uZ hB;show PySem.P.add_list e e2 ?_ (by rw[SQ,SQ];cbv);have ea:its.toArray++dZ.toArray=(its++dZ).toArray:=by simp
 rw[ea];exact#[.ref _,_,I.JL (t':=s.toks) (r.append r2) (by rw[Sv];cbv),U,q _ I.fresh]
end
section
variable{prog:Fr}{w:Fa}{A:Fk}{E:UP}{s:Da}
end
section
variable{X:Cx}
end
section
variable{κ:Type}[DecidableEq κ]
def fO(kvs:!(κ×V))(k:κ):Option V:=(kvs.find? λkv=>decide (kv.1=k)).map (·.2)
def putK(kvs:!(κ×V))(k:κ)(v:V):!(κ×V) :=
 if (kvs.any λkv=>decide (kv.1=k))=true then kvs.map (λkv=>if kv.1=k then (kv.1,v) else kv) else kvs++[(k,v)]
theorem oz{k:κ}:fO ([]:!(κ×V)) k=none:=rfl
theorem fA{p:κ×V}{r:!(κ×V)}{k:κ}(e:p.1=k):fO (p::r) k=some p.2:=by simp[fO,List.find?_cons,e]
theorem du{p:κ×V}{r:!(κ×V)}{k:κ}(e:¬ p.1=k):fO (p::r) k=fO r k:=by simp[fO,List.find?_cons,e]
theorem kG(k:κ):∀ kvs:!(κ×V),(kvs.any λkv=>decide (kv.1=k))=(fO kvs k).isSome
 | []=>rfl
 | p::r=>by
  rw[T4];by_cases e:p.1=k
  .simp only[fA e,decide_eq_true e,Bool.true_or,Option.isSome_some]
  .rw[du e,decide_eq_false e,Bool.false_or];exact kG k r
theorem eE(kvs:!(κ×V))(k:κ)(v:V):(putK kvs k v).length<=kvs.length+1:=by
 unfold putK;split
 .rw[Ss];cbv
 .rw[Sv,SG,List.length_nil];cbv
theorem j9{kvs:!(κ×V)}{k:κ}(v:V)(h:fO kvs k=none):putK kvs k v=kvs++[(k,v)]:=by
 unfold putK;rw[kG,h];exact if_neg ()
theorem jq.gz{o:Option V}{u:Option AT}(r:jq o u):o.isSome=u.isSome:=by
 cases o with
 | none=>cases u with
  | none=>rfl
  | some _=>exact (show False from r).elim
 | some _=>cases u with
  | none=>exact (show False from r).elim
  | some _=>rfl
theorem KV.val{kvs:!(κ×V)}{vs:!(κ×AT)}(r:KV kvs vs)(k:κ):jq (fO kvs k) (valueAt vs k):=by
 unfold KV at r
 induction r with
 | nil=>exact True.intro
 | @cons p q ps qs h t ih =>
  let(h1,h2):=h;by_cases e:p.1=k
  .have e':q.1=k:=h1.symm.trans e;have b:valueAt (q::qs) k=some q.2:=by simp[valueAt,List.find?_cons,e']
   rw[fA e,b];exact h2
  .have e':¬ q.1=k:=λz=>e (h1.trans z);have b:valueAt (q::qs) k=valueAt qs k:=by simp[valueAt,List.find?_cons,e']
   rw[du e,b];exact ih
theorem KV.any{kvs:!(κ×V)}{vs:!(κ×AT)}(r:KV kvs vs)(k:κ):(kvs.any λkv=>decide (kv.1=k))=vs.any λkv=>decide (kv.1=k):=by
 unfold KV at r
 induction r with
 | nil=>rfl
 | cons h t ih=>rw[T4,T4,ih,h.1]
theorem KV.Gi{kvs:!(κ×V)}{vs:!(κ×AT)}(r:KV kvs vs)(k:κ){y:V}{u:AT}(ry:RelV y u) :
  KV (kvs.map λkv=>if kv.1=k then (kv.1,y) else kv) (vs.map λkv=>if kv.1=k then (kv.1,u) else kv):=by
 unfold KV at r ⊢
 induction r with
 | nil=>exact .nil
 | @cons p q ps qs h t ih =>
  rw[SA,SA];show .cons ?_ ih;let(h1,h2):=h;by_cases e:p.1=k
  .rw[if_pos e,if_pos (h1.symm.trans e)];exact#[h1,ry]
  .rw[if_neg e,if_neg (λz=>e (h1.trans z))];exact#[h1,h2]
theorem KV.put{kvs:!(κ×V)}{vs:!(κ×AT)}(r:KV kvs vs)(k:κ){y:V}{u:AT}(ry:RelV y u):KV (putK kvs k y) (stored vs k u):=by
 unfold putK stored;rw[r.any k];by_cases e:(vs.any λkv=>decide (kv.1=k))=true
 .rw[if_pos e,if_pos e];exact r.Gi k ry
 .rw[if_neg e,if_neg e];exact Paired.snoc r #[U,ry]
theorem KV.length{kvs:!(κ×V)}{vs:!(κ×AT)}(r:KV kvs vs):kvs.length=vs.length:=Paired.length r
end
theorem ny{P:Fr}{w:Fa}{k:Key}{u:AT}(r:RelV (kV k) u):(b8 P w).is k u=true:=by
 cases k with
 | inl i=>let(t,e):=(show ∃ t,u=AT.int i t from r);subst e;exact sX P w i t
 | inr x=>let(t,e):=(show ∃ t,u=AT.str x t from r);subst e;exact t7 P w x t
theorem pL{P:Fr}{w:Fa}:∀ {ks:!Key} {us:!AT},Vals (ks.map kV) us->ItemsAre (b8 P w) ks us
 | [],_,r=>by rw[Tt] at r;cases r;exact .nil
 | k::ks,_,r=>by
  rw[SA] at r;cases r with
  | cons h t=>exact .cons (ny h) (pL t)
abbrev KT(H:Hp):!(!Key×V)->!(!Key×AC×AT)->Prop:=Paired λp q=>p.1=q.1/\H q.2.1=some (.tup (p.1.map kV))/\RelV p.2 q.2.2
theorem KT.val{H:Hp}{kvs:!(!Key×V)}{xs:!(!Key×AC×AT)}(r:KT H kvs xs)(k:!Key):jq (fO kvs k) ((atKey xs k).map (·.2)):=by
 induction r with
 | nil=>exact True.intro
 | @cons p q ps qs h t ih =>
  let(h1,_,h2):=h;by_cases e:p.1=k
  .have e':q.1=k:=h1.symm.trans e;have b:atKey (q::qs) k=some q.2:=by simp[atKey,List.find?_cons,e']
   rw[fA e,b];exact h2
  .have e':¬ q.1=k:=λz=>e (h1.trans z);have b:atKey (q::qs) k=atKey qs k:=by simp[atKey,List.find?_cons,e']
   rw[du e,b];exact ih
theorem KT.Gi{H:Hp}{kvs:!(!Key×V)}{xs:!(!Key×AC×AT)}(r:KT H kvs xs)(k:!Key){y:V}{u:AT}(ry:RelV y u) :
  KT H (kvs.map λkv=>if kv.1=k then (kv.1,y) else kv) (xs.map (putAt k u)):=by
 induction r with
 | nil=>exact .nil
 | @cons p q ps qs h t ih =>
  rw[SA,SA];show .cons ?_ ih;let(h1,h2,h3):=h;unfold putAt;by_cases e:p.1=k
  .rw[if_pos e,if_pos (h1.symm.trans e)];exact#[h1,h2,ry]
  .rw[if_neg e,if_neg (λz=>e (h1.trans z))];exact#[h1,h2,h3]
theorem KT.put{H:Hp}{kvs:!(!Key×V)}{xs:!(!Key×AC×AT)}(r:KT H kvs xs)(k:!Key){b:AC}{y:V}{u:AT}(hb:H b=some (.tup (k.map kV)))(ry:RelV y u) :
  KT H (putK kvs k y) (storedH xs k b u):=by
 have e:(kvs.any λkv=>decide (kv.1=k))=(atKey xs k).isSome:=by
  rw[kG,(r.val k).gz,Option.isSome_map]
 unfold putK storedH;rw[e];by_cases q:(atKey xs k).isSome=true
 .rw[if_pos q,if_pos q];exact r.Gi k ry
 .rw[if_neg q,if_neg q];exact Paired.snoc r #[U,hb,ry]
theorem KT.keeps{H H':Hp}{kvs:!(!Key×V)}{xs:!(!Key×AC×AT)}(r:KT H kvs xs)(ht:∀ b ys,H b=some (.tup ys)->H' b=some (.tup ys)):KT H' kvs xs :=
 Paired.yJ r λ_ _ z=>#[z.1,ht _ _ z.2.1,z.2.2]
section
variable{P:Fr}{w:Fa}{H:Hp}{h:EQ}{a:AC}
theorem ER{u:HO}(ok:jV P w H h)(e:Rd H a u):bQ P w H h a u:=e.ok ok
theorem sU{kvs:!(Key×V)}(ok:jV P w H h)(e:Rd H a (.dK kvs)):kvs.length<=Ev/\(a == Re)=false/\∃ vs,KV kvs vs/\h.DictOf (b8 P w) a vs :=
 show bQ P w H h a (.dK kvs) from ER ok e
theorem Ap{kvs:!(Key×V)}(ok:jV P w H h)(e:H a=some (.dK kvs)):kvs.length<=Ev/\(a == Re)=false/\∃ vs,KV kvs vs/\h.DictOf (b8 P w) a vs:=sU ok (.inl e)
theorem oC{ks:!Key}(ok:jV P w H h)(e:H a=some (.tup (ks.map kV))):(tupleKind (b8 P w)).is h ks a:=by
 let(_,its,r,o,h1,h2,n,h3):=(show bQ P w H h a (.tup (ks.map kV)) from ok a _ e);exact#[o,its.toArray,n,h1,h2,h3.1,by simpa using pL r]
theorem uQ{kvs:!(!Key×V)}(ok:jV P w H h)(e:Rd H a (.dT kvs)):kvs.length<=Ev/\(a == Re)=false /\
  ∃ xs,KT H kvs xs/\h.DictOfH (tupleKind (b8 P w)) a xs:=by
 let(z,y,xs,r,o,es,ep,h1,h2,h3,h4,h5):=(show bQ P w H h a (.dT kvs) from ER ok e);show#[z,y,xs,r,o,es,ep,h1,h2,h3,h4,λx hx=>?_,h5];have all:∀ {l:!(!Key×V)} {m:!(!Key×AC×AT)},KT H l m->∀ x∈m,(tupleKind (b8 P w)).is h x.1 x.2.1:=by
  intro l m q
  induction q with
  | nil=>intro x hx;exact nomatch hx
  | @cons p q ps qs hq t ih =>
   intro x hx;rcases SO.mp hx with e | hx
   .subst e;exact oC ok (by rw[<- hq.1];exact hq.2.1)
   .exact ih x hx
 exact all r x hx
theorem Li{kvs:!(!Key×V)}(ok:jV P w H h)(e:H a=some (.dT kvs)):kvs.length<=Ev/\(a == Re)=false /\
  ∃ xs,KT H kvs xs/\h.DictOfH (tupleKind (b8 P w)) a xs:=uQ ok (.inl e)
end
def gL(H:Hp)(a:AC)(y:V)(r:Option V):Prop :=
 (∃ kvs k,Rd H a (.dK kvs)/\y=kV k/\r=fO kvs k)\/∃ kvs k b,Rd H a (.dT kvs)/\y=.ref b/\H b=some (.tup (k.map kV))/\r=fO kvs k
def lC(H:Hp)(a:AC)(y v:V)(H':Hp):Prop :=
 (∃ kvs k,H a=some (.dK kvs)/\y=kV k/\kvs.length < Ev/\H'=upd H a (.dK (putK kvs k v))) \/
 ∃ kvs k b,H a=some (.dT kvs)/\y=.ref b/\H b=some (.tup (k.map kV))/\kvs.length < Ev/\H'=upd H a (.dT (putK kvs k v))
theorem gL.k{H:Hp}{a:AC}{kvs:!(Key×V)}{k:Key}(e:H a=some (.dK kvs)):gL H a (kV k) (fO kvs k):=.inl #[kvs,k,.inl e,U,U]
theorem gL.t{H:Hp}{a b:AC}{kvs:!(!Key×V)}{k:!Key}(e:H a=some (.dT kvs))(eb:H b=some (.tup (k.map kV))):gL H a (.ref b) (fO kvs k):=.inr #[kvs,k,b,.inl e,U,eb,U]
theorem lC.k{H:Hp}{a:AC}{kvs:!(Key×V)}{k:Key}{v:V}(e:H a=some (.dK kvs))(hl:kvs.length < Ev):lC H a (kV k) v (upd H a (.dK (putK kvs k v))):=.inl #[kvs,k,e,U,hl,U]
theorem lC.t{H:Hp}{a b:AC}{kvs:!(!Key×V)}{k:!Key}{v:V}(e:H a=some (.dT kvs))(eb:H b=some (.tup (k.map kV)))(hl:kvs.length < Ev) :
  lC H a (.ref b) v (upd H a (.dT (putK kvs k v))):=.inr #[kvs,k,b,e,U,eb,hl,U]
section
variable{X:Cx}{Sc:UQ}{σ:St}{H:Hp}{s:Da}{a:AC}{y v:V}{u r:AT}{o:Option V}{A:Fk}{E:UP}
theorem Inv.big(I:Inv X Sc σ H s):Re < ↑s:=by
 have h:Gc < ↑s:=(I.mod.glob.keeps I.bk).lt;exact Nat.lt_trans () h
theorem yC{Q:UP}(hu:A.units+1 < cLine)(I:Inv X Sc σ H s)(g:gL H a y (some v))(ry:RelV y u)(h:∀ w' s',Inv X Sc σ H s'->RelV v w'->Q w' s') :
  Db (model X.prog X.w) A (getItem (.ref a) u) Q E s:=by
 rcases g with ⟨kvs,k,e,ey,l⟩ | ⟨kvs,k,b,e,ey,eb,l⟩
 .subst ey;let(z,hd,vs,rel,dd):=sU I.bj e;let(w',hw,rw'):=jq.some_of (v:=v) (o:=valueAt vs k) (by rw[l];exact rel.val k);exact wpAny_getItem_of (ny ry) dd.mapOf hw (h w' _ (I.tok _) rw')
 .subst ey;cases (show u=AT.ref b from ry);let(z,hd,xs,rel,dd):=uQ I.bj e;let(w',hw,rw'):=jq.some_of (v:=v) (o:=(atKey xs k).map (·.2)) (by rw[l];exact rel.val k);let(p,hp,hp2):=Te.mp hw;show wpAny_getItem_heap (tupleKind_room_in1 hu) (oC I.bj eb) dd hp ?_;rw[hp2];exact h w' _ (I.tok _) rw'
theorem ND{Q:UP}(hu:A.units+1 < cLine)(I:Inv X Sc σ H s)(g:gL H a y o)(ry:RelV y u)(h:∀ s',Inv X Sc σ H s'->Q (.bool o.isSome) s') :
  Db (model X.prog X.w) A (IN .In u (.ref a)) Q E s:=by
 rcases g with ⟨kvs,k,e,ey,l⟩ | ⟨kvs,k,b,e,ey,eb,l⟩
 .subst ey;let(z,hd,vs,rel,dd):=sU I.bj e;show wpAny_in_of (ny ry) hd dd.mapOf ?_;rw[<- (rel.val k).gz,<- l];exact h _ (I.tok _)
 .subst ey;cases (show u=AT.ref b from ry);let(z,hd,xs,rel,dd):=uQ I.bj e;show wpAny_in_heap (tupleKind_room_in1 hu) (oC I.bj eb) hd dd ?_;have q:=(rel.val k).gz;rw[Option.isSome_map] at q;rw[<- q,<- l];exact h _ (I.tok _)
theorem CU{Q:UP}(hu:A.units+1 < cLine)(I:Inv X Sc σ H s)(g:gL H a y o)(ry:RelV y u)(h:∀ s',Inv X Sc σ H s'->Q (.bool (not o.isSome)) s') :
  Db (model X.prog X.w) A (IN .NotIn u (.ref a)) Q E s:=by
 rcases g with ⟨kvs,k,e,ey,l⟩ | ⟨kvs,k,b,e,ey,eb,l⟩
 .subst ey;let(z,hd,vs,rel,dd):=sU I.bj e;show wpAny_notIn_of (ny ry) hd dd.mapOf ?_;rw[<- (rel.val k).gz,<- l];exact h _ (I.tok _)
 .subst ey;cases (show u=AT.ref b from ry);let(z,hd,xs,rel,dd):=uQ I.bj e;show wpAny_notIn_heap (tupleKind_room_in1 hu) (oC I.bj eb) hd dd ?_;have q:=(rel.val k).gz;rw[Option.isSome_map] at q;rw[<- q,<- l];exact h _ (I.tok _)
theorem mB{h':EQ}{t':Nat}{ob:HO}(I:Inv X Sc σ H s)(mu:JT (H a))(hs:EQ.SameBut a s.heap h')(he:∃ q,h'.get? a=some q)(new:bQ X.prog X.w (upd H a ob) h' a ob) :
  Inv X Sc σ (upd H a ob) { s with heap:=h',toks:=t' } :=
 I.write (x:=a) (e:=a) mu (.inl U) (λb q hb z=>(hs.2 b hb).trans z) he new
theorem ve{P:Fr}{w:Fa}{H':Hp}{h':EQ}{kvs:!(Key×V)}{vs:!(Key×AT)}(z:kvs.length<=Ev)(hd:(a == Re)=false)(rel:KV kvs vs)(dd:h'.DictOf (b8 P w) a vs) :
  bQ P w H' h' a (.dK kvs):=#[z,hd,vs,rel,dd]
theorem ye{H':Hp}{Q:Unit->Da->Prop}(hu:A.units+1 < cLine)(I:Inv X Sc σ H s)(g:lC H a y v H')(ry:RelV y u)(rv:RelV v r)(h:∀ s',Inv X Sc σ H' s'->Q Unit.unit s') :
  Db (model X.prog X.w) A (setItem (.ref a) u r) Q E s:=by
 rcases g with ⟨kvs,k,e,ey,l,eH⟩ | ⟨kvs,k,b,e,ey,eb,l,eH⟩
 .subst ey eH;let(z,hd,vs,rel,dd):=Ap I.bj e;have hz:vs.length<=Ev:=by rw[<- rel.length];exact z
  have hl:(putK kvs k v).length<=Ev:=by have:=eE kvs k v;cbv
  show wpAny_setItem_pairs (hsz:=hz) (ny ry) dd λh' dd' hs=>h _ ?_;have he:∃ q,h'.get? a=some q:=let #[q,_,_,hq,_]:=dd';#[q,hq];exact mB I (by rw[e];exact True.intro) hs he (ve hl hd (rel.put k rv) dd')
 .subst ey eH;cases (show u=AT.ref b from ry);let(z,hd,xs,rel,dd):=Li I.bj e;have hz:xs.length<=Ev:=by rw[<- Paired.length rel];exact z
  have hl:(putK kvs k v).length<=Ev:=by have:=eE kvs k v;cbv
  show wpAny_setItem_heap (hsz:=hz) (tupleKind_room_in1 hu) (oC I.bj eb) dd λh' dd' hs=>h _ ?_;let(q,es,ep,hq,h2,h3,h4,_,h5):=dd';show mB I (by rw[e];exact True.intro) hs #[q,hq] #[hl,hd,_,(rel.put k eb rv).keeps λc ys ec=>?_,q,es,ep,hq,h2,h3,h4,h5];rw[av (D8 ec e (λz=>nomatch z))];exact ec
end
section
variable{X:Cx}{Sc:UQ}{σ:St}{H:Hp}{s:Da}{a:AC}{kvs:!(Key×V)}{k:Key}{u:AT}{A:Fk}{E:UP}
end
def K5(i:Cl):Prop:=∀ ov iv,subscripted i false ov iv=operate [ov,iv] (getItem ov iv)
theorem Cr{prog:Fr}{w:Fa}{A:Fk}{E:UP}{s:Da}{env:Env}{value slice:Cl}{pos:Pos}{T id:String}{Q:UP}(hl:typeLookup (.type T) "__getitem__"=pure (some (.builtin id)))(hs:K5 slice)(h:Db (model prog w) A (eval value env) (λo s₁=>Db (model prog w) A (eval slice env) (λi s₂=>s₂.TypeIs o T/\Db (model prog w) A (getItem o i) Q E s₂) E s₁) E s) :
  Db (model prog w) A (eval (.Subscript value slice pos) env) Q E s:=by
 show Subscript_ (KM h (λo s₁ h₁=>KM h₁ (λi s₂ h₂=>?_) λ_ _ x=>x) λ_ _ x=>x);let(hT,h₂):=h₂;unfold subscriptTail;show Ch ?_;rw[getitemInPython_of_ne hT.not_modules];show Ch (wpAny_specialOf hT hl ?_);have fin:Db (model prog w) A (subscripted slice false o i) (λr s₃=>Db (model prog w) A (letTemporaryGo value o r >>= λ_=>pure r) Q E s₃) E s₂:=by
  rw[hs o i];exact wpAny_operating (KM h₂ (λr s₃ h₃=>Ch (wpAny_letTemporaryGo (FB h₃))) λ_ _ x=>x)
 first
  | exact FB (Ch fin)
  | exact Ch (FB (Ch fin))
  | exact Ch fin
theorem sV{X:Cx}{Sc:UQ}{σ:St}{H:Hp}{s:Da}{a:AC}{y:V}{o:Option V}(I:Inv X Sc σ H s)(g:gL H a y o):s.TypeIs (.ref a) "dict":=by
 rcases g with ⟨kvs,k,e,_,_⟩ | ⟨kvs,k,b,e,_,_,_⟩
 .let(_,_,vs,_,dd):=sU I.bj e;exact dd.typeIs
 .let(_,_,xs,_,dd):=uQ I.bj e;exact dd.typeIs
def kg(td ty:TE):TE:=λσ H Q=>td σ H λx H1=>ty σ H1 λy H2=>∃ a v,x=.ref a/\gL H2 a y (some v)/\Q v H2
def Ka(ty td:TE):TE:=λσ H Q=>ty σ H λy H1=>td σ H1 λx H2=>∃ a o,x=.ref a/\gL H2 a y o/\Q (.bl o.isSome) H2
def wR(ty td:TE):TE:=λσ H Q=>ty σ H λy H1=>td σ H1 λx H2=>∃ a o,x=.ref a/\gL H2 a y o/\Q (.bl (not o.isSome)) H2
def uw(td ty tv:TE):TS:=λD σ H=>tv σ H λv H1=>td σ H1 λx H2=>ty σ H2 λy H3=>∃ a H4,x=.ref a/\lC H3 a y v H4/\D.nx σ H4
section
variable{X:Cx}{o i e value:Cl}{pos pos' u9:Pos}{td ty tv:TE}
theorem bq(hu:X.A.units+1 < cLine)(ho:PE X o td)(hi:PE X i ty)(hs:K5 i):PE X (.Subscript o i pos) (kg td ty):=by
 intro Sc s σ H Q I h;show Cr PySem.F.slot_dict_getitem.lookup hs (bx (ho Sc s σ H _ I h) λu s1 zz=>el2 zz λx H1 I1 rx q1=>bx (hi Sc s1 σ H1 _ I1 q1) λiv s2 z4q=>?_);let(y,H2,I2,ry,a,v,ex,g,q2):=z4q;subst ex;obtain rfl:u=AT.ref a:=rx;exact#[sV I2 g,yC hu I2 g ry λw' s3 I3 rw'=>#[v,H2,I3,rw',q2]]
theorem Hr(hu:X.A.units+1 < cLine)(hi:PE X i ty)(ho:PE X o td):PC X .In i o (Ka ty td):=by
 intro Sc s σ H Q I h;show bx (hi Sc s σ H _ I h) λiv s1 zz=>el2 zz λy H1 I1 ry q1=>bx (ho Sc s1 σ H1 _ I1 q1) λu s2 z5q=>?_;let(x,H2,I2,rx,a,ov,ex,g,q2):=z5q;subst ex;obtain rfl:u=AT.ref a:=rx;exact ND hu I2 g ry λs3 I3=>#[.bl ov.isSome,H2,I3,U,q2]
theorem yj(hu:X.A.units+1 < cLine)(hi:PE X i ty)(ho:PE X o td):PC X .NotIn i o (wR ty td):=by
 intro Sc s σ H Q I h;show bx (hi Sc s σ H _ I h) λiv s1 zz=>el2 zz λy H1 I1 ry q1=>bx (ho Sc s1 σ H1 _ I1 q1) λu s2 #[x,H2,I2,rx,a,ov,ex,g,q2]=>?_;subst ex;obtain rfl:u=AT.ref a:=rx;exact CU hu I2 g ry λs3 I3=>#[.bl (not ov.isSome),H2,I3,U,q2]
theorem mC(hu:X.A.units+1 < cLine)(ho:PE X o td)(hi:PE X i ty)(hv:PE X value tv)(hs:swapsWith value (some (.Subscript o i pos')) pos.line X.env=pure false) :
  PS X (.Assign [.Subscript o i pos'] value pos) (uw td ty tv):=by
 intro Sc s σ H D I h;show wpAny_Assign_Subscript (bx (hv Sc s σ H _ I h) λr s1 zz=>el2 zz λv H1 I1 rv q1=>bx (ho Sc s1 σ H1 _ I1 q1) λu s2 zz=>el2 zz λx H2 I2 rx q2=>bx (hi Sc s2 σ H2 _ I2 q2) λiv s3 #[y,H3,I3,ry,a,H4,ex,g,q3]=>?_) hs;subst ex;obtain rfl:u=AT.ref a:=rx;exact ye hu I3 g ry rv λs4 I4=>#[σ,H4,I4,q3]
end
theorem tM{P:Fr}{w:Fa}{H:Hp}(h:EQ)(hb:Re < h.objs.size):bQ P w H (h.push { cls:=.type "dict",data:=.dict #v[] }) h.objs.size (.dK []) :=
 #[S3 _,beq_eq_false_iff_ne.mpr (Ne.symm (SR hb)),[],.nil,EQ.DictOf.new h]
theorem B7{P:Fr}{w:Fa}{H:Hp}(h:EQ)(hb:Re < h.objs.size):bQ P w H (h.push { cls:=.type "dict",data:=.dict #v[] }) h.objs.size (.dT []) :=
 #[S3 _,beq_eq_false_iff_ne.mpr (Ne.symm (SR hb)),[],.nil,_,#v[],0,SH _ U,#[U,U,U],U,U,List.nodup_nil]
def G6:TE:=λ_ H Q=>∀ p,H p=none->Q (.ref p) (upd H p (.dT []))
section
variable{X:Cx}{pos:Pos}
theorem Am:PE X (.Dict [] [] pos) G6:=λSc s σ H Q I h =>
 wpAny_Dict_empty #[.ref ↑s,_,I.laid (a:=↑s) (o:=.dT []) (t':=s.toks) (λ_ _ q=>Su _ q) (Sx _) (B7 s.heap I.big),U,h _ (I.bj.fresh (Sx _))]
end
def oG:!(TE×TE)->St->Hp->(!(V×V)->Hp->Prop)->Prop
 | [],_,H,Q=>Q [] H
 | (tk,tv)::r,σ,H,Q=>tk σ H λx H1=>tv σ H1 λy H2=>oG r σ H2 λps H3=>Q ((x,y)::ps) H3
abbrev VV:!(V×V)->!(AT×AT)->Prop:=Paired λp q=>RelV p.1 q.1/\RelV p.2 q.2
def Km(X:Cx)(pos:Pos)(keys:!(Option Cl))(values:!Cl)(CF:!(TE×TE)):Prop :=
 ∀ (Sc:UQ) (s:Da) (σ:St) (H:Hp) (Q:!(V×V)->Hp->Prop),Inv X Sc σ H s->oG CF σ H Q ->
  Db (model X.prog X.w) X.A (evalPairs (pairTrees keys values X.env pos)) (λvs s'=>∃ ps H',Inv X Sc σ H' s'/\VV ps vs/\Q ps H') X.xe s
theorem xG{X:Cx}{pos:Pos}:Km X pos [] [] []:=λSc s σ H Q I h=>pairTrees_nil_walk #[[],H,I,.nil,h]
theorem kx{X:Cx}{pos:Pos}{k v:Cl}{ks:!(Option Cl)}{vs:!Cl}{tk tv:TE}{CF:!(TE×TE)}(hk:PE X k tk)(hv:PE X v tv)(hr:Km X pos ks vs CF) :
  Km X pos (some k::ks) (v::vs) ((tk,tv)::CF):=λSc s σ H Q I h =>
 pairTrees_cons_walk (bx (hk Sc s σ H _ I h) λu s1 zz=>el2 zz λx H1 I1 rx q1=>bx (hv Sc s1 σ H1 _ I1 q1) λw2 s2 zz=>el2 zz λy H2 I2 ry q2 =>
  bx (hr Sc s2 σ H2 _ I2 q2) λws s3 zz=>el2 zz λps H3 I3 rel q3=>#[(x,y)::ps,H3,I3,.cons #[rx,ry] rel,q3])
def gg(kvs more:!(Key×V)):!(Key×V):=more.foldl (λacc kv=>putK acc kv.1 kv.2) kvs
theorem KV.merge:∀ {more:!(Key×V)} {rs:!(Key×AT)} {kvs:!(Key×V)} {vs:!(Key×AT)},KV more rs->KV kvs vs->KV (gg kvs more) (merged vs rs):=by
 intro more rs kvs vs r;unfold KV at r
 induction r generalizing kvs vs with
 | nil=>intro q;exact q
 | @cons p q ps qs h t ih =>
  intro r0;have e:KV (putK kvs p.1 p.2) (stored vs q.1 q.2):=by
   have:=r0.put p.1 h.2;rw[<- h.1];exact this
  exact ih e
theorem jx:∀ (more kvs:!(Key×V)),(gg kvs more).length<=kvs.length+more.length
 | [],kvs=>by change kvs.length<=kvs.length+0;cbv
 | p::r,kvs=>by
  have h1:=jx r (putK kvs p.1 p.2);have h2:=eE kvs p.1 p.2;change (gg (putK kvs p.1 p.2) r).length<=_;rw[SG];cbv
theorem oJ{P:Fr}{w:Fa}:∀ {kvs:!(Key×V)} {ws:!(AT×AT)},VV (kvs.map λkv=>(kV kv.1,kv.2)) ws->∃ rs,Carries (b8 P w) ws rs/\KV kvs rs
 | [],_,r=>by rw[Tt] at r;cases r;exact#[[],True.intro,.nil]
 | p::kvs,_,r=>by
  rw[SA] at r;cases r with
  | @cons a b as bs h t =>
   let(rs,c,q):=oJ (P:=P) (w:=w) t;let(b1,b2):=b;exact#[(p.1,b2)::rs,#[ny h.1,U,c],.cons #[U,h.2] q]
def EV(CF:!(TE×TE)):TE:=λσ H Q=>∀ p,H p=none->oG CF σ (upd H p (.dK [])) λps H2=>H2 p=some (.dK [])/\∃ kvs:!(Key×V),ps=kvs.map (λkv=>(kV kv.1,kv.2))/\kvs.length<=15/\Q (.ref p) (upd H2 p (.dK (gg [] kvs)))
theorem xS{X:Cx}{pos:Pos}{keys:!(Option Cl)}{values:!Cl}{CF:!(TE×TE)}(h:Km X pos keys values CF)(ug:keys.all (·.isSome)=true)(hl:keys.length=values.length)(h0:keys≠[])(HS:keys.length<=15):PE X (.Dict keys values pos) (EV CF):=by
 intro Sc s σ H Q I q;have hn:=I.bj.fresh (Sx ↑s);have I1:=I.laid (a:=↑s) (o:=.dK []) (h':=s.heap.push { cls:=.type "dict",data:=.dict #v[] }) (t':=s.toks) (λ_ _ q=>Su _ q) (Sx _) (tM s.heap I.big);show wpAny_Dict_walk (knd:=b8 X.prog X.w) ug hl h0 HS (bx (h Sc _ σ _ _ I1 (q _ hn)) λws s2 z6q=>?_);let(ps,H2,I2,rel,e,kvs,ep,lk,q2):=z6q;subst ep;let(rs,c,rk):=oJ (P:=X.prog) (w:=X.w) rel;let(z,hd,vs0,r0,dd):=Ap I2.bj e;cases r0;show#[rs,c,dd,λh' dd' hs=>#[.ref ↑s,_,?_,U,q2]];have hz:(gg [] kvs).length<=Ev:=by
  have h1:=jx kvs [];rw[List.length_nil] at h1;rw[sizeLine_eq];cbv
 have he:∃ q,h'.get? ↑s=some q:=let #[q,_,_,hq,_]:=dd';#[q,hq];exact mB I2 (by rw[e];exact True.intro) hs he (ve hz hd (rk.merge .nil) dd')
section
variable{X:Cx}{Sc:UQ}{σ:St}{H:Hp}{s:Da}{a:AC}{y d:V}{u r:AT}{o:Option V}{A:Fk}{E:UP}
end
section
variable{X:Cx}{o e f:Cl}{apos cE:Pos}{td ty tx:TE}
end
section
variable{X:Cx}{Sc:UQ}{σ:St}{H:Hp}{s:Da}{a:AC}{kvs:!(Key×V)}{A:Fk}{E:UP}
end
section
variable{X:Cx}{Sc:UQ}{σ:St}{H:Hp}{s:Da}{a:AC}{y:V}{u:AT}{A:Fk}{E:UP}
end
end L2
namespace QQ
open PySem PySem.W PySem.Calls PyProof.Rows
theorem l9{P:ST}{h:EQ}:∀ (ns:!Int) (vs:!AT),WellAll P h vs (ns.map WData.int)->IntsAre vs ns:=by
 intro ns
 induction ns with
 | nil =>
  intro vs w;rw[Tt] at w;cases w;exact .nil
 | cons n ns ih =>
  intro vs w;rw[SA] at w;cases w with
  | cons a b =>
   cases a;exact .cons _ _ (ih _ b)
theorem yk{l:OpenLaw}{n:Nat}(hn:l.most=some n){P:ST}{h:EQ}{args:!WData}{vals:!AT}(yZ:l.row.toRowW.claim.pre args=true)(nk:WellAll P h vals args) :
  ∃ a vs ns,vals=[AT.ref a]/\args=[WData.list (ns.map WData.int)]/\h.get? a=some { cls:=.type "list",data:=.seq vs.toArray }/\IntsAre vs ns/\ns.length<=n:=by
 have hsh:WShape.hasAll [] args [.list .int]=true:=(pre_splitW yZ).1;have hc:l.pre.holds [] { args:=args }=true:=(pre_splitW yZ).2;let(d,r,rfl,h1,h2):=hasAllW_cons hsh;obtain rfl:=hasAllW_nil h2;let(xs,rfl,h3):=hasW_list h1;let(ns,rfl):=items_int h3;have hlen:ns.length<=n:=by
  unfold OpenLaw.pre at hc;have h4:(WTm.not (.lt (.lit (.int (n:Int))) (.len (.arg 0)))).holds [] { args:=[.list (ns.map .int)] }=true:=by
   have h4:=(holds_andW hc).1;rw[hn] at h4;exact h4
  have h5:=condW_of h4 (w_not (w_lt w_lit (w_len_list (w_arg U))));rw[Ss] at h5;show Nat.le_of_not_lt λq=>?_;have q':(n:Int) < ((ns.length:Nat):Int):=by cbv
  first
   | (rw[decide_eq_true q'] at h5;exact absurd h5 ())
   | (simp at h5;cbv)
 cases nk with
 | cons w1 w2 =>
  cases w2;cases w1 with
  | list ho ug=>exact#[_,_,ns,U,U,ho,l9 ns _ ug,hlen]
theorem yN(l:OpenLaw)(args:!WData):l.row.toRowW.claim.post args (.bool true) args=true :=
 postW_of (r:=l.row.toRowW) (X:=(true == true))
  (show WShape.has [] (.bool true) .bool=true by first | rfl | decide | simp[WShape.has,WShape.arms,WShape.armsAll])
  (show (WTm.eq .res (.lit (.bool true))).value [] { args:=args,res:=some (.bool true),after:=args }=some (.bool (true == true)) from w_eq_bool (w_res U) w_lit) U
theorem uh{l:OpenLaw}{n:Nat}{q:Fr}{loose:!Str}{XP:(Str->Option AT)->EQ->Prop}{YP:Fa->EQ->Prop}{d:DefRec}(hn:l.most=some n)(IE:d.params.defaults=[])(call:∀ (w:Fa) (s₀ s₁:Da) (mg mb:Str->Option AT) (fa:AC) (o:Obj) (pm cd doc:AT) (a:AC) (vs:!AT) (ns:!Int),
   Ground q loose [] XP w s₀ mg mb s₁.heap->YP w s₁.heap ->
   s₁.heap.get? fa=some o->o.data=.func (docDef d.name d.params d.body d.scope pm cd doc)->s₁.heap.CodeRec cd d.name->mg d.name=some (.ref fa) ->
   s₁.heap.get? a=some { cls:=.type "list",data:=.seq vs.toArray }->IntsAre vs ns->ns.length<=n->s₁.gens=#v[] ->
   codeAny (model l.prog w) callerA (.call (.ref fa) #[[.ref a],[]]) (λr s'=>r=.ok (.ret (.bool true))/\OldK s₁.heap s'.heap/\s'.os=s₁.os/\AllBare s'.gens) s₁) :
  WalkO q loose XP YP l.row.toRowW d [] (λf vs=>PySem.call f vs):=by
 intro w s₀ s₁ mg mb G Y fa o pm cd doc dV kV ho hd rR hD hmg hg args vals as yZ hlay hrd nk hlo;obtain rfl:dV=.none:=Dflts.none hD IE;obtain rfl:kV=.none:=Dflts.noKw hD;let(a,vs,ns,rfl,rfl,hobj,hints,hlen):=yk hn yZ nk;show enter_call (codeAny_mono (call w s₀ s₁ mg mb fa o pm cd doc a vs ns G Y ho (fd_plain hd) rR hmg hobj hints hlen hg) λr s' hq=>?_);let(rfl,h2,h3,h4):=hq;exact#[.inl #[.bool true,.bool true,[],U,λ_=>rfl,.bool true,yN l _,λ_=>#[List.Pairwise.nil,λ_ hm=>(nomatch hm)]],h2,h3,h4]
section
variable{prog:Fr}{w:Fa}{A:Fk}{E:UP}{s:Da}{K:Frag}
end
end QQ
namespace L2
open PySem PySem.Spec PyProof.Rows
theorem pI:∀ {vs:!AT} {ns:!Int},IntsAre vs ns->Vals (ns.map V.int) vs
 | _,_,.nil=>.nil
 | _,_,.cons n t h=>.cons #[t,U] (pI h)
def FO(H:Hp):Prop:=∀ b,H b=none\/∃ o xs,H b=some (.ja o (.lst xs))
theorem B2{P:Fr}{w:Fa}{K:Frag}{mg mb:Str->Option AT}{CX:u4}{k:Nat}{fa a:AC}{fd:GT}{x:Str}{sp:Sp}{s₁:Da}{vs:!AT}{ns:!Int}(KX:K.In s₁.heap)(n9:s₁.heap.Ns Gc mg)(hb:s₁.heap.Ns builtinsNs mb)(Rq:∀ x:Str,x≠"__name__"->mb x=bootBuiltins x)(OG:s₁.heap.NoLimit)(hg:s₁.gens=#v[])(ha:s₁.heap.get? a=some { cls:=.type "list",data:=.seq vs.toArray })(hi:IntsAre vs ns)(hl:ns.length<=Ev)(hr:cx k callerA)(F:∀ base:EQ,K.In base->base.Ns Gc mg->bN P w K mg base CX k fa fd [x] sp)(K8:∀ (s:Da) (u:AT),BindsTo s fd #[[u],[]] [(x,u)])(ED:∀ H:Hp,FO H->dR K H a (ns.map V.int)->sp [.ref a] H (λv _=>v=.bl true) λ_ _ _=>False)(NN:∀ H e s',CX [] H s₁ (λ_ _ _=>False) e s'->False) :
  codeAny (model P w) callerA (.call (.ref fa) #[[.ref a],[]]) (λr s'=>r=.ok (.ret (.bool true))/\OldK s₁.heap s'.heap/\s'.os=s₁.os/\AllBare s'.gens) s₁:=by
 have rv:=pI hi;have lenV:=hi.length
 -- from an abstract heap in which nothing but the script may be tracked
 have core:∀ H:Hp,FO H->dR K H a (ns.map V.int)->jV P w H s₁.heap->(∀ b,H b≠none->b=a)->(H a≠none->K.lookup a=none) ->
   codeAny (model P w) callerA (.call (.ref fa) #[[.ref a],[]]) (λr s'=>r=.ok (.ret (.bool true))/\OldK s₁.heap s'.heap/\s'.os=s₁.os/\AllBare s'.gens) s₁:=by
  intro H hO hS bj hA hK;have base_of:∀ {b:AC} {o:Obj},s₁.heap.get? b=some o->H b=none->(so s₁.heap H).get? b=some o:=λe n=>BZ e n;have noA:∀ {b:AC} {o:Obj} {es:Array SZ} {ep:Nat},s₁.heap.get? b=some o->o.data=.dict es ep->H b=none:=λ{b o es ep} e d=>by
   cases q:H b with
   | none=>rfl
   | some u =>
    have e':b=a:=hA b (by rw[q];simp);subst e';rw[ha] at e;cases e;have d':Data.seq vs.toArray _=Data.dict es ep:=d;cases d'
  have nsK:∀ {b:AC} {m:Str->Option AT},s₁.heap.Ns b m->(so s₁.heap H).Ns b m:=λ{b m} #[o,es,ep,e,d,r]=>#[o,es,ep,base_of e (noA e d),d,r];have hKb:K.In (so s₁.heap H):=λb o e=>base_of (KX b o e) (by
   cases q:H b with
   | none=>rfl
   | some u =>
    have e':b=a:=hA b (by rw[q];simp);subst e';rw[hK (by rw[q];simp)] at e;cases e)
  have hM:Mod K mg (so s₁.heap H):=#[hKb,nsK n9,#[mb,nsK hb,Rq],let #[mc,h1,h2]:=OG;#[mc,nsK h1,h2]];have e0:vU P w K mg (so s₁.heap H) callerA [] s₁ H:=#[U,hM,λb o e=>DM e,Nat.le_of_eq (yx _ _),trivial,λb hb=>absurd (show b∈([]:!AC) from hb) (by simp),bj,.of_eq hg];show codeAny_mono ((F _ hKb (nsK n9)).run callerA [] s₁ H #[[.ref a],[]] [.ref a] [.ref a] _ _ hr e0 (K8 s₁ (.ref a)) (.cons U .nil) (ED H hO hS)) λr s' h=>?_;cases r with
  | error e=>exact (NN H e s' h).elim
  | ok fl =>
   cases fl with
   | next=>exact False.elim h
   | brk=>exact False.elim h
   | cont=>exact False.elim h
   | ret u =>
    let(v,H',os,bare,un,hok',r',q):=h;have q':v=.bl true:=q;subst q';obtain rfl:u=AT.bool true:=r';show#[U,OldK.of_keep λb o e=>?_,os,bare];cases q:H b with
    | none=>exact un.keep b o e q (by intro z;exact absurd (show b∈([]:!AC) from z) (by simp)) (by simp)
    | some u =>
     rcases hO b with z | ⟨ob,xs,z⟩
     .rw[q] at z;cases z
     .have z2:=un.qv b ob _ z;let(e1,_):=bj b _ z;let(e2,_):=hok' b _ z2;rw[e] at e1;cases e1;exact e2
 cases hk:K.lookup a with
 | some o =>
  -- the script is one of the module's own objects
  have e:=KX a o hk;rw[ha] at e;cases e;show core (λ_=>none) (λ_=>.inl U) (.inr #[_,vs.toArray,_,hk,U,U,U,by rw[List.size_toArray,lenV];exact hl,by simpa using rv]) (λb u z=>by have z':(none:Option HO)=some u:=z;cases z') (λb z=>absurd U z) λz=>absurd U z
 | none =>
  show core (λb=>if b=a then some (.ja { cls:=.type "list",data:=.seq vs.toArray } (.lst (ns.map V.int))) else none) (λb=>?_) (.inl (.inr #[{ cls:=.type "list",data:=.seq vs.toArray },if_pos U])) (λb u z=>?_) (λb z=>?_) λ_=>hk
  .by_cases hb:b=a
   .exact .inr #[_,_,if_pos hb]
   .exact .inl (if_neg hb)
  .by_cases hb:b=a
   .have z':=(if_pos hb).symm.trans z;cases z';subst hb;exact#[ha,by rw[Ss];exact hl,vs,_,rv,ha]
   .have z':=(if_neg hb).symm.trans z;cases z'
  .by_cases hb:b=a
   .exact hb
   .exact absurd (if_neg hb) z
theorem CT{l:PySem.W.OpenLaw}{n k:Nat}{q:Fr}{loose:!Str}{XP:(Str->Option AT)->EQ->Prop}{YP:Fa->EQ->Prop}{d:DefRec}{K:ST->Frag}{CX:Fa->u4}{sp:Fa->Sp}{x:Str}(hn:l.most=some n)(Ih:n<=Ev)(IE:d.params.defaults=[])(hr:cx k callerA)(hY:∀ (w:Fa) (h:EQ),YP w h->(K w.params).In h)(F:∀ (w:Fa) (mg:Str->Option AT) (fa:AC) (h:EQ),(K w.params).In h->h.Ns Gc mg->mg d.name=some (.ref fa) ->
   ∃ fd:GT,(∀ (s:Da) (u:AT),BindsTo s fd #[[u],[]] [(x,u)]) /\
    ∀ base:EQ,(K w.params).In base->base.Ns Gc mg->bN l.prog w (K w.params) mg base (CX w) k fa fd [x] (sp w))(ED:∀ (w:Fa) (H:Hp) (a:AC) (ns:!Int),ns.length<=n->FO H->dR (K w.params) H a (ns.map V.int)->sp w [.ref a] H (λv _=>v=.bl true) λ_ _ _=>False)(NN:∀ (w:Fa) (H:Hp) (s:Da) (e:AT) (s':Da),CX w [] H s (λ_ _ _=>False) e s'->False) :
  PySem.W.WalkO q loose XP YP l.row.toRowW d [] (λf vs=>PySem.call f vs):=by
 show QQ.uh hn IE λw s₀ s₁ mg mb fa o pm cd doc a vs ns G Y ho hd rR hmg hobj hints hlen hg=>?_;have KX:=hY w _ Y;let(fd,hb,hF):=F w mg fa _ KX G.T.g hmg;exact B2 KX G.T.g G.T.b G.T.builtins G.T.nolimit hg hobj hints (SI hlen Ih) hr hF hb (λH hO hS=>ED w H a ns hlen hO hS) λH e s'=>NN w H s₁ e s'
def inClass(s:FM)(j:Nat):FM:=match s with
 | .ClassDef _ _ _ body _ _ _ _ _ _ _=>body.getD j (.Pass #[0,0,0,0])
 | _=>.Pass #[0,0,0,0]
def dE(s:FM):Arguments:=match s with
 | .FunctionDef _ a _ _ _ _ _ _ _ _=>a
 | _=>{ posonlyargs:=[],args:=[],vararg:=none,kwonlyargs:=[],kw_defaults:=[],kwarg:=none,defaults:=[] }
def aT(s:FM):!FM:=match s with
 | .FunctionDef _ _ b _ _ _ _ _ _ _=>b
 | _=>[]
def ai(s:FM):Scope:=match s with
 | .FunctionDef _ _ _ _ _ _ sc _ _ _=>sc
 | _=>{ kind:=.function,names:=[],isGenerator:=false,isCoroutine:=false }
abbrev aP:u4:=λ_ _ _ _ _ _=>False
abbrev E0:XK:=λ_ _ _=>False
theorem lN{X:Cx}:Passes aP X E0:=λ_ _ _ _ _ _ _ h=>h.elim
structure rH(K:Frag)(x qual:Str)(st:FM)(f:AC)(fd:GT):Prop where
 ex:∃ (oc:AT) (od:Option AC) (kV doc pm:AT) (an:Option AC) (br ct:AT) (Ce:Array (Option AT)),
  fd=fnOf x qual (dE st) (aT st) (ai st) .none kV doc pm an br ct/\K.lookup f=some #[oc,od,.func fd,Ce]/\codeIn K br qual=true
 kp:keepIn K (.ref f)=true
section
variable{P:Fr}{w:Fa}{K:Frag}{mg:Str->Option AT}{base:EQ}
theorem rH.ok{x qual:Str}{st:FM}{f:AC}{fd:GT}{N ps:!Str}{k:Nat}{sp:Sp}(F:rH K x qual st f fd)(S:au N ps (ai st))(len:∀ vs H Q E,sp vs H Q E->vs.length=ps.length)(zy:∀ (br:AT) (A:Fk) (outer:!Env) (s:Da) (H:Hp) (vs:!V) (Q:VK) (E:XK),cx k (A.deeper (envOfC qual (ai st) ↑s f br))->sp vs H Q E ->
   ∃ t,mK (kB aP P w K mg base N qual (ai st) f br A outer s H E).y8 (aT st) t/\t { nx:=λ_ H'=>Q .bH H',rt:=Q } (start N vs) H):bN P w K mg base aP (k+1) f fd ps sp:=by
 let(oc,od,kV,doc,pm,an,br,ct,Ce,rfl,lk,rR):=F.ex;show Kx lk rR S len λA outer s H vs Q E hr ED=>?_;let(t,h,q):=zy br A outer s H vs Q E hr ED;exact#[t,h.y8,q]
theorem rH.binds{x qual:Str}{st:FM}{f:AC}{fd:GT}{ps:!Str}(F:rH K x qual st f fd)(h:∀ (kV doc pm:AT) (an:Option AC) (br ct:AT) (us:!AT),us.length=ps.length->bindArgs (fnOf x qual (dE st) (aT st) (ai st) .none kV doc pm an br ct) #[us,[]]=pure (ps.zip us)):Binds K fd ps []:=by
 let(oc,od,kV,doc,pm,an,br,ct,Ce,rfl,lk,rR):=F.ex;exact .all (h kV doc pm an br ct)
theorem jP{x qual:Str}{st:FM}{f:AC}{oc:AT}{od an:Option AC}{Ce:Array (Option AT)}{kV doc pm br ct:AT}(l:K.lookup f=some #[oc,od,.func (fnOf x qual (dE st) (aT st) (ai st) .none kV doc pm an br ct),Ce])(c:codeIn K br qual=true)(k:keepIn K (.ref f)=true):rH K x qual st f (fnOf x qual (dE st) (aT st) (ai st) .none kV doc pm an br ct):=#[#[oc,od,kV,doc,pm,an,br,ct,Ce,U,l,c],k]
end
theorem dN{A:Fk}{k:Nat}(hr:cx k A):A.units+1 < cLine:=Nat.lt_of_le_of_lt (Nat.add_le_add_left (by decide:1<=64) _) hr.units
section
variable{X:Cx}
theorem pv(i:Nat){x:Str}{pos:Pos}(hN:(X.N[i]?=some x)⁻¹)(hv:HP X.env.scope x:=by first | exact Or.inl U | exact Or.inr (Or.inl U) | exact Or.inr (Or.inr U))(hd: ~~~(UU x))(rR: ~~~((x == ("__classdict__":Str))=false)):PE X (.Name x pos) (bB i):=v8 hN hv hd rR
end
theorem rB{A B:Prop}(h:B):if false=true then A else B:=by
 rw[if_neg SK];exact h
theorem mh{A B:Prop}(h:A):if true=true then A else B:=by
 rw[if_pos U];exact h
theorem uB{c A B:Prop}[Decidable c](h1:c->A)(h2:¬ c->B):if c then A else B:=by
 by_cases h:c
 .rw[if_pos h];exact h1 h
 .rw[if_neg h];exact h2 h
def dM(H H':Hp):Prop:=∀ b o,H b=some o->H' b=some o
theorem dM.refl(H:Hp):dM H H:=λ_ _ h=>h
theorem dM.trans{H H1 H2:Hp}(a:dM H H1)(b:dM H1 H2):dM H H2:=λc o h=>b c o (a c o h)
theorem dM.free{H H':Hp}(e:dM H H'){l:AC}(h:H' l=Option.none):H l=Option.none:=by
 cases q:H l with
 | none=>rfl
 | some o =>
  rw[e l o q] at h;cases h
theorem dM.seq{K:Frag}{H H':Hp}{a:AC}{xs:!V}(e:dM H H')(h:dR K H a xs):dR K H' a xs:=by
 rcases h with (h | ⟨o,h⟩) | h
 .exact .inl (.inl (e _ _ h))
 .exact .inl (.inr #[o,e _ _ h])
 .exact .inr h
section
variable{X:Cx}
end
section
variable{κ:Type}[DecidableEq κ]
theorem CN{kvs:!(κ×V)}{k:κ}{v:V}(h:fO kvs k=some v):k∈kvs.map (·.1):=by
 have q:(kvs.any λkv=>decide (kv.1=k))=true:=by
  rw[kG,h]
  all_goals rfl
 let(p,hp,e):=List.any_eq_true.mp q;exact SV.mpr #[p,hp,of_decide_eq_true e]
end
def fM(env:Env):!(Str×Go)->!(Str×AC)->!(Str×AC)
 | [],acc=>acc
 | (n,k)::r,acc=>if k == .free then fM env r ((n,(env.cells.lookup n).getD 0)::acc) else fM env r acc
def k6(env:Env)(x:Str×Go)(cs:!(Str×AC)):Sem (ForInStep (!(Str×AC))) :=
 if x.2 == .free then do
  let a <- cellOf env x.1
  pure (ForInStep.yield ((x.1,a)::cs))
 else pure (ForInStep.yield cs)
theorem lM{env:Env}:∀ (l:!(Str×Go)) (acc:!(Str×AC)),(∀ x∈l,x.2=.free->(env.cells.lookup x.1).isSome=true) ->
  (forIn l acc (k6 env):Sem (!(Str×AC)))=pure (fM env l acc)
 | [],acc,_=>rfl
 | (n,k)::r,acc,h=>by
  have ih:=λacc'=>lM (env:=env) r acc' λx hx=>h x (Sy _ hx);rw[List.forIn_cons];by_cases hk:k=.free
  .subst hk;let(c,hc):=TQ.mp (h (n,.free) SD U);have e:cellOf env n=pure c:=by
    unfold cellOf;rw[hc]
   have e2:k6 env (n,Go.free) acc=pure (ForInStep.yield ((n,c)::acc)):=by
    change (if (Go.free == Go.free)=true then (cellOf env n >>= λa=>pure (ForInStep.yield ((n,a)::acc))) else pure (ForInStep.yield acc))=_;rw[if_pos (),e]
    rfl
   have e3:fM env ((n,Go.free)::r) acc=fM env r ((n,c)::acc):=by
    change (if (Go.free == Go.free)=true then fM env r ((n,(env.cells.lookup n).getD 0)::acc) else fM env r acc)=_;rw[if_pos (),hc]
    rfl
   rw[e2,e3,<- ih]
   rfl
  .have hb:(k == Go.free)=false:=by simpa using hk
   have e2:k6 env (n,k) acc=pure (ForInStep.yield acc):=by
    change (if (k == Go.free)=true then (cellOf env n >>= λa=>pure (ForInStep.yield ((n,a)::acc))) else pure (ForInStep.yield acc))=_;rw[if_neg (by simp[hb])]
   have e3:fM env ((n,k)::r) acc=fM env r acc:=by
    change (if (k == Go.free)=true then fM env r ((n,(env.cells.lookup n).getD 0)::acc) else fM env r acc)=_;rw[if_neg (by simp[hb])]
   rw[e2,e3,<- ih]
   rfl
theorem jw{scope:Scope}{env:Env}(h:∀ x∈scope.names,x.2=.free->(env.cells.lookup x.1).isSome=true):closureFor scope env=pure (fM env scope.names []):=by
 rw[<- lM scope.names [] h];unfold closureFor;have:(λ(x:Str×Go) (r:!(Str×AC))=>k6 env x r)=k6 env:=rfl
 first
  | (simp only[k6];rfl)
  | (show (forIn scope.names [] _ >>= λr=>pure r)=_;rw[bind_pure];rfl)
  | rfl
theorem iy{env:Env}{x:Str}{c:AC}:∀ {l:!(Str×Go)} {acc:!(Str×AC)},(∀ y∈l,y.2=.free->(env.cells.lookup y.1).isSome=true) ->
  (fM env l acc).lookup x=some c->env.cells.lookup x=some c\/acc.lookup x=some c
 | [],acc,_,h=>.inr h
 | (n,k)::r,acc,hl,h=>by
  have hl':=λy hy=>hl y (Sy _ hy);unfold fM at h;by_cases hk:k=.free
  .subst hk;rw[if_pos ()] at h;let(d,hd):=TQ.mp (hl (n,.free) SD U);rw[hd] at h;rcases iy hl' h with q | q
   .exact .inl q
   .rw[TY] at q;cases e:x == n with
    | true =>
     rw[e] at q;have e':x=n:=eq_of_beq e;subst e';left;rw[hd];exact q
    | false =>
     rw[e] at q;exact .inr q
  .rw[if_neg (by simpa using hk)] at h;exact iy hl' h
theorem oI{env:Env}{x:Str}:∀ {l:!(Str×Go)} {acc:!(Str×AC)},(acc.lookup x).isSome=true->((fM env l acc).lookup x).isSome=true
 | [],acc,h=>h
 | (n,k)::r,acc,h=>by
  unfold fM;split
  .refine oI ?_;rw[TY];cases e:x == n with
   | true=>rfl
   | false=>exact h
  .exact oI h
theorem nq{env:Env}{x:Str}:∀ {l:!(Str×Go)} {acc:!(Str×AC)},(x,Go.free)∈l->((fM env l acc).lookup x).isSome=true
 | (n,k)::r,acc,h=>by
  unfold fM;rcases SO.mp h with e | h'
  .cases e;rw[if_pos ()];exact oI (by rw[TY,beq_self_eq_true];rfl)
  .split<;>exact nq h'
def N7(env:Env)(x:Str×Go):Str×Go:=if (x.2 == Go.free&&env.scope.kind == .function&&env.kindOf x.1 == some .cell)=true then (x.1,Go.cell) else (x.1,x.2)
theorem oa{env:Env}{x:Str}{k:Go}:∀ {names:!(Str×Go)},(names.map (N7 env)).lookup x=some k->names.lookup x=some k\/(names.lookup x=some .free/\k=.cell)
 | [],h=>by simp at h
 | (n,k0)::r,h=>by
  have ih:=@oa env x k r;rw[SA] at h;by_cases hc:(k0 == Go.free&&env.scope.kind == .function&&env.kindOf n == some .cell)=true
  .have e:N7 env (n,k0)=(n,Go.cell):=if_pos hc;rw[e,TY] at h;rw[TY];cases e:x == n with
   | true =>
    rw[e] at h;have hk:k0=.free:=by
     rw[Tr,Tr] at hc;exact eq_of_beq hc.1.1
    subst hk;right;exact#[U,(S4 h).symm]
   | false =>
    rw[e] at h;exact ih h
  .have e:N7 env (n,k0)=(n,k0):=if_neg hc;rw[e,TY] at h;rw[TY];cases e:x == n with
   | true =>
    rw[e] at h;exact .inl h
   | false =>
    rw[e] at h;exact ih h
theorem fw{env:Env}{x:Str}{scope:Scope}{k:Go}(h:(relabel scope env).names.lookup x=some k) :
  scope.names.lookup x=some k\/(scope.names.lookup x=some .free/\k=.cell):=oa (env:=env) h
section
variable{prog:Fr}{w:Fa}{A:Fk}{R:Result->Da->Prop}{s:Da}
theorem rQ{elt target iter:Cl}{ifs:!Cl}{scope:Scope}{pos:Pos}{it acc:AT}{env:Env}(I:Nat->Da->Prop)(turn:∀ n s,I n s->Db (model prog w) A (pyNext it) (λr s₁=>match r with
   | none=>R (.ok .next) s₁
   | some v=>Db (model prog w) A (letOwnedTupleGo target it v) (λ_ s₁'=>Db (model prog w) A (assign target env v) (λ_ s₂ =>
     Db (model prog w) A (forIn ifs true λc r=>if r=true then do let ok <- isTrue c env (eval c env);pure (ForInStep.yield ok) else pure (ForInStep.yield r)) (λok s₃ =>
      if ok=true then Db (model prog w) A (eval elt env) (λx s₄ =>
       Db (model prog w) A (call (.builtin "list.append") [acc,x]) (λ_ s₅=>∃ m,m < n/\I m s₅) (notedBy (model prog w) A env λe s'=>R (.error e) s') s₄) (notedBy (model prog w) A env λe s'=>R (.error e) s') s₃
      else ∃ m,m < n/\I m s₃) (notedBy (model prog w) A env λe s'=>R (.error e) s') s₂) (notedBy (model prog w) A env λe s'=>R (.error e) s') s₁') (notedBy (model prog w) A env λe s'=>R (.error e) s') s₁)
   (notedBy (model prog w) A env λe s'=>R (.error e) s') s)(n:Nat)(h:I n s) :
  codeAny (model prog w) A (.compLoop (.ListComp elt [#[target,iter,ifs,0]] scope pos) 0 it acc env) R s:=by
 show codeAny_loop U I (λn s hI=>?_) n h;change Db _ A ((compTurn (.ListComp elt [#[target,iter,ifs,0]] scope pos) 0 it acc env).onRaise (λx=>do noteFrame x env;theTreesLotGoes x)) _ _ s;show wpAny_noted ?_;rw[compTurn_list];show Ch (wpAny_standAt (Ch (KM (turn n s hI) (λr s₁ h₁=>?_) λ_ _ h'=>h')));cases r with
 | none=>exact FB h₁
 | some v =>
  show Ch (KM h₁ (λ_ s₁' h₁'=>?_) λ_ _ h'=>h');show Ch (KM h₁' (λ_ s₂ h₂=>Ch (KM h₂ (λok s₃ h₃=>?_) λ_ _ h'=>h')) λ_ _ h'=>h');cases ok with
  | false=>exact FB #[U,h₃]
  | true =>
   exact Ch (Ch (KM h₃ (λx s₄ h₄=>Ch (KM h₄ (λ_ s₅ h₅=>FB (FB #[U,h₅])) λ_ _ h'=>h')) λ_ _ h'=>h'))
end
def lift(nt:Nat)(us:!Nat)(σ:St):St:=List.replicate nt none++us.map λj=>(σ[j]?).join
def uL(ts:!Str)(us:!Nat)(N:!Str):!Str:=ts++us.map λj=>N.getD j ""
def Cx.comp(X:Cx)(ts:!Str)(us:!Nat)(scope:Scope)(C:AC)(s:Da)(H:Hp)(fp:!AC):Cx :=
 { X with N:=uL ts us X.N,s₀:=s,H₀:=H,env:=compEnvC scope (fM X.env scope.names []) C X.env,outer:=X.stack,ex:=fp,fn:=λ_=>false,pn:=[],xe:=λ_ _=>False }
def Ig(X:Cx)(ifs:!Cl)(t:TT):Prop :=
 ∀ (Sc:UQ) (s:Da) (σ:St) (H:Hp) (Q:Bool->Hp->Prop),Inv X Sc σ H s->t σ H Q ->
  Db (model X.prog X.w) X.A (forIn ifs true λc r=>if r=true then do let ok <- isTrue c X.env (eval c X.env);pure (ForInStep.yield ok) else pure (ForInStep.yield r)) (TP X Sc σ Q) X.xe s
def AM:TT:=λ_ H Q=>Q true H
theorem qS{X:Cx}:Ig X [] AM:=λ_ _ _ H _ I h=>wpAny_tests_nil #[H,I,h]
theorem xX{X:Cx}{c:Cl}{t:TT}(hc:PT X c t):Ig X [c] t:=λSc s σ H Q I h=>wpAny_tests_one (hc Sc s σ H Q I h)
structure bu(X:Cx)(ts:!Str)(us:!Nat)(scope:Scope):Prop where
 kind:scope.kind=.function
 G7:(scope.names.all λx=>x.2 != .cell)=true
 loc:(scope.names.all λx=>x.2 != .local||scope.names.lookup x.1 == some .local)=true
 free:(scope.names.all λx=>x.2 != .free||(X.env.cells.lookup x.1).isSome)=true
 Sq:(ts.all λx=>scope.names.lookup x == some .local)=true
 R1:(us.all λj=>match X.N[j]? with | some x=>scope.names.lookup x == some .free&&(X.env.kindOf x == some .cell||X.env.kindOf x == some .free) | none=>false)=true
section
variable{X:Cx}{ts:!Str}{us:!Nat}{scope:Scope}
theorem bu.nc(S:bu X ts us scope):∀ x∈scope.names,x.2≠.cell:=λx hx e=>by
 have q:=TH.mp S.G7 x hx;rw[e] at q;exact absurd q ()
theorem bu.lc(S:bu X ts us scope):∀ x∈scope.names,x.2=.local->scope.names.lookup x.1=some .local:=λx hx e=>by
 have q:=TH.mp S.loc x hx;rw[e] at q;have q':(scope.names.lookup x.1 == some .local)=true:=by simpa using q
 exact eq_of_beq q'
theorem bu.fr(S:bu X ts us scope):∀ x∈scope.names,x.2=.free->(X.env.cells.lookup x.1).isSome=true:=λx hx e=>by
 have q:=TH.mp S.free x hx;rw[e] at q;simpa using q
theorem bu.Lu(S:bu X ts us scope){j:Nat}(hj:j∈us):∃ x,X.N[j]?=some x/\scope.names.lookup x=some .free/\(X.env.kindOf x=some .cell\/X.env.kindOf x=some .free):=by
 have q:=TH.mp S.R1 j hj;cases e:X.N[j]? with
 | none=>rw[e] at q;exact absurd (show false=true from q) SK
 | some x =>
  rw[e] at q;have q:(scope.names.lookup x == some .free&&(X.env.kindOf x == some .cell||X.env.kindOf x == some .free))=true:=q;rw[Tr,Bool.or_eq_true] at q;exact#[x,U,eq_of_beq q.1,q.2.imp eq_of_beq eq_of_beq]
theorem zN{Sc:UQ}{σ:St}{H:Hp}{s:Da}{fp:!AC}{h₁:EQ}{t:Nat}{m:Str->Option AT}(S:bu X ts us scope)(I:Inv X Sc σ H s)(hf:∀ b∈fp,ee X Sc H b)(Ca:∀ b∈fp,b < ↑s)(n9:h₁.Ns ↑s m)(keep:∀ b o,s.heap.get? b=some o->h₁.get? b=some o) :
  Inv (X.comp ts us scope ↑s s H fp) [] (lift ts.length us σ) H { s with heap:=h₁,toks:=t }:=by
 have cl:∀ x c,(fM X.env scope.names []).lookup x=some c->X.env.cells.lookup x=some c:=λx c e=>by
  rcases iy S.fr e with q | q
  .exact q
  .simp at q
 have kd:∀ x,((relabel scope X.env).names.lookup x=some .cell\/(relabel scope X.env).names.lookup x=some .free)->scope.names.lookup x=some .free:=λx hx=>by
  rcases hx with hx | hx
  .rcases fw hx with q | q
   .exact absurd U (S.nc _ (Tx q))
   .exact q.1
  .rcases fw hx with q | q
   .exact q
   .cases q.2
 have ok:(X.comp ts us scope ↑s s H fp).Ok:=by
  show#[I.ok.mod,S.kind,I.ok.glob,I.ok.blt,Sx _,λx y c e1 e2=>I.ok.inj x y c (cl x c e1) (cl y c e2),λx hx=>?_,λx c e=>?_,I.ok.hd,I.ok.frames,.inl U,λb hb=>?_,I.bs,SI I.ok.Di I.sz,λb o e hb=>?_,λb hb hb2=>?_,I.stack,I.xj]
  .have q:=kd x hx;exact TQ.mp (nq (Tx q))
  .cases (show (false:Bool)=true from e)
  .let(f0,f1,f2,f3,f4,f5):=hf b hb;exact#[SR (Ca b hb),λx c e=>f4 x c (cl x c e)]
  .let(f0,f1,f2,f3,f4,f5):=hf b hb;rcases f3 with z | z
   .exact I.ok.zD b o e z
   .exact absurd (SW (SE e) (SI I.ok.Di z)) (TL _)
  .let(f0,f1,f2,f3,f4,f5):=hf b hb;rcases SO.mp (I.wm b hb2) with z | z
   .exact f1 z
   .exact f2 z
 show#[ok,U,I.bare,Un.kept keep,#[m,n9,λi x v h1 h2 h3=>?_],λx c e=>?_,I.bj.fresh (Nat.le_refl _),λx c e=>I.iQ x c (cl x c e),λp hp=>absurd (show p∈([]:UQ) from hp) (by simp),I.bj.kept keep,?_]
 .have h1:(uL ts us X.N)[i]?=some x:=h1;have h2:(lift ts.length us σ)[i]?=some (some v):=h2;by_cases hi:i < ts.length
  .unfold lift at h2;rw[List.getElem?_append_left (by simpa using hi),List.getElem?_replicate] at h2;split at h2<;>cases h2
  .have qk:ts.length<=i:=Nat.le_of_not_lt hi;unfold lift at h2;unfold uL at h1;rw[List.getElem?_append_right (by simpa using qk),List.length_replicate,List.getElem?_map] at h2;rw[TM qk,Tb] at h1;cases ej:us[i - ts.length]? with
   | none=>rw[ej] at h1;cases h1
   | some j =>
    rw[ej] at h1 h2;let(y,hy,hyf,hyk):=S.Lu (Ta ej);have e1:X.N.getD j ""=x:=S4 h1;have e2:X.N.getD j ""=y:=by rw[List.getD_eq_getElem?_getD,hy];rfl
    have exy:y=x:=e2.symm.trans e1;subst exy;have e3:(σ[j]?).join=some v:=S4 h2;have e4:σ[j]?=some (some v):=by
     cases q:σ[j]? with
     | none=>rw[q] at e3;cases e3
     | some z =>
      rw[q] at e3;have:z=some v:=e3;rw[this]
    let(m0,hn0,hl0):=I.loc;have hvis:HP X.env.scope y:=.inr hyk;let(u,r,l):=hl0 j y v hy e4 hvis;show#[u,r,?_];rcases l with ⟨k1,_⟩ | ⟨k1,c,hc,hcell⟩
    .rcases hyk with z | z
     .rw[k1] at z;cases z
     .rw[k1] at z;cases z
    .refine .inr #[?_,c,?_,?_]
     .have h3:(relabel scope X.env).names.lookup y=some .local\/(relabel scope X.env).names.lookup y=some .cell\/(relabel scope X.env).names.lookup y=some .free:=h3;rcases h3 with z | z
      .rcases fw z with q | q
       .rw[hyf] at q;cases q
       .cases q.2
      .exact z
     .let(c',hc'):=TQ.mp (nq (env:=X.env) (acc:=[]) (Tx hyf));have q:=cl y c' hc';rw[hc] at q;cases q;exact hc'
     .let(o,ho,hd):=hcell;exact#[o,keep c o ho,hd]
 .let(v,o,ho,hd):=I.cell x c (cl x c e);exact#[v,o,keep c o ho,hd]
 .show (lift ts.length us σ).length=(uL ts us X.N).length;unfold lift uL;rw[Sv,Sv,List.length_replicate,Ss,Ss]
def Ak(σ σ':St):Prop:=∀ (i:Nat) (v:V),σ[i]?=some (some v)->σ'[i]?=some (some v)
theorem sT{nt i:Nat}{us:!Nat}{σ:St}{x:Option V}(hi:i < nt):Ak (lift nt us σ) ((lift nt us σ).set i x):=λj v e=>by
 by_cases hj:j=i
 .subst hj;unfold lift at e;rw[List.getElem?_append_left (by simpa using hi),List.getElem?_replicate] at e;split at e<;>cases e
 .rw[SM (Ne.symm hj)];exact e
def rY(nt:Nat)(us:!Nat)(σ:St)(g:TG)(ti:TT)(te:TE)(J:It)(H1:Hp)(Q:VK):Prop :=
 ∀ D,H1 D=none->∃ W:Nat->Nat->!V->Hp->Prop,(∃ m,W 0 m [] (upd H1 D (.lst [])))/\∀ i m ys H2,W i m ys H2->H2 D=some (.lst ys) /\
  ((J.stop i H2/\Q (.ref D) H2)\/(J.go i H2/\ys.length < Ev/\∀ x H3,J.IH i H2 x H3->g x (lift nt us σ) H3 λσ4 H4=>Ak (lift nt us σ) σ4/\ti σ4 H4 λb H5 =>
    if b=true then te σ4 H5 λy H6=>H6 D=some (.lst ys)/\∃ m',m' < m/\W (i+1) m' (ys++[y]) (upd H6 D (.lst (ys++[y]))) else ∃ m',m' < m/\W (i+1) m' ys H5))
def uA(nt:Nat)(us:!Nat)(wi:TI)(g:TG)(ti:TT)(te:TE):TE:=λσ H Q=>wi σ H λJ H1=>rY nt us σ g ti te J H1 Q
theorem nJ{tg elt iter:Cl}{ifs:!Cl}{pos:Pos}{g:TG}{ti:TT}{te:TE}{Sc:UQ}{σ:St}{H:Hp}{s:Da}{it:AC}{fp:!AC}{tn:Nat->EQ->Prop}{J:It}{Q:VK}{E:UP}{RR:AT->AC->Result->Da->Prop}(S:bu X ts us scope)(hc:X.calm=true)(I:Inv X Sc σ H s)(T:Turn X.prog X.w X.K tg J fp it tn)(st:tn 0 s.heap)(hf:∀ b∈fp,ee X Sc H b)(hg:∀ C s H fp,PG (X.comp ts us scope C s H fp) tg g)(zC:∀ C s H fp,Ig (X.comp ts us scope C s H fp) ifs ti)(he:∀ C s H fp,PE (X.comp ts us scope C s H fp) elt te)(q:rY ts.length us σ g ti te J H Q)(Rc:∀ D C s' H',Inv X Sc σ H' s'->(∃ m,s'.heap.Ns C m)->ee X Sc H' C->Q (.ref D) H'->RR (.ref D) C (.ok .next) s') :
  Db (model X.prog X.w) X.A (newList []) (λacc s₃=>Db (model X.prog X.w) X.A (newFunctionEnv scope X.env.globals (fM X.env scope.names []) [] X.env.qual none .none (some X.env)) (λcenv s₄ =>
   codeAny (model X.prog X.w) X.A (.compStart (.ListComp elt [#[tg,iter,ifs,0]] scope pos) 0 (.ref it) acc { cenv with scope:=relabel scope X.env }) (RR acc cenv.locals) s₄) E s₃) E s:=by
 show PP (wpAny_newFunctionEnv S.nc (by intro y hy;simp at hy) (λh₁ hns₁ hsb₁=>?_) S.kind);dsimp only at hns₁ hsb₁ ⊢;have I3:Inv X Sc σ (upd H ↑s (.lst [])) { s with heap:=s.heap.push { cls:=.type "list",data:=.seq ([]:!AT).toArray } }:=I.JL (its:=[]) (ys:=[]) (t':=s.toks) .nil (S3 _);have Ca:∀ b∈fp,b < ↑s:=λb hb=>by
  let(o,e,_):=T.obj 0 _ st b hb;exact SE e
 have hf3:∀ b∈fp,ee X Sc (upd H ↑s (.lst [])) b:=λb hb=>by
  let(f0,fr):=hf b hb;exact#[by rw[av (SR (Ca b hb))];exact f0,fr]
 generalize hs3:({ s with heap:=s.heap.push { cls:=.type "list",data:=.seq ([]:!AT).toArray } }:Da)=s3 at I3;have hs3h:s3.heap=s.heap.push { cls:=.type "list",data:=.seq ([]:!AT).toArray }:=by rw[<- hs3]
 have keep:∀ b o,s3.heap.get? b=some o->h₁.get? b=some o:=λb o e=>by
  rw[hs3h] at e;exact hsb₁.extBut b o (SR (SE e)) (Su _ e)
 have keep0:∀ b o,s.heap.get? b=some o->h₁.get? b=some o:=λb o e=>keep b o (by rw[hs3h];exact Su _ e);let(W,(m0,w0),turn):=q ↑s (I.bj.fresh (Sx _));have hC:(s.heap.push { cls:=.type "list",data:=.seq ([]:!AT).toArray }).objs.size=↑s3:=by rw[hs3h]
 have hfl3:∀ b∈fp,b < ↑s3:=λb hb=>by
  rw[hs3h,Th];exact Nat.lt_succ_of_lt (Ca b hb)
 have hns3:h₁.Ns ↑s3 (λx=>([]:!(Str×AT)).reverse.lookup x):=by rw[<- hC];exact hns₁
 have I4:∀ t,Inv (X.comp ts us scope ↑s3 s3 (upd H ↑s (.lst [])) fp) [] (lift ts.length us σ) (upd H ↑s (.lst [])) { s3 with heap:=h₁,toks:=t }:=λt=>zN S I3 hf3 hfl3 hns3 keep;have Ie:tn 0 h₁:=T.keep 0 _ _ st λb _ o e=>keep0 b o e;have loop:∀ s₄:Da,(∃ t,s₄={ s3 with heap:=h₁,toks:=t }) ->
   codeAny (model X.prog X.w) X.A (.compLoop (.ListComp elt [#[tg,iter,ifs,0]] scope pos) 0 (.ref it) (.ref ↑s) (compEnvC scope (fM X.env scope.names []) ↑s3 X.env)) (RR (.ref ↑s) ↑s3) s₄:=by
  rintro s₄ ⟨t4,rfl⟩;have stat:∀ {H':Hp},(∀ b∈fp,H' b=none)->∀ b∈fp,ee (X.comp ts us scope ↑s3 s3 (upd H ↑s (.lst [])) fp) [] H' b:=λ{H'} hn b hb=>by
   have ok:=(I4 0).ok;exact#[hn b hb,(ok.MM b hb).1,ok.BN b hb,.inl hb,(ok.MM b hb).2,λp hp=>absurd (show p∈([]:UQ) from hp) (by simp)]
  show rQ (λn s'=>∃ i ys H',Inv (X.comp ts us scope ↑s3 s3 (upd H ↑s (.lst [])) fp) [] (lift ts.length us σ) H' s'/\tn i s'.heap/\(∀ b∈fp,H' b=none)/\W i n ys H') ?_ m0
   #[0,[],_,I4 t4,Ie,λb hb=>(hf3 b hb).1,w0]
  rintro n s5 ⟨i,ys,H5,I5,st5,fr5,w5⟩;let(hD,hturn):=turn i n ys H5 w5;rcases hturn with ⟨stop,qn⟩ | ⟨go,hlen,step⟩
  .refine bx (T.done (X.comp ts us scope ↑s3 s3 (upd H ↑s (.lst [])) fp) U U U hc i [] s5 (lift ts.length us σ) H5 _ I5 (stat fr5) st5 stop) λr s6 z9q=>?_;let(hr,I6):=z9q;subst hr;have I7:Inv X Sc σ H5 s6:=I3.IZ (ch:=fp) I6.os I6.base I6.bj I6.bare λb hb=>by
    let(f0,f1,f2,f3,f4,f5):=hf3 b hb;exact#[f3,f1,f4,f5]
   let(m6,hn6,_):=I6.loc;exact Rc _ _ s6 H5 I7 #[m6,hn6] (I3.mq (Sx _) I6.free) qn
  .refine bx (T.item (X.comp ts us scope ↑s3 s3 (upd H ↑s (.lst [])) fp) U U U hc i [] s5 (lift ts.length us σ) H5 _ I5 (stat fr5) st5 go) λr s6 z0q=>?_;let(u,hr,h6):=z0q;subst hr;show bx h6 λ_ s7 z1q=>?_;let(x,H7,I7,r7,y7,st7,fr7):=z1q;have I7':=I7.pinned (stat fr7) (T.obj _ _ st7);show KM (hg _ _ _ _ _ s7 (lift ts.length us σ) H7 x u _ I7' r7 (step x H7 y7)) (λ_ s8 #[σ8,H8,I8,kp8,q8]=>?_) λ_ _ z=>False.elim z;show KM (zC _ _ _ _ _ s8 σ8 H8 _ I8 q8) (λb s9 #[H9,I9,q9]=>?_) λ_ _ z=>False.elim z;have fin:∀ {s':Da} {H':Hp} {Pa:!V},Inv (X.comp ts us scope ↑s3 s3 (upd H ↑s (.lst [])) fp) ([]++n6 fp s7.heap) σ8 H' s'->(∃ m',m' < n/\W (i+1) m' Pa H') ->
     ∃ m,m < n/\∃ i ys H',Inv (X.comp ts us scope ↑s3 s3 (upd H ↑s (.lst [])) fp) [] (lift ts.length us σ) H' s'/\tn i s'.heap/\(∀ b∈fp,H' b=none)/\W i m ys H':=λ{s' H' Pa} J' z2q=>by
    let(m',hm,w'):=z2q;show#[m',hm,i+1,Pa,H',J'.kX.weak ?_ kp8,T.keep _ _ _ st7 λb hb o e=>(J'.pin (b,o) (S5 _ (S5 _ (gZ hb e)))).1,λb hb=>?_,w']
    .rw[J'.len,I7.len]
    .let(o,e,d):=T.obj _ _ st7 b hb;exact (J'.pin (b,o) (S5 _ (S5 _ (gZ hb e)))).2.1
   cases b with
   | false =>
    rw[if_neg SK] at q9 ⊢;exact fin I9 q9
   | true =>
    rw[if_pos U] at q9 ⊢;show KM (he _ _ _ _ _ s9 σ8 H9 _ I9 q9) (λyv s10 #[y,H10,I10,r10,hD10,q10]=>?_) λ_ _ z=>False.elim z;show KM (i5 (X:=X.comp ts us scope ↑s3 s3 (upd H ↑s (.lst [])) fp) _ s10 σ8 H10 (.ref ↑s) [y] (.ref ↑s) [yv] (λ_ H'=>∃ m',m' < n/\W (i+1) m' (ys++[y]) H') I10 U (.cons r10 .nil) #[_,ys,y,U,U,hD10,hlen,q10]) (λ_ s11 #[_,H11,I11,_,q11]=>?_) λ_ _ z=>False.elim z;exact fin I11 q11
 have e4:({ s with heap:=h₁,toks:=s.toks+([]:!(Str×AT)).length }:Da)={ s3 with heap:=h₁,toks:=s.toks+([]:!(Str×AT)).length }:=by rw[<- hs3]
 first
  | (rw[e4,hC];exact codeAny_compStart_list (loop _ #[_,rfl]) (T.self _ 0 _ _ _ Ie (loop _ #[_,rfl])))
  | (have L4:=codeAny_compStart_list (elt:=elt) (target:=tg) (iter:=iter) (ifs:=ifs) (rest:=[]) (scope:=scope) (pos:=pos) (loop _ #[s.toks+([]:!(Str×AT)).length,U]) (T.self _ 0 _ _ _ Ie (loop _ #[s.toks+([]:!(Str×AT)).length,U]))
     subst hs3;exact L4)
theorem sk{tg elt iter:Cl}{ifs:!Cl}{pos:Pos}{wi:TI}{g:TG}{ti:TT}{te:TE}(S:bu X ts us scope)(hc:X.calm=true)(hi:PI X tg iter wi)(hg:∀ C s H fp,PG (X.comp ts us scope C s H fp) tg g)(zC:∀ C s H fp,Ig (X.comp ts us scope C s H fp) ifs ti)(he:∀ C s H fp,PE (X.comp ts us scope C s H fp) elt te)(hs:UX iter X.env:=by intro _;rfl):PE X (.ListComp elt [#[tg,iter,ifs,0]] scope pos) (uA ts.length us wi g ti te):=by
 intro Sc s σ H Q I h;rw[eval_ListComp];show wpAny_comprehension_free (use:=none) U hs (jw S.fr) S.kind S.lc (bx (hi Sc s σ H _ I h) λv s1 h1=>bx h1 λMr s2 h2=>?_);let(it,fp,tn,J,H2,e,I2,T,EU,f2,q):=h2;subst e;show nJ (RR:=λacc C=>compPost (model X.prog X.w) X.A X.xe none (EP X Sc σ Q) acc C) S hc I2 T EU f2 hg zC he q ?_;intro D C s' H' I' hn F q';let(m,hn):=hn;let(f0,f1,f2,f3,f4,f5):=F;show#[m,hn,λh' sb=>?_];have I8:Inv X Sc σ H' { s' with heap:=h' }:=I'.turned (t':=s'.toks) (λb o hb e=>(sb.2 b hb).trans e) f0 f1 f3 f4 f5;exact#[.ref D,H',I8,U,q']
theorem wB{i:Nat}{x:Str}{tg elt iter:Cl}{ifs:!Cl}{pos px z9:Pos}{wi:TI}{g:TG}{ti:TT}{te:TE}(hN:X.N.Nodup)(qk:X.N[i]?=some x)(hx:X.env.scope.names.lookup x=some .local)(S:bu X ts us scope)(hc:X.calm=true)(hi:PI X tg iter wi)(hg:∀ C s H fp,PG (X.comp ts us scope C s H fp) tg g)(zC:∀ C s H fp,Ig (X.comp ts us scope C s H fp) ifs ti)(he:∀ C s H fp,PE (X.comp ts us scope C s H fp) elt te)(KY:(swapsWith (.ListComp elt [#[tg,iter,ifs,0]] scope pos) (some (.Name x px)) z9.line X.env=pure true)⁻¹)(hs:UX iter X.env:=by intro _;rfl):PS X (.Assign [.Name x px] (.ListComp elt [#[tg,iter,ifs,0]] scope pos) z9) (jr (uA ts.length us wi g ti te) (dm i)):=by
 intro Sc s σ H D I h;rw[exec_Assign_Name_used _ _ _ _ KY];show Ch (wpAny_standAt (Ch ?_));change Db _ _ (do let _ <- comprehension (.ListComp elt [#[tg,iter,ifs,0]] scope pos) scope X.env _ (newList []) false (eval iter X.env) (some (assign (.Name x px) X.env))) _ _ s;show Ch (KM (wpAny_comprehension_free (use:=some (assign (.Name x px) X.env)) (Q:=λ_ s'=>SP X Sc D .next s') U hs (jw S.fr) S.kind S.lc
  (bx (hi Sc s σ H _ I h) λv s1 h1=>bx h1 λMr s2 h2=>?_)) (λ_ s' hq=>FB (FB hq)) λ_ _ e=>e)
 let(it,fp,tn,J,H2,e,I2,T,EU,f2,q):=h2;subst e;show nJ (RR:=λacc C=>compPost (model X.prog X.w) X.A X.xe (some (assign (.Name x px) X.env)) (λ_ s'=>SP X Sc D .next s') acc C) S hc I2 T EU f2 hg zC he q ?_;intro L C s' H' I' hn F q';let(m,hn):=hn;let(f0,f1,f2,f3,f4,f5):=F;change Db _ _ (assign (.Name x px) X.env (.ref L)) _ _ s';show wpAny_assign_Name (qm I' hN qk (.inl hx) (v:=.ref L) U (λDY I'' hsb=>?_) (.inr hx));let(a,sb,ha):=hsb;have qT:C≠a:=by
  rcases ha with z | z
  .rw[z];exact f1
  .exact λw=>f4 x a z w.symm
 show#[m,hn.sameBut sb qT,λh' sb'=>?_];have I8:Inv X Sc (σ.set i (some (.ref L))) H' { DY with heap:=h' }:=I''.turned (t':=DY.toks) (λb o hb e=>(sb'.2 b hb).trans e) f0 f1 f3 f4 f5;exact#[_,H',I8,q']
end
end L2
namespace PySem
open Sem (wp)
namespace F
theorem yR:typeLookup (.type "list_reverseiterator") "__len__"=pure none:=by rw[typeLookup_type,builtinLookup_eq_fast];kernel_rfl
theorem zJ:typeLookup (.type "list_reverseiterator") "__length_hint__"=pure (some (.builtin "list_reverseiterator.__length_hint__")):=by rw[typeLookup_type,builtinLookup_eq_fast];kernel_rfl
end F
section
variable{prog:Fr}{w:Fa}{A:Fk}{E:UP}{s:Da}
theorem rj{R:Result->Da->Prop}{I:AC}{fp wr:!AC}{n:Nat}{P:Nat->AT->Prop}{St:Nat->EQ->Prop}(W:Walks prog w A.in1 I fp wr n P St)(hT:∀ i h,St i h->∃ o,h.get? I=some o/\o.cls=.type "list_reverseiterator")(S:AC)(res:AT)(c₀:Nat)(lQ:St 0 s.heap)(PY:S∉fp)(hI:I∈fp)(hS:s.heap.get? S=some { cls:=.type "list",data:=.seq #v[] c₀ })(hR:∀ h' tk acc' c',(∀ b o,b≠S->b∉wr->s.heap.get? b=some o->h'.get? b=some o)->h'.get? S=some { cls:=.type "list",dict:=none,data:=.seq acc' c',slots:=#v[] } ->
   ItemsOf P acc' n->R (.ok (.ret res)) { s with heap:=h',toks:=tk })(hn:n<=Ev) :
  Db (model prog w) A.in1 (FS.List.listExtendWith (.ref S) (.ref I) res)
   (λfin s'=>match fin with | .done f=>R (.ok f) s' | .again c'=>c'.quiet=true/\codeAny (model prog w) A c' R s') (λe s'=>R (.error e) s') s:=by
 have hSI:S≠I:=λe=>PY (e▸hI);have hTs:s.TypeIs (.ref I) "list_reverseiterator":=hT 0 _ lQ;unfold FS.List.listExtendWith;show Ch (wpAny_typeOf hTs ?_);have h1:FS.List.listSameRef (.ref S) (.ref I)=false:=by simp[FS.List.listSameRef,hSI]
 have h2:(AT.type "list_reverseiterator" == AT.type "list")=false:=by decide
 have h3:(AT.type "list_reverseiterator" == AT.type "tuple")=false:=by decide
 simp only[h1,h2,h3,Bool.or_false,Bool.false_eq_true,if_false];show Ch (W.self 0 _ _ _ lQ ?_);show Ch (NE ?_);unfold FS.List.listLengthHint;show Ch (wpAny_specialOf hTs F.yR ?_);change Db _ A.in1 (specialOf (AT.ref I) (Str.ofString "__length_hint__") >>= _) _ _ _;show Ch (wpAny_specialOf hTs F.zJ ?_);generalize hid:("list_reverseiterator.__length_hint__":String)=id0
 wp_delta
 rw[show splitId id0=some ("list_reverseiterator","__length_hint__") from by subst hid;decide+kernel];subst hid;show Ch (wpAny_isInstance (b:=true) hTs (by rw[isSubtype_type];kernel_rfl) ?_);show FB ?_;rw[if_neg ()];show FB #[plainId_quiet F.plain_extend_loop _,codeAny_extend_loopS W.toS hn _ PY _ n 0 _ _ _ U (S3 _) lQ hS (ItemsOf.nil P) λs' acc' c' hm hS' hacc=>?_];rw[Moved.eq_with hm];show hR s'.heap s'.toks acc' c' (λb ob hb hw e=>hm.heap b ob (λhmem=>?_) e) hS' hacc;rcases SO.mp hmem with e' | hmem
 .exact hb e'
 .exact hw hmem
theorem mv{Q:UP}(hh:A.handled=none){I l:AC}{items:Array AT}(qT:l≠I)(hit:s.heap.IsRevIter I l ((items.size:Int) - 1))(hl:s.heap.IsList l items)(hQ:∀ h' tk acc' c',(∀ b o,b≠I->s.heap.get? b=some o->h'.get? b=some o)->h'.get? ↑s=some { cls:=.type "list",dict:=none,data:=.seq acc' c',slots:=#v[] } ->
   ItemsOf (λi v=>items[items.size - 1 - i]?=some v) acc' items.size->Q (.ref ↑s) { s with heap:=h',toks:=tk })(hn:items.size<=Ev) :
  Db (model prog w) A (call (.type "list") [.ref I]) Q E s:=by
 have hIlt:I < ↑s:=by let(o,e,_):=hit;exact SE e
 have hllt:l < ↑s:=by let(o,e,_):=hl;exact SE e
 show callType_codes (Q₁:=λobj s₁=>obj=.ref ↑s/\s₁={ s with heap:=s.heap.push { cls:=.type "list",data:=.seq #v[] } }) F.called_list (F.typeCall_list_1 _) F.entry_list_init
  (code_list_new _ #[U,U]) λobj s₁ h₁=>?_
 let(rfl,rfl):=h₁;have hS:(s.heap.push { cls:=.type "list",data:=.seq #v[] }).get? ↑s=some { cls:=.type "list",data:=.seq #v[] }:=SH _ U;show#[#[_,hS,U],F.args_list_init_2 _ _,?_];change Db _ _ (do let old <- FS.List.listItems (.ref ↑s);FS.List.listUpdate (.ref ↑s) (λ_=>#v[]);letGo old.toList.reverse;FS.List.listExtendWith (.ref ↑s) (.ref I) .none) _ _ _;show Ch ?_;unfold FS.List.listItems;show Ch (Os hS U (FB ?_));change Db _ _ (updateSeq ↑s (λ_=>#v[]) >>= λ_=>letGo (#v[]:Array AT).toList.reverse >>= λ_=>FS.List.listExtendWith (.ref ↑s) (.ref I) .none) _ _ _;show Ch (wpAny_updateSeq hS U ?_);have hS₂:=Tf (Obj.mapSeq (λ_=>(#v[]:Array AT))) hS U;have oth:∀ b o,b≠↑s->s.heap.get? b=some o->((s.heap.push { cls:=.type "list",data:=.seq #v[] }).update ↑s (Obj.mapSeq (λ_=>(#v[]:Array AT)))).get? b=some o :=
  λb o hb e=>(S9 _ _ (Ne.symm hb)).trans (Su _ e)
 show Ch (wpAny_letGo ?_);have W:=Walks.listRev (prog:=prog) (w:=w) (A:=A.in1.in1) hh I l qT items;show rj (A:=A.in1) W (λi h st=>let #[o,e,c,_]:=st.2.1;#[o,e,c]) ↑s .none _ ?_ ?_ (by simp) hS₂ (λh' tk acc' c' kp e hacc=>?_) hn
 .refine#[S3 _,?_,?_]
  .have e0:(items.size:Int) - 1 - ((0:Nat):Int)=(items.size:Int) - 1:=by cbv
   rw[e0];exact hit.at λo e=>oth I o (SR hIlt) e
  .exact hl.at λo e=>oth l o (SR hllt) e
 .intro hm;rcases SO.mp hm with e | hm
  .exact absurd e (Ui hIlt)
  .exact absurd (SF.mp hm) (Ui hllt)
 .exact#[U,hQ h' tk acc' c' (λb o hb eb=>kp b o (Nat.ne_of_lt (EQ.lt_size eb)) (by simpa using hb) (oth b o (Nat.ne_of_lt (EQ.lt_size eb)) eb)) e hacc]
end
end PySem
namespace L2
open PySem PySem.Spec PyProof.Rows
def Oh(z:Str):It:=#[λi _=>i < z.cps.size,λi H x H'=>H'=H/\∃ c,z.cps[i]?=some c/\x=.str #[#v[c]],λi _=>i=z.cps.size]
theorem tP{P:Fr}{w:Fa}{K:Frag}{tg:Cl}{z:Str}{t:Tok}{it:AC}{ty:String}(hn:["enumerate","zip","dict_itemiterator","dict_reverseitemiterator","odict_iterator","itertools.zip_longest","itertools.pairwise"].contains ty=false)(W:∀ A':Fk,A'.handled=none->Walks P w A' it [it] [it] z.cps.size (SignAt z) (λi h=>h.IsStrIter it ty z t i))(JF:∀ (A:Fk) (i:Nat) (s:Da) (Q:UP) (E:UP),s.heap.IsStrIter it ty z t i->Q (.ref it) s->Db (model P w) A (pyIter (.ref it)) Q E s) :
  Turn P w K tg (Oh z) [it] it (λi h=>h.IsStrIter it ty z t i) where
 mem:=by simp
 obj:=λi h st b hb=>by
  have e:b=it:=by simpa using hb
  subst e;let(o,e,c,d):=st;exact#[o,e,λv z=>by rw[d] at z;cases z]
 keep:=λi h h' st k=>by
  let(o,e,r):=st;exact#[o,k it (by simp) o e,r]
 item:=by
  intro X hP hw hK hc i Sc s σ H E I hf st hg;subst hP hw hK;let(f0,f1,f2,f3,f4,f5):=hf it (by simp);show (W X.A (I.ok.hd hc)).item i s _ _ hg st λv h' tk hv st' kk=>?_;let(c,u,hcp,rfl):=hv;have I1:Inv X Sc σ H { s with heap:=h',toks:=tk }:=I.turned (λb o hb e=>kk b o (by simpa using hb) e) f0 f1 f3 f4 f5;let(o,e,cc,d):=id st';exact#[_,U,wA (s:={ s with heap:=h',toks:=tk }) e cc d hn #[.str #[#v[c]],H,I1,#[u,U],#[U,c,hcp,U],st',λb hb=>(hf b hb).1]]
 done:=by
  intro X hP hw hK hc i Sc s σ H E I hf st hg;subst hP hw hK;have hg:i=z.cps.size:=hg;subst hg;let(f0,f1,f2,f3,f4,f5):=hf it (by simp);exact (W X.A (I.ok.hd hc)).done s _ _ st λh' tk kk=>#[U,I.turned (t':=tk) (λb o hb e=>kk b o (by simpa using hb) e) f0 f1 f3 f4 f5]
 self:=λA i s Q E st h=>JF A i s Q E st h
section
variable{X:Cx}{tg:Cl}
def Px(tl:TE):TI:=λσ H R=>tl σ H λx H1=>∃ z,x=.str z/\R (Oh z) H1
theorem Gg{l:Cl}{tl:TE}(hl:PE X l tl):PI X tg l (Px tl):=by
 intro Sc s σ H R I h;show bx (hl Sc s σ H _ I h) λv s1 zz=>el2 zz λx H1 I1 r1 q1=>?_;let(z,e,q):=q1;subst e;let(t,rfl):=r1;have fin:∀ (b:AC),b∈[↑s1]->ee X Sc H1 b:=λb hb=>by
  have e:b=↑s1:=by simpa using hb
  subst e;exact I1.mq (Sx _) (I1.bj.fresh (Sx _))
 cases ha:z.cps.all (·< 128)
 .exact wpAny_pyIter_wide ha #[↑s1,[↑s1],_,_,H1,U,I1.kept (t':=s1.toks) λb o e=>Su _ e,
   tP () (λA' hA=>Walks.strWide hA _ z t) (λA i s Q E st h=>wpAny_pyIter_striter_wide st h),#[_,SH _ U,U,U],fin,q]
 .exact wpAny_pyIter_ascii ha #[↑s1,[↑s1],_,_,H1,U,I1.kept (t':=s1.toks) λb o e=>Su _ e,
   tP () (λA' hA=>Walks.strAscii hA _ z t) (λA i s Q E st h=>wpAny_pyIter_striter_ascii st h),#[_,SH _ U,U,U],fin,q]
end
section
variable{X:Cx}
theorem range_all(bs:!Bool):((List.range bs.length).all λi=>bs.getD i false)=bs.all id:=by
 rw[Ux,TH,TH];constructor
 .intro h b hb;let(i,hi,rfl):=Tz hb;have:=h i (T8.mpr hi);simpa [List.getD_eq_getElem?_getD,hi] using this
 .intro h i hi;have qk:=T8.mp hi;have:=h bs[i] (UI qk);simpa [List.getD_eq_getElem?_getD,qk] using this
theorem iJ(hc:X.calm=true):dW X (.builtin "all") (λxs H Q=>∃ (p:AC) (bs:!Bool),xs=[.ref p]/\dR X.K H p (bs.map V.bl)/\Q (.bl (bs.all id)) H):=by
 intro Sc s σ H xs us Q I r h;let(p,bs,rfl,hq,q):=h;let(u,rfl,rx):=vals1 r;cases rx;let(its,rv,pl,hz):=I.list hq;have hp:p < ↑s:=by let(o,_,e,_):=pl;exact SE e
 have hlen:its.toArray.size=bs.length:=by rw[SQ,<- rv.length,Ss]
 show call_all_walk (wpAny_pyIter_list pl.isList ?_);show#[↑s,_,_,_,_,_,λi=>bs.getD i false,U,Walks.list (A:=X.A.in1) (I.ok.hd hc) ↑s p (SR hp) its.toArray,#[#[_,SH _ U,U,U],pl.isList.push _],?_,?_]
 .intro i v s' Q' E' hv hq';have Ho:its[i]?=some v:=by simpa using hv
  have hi:i < bs.length:=by
   have:=(Sw.mp Ho).1;rw[SQ] at hlen;cbv
  let(u,hu,ru):=rv.get (i:=i) (x:=V.bl bs[i]) (by simp[hi]);rw[Ho] at hu;cases hu;cases (show v=AT.bool bs[i] from ru);have e:bs.getD i false=bs[i]:=by simp[List.getD_eq_getElem?_getD,hi]
  have hq'':Q' (bs.getD i false) s':=hq';rw[e] at hq'';exact wpAny_truthy_bool hq''
 .intro h' tk kp;have I':Inv X Sc σ H { s with heap:=h',toks:=tk }:=I.kept (t':=tk) λb o e=>kp b o (by simpa using Nat.ne_of_lt (EQ.lt_size e)) (EQ.get?_push_of_some _ e);show#[.bl (bs.all id),H,I',?_,q];change AT.bool _=AT.bool _;rw[hlen,range_all]
def uc(K:Frag)(te:TE):TE:=λσ H Q=>te σ H λx H1=>∃ a xs,x=.ref a/\dR K H1 a xs/\∀ l,H1 l=none->Q (.ref l) (upd H1 l (.lst xs.reverse))
theorem yo{items acc:Array AT}(h:ItemsOf (λi v=>items[items.size - 1 - i]?=some v) acc items.size):acc.toList=items.toList.reverse:=by
 let(h1,h2):=h;apply List.ext_getElem?;intro i;by_cases hi:i < items.size
 .have qk:i < acc.size:=by cbv
  have e:acc[i]?=some acc[i]:=by simp[qk]
  have:=h2 i _ e;rw[List.getElem?_reverse (by simpa using hi)];rw[Uj,e,Array.length_toList,Uj];rw[<- this]
 .rw[List.getElem?_eq_none (by simpa using (by cbv:acc.size<=i)),List.getElem?_eq_none (by simpa using (by cbv:items.size<=i))]
theorem vw{e:Cl}{te:TE}{p p2 pos jI:Pos}(hc:X.calm=true)(IJ:Gl X "list")(B9:X.mg "list"=none)(Lp:Gl X "reversed")(RF:X.mg "reversed"=none)(he:PE X e te)(hs:(GM [.Call (.Name "reversed" p2) [e] [] jI] X.env=[(false,eval (.Call (.Name "reversed" p2) [e] [] jI) X.env)])⁻¹)(t5:(GM [e] X.env=[(false,eval e X.env)])⁻¹) :
  PE X (.Call (.Name "list" p) [.Call (.Name "reversed" p2) [e] [] jI] [] pos) (uc X.K te):=by
 intro Sc s σ H Q I h;show wpAny_Call_Name_kw (gj I IJ B9 PyProof.Rows.boot_list ?_ () ());show PyProof.Rows.callWith_type1 ?_ hs U;rw[hs];change Db _ _ (spliced ((false,eval (.Call (.Name "reversed" p2) [e] [] jI) X.env)::IR pos [])) _ _ s;show Calls.spliced_cons ?_;show wpAny_Call_Name_kw (gj I Lp RF PyProof.Rows.boot_reversed ?_ () ());show PyProof.Rows.callWith_type1 ?_ t5 U;rw[t5];change Db _ _ (spliced ((false,eval e X.env)::IR jI [])) _ _ s;show Calls.spliced_cons (bx (he Sc s σ H _ I h) λu s1 z3q=>?_);let(x,H1,I1,r1,a,xs,ex,hq,q):=z3q;subst ex;cases r1;show Calls.spliced_nil ?_;let(its,rv,pl,hz):=I1.list hq;have hp:a < ↑s1:=by let(o,_,e,_):=pl;exact SE e
 have hlen:=rv.length;show call_reversed_list pl.isList ?_;show Calls.spliced_nil ?_;have I2:Inv X Sc σ H1 { s1 with heap:=s1.heap.push (revObj a ((its.toArray.size:Int) - 1)) }:=I1.kept (t':=s1.toks) λb o e=>Su _ e;show mv (I.ok.hd hc) (items:=its.toArray) (SR hp) #[_,SH _ U,U,U] (pl.isList.push _) (λh' tk acc' c' kp e hacc=>?_) (by rw[SQ];cbv);have e2:=yo hacc;have F:ee X Sc H1 ↑s1:=I1.mq (Sx _) (I1.bj.fresh (Sx _));let(f0,f1,f2,f3,f4,f5):=F;have hk:∀ b o,s1.heap.get? b=some o->h'.get? b=some o:=λb o eb=>kp b o (SR (SE eb)) (Su _ eb);show#[.ref _,_,I1.laid (t':=tk) (h':=h') (o:=.lst xs.reverse) hk (by rw[Th];exact Ut _) ?_,U,q _ (I1.bj.fresh (by rw[Th];exact Ut _))];show#[by rw[List.length_reverse];exact hz,acc'.toList,c',?_,by simpa using e];rw[e2];simpa using rv.reverse
theorem vk{ys:!Str}:∀ {us:!AT},Vals (ys.map V.str) us->StrsAre us ys:=by
 induction ys with
 | nil=>intro us r;rw[Tt] at r;cases r;exact .nil
 | cons n ns ih =>
  intro us r;rw[SA] at r;cases r with
  | cons r1 r2 =>
   let(t,e):=r1;subst e;exact .cons n t (ih r2)
def rJoin(K:Frag):V->!V->Hp->VK->Prop:=λx vs H Q=>∃ (z:Str) (p:AC) (zs:!Str),x=.str z/\vs=[.ref p]/\dR K H p (zs.map V.str)/\(zs.map (·.length)).sum+zs.length * z.length<=16777216/\Q (.str (Txt.join z zs)) H
theorem DZ:JC X "str.join" (rJoin X.K):=by
 intro Sc s σ H x vs v us Q I rx rv h;let(z,p,zs,rfl,rfl,hq,hz,q):=h;let(t,rfl):=rx;let(u,rfl,ru):=rv.one;cases ru;let(its,r,pl,_):=I.list hq;exact PyProof.Rows.join_list pl.isList (by simpa using vk r) hz λt' k=>#[.str _,H,I.tok k,#[t',U],q]
def O3:V->Option Int->Option Int->Hp->VK->Prop:=λx lo hi H Q=>∃ z,x=.str z/\z.length<=Ev/\Q (.str (Txt.slice z lo hi)) H
theorem FF:Ll X O3:=by
 intro Sc s σ H x v vl vu lo hi sl Q I rx hs pl pu h;let(z,rfl,hz,q):=h;let(t,rfl):=rx;show#["str",_,F.slot_str_getitem.lookup,typeIs_str _ _ _,?_];have fin:∀ t' k,EP X Sc σ Q (.str (Txt.slice z lo hi) t') { s with toks:=k }:=λt' k=>#[.str _,H,I.tok k,#[t',U],q];cases pl with
 | none =>
  cases pu with
  | none=>exact wpAny_getItem_str_slice (l:=none) (u:=none) (st:=none) hs U (post_val_or_str #[SI (Txt.slice_le z _ _) hz,fin])
  | int j uj=>exact wpAny_getItem_str_slice (l:=none) (u:=some (j,uj)) (st:=none) hs U (post_val_or_str #[SI (Txt.slice_le z _ _) hz,fin])
 | int i ui =>
  cases pu with
  | none=>exact wpAny_getItem_str_slice (l:=some (i,ui)) (u:=none) (st:=none) hs U (post_val_or_str #[SI (Txt.slice_le z _ _) hz,fin])
  | int j uj=>exact wpAny_getItem_str_slice (l:=some (i,ui)) (u:=some (j,uj)) (st:=none) hs U (post_val_or_str #[SI (Txt.slice_le z _ _) hz,fin])
theorem nQ:gQ X (P3 .Mult) (λx y H Q=>∃ z n,x=.str z/\y=.int n/\MulOk z n/\Q (.str (Txt.mul z n)) H):=by
 intro Sc s σ H x y v u Q I rx ry h;let(z,n,rfl,rfl,ok,q):=h;let(t,rfl):=rx;let(t',rfl):=ry;exact SB.mul ok λt' k=>#[.str _,H,I.tok k,#[t',U],q]
theorem iW:gQ X (IN .LtE) (λx y H Q=>∃ i j,x=.str i/\y=.str j/\Q (.bl (not (decide (j.cps.toList < i.cps.toList)))) H):=by
 intro Sc s σ H x y v u Q I rx ry h;let(i,j,rfl,rfl,q):=h;let(t,rfl):=rx;let(t',rfl):=ry;exact PySem.P.le_str #[.bl _,H,I,U,q]
def GZ(K:Frag)(te:TE):TE:=λσ H Q=>te σ H λx H1=>∃ a xs,x=.ref a/\dR K H1 a xs/\∀ l,H1 l=none->Q (.ref l) (upd H1 l (.lst xs.reverse))
theorem AF{e st:Cl}{te:TE}{p2 pos:Pos}(he:PE X e te)(lQ:PE X st (tC (.int (-1)))):PE X (.Subscript e (.Slice none none (some st) p2) pos) (GZ X.K te):=by
 intro Sc s σ H Q I h;show Subscript_ (bx (he Sc s σ H _ I h) λv s1 #[x,H1,I1,r1,a,xs,ex,hq,q]=>?_);subst ex;cases r1;show wpAny_Slice ?_;rw[evalPart_none];show FB ?_;show FB ?_;rw[evalPart_some];show bx (lQ Sc s1 σ H1 (λx H'=>x=.int (-1)/\H'=H1) I1 #[U,U]) λu s2 #[x,H2,I2,r2,ex,eH]=>?_;subst ex eH;let(t,rfl):=r2;let(its,r,ht,hz):=I2.list hq;have hlen:=r.length;have I3:Inv X Sc σ H2 { s2 with heap:=s2.heap.push { cls:=.type "slice",data:=.fields #v[.none,.none,.int (-1) t] } }:=I2.kept (t':=s2.toks) λb ob q=>Su _ q;change Db (model X.prog X.w) X.A (subscriptTail e (.Slice none none (some st) p2) (.ref a) (.ref ↑s2)) (EP X Sc σ Q) X.xe { s2 with heap:=s2.heap.push { cls:=.type "slice",data:=.fields #v[.none,.none,.int (-1) t] } };show tail_any (ops:=[.ref a,.ref ↑s2]) (ht.isList.push _).typeIs slot_list_getitem.lookup ?_ (by with_unfolding_all rfl);show wpAny_getItem_list_slice (ht.isList.push _) (EQ.IsSliceOf.new ..) .none .none (.int (-1) t) () ?_ (by rw[SQ];cbv);rw[PySem.W.krv_pick];show#[.ref _,_,I3.laid (t':=s2.toks) (o:=.lst xs.reverse) (λb ob q=>Su _ q) (Sx _) ?_,U,q _ (I3.bj.fresh (Sx _))];exact#[by rw[List.length_reverse];exact hz,_,0,by simpa using r.reverse,EQ.get?_push_size _ U]
end
theorem L9{H:Hp}{a:AC}{o u:HO}:upd (upd H a o) a u=upd H a u:=qQ
theorem sC{nt:Nat}{us:!Nat}{σ:St}{te:TE}{z:Str}{H1:Hp}{Q:VK}(f:Nat->V)(hz:z.cps.size<=Ev)(HY:0 < nt)(he:∀ c∈z.cps.toList,∀ (H:Hp) (k:VK),k (f c) H->te ((lift nt us σ).set 0 (some (.str #[#v[c]]))) H k)(hQ:∀ D,H1 D=none->Q (.ref D) (upd H1 D (.lst (z.cps.toList.map f)))):rY nt us σ (dm 0) AM te (Oh z) H1 Q:=by
 intro D hD;show#[λi m ys H2=>i<=z.cps.size/\m=z.cps.size - i/\ys=(z.cps.toList.take i).map f/\H2=upd H1 D (.lst ys),#[z.cps.size,Nat.zero_le _,by simp,by simp,U],?_];rintro i m ys H2 ⟨hi,rfl,rfl,rfl⟩;show#[ay,?_];by_cases gq:i < z.cps.size
 .refine .inr #[gq,?_,?_]
  .rw[Ss,Ts,Array.length_toList];cbv
  .rintro x H3 ⟨rfl,c,hc,rfl⟩;show#[sT HY,?_];change te _ _ _;have hc':z.cps.toList[i]?=some c:=by simpa using hc
   show he c (Ta hc') _ _ #[ay,z.cps.size - (i+1),by cbv,gq,U,?_,L9];rw[Ug,hc',Sz]
   rfl
 .have e:i=z.cps.size:=by cbv
  subst e;show .inl #[U,?_];have:=hQ D hD;rw[List.take_of_length_le (by simp)];exact this
theorem jE{K:Frag}{nt:Nat}{us:!Nat}{σ:St}{ti:TT}{te:TE}{a:AC}{xs:!V}{H1:Hp}{Q:VK}(p:V->Bool)(f:V->V)(hx:dR K H1 a xs)(hz:xs.length<=Ev)(HY:0 < nt)(hp:∀ x∈xs,∀ (H:Hp) (k:Bool->Hp->Prop),k (p x) H->ti ((lift nt us σ).set 0 (some x)) H k)(he:∀ x∈xs,p x=true->∀ (H:Hp) (k:VK),k (f x) H->te ((lift nt us σ).set 0 (some x)) H k)(hQ:∀ D,H1 D=none->Q (.ref D) (upd H1 D (.lst ((xs.filter p).map f)))):rY nt us σ (dm 0) ti te (Hv K a) H1 Q:=by
 intro D hD;have hS:∀ ys,dR K (upd H1 D (.lst ys)) a xs:=λys=>dM.seq (λb o e=>by rw[av (aE e hD)];exact e) hx;show#[λi m ys H2=>i<=xs.length/\m=xs.length - i/\ys=((xs.take i).filter p).map f/\H2=upd H1 D (.lst ys),#[xs.length,Nat.zero_le _,by simp,by simp,U],?_];rintro i m ys H2 ⟨hi,rfl,rfl,rfl⟩;show#[ay,?_];by_cases gq:i < xs.length
 .refine .inr #[#[xs,xs[i],hS _,by simp[gq]],?_,?_]
  .rw[Ss];have h1:=Tj p (xs.take i);rw[Ts] at h1;cbv
  .rintro x H3 ⟨rfl,hy⟩;have hc':xs[i]?=some x:=hy xs (hS _);have hm:=Ta hc';show#[sT HY,hp x hm _ _ ?_];cases e:p x with
   | true =>
    rw[if_pos U];show he x hm e _ _ #[ay,xs.length - (i+1),by cbv,gq,U,?_,L9];rw[Ug,hc',List.filter_append,Sz];simp[e]
   | false =>
    rw[if_neg SK];show#[xs.length - (i+1),by cbv,gq,U,?_,U];rw[Ug,hc',List.filter_append,Sz];simp[e]
 .have e:i=xs.length:=by cbv
  subst e;show .inl #[#[xs,hS _,Sx _],?_];have:=hQ D hD;rw[List.take_of_length_le (Sx _)];exact this
theorem dM.upd{H:Hp}{a:AC}{o:HO}(h:H a=none):dM H (upd H a o):=λb u e=>by rw[av (aE e h)];exact e
theorem dM.ID{H H':Hp}{a:AC}{o:HO}(s:dM H H')(h:H a=none):dM H (L2.upd H' a o):=λb u e=>by rw[av (aE e h)];exact s b u e
section
variable{X:Cx}
theorem kW{j p pos}:PE X (.UnaryOp .USub (.Constant (.int 1) j p) pos) (tC (.int (-1))):=λSc s σ H Q I h=>KA GX bz Sc s σ H Q I #[1,U,h]
def xI:!Cl->!Str
 | []=>[]
 | .Constant (.str x) _ _::r=>x::xI r
 | _=>[]
def su:!Cl->Bool
 | []=>true
 | .Constant (.str _) _ _::r=>su r
 | _=>false
def Kt(zs:!Str):TA:=λ_ H Q=>Q (zs.map V.str) H
theorem xZ:∀ {es:!Cl},su es=true->PA X es (Kt (xI es))
 | [],h=>gd
 | e::r,h=>by
  cases e with
  | Constant c j pos =>
   cases c with
   | str x=>exact cR cf (xZ (es:=r) h)
   | _=>cases h
  | _=>cases h
def BM:FM->!Cl
 | .Assign _ (.List es _) _=>es
 | .Assign _ (.BinOp _ _ (.List es _) _) _=>es
 | _=>[]
def rep1:FM->!Cl->FM
 | .Assign t (.List _ p) q,es=>.Assign t (.List es p) q
 | .Assign t (.BinOp a o (.List _ p) r) q,es=>.Assign t (.BinOp a o (.List es p) r) q
 | s,_=>s
def yK:FM:=.Pass #[0,0,0,0]
def Lo(b:!FM)(i:Nat)(es:!Cl):!FM:=b.set i (rep1 (b.getD i yK) es)
end
end L2
namespace PySem
open Sem (wp)
section
variable{prog:Fr}{w:Fa}{A:Fk}{E:UP}{h:EQ}{g:Array GenState}{d:Drawn}{t:Nat}{os:OsState}
variable{nm q:Str}{C N:AC}{bs bm Sk:!AT}{Sa:Bool}{sn:!Str}{sub:!AT}{ab:Bool}{col:Option Bool}{dd:Option AC}{k0 k1 k2 k3 k5:Option AT}{B Bn newId Sm Nq Sn:String}{Sr:!AT}
end
section
variable{M:Model}{A:Fk}{E:UP}{s:Da}
end
end PySem
namespace L2
open PySem PySem.Spec PyProof.Rows
section
variable{P:Fr}{w:Fa}{H:Hp}{h:EQ}{ea C d:AC}{dd:Option AC}{fr:Bool}{fs:!(Str×V)}
end
section
variable{X:Cx}{Sc:UQ}{σ:St}{H:Hp}{s:Da}{C f:AC}{k:Nat}{fd:GT}{ps:!Str}{sp:Sp}{x:Str}{p pos:Pos}{e:Cl}{es:!Cl}{t:TA}
end
section
variable{X:Cx}{Sc:UQ}{σ:St}{H:Hp}{s:Da}{ea C d:AC}{dd:Option AC}{fr:Bool}{fs:!(Str×V)}{f:Str}{v:V}{A:Fk}{E:UP}
end
section
variable{K:Frag}
end
section
variable{X:Cx}{Sc:UQ}{σ:St}{H:Hp}{s:Da}{ea C d:AC}{dd:Option AC}{fr:Bool}{fs:!(Str×V)}{f:Str}{v:V}{A:Fk}{E:UP}
end
section
variable{X:Cx}{Sc:UQ}{σ:St}{H:Hp}{s:Da}{ea C T:AC}{dd:Option AC}{fr:Bool}{A:Fk}{E:UP}{h':EQ}
end
section
variable{X:Cx}{Sc:UQ}{σ:St}{H:Hp}{s s':Da}{ea C T:AC}{dd:Option AC}{E:XK}{e:AT}
end
section
variable{P:Fr}{w:Fa}{K:Frag}{mg:Str->Option AT}{base:EQ}{N:!Str}{qual:Str}{scope:Scope}{f:AC}{cd:AT}{A:Fk}{outer:!Env}{s:Da}{H:Hp}{E E':XK}
end
section
variable{X:Cx}{Sc:UQ}{σ:St}{H:Hp}{s:Da}{ea C:AC}{dd:Option AC}{fr:Bool}
end
section
variable{X:Cx}{Sc:UQ}{σ:St}{H:Hp}{s:Da}{ev:AT}
end
section
variable{P:Fr}{w:Fa}{K:Frag}{mg:Str->Option AT}{base:EQ}
end
section
variable{X:Cx}
def Ew(i j:Int):Prop:=0 < j/\j < 9223372036854775808
theorem cn:gQ X (P3 .FloorDiv) (rI Ew λi j=>.int (i / j)):=MJ λi j _ _ _ _ _ hc q=>by
 have h1:(0:Int) < j:=hc.1;have h2:j < 9223372036854775808:=hc.2;show floordiv_int (by cbv) (by rw[Int.fdiv_eq_ediv_of_nonneg i (by cbv)];exact q) (.inl (PyProof.noPylong_of_log2 ?_));have h3:j.natAbs < 2 ^ 63:=by
  have:(2:Nat) ^ 63=9223372036854775808:=by decide
  cbv
 have h4:j.natAbs.log2 < 63:=(Nat.log2_lt (by cbv)).mpr h3;cbv
end
end L2
namespace cC
open PySem L2
abbrev kS:Key:=Sum.inr "seed"
abbrev kN:Key:=Sum.inr "number"
abbrev kL:Key:=Sum.inr "left"
theorem sn:¬ kS=kN:=by decide+kernel
theorem sl:¬ kS=kL:=by decide+kernel
theorem nl:¬ kN=kL:=by decide+kernel
def cy(a b:Int)(l:AC):!(Key×V):=[(kS,.int a),(kN,.int b),(kL,.ref l)]
theorem zm(a b:Int)(l:AC):fO (cy a b l) (kS)=some (.int a):=fA U
theorem vX(a b:Int)(l:AC):fO (cy a b l) (kN)=some (.int b):=by
 unfold cy;rw[du sn];exact fA U
theorem BQ(a b:Int)(l:AC):fO (cy a b l) (kL)=some (.ref l):=by
 unfold cy;rw[du sl,du nl];exact fA U
theorem A4(a b c:Int)(l:AC):putK (cy a b l) (kS) (.int c)=cy c b l:=by
 unfold cy putK;simp only[List.any_cons,List.any_nil,List.map_cons,List.map_nil,decide_true,Bool.true_or,if_true,if_neg (Ne.symm sn),if_neg (Ne.symm sl)]
theorem vb(a b c:Int)(l:AC):putK (cy a b l) (kN) (.int c)=cy a c l:=by
 unfold cy putK;simp only[List.any_cons,List.any_nil,List.map_cons,List.map_nil,decide_true,Bool.true_or,Bool.or_true,if_true,if_neg sn,if_neg (Ne.symm nl)]
theorem Gf(a b:Int)(l:AC):gg [] (cy a b l)=cy a b l:=by
 have e1:putK [] kS (V.int a)=[(kS,V.int a)]:=j9 _ oz;have e2:putK [(kS,V.int a)] kN (V.int b)=[(kS,V.int a),(kN,V.int b)]:=j9 _ (by rw[du sn];exact oz);have e3:putK [(kS,V.int a),(kN,V.int b)] kL (V.ref l)=[(kS,V.int a),(kN,V.int b),(kL,V.ref l)]:=j9 _ (by rw[du sl,du nl];exact oz);unfold gg cy;simp only[List.foldl_cons,List.foldl_nil];rw[e1,e2,e3]
section
variable{H:Hp}{d l:AC}{a b:Int}
theorem nv(h:H d=some (.dK (cy a b l))):gL H d (.str "seed") (some (.int a)):=by
 have q:=gL.k (k:=kS) h;rw[zm] at q;exact q
theorem ni(h:H d=some (.dK (cy a b l))):gL H d (.str "number") (some (.int b)):=by
 have q:=gL.k (k:=kN) h;rw[vX] at q;exact q
theorem uK(h:H d=some (.dK (cy a b l))):gL H d (.str "left") (some (.ref l)):=by
 have q:=gL.k (k:=kL) h;rw[BQ] at q;exact q
theorem yy{c:Int}(h:H d=some (.dK (cy a b l))):lC H d (.str "seed") (.int c) (upd H d (.dK (cy c b l))):=by
 have q:=lC.k (k:=kS) (v:=.int c) h (by change 3 < Ev;decide);rw[A4] at q;exact q
theorem lY{c:Int}(h:H d=some (.dK (cy a b l))):lC H d (.str "number") (.int c) (upd H d (.dK (cy a c l))):=by
 have q:=lC.k (k:=kN) (v:=.int c) h (by change 3 < Ev;decide);rw[vb] at q;exact q
end
structure At(H:Hp)(d l:AC):Prop where
 ex:∃ (a b:Int) (ns:!Int),H d=some (.dK (cy a b l))/\H l=some (.lst (ns.map V.int))/\0<=a/\a < 2147483647/\0<=b/\∀ n∈ns,0<=n
def HR(d l:AC)(H H':Hp):Prop:=∀ c o,H c=some o->c≠d->c≠l->H' c=some o
theorem HR.refl(d l:AC)(H:Hp):HR d l H H:=λ_ _ h _ _=>h
theorem At.ne{H:Hp}{d l:AC}(h:At H d l):d≠l:=by
 let(a,b,ns,h1,h2,r):=h.ex;exact D8 h1 h2 (by intro z;cases z)
def vh:Sp:=λvs H Q _=>∃ (d l:AC) (m:Int),vs=[.ref d,.int m]/\At H d l/\0 < m/\m < 9223372036854775808/\∀ (r:Int) (H':Hp),0<=r->r < m->At H' d l->HR d l H H'->Q (.int r) H'
def wa(K:Frag):Sp:=λvs H Q _=>∃ (a:AC) (ns:!Int) (base:Int),vs=[.ref a,.int base]/\dR K H a (ns.map V.int)/\ns.length<=63/\0<=base/\base < 1000000/\∀ (d l:AC) (H':Hp),H d=none->H l=none->At H' d l->dM H H'->Q (.ref d) H'
section
variable{P:Fr}{w:Fa}{K:Frag}{mg:Str->Option AT}{base:EQ}
abbrev nD:!Str:=["_law_deal_here","_law_many","_law_number","_law_one","_law_other"]
def uC:TS :=
 mX (jr (kg (bB 0) (tC (.str "number"))) (dm 2))
  (mX (Jc (mV (iM (sE λi j=>.bl (decide (j < i))) (bB 2) (tC (.int 0))))
    (mX (uw (bB 0) (tC (.str "number")) (iM (rI Ew λi j=>.int (i / j)) (bB 2) (bB 1))) (Co (iM (rI (λ_ j=>0 < j) λi j=>.int (i % j)) (bB 2) (bB 1)))) EZ)
  (mX (jr (iM (rI (λ_ j=>0 < j) λi j=>.int (i % j)) (iM (sE λi j=>.int (i+j)) (iM (rI sv λi j=>.int (i * j)) (kg (bB 0) (tC (.str "seed"))) (tC (.int 48271))) (tC (.int 7919))) (tC (.int 2147483647))) (dm 3))
  (mX (uw (bB 0) (tC (.str "seed")) (iM (rI (λ_ j=>0 < j) λi j=>.int (i % j)) (iM (sE λi j=>.int (i+j)) (iM (rI sv λi j=>.int (i * j)) (bB 3) (tC (.int 40692))) (tC (.int 104729))) (tC (.int 2147483399))))
  (mX (jr (iM (rI (λ_ j=>0 < j) λi j=>.int (i % j)) (iM (rI sv λi j=>.int (i * j)) (kg (bB 0) (tC (.str "seed"))) (kg (bB 0) (tC (.str "seed")))) (tC (.int 2147483563))) (dm 4))
  (Co (iM (rI (λ_ j=>0 < j) λi j=>.int (i % j)) (iM (sE λi j=>.int (i+j)) (iM (rI sv λi j=>.int (i * j)) (iM (rI (λ_ j=>0 < j) λi j=>.int (i % j)) (iM (rI sv λi j=>.int (i * j)) (bB 3) (bB 3)) (tC (.int 2147483629))) (tC (.int 2147483563))) (bB 4)) (bB 1)))))))
def Iy(K:Frag):TS :=
 mX (Ah (JZ (mV (iM OA (kg (bB 0) (tC (.str "number"))) (tC (.int 0)))) (mV (iM (sE λi j=>.bl (decide (j < i))) (Fu (λxs H Q=>∃ p ys,xs=[.ref p]/\(dR K H p ys\/jS K H p ys)/\Q (.int ys.length) H) (tJ (kg (bB 0) (tC (.str "left"))) De)) (tC (.int 0)))))
  (uw (bB 0) (tC (.str "number")) (Ge K "list" Hi (kg (bB 0) (tC (.str "left")))))) uC
theorem DX{st:FM}{f:AC}{fd:GT}(F:rH K "_law_draw" "_law_draw" st f fd)(sc:au nD ["_law_deal_here","_law_many"] (ai st))(hb:∀ (br:AT) (A:Fk) (outer:!Env) (s:Da) (H:Hp) (E:XK),(A.deeper (PyProof.Rows.envOfC "_law_draw" (ai st) ↑s f br)).units+1 < cLine ->
   mK (kB aP P w K mg base nD "_law_draw" (ai st) f br A outer s H E).y8 (aT st) (Iy K)) :
  bN P w K mg base aP 1 f fd ["_law_deal_here","_law_many"] vh:=by
 show F.ok sc (λvs H Q E h=>?_) (λbr A outer s H vs Q E hr h=>?_)
 .let(d,l,m,rfl,_):=h
  rfl
 .let(d,l,m,rfl,D,hm,hm2,k):=h;show#[_,hb _ _ _ _ _ _ (dN hr),?_];let(a0,b0,ns0,hd0,hl0,ha0,ha0',hb0,hns0):=D.ex;have ndl:d≠l:=D.ne
  -- while
  show#[λμ σ H1=>∃ (b:Int) (ns:!Int),σ=[some (.ref d),some (.int m),none,none,none]/\H1 d=some (.dK (cy a0 b l))/\H1 l=some (.lst (ns.map V.int))/\0<=b/\(∀ n∈ns,0<=n)/\HR d l H H1/\μ=ns.length,
   #[ns0.length,b0,ns0,U,hd0,hl0,hb0,hns0,HR.refl _ _ _,U],?_]
  rintro μ σ H1 ⟨b,ns,rfl,hd,hl,hb,n9,bt,rfl⟩
  -- behind the loop
  have rest:uC
    { nx:=λ_ H'=>Q .bH H',rt:=Q } [some (.ref d),some (.int m),none,none,none] H1:=by
   show#[_,U,d,_,U,ni hd,?_];show#[_,U,_,_,U,U,_,U,uB (λhpos=>?_) (λhpos=>?_)]
   .have hpos:0 < b:=of_decide_eq_true hpos;show#[_,U,_,U,_,_,U,U,#[hm,hm2],_,U,d,_,U,lY hd,?_];show#[_,U,_,U,_,_,U,U,hm,?_];show k (b % m) _ (TR _ (by cbv)) (TN _ hm) #[a0,b / m,ns,ay,by rw[av (Ne.symm ndl)];exact hl,ha0,ha0',Uy hb (by cbv),n9] λc o e h1 h2=>?_;rw[av h1];exact bt c o e h1 h2
   .refine#[_,U,d,_,U,nv hd,_,_,U,U,.inr #[by decide,by decide],_,_,U,U,_,_,U,U,(by change (0:Int) < 2147483647;decide),?_];have h1:0<=(a0 * 48271+7919) % 2147483647:=TR _ ();have h2:(a0 * 48271+7919) % 2147483647 < 2147483647:=TN _ ();show#[_,U,_,_,U,U,.inr #[by decide,by decide],_,_,U,U,_,_,U,U,(by change (0:Int) < 2147483399;decide),_,U,d,_,U,yy hd,?_];have h3:0<=((a0 * 48271+7919) % 2147483647 * 40692+104729) % 2147483399:=TR _ ();have h4:((a0 * 48271+7919) % 2147483647 * 40692+104729) % 2147483399 < 2147483399:=TN _ ();show#[_,U,d,_,U,nv ay,_,U,d,_,U,nv ay,_,_,U,U,.inl #[by cbv,by cbv],_,_,U,U,(by change (0:Int) < 2147483563;decide),?_];show#[_,U,_,U,_,_,U,U,.inl #[by cbv,by cbv],_,_,U,U,(by change (0:Int) < 2147483629;decide),_,_,U,U,.inr #[by decide,by decide],_,U,_,_,U,U,_,U,_,_,U,U,hm,?_];show k _ _ (TR _ (by cbv)) (TN _ hm) #[_,b,ns,ay,by rw[av (Ne.symm ndl)];exact hl,h3,by cbv,hb,n9] λc o e h1 h2=>?_;rw[av h1];exact bt c o e h1 h2
  show#[_,U,d,_,U,ni hd,U,_,U,?_];show uB (λh0=>?_) (λh0=>?_)
  .refine#[_,U,d,_,U,uK hd,l,_,U,.inl (dR.of hl),_,_,U,U,_,U,?_];show uB (λh1=>?_) (λh1=>?_)
   .have h1:(0:Int) < ((ns.map V.int).length:Int):=of_decide_eq_true h1;rw[Ss] at h1;obtain⟨init,x,rfl⟩:∃ init x,ns=init++[x]:=by
     rcases List.eq_nil_or_concat ns with e | ⟨i,x,e⟩
     .subst e;simp at h1
     .exact#[i,x,by simpa using e]
    show#[λσ' H'=>∃ (b:Int) (ns:!Int),σ'=[some (.ref d),some (.int m),none,none,none]/\H' d=some (.dK (cy a0 b l))/\H' l=some (.lst (ns.map V.int))/\0<=b/\(∀ n∈ns,0<=n)/\HR d l H H'/\ns.length < (init++[x]).length,?_,?_]
    .rintro σ' H' ⟨b',ns',e1,e2,e3,e4,e5,e6,e7⟩;exact#[ns'.length,e7,b',ns',e1,e2,e3,e4,e5,e6,U]
    .refine#[_,U,d,_,U,uK hd,.inl #[U,_,dR.of hl],l,_,.int x,U,U,hl,by simp,?_];have hd':(upd H1 l (.lst ((init++[x]).map V.int).dropLast)) d=some (.dK (cy a0 b l)):=by rw[av ndl];exact hd
     show#[_,U,d,_,U,lY hd',?_];show#[x,init,U,ay,?_,n9 x (by simp),λn hn=>n9 n (by simp[hn]),λc o e h1 h2=>?_,by simp]
     .rw[av (Ne.symm ndl),ay,Sz,SA,Tt,List.dropLast_concat]
     .rw[av h1,av h2];exact bt c o e h1 h2
   .exact rest
  .exact rest
abbrev nL:!Str:=["_law_script","_law_base","_law_some","_law_number","_law_one"]
def MZ:!V->Hp->VK->Prop:=λxs H Q=>∃ i j,xs=[.int i,.int j]/\Q (.int (if j > i then j else i)) H
def Iv(K:Frag):TS :=
 mX (jr (uA 1 [] (wQ K (Qy (JW K) (bB 0) (AG (bB 1)) (AG (tC (.int 63))))) (dm 0) AM (Fu MZ (tJ (bB 0) (tJ (iM (sE λi j=>.int (i - j)) (tC (.int 0)) (bB 0)) De)))) (dm 2))
 (mX (jr (iM (sE λi j=>.int (i+j)) (tC (.int 7919)) (bB 1)) (dm 3))
 (mX (Jw (wQ K (bB 2)) (dm 4) (jr (iM (rI (λ_ j=>0 < j) λi j=>.int (i % j)) (iM (sE λi j=>.int (i+j)) (iM (rI sv λi j=>.int (i * j)) (bB 3) (tC (.int 48271))) (iM (rI (λ_ j=>0 < j) λi j=>.int (i % j)) (bB 4) (tC (.int 2147483629)))) (tC (.int 2147483647))) (dm 3)))
 (Co (EV [(tC (.str "seed"),bB 3),(tC (.str "number"),tC (.int 0)),(tC (.str "left"),uc K (uA 1 [] (wQ K (bB 2)) (dm 0) (mV (iM (sE λi j=>.bl (decide (j<=i))) (bB 0) (iM (rI Kq λi j=>.int (i ^ j.toNat)) (tC (.int 10)) (tC (.int 18))))) (bB 0)))]))))
theorem DC(ns:!Int)(lo hi:Option Int):∃ ms:!Int,nI (ns.map V.int) lo hi=ms.map V.int/\ms.length<=ns.length:=by
 show#[(ns.drop (HT.bO ns.length 0 lo)).take (HT.bO ns.length ns.length hi - HT.bO ns.length 0 lo),?_,?_]
 .unfold nI;rw[Ss,<- List.map_drop,<- List.map_take]
 .rw[Ts,Ti];cbv
def ma(i:Int):Int:=if 0 - i > i then 0 - i else i
theorem Dc(i:Int):0<=ma i:=by
 unfold ma;split<;>cbv
def EO:V->V
 | .int i=>.int (ma i)
 | v=>v
def G8:V->Bool
 | .int i=>decide ((10:Int) ^ (18:Int).toNat<=i)
 | _=>false
theorem Ct{st:FM}{f:AC}{fd:GT}(F:rH K "_law_deal" "_law_deal" st f fd)(sc:au nL ["_law_script","_law_base"] (ai st))(hb:∀ (br:AT) (A:Fk) (outer:!Env) (s:Da) (H:Hp) (E:XK),mK (kB aP P w K mg base nL "_law_deal" (ai st) f br A outer s H E).y8 (aT st) (Iv K)) :
  bN P w K mg base aP 1 f fd ["_law_script","_law_base"] (wa K):=by
 show F.ok sc (λvs H Q E h=>?_) (λbr A outer s H vs Q E hr h=>?_)
 .let(a,ns,bs,rfl,_):=h
  rfl
 .let(a,ns,bs,rfl,hS,hn,hb0,hb1,k):=h;show#[_,hb _ _ _ _ _ _,?_];let(ms,ems,hms):=DC ns (some bs) (some 63);show#[_,U,_,U,_,U,_,U,a,_,U,hS,λp hp=>#[p,U,#[_,dR.of ay],?_]];rw[ems];show jE (xs:=ms.map V.int) (λ_=>true) EO (dR.of ay) (by rw[Ss];exact SI (SI hms hn) ()) () (λx hx H1 k1 q=>q) (λx hx _ H1 k1 q=>?_) (λD hD=>?_)
  .let(i,_,rfl):=SV.mp hx;exact#[_,U,_,U,_,_,U,U,_,_,U,q]
  .have hD0:H D=none:=(dM.upd hp).free hD;have e1:((ms.map V.int).filter λ_=>true).map EO=(ms.map ma).map V.int:=by
    rw[List.filter_eq_self.mpr (by simp),List.map_map,List.map_map]
    rfl
   rw[e1];have s1:dM H (upd (upd H p (.lst (ms.map V.int))) D (.lst ((ms.map ma).map V.int))):=(dM.upd hp).trans (dM.upd hD);generalize hH2:upd (upd H p (.lst (ms.map V.int))) D (.lst ((ms.map ma).map V.int))=H2 at s1;have hD2:H2 D=some (.lst ((ms.map ma).map V.int)):=by rw[<- hH2];exact ay
   -- number=7919+base
   show#[_,U,_,_,U,U,?_]
   -- for
   show#[_,U,D,U,#[_,dR.of hD2],Ac (K:=K) (a:=D) (xs:=(ms.map ma).map V.int) (λi σ H3=>∃ (n:Int) (v:Option V),σ=[some (.ref a),some (.int bs),some (.ref D),some (.int n),v]/\0<=n/\n < 2147483647/\H3=H2)
    #[7919+bs,none,U,by cbv,by cbv,U] (λi σ H3 _ #[_,_,_,_,_,e]=>by rw[e];exact dR.of hD2) ?_ ?_]
   .rintro i y σ H3 hi ⟨n,v,rfl,h0,h1,rfl⟩;let(j,_,rfl):=SV.mp (Ta hi);show#[_,U,_,_,U,U,.inr #[by decide,by decide],_,U,_,_,U,U,(by change (0:Int) < 2147483629;decide),_,_,U,U,_,_,U,U,(by change (0:Int) < 2147483647;decide),?_];exact#[_,_,U,TR _ (),TN _ (),U]
   .rintro σ H3 ⟨n,v,rfl,h0,h1,rfl⟩
    -- the dict
    intro d hd;have hd0:H d=none:=s1.free hd;have hDd:(upd H3 d (.dK [])) D=some (.lst ((ms.map ma).map V.int)):=by rw[av (aE hD2 hd)];exact hD2
    show#[_,U,_,U,D,U,#[_,dR.of hDd],?_];show jE (xs:=(ms.map ma).map V.int) G8 id (dR.of hDd) (by rw[Ss,Ss];exact SI (SI hms hn) ()) () (λx hx H1 k1 q=>?_) (λx hx _ H1 k1 q=>#[_,U,q]) (λD2 hD2'=>?_)
    .let(i,_,rfl):=SV.mp hx;exact#[_,U,_,_,U,U,#[by decide,by decide,by decide],_,_,U,U,_,U,q]
    .refine#[D2,_,U,dR.of ay,λl hl=>?_];have ndD2:d≠D2:=aE ay hD2';have ndl:d≠l:=aE (H:=upd (upd H3 d (.dK [])) D2 _) (by rw[av ndD2];exact ay) hl;show#[by rw[av ndl,av ndD2];exact ay,cy n 0 l,U,(by change 3<=15;decide),?_];rw[Gf];have hD20:H D2=none:=(s1.trans (dM.upd hd)).free hD2';have hl0:H l=none:=((s1.trans (dM.upd hd)).trans (dM.upd hD2')).free hl;have e3:∃ ks:!Int,((((ms.map ma).map V.int).filter G8).map id).reverse=ks.map V.int/\∀ n∈ks,0<=n:=by
      show#[((ms.map ma).filter λi=>G8 (.int i)).reverse,?_,?_]
      .rw[List.map_id,List.filter_map,Uo]
       rfl
      .intro n hn';let(i,_,rfl):=SV.mp (TB.mp (List.mem_reverse.mp hn')).1;exact Dc i
     let(ks,e3,yf):=e3;rw[e3];show k d l _ hd0 hl0 #[n,0,ks,ay,by rw[av (Ne.symm ndl)];exact ay,h0,h1,Int.le_refl _,yf] ?_;exact (((s1.trans (dM.upd hd)).trans (dM.upd hD2')).ID hl0).ID hd0
end
theorem jj(c:Nat):(#[#v[c]]:Str).length=1:=rfl
theorem b9(x y:Str):(x++y).length=x.length+y.length:=by
 first
  | exact Tn x y
  | (show (x.cps++y.cps).size=x.cps.size+y.cps.size;exact Array.size_append)
theorem join_ones:∀ (cs:!Nat),(Txt.join ("":Str) (cs.map λc=>(#[#v[c]]:Str))).length<=cs.length
 | []=>Sx _
 | [c]=>Sx _
 | c::d::r=>by
  have ih:=join_ones (d::r);have e:(Txt.join ("":Str) ((c::d::r).map λc=>(#[#v[c]]:Str)))=(#[#v[c]]:Str)++("":Str)++Txt.join ("":Str) ((d::r).map λc=>(#[#v[c]]:Str)):=by
   unfold Txt.join;rw[T1,T1]
   rfl
  rw[e,b9,b9];have:("":Str).length=0:=rfl;rw[jj];change _<=(d::r).length+1;cbv
theorem uq:∀ (cs:!Nat),((cs.map λc=>(#[#v[c]]:Str)).map (·.length)).sum=cs.length
 | []=>rfl
 | c::r=>by
  rw[SA,SA,T5,uq r,SG];have:(#[#v[c]]:Str).length=1:=rfl;cbv
abbrev KI:Str:="abcdefghijklmnopqrstuvwxyz"
def near:!Str:=["lets","asks","maker","tabs","too","news","zeros","casey","madex","defa","num","askedx"]
end cC
namespace DL
open PySem PySem.Spec L2
open PyProof.Rows hiding St
theorem cU{α β γ δ:Type}{P Q R:α->β->γ->δ->Prop}{C:Prop}(h:∃ a b c d,P a b c d/\Q a b c d/\R a b c d)(k:∀ a b c d,P a b c d->Q a b c d->R a b c d->C):C:=by
 let(a,b,c,d,h1,h2,h3):=h;exact k a b c d h1 h2 h3
set_option genInjectivity true in inductive D where
 | bH | bl (b:Bool) | int (i:Int) | str (x:Str) | cb (a:AC) | ty (n:String)
 | tup (ds:!D) | lst (ds:!D) | sQ (ks:!Key) (vs:!D) | l6 (ks:!(!Key)) (vs:!D)
 | EH (ks:!(!Key)) (vs:!D)
 | ob (C:AC) (ks:!Str) (vs:!D)
def FG(o:Obj)(ts:!AC):Prop:=o.ExactDict/\∃ es ep,o.data=.dict es ep/\es.toList.map (·.key)=ts.map AT.ref
def TupAt(_K:Frag)(H:Hp)(M:AC->Prop)(a:AC)(xs:!V):Prop:=M a/\H a=some (.tup xs)
theorem TupAt.sq{K:Frag}{H:Hp}{M:AC->Prop}{a:AC}{xs:!V}(h:TupAt K H M a xs):jS K H a xs:=.of h.2
section
variable(K:Frag)(H:Hp)(M:AC->Prop)
mutual
noncomputable def Rep:D->V->Prop
 | .bH,v=>v=.bH
 | .bl b,v=>v=.bl b
 | .int i,v=>v=.int i
 | .str x,v=>v=.str x
 | .cb a,v=>v=.ref a
 | .ty n,v=>v=.ty n
 | .tup ds,v=>∃ a xs,v=.ref a/\TupAt K H M a xs/\aw ds xs
 | .lst ds,v=>∃ a xs,v=.ref a/\(M a/\H a=some (.lst xs))/\aw ds xs
 | .sQ ks vs,v=>∃ (a:AC) (kvs:!(Key×V)),v=.ref a/\(M a/\H a=some (.dK kvs))/\kvs.map (·.1)=ks/\aw vs (kvs.map (·.2))
 | .l6 ks vs,v=>∃ (a:AC) (kvs:!(!Key×V)),v=.ref a/\(M a/\H a=some (.dT kvs))/\kvs.map (·.1)=ks/\aw vs (kvs.map (·.2))
 | .EH ks vs,v=>∃ (a:AC) (o:Obj) (kvs:!(!Key×V)) (ts:!AC),v=.ref a/\(M a/\H a=some (.ja o (.dT kvs)))/\FG o ts/\Paired (λk t=>M t/\H t=some (.tup (k.map kV))) ks ts/\kvs.map (·.1)=ks/\aw vs (kvs.map (·.2))
 | .ob C ks vs,v=>∃ (a dx:AC) (kvs:!(Str×V)),v=.ref a/\(M a/\H a=some (.ins C dx kvs))/\kvs.map (·.1)=ks/\aw vs (kvs.map (·.2))
noncomputable def aw:!D->!V->Prop
 | [],xs=>xs=[]
 | d::ds,xs=>∃ x r,xs=x::r/\Rep d x/\aw ds r
end
def cw:D->HO->Prop
 | .lst ds,.lst xs=>aw K H M ds xs
 | .sQ ks vs,.dK kvs=>kvs.map (·.1)=ks/\aw K H M vs (kvs.map (·.2))
 | .l6 ks vs,.dT kvs=>kvs.map (·.1)=ks/\aw K H M vs (kvs.map (·.2))
 | .ob C ks vs,.ins C' _ kvs=>C'=C/\kvs.map (·.1)=ks/\aw K H M vs (kvs.map (·.2))
 | _,_=>False
end
section
variable{K:Frag}{H H':Hp}{M M':AC->Prop}
theorem TupAt.mono(hM:∀ b,M b->M' b)(hH:∀ b o,M b->H b=some o->H' b=some o){a:AC}{xs:!V}(h:TupAt K H M a xs):TupAt K H' M' a xs:=#[hM a h.1,hH a _ h.1 h.2]
mutual
theorem Rep.mono(hM:∀ b,M b->M' b)(hH:∀ b o,M b->H b=some o->H' b=some o):∀ (d:D) (v:V),Rep K H M d v->Rep K H' M' d v
 | .bH,v,h=>h
 | .bl b,v,h=>h
 | .int i,v,h=>h
 | .str x,v,h=>h
 | .cb a,v,h=>h
 | .ty n,v,h=>h
 | .tup ds,v,h=>by
  let(a,xs,e,t,r):=h;exact#[a,xs,e,t.mono hM hH,aw.mono hM hH ds xs r]
 | .lst ds,v,h=>by
  let(a,xs,e,(m,t),r):=h;exact#[a,xs,e,#[hM a m,hH a _ m t],aw.mono hM hH ds xs r]
 | .sQ ks vs,v,h=>by
  let(a,xs,e,(m,t),k,r):=h;exact#[a,xs,e,#[hM a m,hH a _ m t],k,aw.mono hM hH vs _ r]
 | .l6 ks vs,v,h=>by
  let(a,xs,e,(m,t),k,r):=h;exact#[a,xs,e,#[hM a m,hH a _ m t],k,aw.mono hM hH vs _ r]
 | .EH ks vs,v,h=>by
  let(a,o,xs,ts,e,(m,t),q,p,k,r):=h;exact#[a,o,xs,ts,e,#[hM a m,hH a _ m t],q,L2.Paired.yJ p λk t z=>#[hM t z.1,hH t _ z.1 z.2],k,aw.mono hM hH vs _ r]
 | .ob C ks vs,v,h=>by
  let(a,dx,xs,e,(m,t),k,r):=h;exact#[a,dx,xs,e,#[hM a m,hH a _ m t],k,aw.mono hM hH vs _ r]
theorem aw.mono(hM:∀ b,M b->M' b)(hH:∀ b o,M b->H b=some o->H' b=some o):∀ (ds:!D) (vs:!V),aw K H M ds vs->aw K H' M' ds vs
 | [],vs,h=>h
 | d::ds,vs,h=>by
  let(x,r,e,h1,h2):=h;exact#[x,r,e,Rep.mono hM hH d x h1,aw.mono hM hH ds r h2]
end
theorem cw.mono(hM:∀ b,M b->M' b)(hH:∀ b o,M b->H b=some o->H' b=some o){d:D}{o:HO}(h:cw K H M d o):cw K H' M' d o:=by
 unfold cw at h ⊢;split at h
 .exact aw.mono hM hH _ _ h
 .exact#[h.1,aw.mono hM hH _ _ h.2]
 .exact#[h.1,aw.mono hM hH _ _ h.2]
 .exact#[h.1,h.2.1,aw.mono hM hH _ _ h.2.2]
 .exact h.elim
theorem aw.length:∀ {ds:!D} {vs:!V},aw K H M ds vs->vs.length=ds.length
 | [],vs,h=>by
  have h:vs=[]:=h;rw[h];rfl
 | d::ds,vs,h=>by
  let(x,r,e,h1,h2):=h;rw[e,SG,SG,aw.length h2]
theorem aw.get:∀ {ds:!D} {vs:!V} {i:Nat} {d:D},aw K H M ds vs->ds[i]?=some d->∃ v,vs[i]?=some v/\Rep K H M d v
 | [],vs,i,d,h,e=>by simp at e
 | c::ds,vs,0,d,h,e=>by
  let(x,r,rfl,h1,h2):=h;simp at e;subst e;exact#[x,U,h1]
 | c::ds,vs,i+1,d,h,e=>by
  let(x,r,rfl,h1,h2):=h;let(v,h3,h4):=aw.get (i:=i) (d:=d) h2 (by simpa using e);exact#[v,by simpa using h3,h4]
theorem aw.append:∀ {ds es:!D} {vs ws:!V},aw K H M ds vs->aw K H M es ws->aw K H M (ds++es) (vs++ws)
 | [],es,vs,ws,h,h'=>by
  have h:vs=[]:=h;rw[h];exact h'
 | d::ds,es,vs,ws,h,h'=>by
  let(x,r,rfl,h1,h2):=h;exact#[x,r++ws,U,h1,aw.append h2 h']
theorem aw.take:∀ {ds:!D} {vs:!V} (n:Nat),aw K H M ds vs->aw K H M (ds.take n) (vs.take n)
 | [],vs,n,h=>by
  have h:vs=[]:=h;rw[h];simp[aw]
 | d::ds,vs,0,h=>by simp[aw]
 | d::ds,vs,n+1,h=>by
  let(x,r,rfl,h1,h2):=h;exact#[x,r.take n,U,h1,aw.take n h2]
theorem aw.drop:∀ {ds:!D} {vs:!V} (n:Nat),aw K H M ds vs->aw K H M (ds.drop n) (vs.drop n)
 | [],vs,n,h=>by
  have h:vs=[]:=h;rw[h];simp[aw]
 | d::ds,vs,0,h=>h
 | d::ds,vs,n+1,h=>by
  let(x,r,rfl,h1,h2):=h;exact aw.drop n h2
theorem aw.one{d:D}{v:V}(h:Rep K H M d v):aw K H M [d] [v]:=#[v,[],U,h,U]
theorem aw.reverse:∀ {ds:!D} {vs:!V},aw K H M ds vs->aw K H M ds.reverse vs.reverse
 | [],vs,h=>by
  have h:vs=[]:=h;rw[h]
  rfl
 | d::ds,vs,h=>by
  let(x,r,rfl,h1,h2):=h;rw[Tw,Tw];exact aw.append (aw.reverse h2) (aw.one h1)
theorem aw.set{d:D}{v:V}(r:Rep K H M d v):∀ {ds:!D} {vs:!V} (i:Nat),aw K H M ds vs->aw K H M (ds.set i d) (vs.set i v)
 | [],vs,i,h=>by
  have h:vs=[]:=h;rw[h]
  rfl
 | c::ds,vs,0,h=>by
  let(x,r',rfl,h1,h2):=h;exact#[v,r',U,r,h2]
 | c::ds,vs,i+1,h=>by
  let(x,r',rfl,h1,h2):=h;exact#[x,r'.set i v,U,h1,aw.set r i h2]
theorem aw.eraseIdx:∀ {ds:!D} {vs:!V} (i:Nat),aw K H M ds vs->aw K H M (ds.eraseIdx i) (vs.eraseIdx i)
 | [],vs,i,h=>by
  have h:vs=[]:=h;rw[h]
  rfl
 | c::ds,vs,0,h=>by
  let(x,r',rfl,h1,h2):=h;exact h2
 | c::ds,vs,i+1,h=>by
  let(x,r',rfl,h1,h2):=h;exact#[x,r'.eraseIdx i,U,h1,aw.eraseIdx i h2]
end
structure yI where
 own:AC->Prop
 inv:Hp->Prop
 loc:∀ H H',inv H->(∀ b o,(own b\/∃ φ,o=HO.ext φ)->H b=some o->H' b=some o)->inv H'
 HN:∀ H b,inv H->own b->∃ o,H b=some o
 nt:∀ H b xs,inv H->own b->H b≠some (.tup xs)
 oV:!AC:=[]
def yI.no:yI:=#[λ_=>False,λ_=>True,λ_ _ _ _=>trivial,λ_ _ _ h=>h.elim,λ_ _ _ _ h=>h.elim,[]]
def Nu(H:Hp)(b:AC):Prop:=H b=none\/∃ xs,H b=some (.tup xs)
def aN(d l:AC):yI where
 own:=λb=>b=d\/b=l
 inv:=λH=>cC.At H d l
 loc:=λH H' h k=>by
  let(a,b,ns,h1,h2,r):=h.ex;exact#[a,b,ns,k _ _ (.inl (.inl U)) h1,k _ _ (.inl (.inr U)) h2,r]
 HN:=λH b h e=>by
  let(a,_,ns,h1,h2,r):=h.ex;rcases e with rfl | rfl
  .exact#[_,h1]
  .exact#[_,h2]
 nt:=λH b xs h e=>by
  let(a,_,ns,h1,h2,r):=h.ex;rcases e with rfl | rfl
  .rw[h1];intro z;cases z
  .rw[h2];intro z;cases z
structure Ent where
 g:yI
 M0:AC->Prop
 H0:Hp
structure Base(c:Ent)(M:AC->Prop)(H:Hp):Prop where
 oQ:c.g.inv H
 fr:∀ b o,c.H0 b=some o->¬ c.g.own b->H b=some o
 md:∀ b,M b->∃ o,H b=some o
 mo:∀ b,M b->¬ c.g.own b
 m0:∀ b,c.M0 b->M b
 mn:∀ b,M b->c.M0 b\/Nu c.H0 b
set_option genInjectivity true in inductive Sl where
 | no | dat (d:D) | own (k:Nat)
structure DS where
 sl:!Sl
 os:!(Option D)
def eL(s:DS)(as:!AC)(b:AC):Prop:=∃ (k:Nat) (d:D),s.os[k]?=some (some d)/\as[k]?=some b
structure aA(K:Frag)(c:Ent)(M:AC->Prop)(s:DS)(as:!AC)(σ:St)(H:Hp):Prop where
 base:Base c M H
 len:s.sl.length=σ.length
 d4:as.length=s.os.length
 dat:∀ (i:Nat) (d:D),s.sl[i]?=some (.dat d)->∃ v,σ[i]?=some (some v)/\Rep K H M d v
 own:∀ (i k:Nat),s.sl[i]?=some (.own k)->∃ a,as[k]?=some a/\σ[i]?=some (some (.ref a))
 obj:∀ (k:Nat) (d:D) (a:AC),s.os[k]?=some (some d)->as[k]?=some a->(∃ o,H a=some o/\cw K H M d o)/\¬ M a/\¬ c.g.own a/\c.H0 a=none
 inj:∀ (k l:Nat) (d e:D) (a:AC),s.os[k]?=some (some d)->s.os[l]?=some (some e)->as[k]?=some a->as[l]?=some a->k=l
 lt:∀ (k:Nat) (a:AC),c.g.oV[k]?=some a->as[k]?=some a
structure Ext(c:Ent)(as:!AC)(M:AC->Prop)(s:DS)(H:Hp)(M':AC->Prop)(s':DS)(H':Hp):Prop where
 sub:∀ b,M b->M' b
 new:∀ b,M' b->M b\/Nu H b\/eL s as b
 keep:∀ b o,H b=some o->¬ c.g.own b->¬ eL s as b->H' b=some o
 jk:∀ b,eL s' as b->eL s as b
section
variable{K:Frag}{c:Ent}{M M' M1 M2:AC->Prop}{s s' s1 s2:DS}{as:!AC}{σ:St}{H H' H1 H2:Hp}{a p:AC}{o:HO}{d:D}{v:V}
theorem aA.nM(L:aA K c M s as σ H)(h:eL s as a):¬ M a/\¬ c.g.own a/\c.H0 a=none/\∃ o,H a=some o:=by
 let(k,d,h1,h2):=h;let((o,q,_),q1,q2,q3):=L.obj k d a h1 h2;exact#[q1,q2,q3,o,q]
theorem Base.uR(B:Base c M H)(h:H a=none):c.H0 a=none:=by
 cases e:c.H0 a with
 | none=>rfl
 | some o =>
  exfalso;by_cases q:c.g.own a
  .let(o',h'):=c.g.HN H a B.oQ q;rw[h] at h';cases h'
  .have:=B.fr a o e q;rw[h] at this;cases this
theorem Ext.xY(E:Ext c as M s H M' s' H')(L:aA K c M s as σ H):∀ b o,M b->H b=some o->H' b=some o:=λb o m h =>
 E.keep b o h (L.base.mo b m) λq=>(L.nM q).1 m
theorem Ext.rep(E:Ext c as M s H M' s' H')(L:aA K c M s as σ H)(r:Rep K H M d v):Rep K H' M' d v:=Rep.mono E.sub (E.xY L) d v r
theorem Ext.uY(E:Ext c as M s H M' s' H')(L:aA K c M s as σ H){ds:!D}{vs:!V}(r:aw K H M ds vs):aw K H' M' ds vs:=aw.mono E.sub (E.xY L) ds vs r
theorem Ext.refl:Ext c as M s H M s H:=#[λ_ h=>h,λ_ h=>.inl h,λ_ _ h _ _=>h,λ_ h=>h]
theorem Ext.trans(E1:Ext c as M s H M1 s1 H1)(B1:Base c M1 H1)(E2:Ext c as M1 s1 H1 M2 s2 H2):Ext c as M s H M2 s2 H2 where
 sub:=λb h=>E2.sub b (E1.sub b h)
 new:=λb h=>by
  rcases E2.new b h with h | h | h
  .exact E1.new b h
  .cases q:H b with
   | none=>exact .inr (.inl (.inl q))
   | some o =>
    by_cases g:c.g.own b
    .rcases h with h | ⟨xs,h⟩
     .let(o',h'):=c.g.HN H1 b B1.oQ g;rw[h] at h';cases h'
     .exact absurd h (c.g.nt H1 b xs B1.oQ g)
    .by_cases w:eL s as b
     .exact .inr (.inr w)
     .have:=E1.keep b o q g w;rcases h with h | ⟨xs,h⟩
      .rw[h] at this;cases this
      .rw[h] at this;cases this;exact .inr (.inl (.inr #[xs,q]))
  .exact .inr (.inr (E1.jk b h))
 keep:=λb o h g w=>E2.keep b o (E1.keep b o h g w) g λq=>w (E1.jk b q)
 jk:=λb h=>E1.jk b (E2.jk b h)
theorem aA.laid(L:aA K c M s as σ H)(hp:H p=none):aA K c M s as σ (upd H p o):=by
 have kp:∀ b u,H b=some u->upd H p o b=some u:=λb u e=>by rw[av (aE e hp)];exact e
 show#[#[c.g.loc H _ L.base.oQ λb u _ e=>kp b u e,λb u e g=>kp b u (L.base.fr b u e g),λb m=>?_,L.base.mo,L.base.m0,L.base.mn],L.len,L.d4,λi d e=>?_,L.own,λk d a e1 e2=>?_,L.inj,L.lt]
 .let(u,e):=L.base.md b m;exact#[u,kp b u e]
 .let(v,h1,h2):=L.dat i d e;exact#[v,h1,Rep.mono (λ_ h=>h) (λb u _ e=>kp b u e) d v h2]
 .let((u,q,r),q1):=L.obj k d a e1 e2;exact#[#[u,kp _ _ q,cw.mono (λ_ h=>h) (λb u _ e=>kp b u e) r],q1]
theorem Ext.laid(hp:H p=none):Ext c as M s H M s (upd H p o):=#[λ_ h=>h,λ_ h=>.inl h,λb u e _ _=>by rw[av (aE e hp)];exact e,λ_ h=>h]
theorem aA.Ha(L:aA K c M s as σ H)(ha:H a=some o)(g:¬ c.g.own a)(w:¬ eL s as a)(h0:Nu c.H0 a):aA K c (λb=>M b\/b=a) s as σ H:=by
 have mk:∀ b u,M b->H b=some u->H b=some u:=λ_ _ _ e=>e;show#[#[L.base.oQ,L.base.fr,λb m=>?_,λb m=>?_,λb m=>.inl (L.base.m0 b m),λb m=>?_],L.len,L.d4,λi d e=>?_,L.own,λk d b e1 e2=>?_,L.inj,L.lt]
 .rcases m with m | rfl
  .exact L.base.md b m
  .exact#[o,ha]
 .rcases m with m | rfl
  .exact L.base.mo b m
  .exact g
 .rcases m with m | rfl
  .exact L.base.mn b m
  .exact .inr h0
 .let(v,h1,h2):=L.dat i d e;exact#[v,h1,Rep.mono (λ_ h=>.inl h) mk d v h2]
 .let((u,q,r),q1,q2):=L.obj k d b e1 e2;show#[#[u,q,cw.mono (λ_ h=>.inl h) mk r],λm=>?_,q2];rcases m with m | rfl
  .exact q1 m
  .exact w #[k,d,e1,e2]
theorem aA.grown(L:aA K c M s as σ H)(ha:H a=some o)(g:¬ c.g.own a)(w:¬ eL s as a)(h0:c.H0 a=none):aA K c (λb=>M b\/b=a) s as σ H:=L.Ha ha g w (.inl h0)
theorem cw.CM{xs:!V}(h:cw K H M d (.tup xs)):False:=by cases d<;>exact h
theorem cw.next{φ:EQ->Prop}(h:cw K H M d (.ext φ)):False:=by cases d<;>exact h
theorem aA.fresh(L:aA K c M s as σ H)(hp:H p=none):aA K c (λb=>M b\/b=p) s as σ (upd H p o):=by
 show (L.laid (o:=o) hp).grown ay (λg=>?_) (λw=>?_) (L.base.uR hp)
 .let(u,e):=c.g.HN H p L.base.oQ g;rw[hp] at e;cases e
 .let(_,_,_,u,e):=L.nM w;rw[hp] at e;cases e
theorem Ext.fresh(hp:H p=none):Ext c as M s H (λb=>M b\/b=p) s (upd H p o):=#[λ_ h=>.inl h,λb h=>by
 rcases h with h | rfl
 .exact .inl h
 .exact .inr (.inl (.inl hp)),λb u e _ _=>by rw[av (aE e hp)];exact e,λ_ h=>h]
theorem qX(hp:H p=none)(r:Rep K H M d v):Rep K (upd H p o) (λb=>M b\/b=p) d v:=Rep.mono (λ_ h=>.inl h) (λb u _ e=>by rw[av (aE e hp)];exact e) d v r
theorem iV(hp:H p=none){ds:!D}{vs:!V}(r:aw K H M ds vs):aw K (upd H p o) (λb=>M b\/b=p) ds vs:=aw.mono (λ_ h=>.inl h) (λb u _ e=>by rw[av (aE e hp)];exact e) ds vs r
theorem pS(hp:H p=none){ds:!D}{vs:!V}(r:aw K H M ds vs):aw K (upd H p o) M ds vs:=aw.mono (λ_ h=>h) (λb u _ e=>by rw[av (aE e hp)];exact e) ds vs r
theorem cw.rep(h:cw K H M d o)(ha:H a=some o)(m:M a):Rep K H M d (.ref a):=by
 unfold cw at h;split at h
 .exact#[a,_,U,#[m,ha],h]
 .exact#[a,_,U,#[m,ha],h.1,h.2]
 .exact#[a,_,U,#[m,ha],h.1,h.2]
 .exact#[a,_,_,U,#[m,h.1▸ha],h.2]
 .exact h.elim
end
abbrev aW:=DS->(D->DS->Prop)->Prop
abbrev kY:=DS->(Bool->DS->Prop)->Prop
abbrev eF:=DS->(!D->DS->Prop)->Prop
structure ju where
 nx:DS->Prop
 rt:D->Prop
 rf:D->Prop:=λ_=>False
 bk:DS->Prop:=λ_=>False
 ct:DS->Prop:=λ_=>False
 rs:D->DS->Prop:=λ_ _=>False
abbrev jc:=ju->DS->Prop
section
variable(K:Frag)(c:Ent)
def tE(t:aW):TE:=λσ H Q=>∃ M s as R,aA K c M s as σ H/\t s R/\∀ d s',R d s'->∀ M' H' v,aA K c M' s' as σ H'->Ext c as M s H M' s' H'->Rep K H' M' d v->Q v H'
def tN(t:aW):TE:=λσ H Q=>∃ M s as R,aA K c M s as σ H/\t s R/\∀ d s',R d s'->∀ M' H' a o,aA K c M' s' as σ H'->Ext c as M s H M' s' H'->H' a=some o->cw K H' M' d o->¬ M' a->¬ c.g.own a->¬ eL s' as a->c.H0 a=none->(H a=none\/eL s as a)->Q (.ref a) H'
def tT(t:kY):TT:=λσ H Q=>∃ M s as R,aA K c M s as σ H/\t s R/\∀ b s',R b s'->∀ M' H',aA K c M' s' as σ H'->Ext c as M s H M' s' H'->Q b H'
def tA(n:Nat)(t:eF):TA:=λσ H Q=>∃ M s as R,aA K c M s as σ H/\t s R/\∀ ds s',R ds s'->∀ M' H' vs,aA K c M' s' as σ H'->Ext c as M s H M' s' H'->aw K H' M' ds vs->ds.length=n->Q vs H'
def dP(M:AC->Prop)(H:Hp)(M':AC->Prop)(H':Hp):Prop:=∀ b,M b->M' b/\∀ o,H b=some o->H' b=some o
structure nU(M:AC->Prop)(H:Hp)(R:ju)(E:Ends):Prop where
 nx:∀ s as M' σ H',R.nx s->aA K c M' s as σ H'->dP M H M' H'->E.nx σ H'
 bk:∀ s as M' σ H',R.bk s->aA K c M' s as σ H'->dP M H M' H'->E.bk σ H'
 ct:∀ s as M' σ H',R.ct s->aA K c M' s as σ H'->dP M H M' H'->E.ct σ H'
 rt:∀ d M' H' v,R.rt d->Base c M' H'->Rep K H' M' d v->E.rt v H'
 rf:∀ d M' H' a o,R.rf d->Base c M' H'->H' a=some o->cw K H' M' d o->¬ M' a->¬ c.g.own a->c.H0 a=none->E.rt (.ref a) H'
 rs:∀ d s as M' σ H' v,R.rs d s->aA K c M' s as σ H'->Rep K H' M' d v->E.rt v H'
def tS(t:jc):TS:=λE σ H=>∃ M s as R,aA K c M s as σ H/\t R s/\nU K c M H R E
end
structure DE(X:Cx)(c:Ent)(e:Cl)(t:aW):Prop where
 pe:PE X e (tE X.K c t)
structure DN(X:Cx)(c:Ent)(e:Cl)(t:aW):Prop where
 pe:PE X e (tN X.K c t)
structure DT(X:Cx)(c:Ent)(e:Cl)(t:kY):Prop where
 pt:PT X e (tT X.K c t)
structure DW(X:Cx)(c:Ent)(e:Cl)(t:kY):Prop where
 pw:PW X e (tT X.K c t)
structure DA(X:Cx)(c:Ent)(es:!Cl)(t:eF):Prop where
 pa:PA X es (tA X.K c es.length t)
structure o5(X:Cx)(c:Ent)(st:FM)(t:jc):Prop where
 ps:PS X st (tS X.K c t)
structure sL(X:Cx)(c:Ent)(st:!FM)(t:jc):Prop where
 ps:mK X st (tS X.K c t)
section
variable{X:Cx}
theorem _root_.L2.PE.imp{e:Cl}{t t':TE}(h:PE X e t)(w:∀ σ H Q,t' σ H Q->t σ H Q):PE X e t':=λSc s σ H Q I q=>h Sc s σ H Q I (w σ H Q q)
theorem _root_.L2.PT.imp{e:Cl}{t t':TT}(h:PT X e t)(w:∀ σ H Q,t' σ H Q->t σ H Q):PT X e t':=λSc s σ H Q I q=>h Sc s σ H Q I (w σ H Q q)
theorem _root_.L2.PW.imp{e:Cl}{t t':TT}(h:PW X e t)(w:∀ σ H Q,t' σ H Q->t σ H Q):PW X e t':=λwh Sc s σ H Q I q=>h wh Sc s σ H Q I (w σ H Q q)
theorem _root_.L2.PA.imp{es:!Cl}{t t':TA}(h:PA X es t)(w:∀ σ H Q,t' σ H Q->t σ H Q):PA X es t':=λpos Sc s σ H Q I q=>h pos Sc s σ H Q I (w σ H Q q)
theorem _root_.L2.PS.imp{st:FM}{t t':TS}(h:PS X st t)(w:∀ E σ H,t' E σ H->t E σ H):PS X st t':=λSc s σ H E I q=>h Sc s σ H E I (w E σ H q)
theorem _root_.L2.mK.imp{st:!FM}{t t':TS}(h:mK X st t)(w:∀ E σ H,t' E σ H->t E σ H):mK X st t':=λSc s σ H E I q=>h Sc s σ H E I (w E σ H q)
end
section
variable{X:Cx}{c:Ent}{a b e:Cl}{es:!Cl}{ta tb te:aW}{t:eF}{pos:Pos}
theorem Ext.plus{as:!AC}{M M':AC->Prop}{s s':DS}{H H':Hp}{a:AC}(E:Ext c as M s H M' s' H')(n:H a=none\/eL s as a):Ext c as M s H (λb=>M' b\/b=a) s' H' :=
 #[λb h=>.inl (E.sub b h),λb h=>by
  rcases h with h | rfl
  .exact E.new b h
  .exact .inr (n.imp .inl id),E.keep,E.jk]
theorem DN.de(h:DN X c e te):DE X c e te:=#[h.pe.imp λσ H Q zz=>cU zz λM s as R L q k =>
 #[M,s,as,R,L,q,λd s' r M' H' a o L' E ha ro nm ng nw h0 hn =>
  k d s' r _ H' (.ref a) (L'.grown ha ng nw h0) (E.plus hn) ((ro.mono (λ_ h=>.inl h) λ_ _ _ e=>e).rep ha (.inr U))]]
def HV(i:Nat):aW:=λs Q=>∃ d,s.sl[i]?=some (.dat d)/\Q d s
theorem dv{i:Nat}(h:PE X e (bB i)):DE X c e (HV i):=#[h.imp λσ H Q z6q=>by
 let(M,s,as,R,L,(d,e,q),k):=z6q;let(v,h1,h2):=L.dat i d e;exact#[v,h1,k d s q M H v L .refl h2]]
def Ib(d:D):aW:=λs Q=>Q d s
def Nv:D->V->Prop
 | .bH,v=>v=.bH
 | .bl b,v=>v=.bl b
 | .int i,v=>v=.int i
 | .str x,v=>v=.str x
 | .cb a,v=>v=.ref a
 | .ty n,v=>v=.ty n
 | _,_=>False
theorem Nv.rep{d:D}{v:V}{K:Frag}{H:Hp}{M:AC->Prop}(h:Nv d v):Rep K H M d v:=by
 cases d<;>first | exact h | exact h.elim
theorem dc{d:D}{v:V}(h:PE X e (tC v))(r:Nv d v):DE X c e (Ib d):=#[h.imp λσ H Q zz=>cU zz λM s as R L q k=>k d s q M H v L .refl r.rep]
theorem ag{i j}:DE X c (.Constant (.int i) j pos) (Ib (.int i)):=dc bz U
theorem oW{i j}:DE X c (.Constant (.bool i) j pos) (Ib (.bl i)):=dc EJ U
theorem jW{j}:DE X c (.Constant .none j pos) (Ib .bH):=dc Gr U
theorem aq{i j}:DE X c (.Constant (.str i) j pos) (Ib (.str i)):=dc cf U
def xw:eF:=λs Q=>Q [] s
def rK(ta:aW)(tr:eF):eF:=λs Q=>ta s λd s1=>tr s1 λds s2=>Q (d::ds) s2
theorem ae:DA X c [] xw:=#[gd.imp λσ H Q zz=>cU zz λM s as R L q k=>k [] s q M H [] L .refl U U]
theorem aa(ha:DE X c e te)(hr:DA X c es t)(hs:(US X.env e es)⁻¹):DA X c (e::es) (rK te t) :=
 #[(cR ha.pe hr.pa hs).imp λσ H Q zz=>cU zz λM s as R L q k =>
   #[M,s,as,_,L,q,λd s1 q1 M1 H1 x L1 E1 r1=>#[M1,s1,as,_,L1,q1,λds s2 q2 M2 H2 xs Lb E2 r2 hl =>
    k _ s2 q2 M2 H2 _ Lb (E1.trans L1.base E2) #[x,xs,U,E2.rep L1 r1,r2] (by rw[SG,SG,hl])]]]
def KO(t:eF):aW:=λs Q=>t s λds s1=>Q (.tup ds) s1
def Ju(t:eF):aW:=λs Q=>t s λds s1=>Q (.lst ds) s1
theorem Qu{n:Nat}(h:(n<=1000:Bool)=true):n<=Ev:=SI (of_decide_eq_true h) ()
theorem aJ{x1}(h:DA X c es t)(hn:((es.length<=1000:Bool)=true)⁻¹):DE X c (.Tuple es x1 pos) (KO t):=#[(GD h.pa).imp λσ H Q zz=>cU zz λM s as R L q k =>
 #[M,s,as,_,L,q,λds s1 q1 M1 H1 xs L1 E1 r1 hl=>#[by rw[r1.length,hl];exact Qu hn,λp hp =>
  k _ s1 q1 _ _ _ (L1.fresh hp) (E1.trans L1.base (Ext.fresh hp)) #[p,xs,U,#[.inr U,ay],iV hp r1]]]]
theorem notM{K:Frag}{M:AC->Prop}{s:DS}{as:!AC}{σ:St}{H:Hp}{p:AC}(L:aA K c M s as σ H)(hp:H p=none):¬ M p/\¬ c.g.own p/\¬ eL s as p/\c.H0 p=none:=by
 show#[λm=>?_,λg=>?_,λw=>?_,L.base.uR hp]
 .let(u,e):=L.base.md p m;rw[hp] at e;cases e
 .let(u,e):=c.g.HN H p L.base.oQ g;rw[hp] at e;cases e
 .let(_,_,_,u,e):=L.nM w;rw[hp] at e;cases e
theorem ix{K:Frag}{as:!AC}{M M1:AC->Prop}{s s1:DS}{σ:St}{H H1:Hp}{p:AC}{o:HO}{Q:VK}{d:D}(L:aA K c M s as σ H)(L1:aA K c M1 s1 as σ H1)(E1:Ext c as M s H M1 s1 H1)(hp:H1 p=none)(r:cw K H1 M1 d o)(k:∀ M' H' a o,aA K c M' s1 as σ H'->Ext c as M s H M' s1 H'->H' a=some o->cw K H' M' d o->¬ M' a->¬ c.g.own a->¬ eL s1 as a->c.H0 a=none->(H a=none\/eL s as a)->Q (.ref a) H'):Q (.ref p) (upd H1 p o):=by
 let(n1,n2,n3,n4):=notM L1 hp;show k M1 (upd H1 p o) p o (L1.laid hp) (E1.trans L1.base (Ext.laid hp)) ay (r.mono (λ_ h=>h) λb u _ e=>by rw[av (aE e hp)];exact e) n1 n2 n3 n4 ?_;cases q:H p with
 | none=>exact .inl U
 | some u =>
  by_cases w:eL s as p
  .exact .inr w
  .have:=E1.keep p u q n2 w;rw[hp] at this;cases this
theorem aH(h:DA X c es t)(hn:((es.length<=1000:Bool)=true)⁻¹):DN X c (.List es pos) (Ju t):=#[(HD h.pa).imp λσ H Q zz=>cU zz λM s as R L q k =>
 #[M,s,as,_,L,q,λds s1 q1 M1 H1 xs L1 E1 r1 hl=>#[by rw[r1.length,hl];exact Qu hn,λp hp =>
  ix L L1 E1 hp (d:=.lst ds) r1 (k _ s1 q1)]]]
def O0(C:D->(D->Prop)->Prop)(ta:aW):aW:=λs Q=>ta s λa s1=>C a λd=>Q d s1
def BE(C:D->D->(D->Prop)->Prop)(ta tb:aW):aW:=λs Q=>ta s λa s1=>tb s1 λb s2=>C a b λd=>Q d s2
def mG(X:Cx)(c:Ent)(r:R2)(C:D->D->(D->Prop)->Prop):Prop:=∀ (M:AC->Prop) (s:DS) (as:!AC) (σ:St) (H:Hp) (x y:V) (dx dy:D) (k:D->Prop) (Q:VK),aA X.K c M s as σ H->Rep X.K H M dx x->Rep X.K H M dy y->C dx dy k ->
 (∀ d,k d->∀ M' H' v,aA X.K c M' s as σ H'->Ext c as M s H M' s H'->Rep X.K H' M' d v->Q v H')->r x y H Q
def Hn(X:Cx)(c:Ent)(r:R2)(C:D->D->(D->Prop)->Prop):Prop:=∀ (M:AC->Prop) (s:DS) (as:!AC) (σ:St) (H:Hp) (x y:V) (dx dy:D) (k:D->Prop) (Q:VK),aA X.K c M s as σ H->Rep X.K H M dx x->Rep X.K H M dy y->C dx dy k ->
 (∀ d,k d->∀ p o,H p=none->cw X.K H M d o->Q (.ref p) (upd H p o))->r x y H Q
theorem C6{r:R2}{C:D->D->(D->Prop)->Prop}(k:mG X c r C){σ:St}{H:Hp}{Q:VK}:tE X.K c (BE C ta tb) σ H Q->iM r (tE X.K c ta) (tE X.K c tb) σ H Q:=λzz=>cU zz λM s as R L q kk =>
 #[M,s,as,_,L,q,λda s1 q1 M1 H1 x L1 E1 r1=>#[M1,s1,as,_,L1,q1,λdb s2 q2 M2 H2 y Lb E2 r2 =>
  k M2 s2 as σ H2 x y da db (λd=>R d s2) Q Lb (E2.rep L1 r1) r2 q2 λd rd M' H' v L' E' rv=>kk d s2 rd M' H' v L' ((E1.trans L1.base E2).trans Lb.base E') rv]]
theorem M9{r:R2}{C:D->D->(D->Prop)->Prop}(k:Hn X c r C){σ:St}{H:Hp}{Q:VK}:tN X.K c (BE C ta tb) σ H Q->iM r (tE X.K c ta) (tE X.K c tb) σ H Q:=λzz=>cU zz λM s as R L q kk =>
 #[M,s,as,_,L,q,λda s1 q1 M1 H1 x L1 E1 r1=>#[M1,s1,as,_,L1,q1,λdb s2 q2 M2 H2 y Lb E2 r2 =>
  k M2 s2 as σ H2 x y da db (λd=>R d s2) Q Lb (E2.rep L1 r1) r2 q2 λd rd p o hp ro=>ix L Lb (E1.trans L1.base E2) hp ro (kk d s2 rd)]]
theorem aZ{op:Operator}{r:R2}{C:D->D->(D->Prop)->Prop}(ho:gQ X (P3 op) r)(k:mG X c r C)(ha:DE X c a ta)(hb:DE X c b tb):DE X c (.BinOp a op b pos) (BE C ta tb):=#[(cP ho ha.pe hb.pe).imp λ_ _ _=>C6 k]
theorem dw{op:Operator}{r:R2}{C:D->D->(D->Prop)->Prop}(ho:gQ X (P3 op) r)(k:Hn X c r C)(ha:DE X c a ta)(hb:DE X c b tb):DN X c (.BinOp a op b pos) (BE C ta tb):=#[(cP ho ha.pe hb.pe).imp λ_ _ _=>M9 k]
theorem lI{op:CmpOp}{r:R2}{C:D->D->(D->Prop)->Prop}(ho:gQ X (IN op) r)(k:mG X c r C)(ha:DE X c a ta)(hb:DE X c b tb)(hm:behindInMarks op b=false):DE X c (.Compare a [op] [b] pos) (BE C ta tb):=#[(r8 ho ha.pe hb.pe hm).imp λ_ _ _=>C6 k]
theorem AB{r:R2}{C:D->D->(D->Prop)->Prop}(ho:JH X r)(k:mG X c r C)(ha:DE X c a ta)(hb:DE X c b tb)(hs:mz b):DE X c (.Subscript a b pos) (BE C ta tb):=#[(zt ho ha.pe hb.pe hs).imp λ_ _ _=>C6 k]
def EX(t:aW):kY:=λs Q=>t s λd s1=>∃ k,d=.bl k/\Q k s1
theorem gX{t:aW}{t':TE}(h:∀ {σ H Q},tE X.K c t σ H Q->t' σ H Q){σ:St}{H:Hp}{Q:Bool->Hp->Prop}:tT X.K c (EX t) σ H Q->mV t' σ H Q:=λzz=>cU zz λM s as R L q kk =>
 h #[M,s,as,_,L,q,λd s1 z3r M' H' v L' E' rv=>by
  let(k,e,r):=z3r;subst e;exact#[k,rv,kk k s1 r M' H' L' E']]
theorem aB{op:CmpOp}{r:R2}{C:D->D->(D->Prop)->Prop}(ho:gQ X (IN op) r)(k:mG X c r C)(ha:DE X c a ta)(hb:DE X c b tb)(hm:behindInMarks op b=false):DT X c (.Compare a [op] [b] pos) (EX (BE C ta tb)) :=
 #[(ib ho ha.pe hb.pe hm).imp λ_ _ _=>gX (C6 k)]
theorem cL(h:DE X c e te)(he:∀ whole,isTrue e X.env whole=(do let v <- whole;standAt e.pos;holding [v] (truthy v)):=by intro _;rfl):DT X c e (EX te):=#[(HH h.pe he).imp λ_ _ _=>gX λq=>q]
def IF(t:kY):kY:=λs Q=>t s λb s1=>Q (not b) s1
theorem hW{t:kY}(h:DT X c e t):DT X c (.UnaryOp .Not e pos) (IF t):=#[(Bg h.pt).imp λσ H Q zz=>cU zz λM s as R L q k=>#[M,s,as,_,L,q,λb s1 r M' H' L' E'=>k _ s1 r M' H' L' E']]
def IL(t u:kY):kY:=λs Q=>t s λb s1=>if b=true then u s1 Q else Q false s1
def torD(t u:kY):kY:=λs Q=>t s λb s1=>if b=true then Q true s1 else u s1 Q
theorem DW.dt{t:kY}(h:DW X c e t):DT X c e t:=#[h.pw.pt]
section
variable{tA tB:kY}{rest:!Cl}
theorem g7(h:DT X c a tA):DW X c (.BoolOp .And [a] pos) tA:=#[pw_and1 h.pt]
theorem mY(h:DT X c a tA):DW X c (.BoolOp .Or [a] pos) tA:=#[pw_or1 h.pt]
theorem jR(ha:DT X c a tA)(hb:DW X c (.BoolOp .And (b::rest) pos) tB):DW X c (.BoolOp .And (a::b::rest) pos) (IL tA tB):=#[(pw_and ha.pt hb.pw).imp λσ H Q zz=>cU zz λM s as R L q k =>
 #[M,s,as,_,L,q,λx s1 r M1 H1 L1 E1=>by
  cases x with
  | true=>exact mh #[M1,s1,as,_,L1,(by simpa using r),λy s2 r2 M2 H2 Lb E2=>k y s2 r2 M2 H2 Lb (E1.trans L1.base E2)]
  | false=>exact rB (k false s1 (by simpa using r) M1 H1 L1 E1)]]
theorem jD(ha:DT X c a tA)(hb:DW X c (.BoolOp .Or (b::rest) pos) tB):DW X c (.BoolOp .Or (a::b::rest) pos) (torD tA tB):=#[(pw_or ha.pt hb.pw).imp λσ H Q zz=>cU zz λM s as R L q k =>
 #[M,s,as,_,L,q,λx s1 r M1 H1 L1 E1=>by
  cases x with
  | true=>exact mh (k true s1 (by simpa using r) M1 H1 L1 E1)
  | false=>exact rB #[M1,s1,as,_,L1,(by simpa using r),λy s2 r2 M2 H2 Lb E2=>k y s2 r2 M2 H2 Lb (E1.trans L1.base E2)]]]
def K9(ta tb:aW):aW:=λs Q=>ta s λx s1=>∃ k,x=.bl k/\if k=true then tb s1 Q else Q (.bl false) s1
def Ja(ta:aW):aW:=λs Q=>ta s λx s1=>∃ k,x=.bl k/\Q (.bl (not k)) s1
theorem ux{op}(h:DE X c a ta):DE X c (.BoolOp op [a] pos) ta:=#[vV h.pe]
theorem ue(ha:DE X c a ta)(hb:DE X c (.BoolOp .And (b::rest) pos) tb):DE X c (.BoolOp .And (a::b::rest) pos) (K9 ta tb):=#[(AO ha.pe hb.pe).imp λσ H Q zz=>cU zz λM s as R L q k =>
 #[M,s,as,_,L,q,λx s1 z4r M1 H1 v L1 E1 rv=>by
  let(b,e,r):=z4r;subst e;show#[b,rv,?_];cases b with
  | true=>exact mh #[M1,s1,as,_,L1,(by simpa using r),λy s2 r2 M2 H2 w Lb E2 rw=>k y s2 r2 M2 H2 w Lb (E1.trans L1.base E2) rw]
  | false=>exact rB (k (.bl false) s1 (by simpa using r) M1 H1 _ L1 E1 U)]]
theorem Lv(ha:DE X c a ta):DE X c (.UnaryOp .Not a pos) (Ja ta):=#[(Hg ha.pe).imp λσ H Q zz=>cU zz λM s as R L q k =>
 #[M,s,as,_,L,q,λx s1 z5r M1 H1 v L1 E1 rv=>by
  let(b,e,r):=z5r;subst e;exact#[b,rv,k _ s1 r M1 H1 _ L1 E1 U]]]
def OD(t:kY)(ta tb:aW):aW:=λs Q=>t s λk s1=>if k=true then ta s1 Q else tb s1 Q
theorem xJ{e:Cl}(hc:DT X c e tA)(ha:DE X c a ta)(hb:DE X c b tb):DE X c (.IfExp e a b pos) (OD tA ta tb):=#[(BJ hc.pt ha.pe hb.pe).imp λσ H Q zz=>cU zz λM s as R L q k =>
 #[M,s,as,_,L,q,λx s1 r M1 H1 L1 E1=>by
  cases x with
  | true=>exact mh #[M1,s1,as,_,L1,(by simpa using r),λy s2 r2 M2 H2 w Lb E2 rw=>k y s2 r2 M2 H2 w Lb (E1.trans L1.base E2) rw]
  | false=>exact rB #[M1,s1,as,_,L1,(by simpa using r),λy s2 r2 M2 H2 w Lb E2 rw=>k y s2 r2 M2 H2 w Lb (E1.trans L1.base E2) rw]]]
end
end
section
variable{K:Frag}{c:Ent}{M M' M1:AC->Prop}{s s' s1:DS}{as:!AC}{σ:St}{H H' H1:Hp}{a p:AC}{o:HO}{d:D}{v:V}
theorem dP.refl:dP M H M H:=λb m=>#[m,λ_ e=>e]
theorem dP.trans{M2:AC->Prop}{H2:Hp}(g1:dP M H M1 H1)(g2:dP M1 H1 M2 H2):dP M H M2 H2:=λb m=>#[(g2 b (g1 b m).1).1,λo e=>(g2 b (g1 b m).1).2 o ((g1 b m).2 o e)]
theorem Ext.grow(E:Ext c as M s H M' s' H')(L:aA K c M s as σ H):dP M H M' H':=λb m=>#[E.sub b m,λo e=>E.xY L b o m e]
theorem dP.uY(G:dP M H M' H'){ds:!D}{vs:!V}(r:aw K H M ds vs):aw K H' M' ds vs:=aw.mono (λb m=>(G b m).1) (λb o m e=>(G b m).2 o e) ds vs r
theorem nU.grow{R:ju}{E:Ends}(k:nU K c M H R E)(G:dP M H M1 H1):nU K c M1 H1 R E :=
 #[λs as M' σ H' r L g=>k.nx s as M' σ H' r L (G.trans g),λs as M' σ H' r L g=>k.bk s as M' σ H' r L (G.trans g),λs as M' σ H' r L g=>k.ct s as M' σ H' r L (G.trans g),k.rt,k.rf,k.rs]
def DS.set(s:DS)(i:Nat)(x:Sl):DS:=#[s.sl.set i x,s.os]
def DS.put(s:DS)(k:Nat)(d:D):DS:=#[s.sl,s.os.set k (some d)]
theorem b7{α:Type}{l:!α}{i j:Nat}{x y:α}(h:(l.set i x)[j]?=some y):(i=j/\j < l.length/\y=x)\/(i≠j/\l[j]?=some y):=by
 by_cases e:i=j
 .subst e;by_cases hl:i < l.length
  .rw[S7 hl] at h;exact .inl #[U,hl,(S4 h).symm]
  .rw[List.getElem?_eq_none (by rw[TC];cbv)] at h;cases h
 .rw[SM e] at h;exact .inr #[e,h]
theorem aA.B6(L:aA K c M s as σ H)(i:Nat)(r:Rep K H M d v):aA K c M (s.set i (.dat d)) as (σ.set i (some v)) H where
 base:=L.base
 len:=by change (s.sl.set i _).length=_;rw[TC,TC];exact L.len
 d4:=L.d4
 dat:=λj e h=>by
  rcases b7 h with ⟨rfl,hl,q⟩ | ⟨ne,q⟩
  .cases q;exact#[v,S7 (by rw[<- L.len];exact hl),r]
  .let(w,h1,h2):=L.dat j e q;exact#[w,by rw[SM ne];exact h1,h2]
 own:=λj k h=>by
  rcases b7 h with ⟨rfl,hl,q⟩ | ⟨ne,q⟩
  .cases q
  .let(w,h1,h2):=L.own j k q;exact#[w,h1,by rw[SM ne];exact h2]
 obj:=L.obj
 inj:=L.inj
 lt:=L.lt
def noRef(k:Nat):Nat->!Sl->Bool
 | _,[]=>true
 | 0,_::r=>noRef k (r.length+1) r
 | i+1,.own j::r=>(j != k)&&noRef k i r
 | i+1,_::r=>noRef k i r
theorem lg{k:Nat}:∀ {l:!Sl} {i j:Nat},l.length<=i->noRef k i l=true->l[j]?≠some (.own k)
 | [],i,j,hl,h,e=>by simp at e
 | x::r,0,j,hl,h,e=>by simp at hl
 | x::r,i+1,0,hl,h,e=>by
  simp at e;subst e;simp[noRef] at h
 | x::r,i+1,j+1,hl,h,e=>by
  show lg (l:=r) (i:=i) (j:=j) (by simpa using hl) ?_ (by simpa using e);cases x with
  | own q=>simp[noRef] at h;exact h.2
  | no=>exact h
  | dat q=>exact h
theorem tL{k:Nat}:∀ {l:!Sl} {i j:Nat},noRef k i l=true->i≠j->l[j]?≠some (.own k)
 | [],i,j,h,ne,e=>by simp at e
 | x::r,0,0,h,ne,e=>ne U
 | x::r,0,j+1,h,ne,e=>by
  have e':r[j]?=some (.own k):=by simpa using e
  exact lg (l:=r) (i:=r.length+1) (by cbv) h e'
 | x::r,i+1,0,h,ne,e=>by
  simp at e;subst e;simp[noRef] at h
 | x::r,i+1,j+1,h,ne,e=>by
  show tL (l:=r) (i:=i) (j:=j) ?_ (by cbv) (by simpa using e);cases x with
  | own q=>simp[noRef] at h;exact h.2
  | no=>exact h
  | dat q=>exact h
theorem aA.NC(L:aA K c M s as σ H)(i k:Nat)(hk:k < s.os.length)(nr:noRef k i s.sl=true)(ha:H a=some o)(r:cw K H M d o)(nm:¬ M a)(ng:¬ c.g.own a)(nw:¬ eL s as a)(h0:c.H0 a=none)(gq:c.g.oV.length<=k) :
  aA K c M #[s.sl.set i (.own k),s.os.set k (some d)] (as.set k a) (σ.set i (some (.ref a))) H where
 base:=L.base
 len:=by change (s.sl.set i _).length=_;rw[TC,TC];exact L.len
 d4:=by change (as.set k a).length=(s.os.set k _).length;rw[TC,TC];exact L.d4
 dat:=λj e h=>by
  rcases b7 h with ⟨rfl,hl,q⟩ | ⟨ne,q⟩
  .cases q
  .let(w,h1,h2):=L.dat j e q;exact#[w,by rw[SM ne];exact h1,h2]
 own:=λj l h=>by
  rcases b7 h with ⟨rfl,hl,q⟩ | ⟨ne,q⟩
  .cases q;exact#[a,S7 (by rw[L.d4];exact hk),S7 (by rw[<- L.len];exact hl)]
  .let(w,h1,h2):=L.own j l q;show#[w,?_,by rw[SM ne];exact h2];have:k≠l:=λz=>by
    subst z;exact tL nr ne q
   rw[SM this];exact h1
 obj:=λl e b h1 h2=>by
  rcases b7 h1 with ⟨rfl,hl,q⟩ | ⟨ne,q⟩
  .cases q;rw[S7 (by rw[L.d4];exact hl)] at h2;cases h2;exact#[#[o,ha,r],nm,ng,h0]
  .rw[SM ne] at h2;exact L.obj l e b q h2
 inj:=λl m e f b h1 h2 g1 g2=>by
  rcases b7 h1 with ⟨rfl,hl,q⟩ | ⟨ne,q⟩
  .rcases b7 h2 with ⟨rfl,hl',q'⟩ | ⟨ne',q'⟩
   .rfl
   .rw[S7 (by rw[L.d4];exact hl)] at g1;cases g1;rw[SM ne'] at g2;exact absurd #[m,f,q',g2] nw
  .rcases b7 h2 with ⟨rfl,hl',q'⟩ | ⟨ne',q'⟩
   .rw[S7 (by rw[L.d4];exact hl')] at g2;cases g2;rw[SM ne] at g1;exact absurd #[l,e,q,g1] nw
   .rw[SM ne] at g1;rw[SM ne'] at g2;exact L.inj l m e f b q q' g1 g2
 lt:=λl b h=>by
  have h1:=L.lt l b h;have hl:l < c.g.oV.length:=(Sw.mp h).1;rw[SM (by cbv)];exact h1
theorem aA.jl{d0:D}{k:Nat}(L:aA K c M s as σ H)(hk:s.os[k]?=some (some d0))(ha:as[k]?=some a)(r:cw K H M d o):aA K c M (s.put k d) as σ (upd H a o):=by
 let((o0,q0,r0),nm,ng,h0):=L.obj k d0 a hk ha;have kp:∀ b u,b≠a->H b=some u->upd H a o b=some u:=λb u ne e=>by rw[av ne];exact e
 have km:∀ b u,M b->H b=some u->upd H a o b=some u:=λb u m e=>kp b u (λz=>nm (z▸m)) e;show#[#[c.g.loc H _ L.base.oQ λb u g e=>kp b u (λz=>g.elim (λg=>ng (z▸g)) λ#[φ,f]=>by subst f;rw[z,q0] at e;cases e;exact r0.next) e,λb u e g=>?_,λb m=>?_,L.base.mo,L.base.m0,L.base.mn],L.len,?_,λi e h=>?_,L.own,λl e b h1 h2=>?_,λl m e f b h1 h2 g1 g2=>?_,L.lt]
 .exact kp b u (λz=>by rw[z,h0] at e;cases e) (L.base.fr b u e g)
 .let(u,e):=L.base.md b m;exact#[u,km b u m e]
 .show as.length=(s.os.set k _).length;rw[TC];exact L.d4
 .let(w,h1,h2):=L.dat i e h;exact#[w,h1,Rep.mono (λ_ m=>m) km e w h2]
 .rcases b7 h1 with ⟨rfl,hl,q⟩ | ⟨ne,q⟩
  .cases q;rw[ha] at h2;cases h2;exact#[#[o,ay,r.mono (λ_ m=>m) km],nm,ng,h0]
  .let((u,q1,q2),q3):=L.obj l e b q h2;show#[#[u,kp b u (λz=>?_) q1,q2.mono (λ_ m=>m) km],q3];subst z;exact ne (L.inj k l d0 e b hk q ha h2)
 .have back:∀ {l:Nat} {e:D},(s.put k d).os[l]?=some (some e)->∃ e',s.os[l]?=some (some e'):=λ{l e} h=>by
   rcases b7 h with ⟨rfl,hl,q⟩ | ⟨ne,q⟩
   .exact#[d0,hk]
   .exact#[e,q]
  let(e',q1):=back h1;let(f',q2):=back h2;exact L.inj l m e' f' b q1 q2 g1 g2
theorem Ext.jl{d0:D}{k:Nat}(hk:s.os[k]?=some (some d0))(ha:as[k]?=some a):Ext c as M s H M (s.put k d) (upd H a o) where
 sub:=λ_ m=>m
 new:=λ_ m=>.inl m
 keep:=λb u e g w=>by
  have ne:b≠a:=λz=>by
   subst z;exact w #[k,d0,hk,ha]
  rw[av ne];exact e
 jk:=λb z6r=>by
  let(l,e,h1,h2):=z6r;rcases b7 h1 with ⟨rfl,hl,q⟩ | ⟨ne,q⟩
  .exact#[k,d0,hk,h2]
  .exact#[l,e,q,h2]
theorem aA.slot{i k:Nat}{d0:D}(L:aA K c M s as σ H)(hi:s.sl[i]?=some (.own k))(hk:s.os[k]?=some (some d0)):∃ a o,as[k]?=some a/\σ[i]?=some (some (.ref a))/\H a=some o/\cw K H M d0 o:=by
 let(a,h1,h2):=L.own i k hi;let((o,q1,q2),_):=L.obj k d0 a hk h1;exact#[a,o,h1,h2,q1,q2]
end
section
variable{X:Cx}{c:Ent}{a b e:Cl}{es:!Cl}{ta tb te:aW}{st:FM}{pG:!FM}{t u:jc}{pos:Pos}
def FW:jc:=λR s=>R.nx s
def IQ(t u:jc):jc:=λR s=>t { R with nx:=u R } s
theorem aK:sL X c [] FW:=#[mO.imp λE σ H zz=>cU zz λM s as R L q k=>k.nx s as M σ H q L .refl]
theorem af(h1:o5 X c st t)(h2:sL X c pG u):sL X c (st::pG) (IQ t u):=#[(bF h1.ps h2.ps).imp λE σ H zz=>cU zz λM s as R L q k =>
 #[M,s,as,{ R with nx:=u R },L,q,#[λs' as' M' σ' H' r L' G=>#[M',s',as',R,L',r,k.grow G],k.bk,k.ct,k.rt,k.rf,k.rs]]]
theorem aj(h1:o5 X c st t):sL X c [st] t:=#[eV h1.ps]
theorem nZ:sL X c pG (λ_ _=>False):=#[yE.imp λE σ H zz=>cU zz λM s as R L q k=>q.elim]
def Av(te:aW):jc:=λR s=>te s λ_ s1=>R.nx s1
theorem dS(he:DE X c e te)(hs:(swapsWith e none pos.line X.env=pure false)⁻¹):o5 X c (.Expr e pos) (Av te):=#[(C9 he.pe hs).imp λE σ H zz=>cU zz λM s as R L q k =>
 #[M,s,as,_,L,q,λd s1 r M' H' v L' E' rv=>k.nx s1 as M' σ H' r L' (E'.grow L)]]
def Ef(te:aW):jc:=λR s=>te s λd _=>R.rt d
theorem aG(he:DE X c e te):o5 X c (.Return (some e) pos) (Ef te):=#[(iL he.pe).imp λE σ H zz=>cU zz λM s as R L q k =>
 #[M,s,as,_,L,q,λd s1 r M' H' v L' E' rv=>k.rt d M' H' v r L'.base rv]]
def OH(tc:kY)(t u:jc):jc:=λR s=>tc s λb s1=>if b=true then t R s1 else u R s1
theorem bD{x:Cl}{l r:!FM}{tc:kY}(hc:DT X c x tc)(ha:sL X c l t)(hb:sL X c r u):o5 X c (.If x l r pos) (OH tc t u):=#[(zA hc.pt ha.ps hb.ps).imp λE σ H zz=>cU zz λM s as R L q k =>
 #[M,s,as,_,L,q,λb s1 r M' H' L' E'=>by
  cases b with
  | true=>exact mh #[M',s1,as,R,L',by simpa using r,k.grow (E'.grow L)]
  | false=>exact rB #[M',s1,as,R,L',by simpa using r,k.grow (E'.grow L)]]]
def BP(i:Nat)(te:aW):jc:=λR s=>te s λd s1=>R.nx (s1.set i (.dat d))
theorem FN{i:Nat}{Q2:TE}(h:∀ {σ H Q},tE X.K c te σ H Q->Q2 σ H Q){E:Ends}{σ:St}{H:Hp}:tS X.K c (BP i te) E σ H->jr Q2 (dm i) E σ H:=λzz=>cU zz λM s as R L q k =>
 h #[M,s,as,_,L,q,λd s1 r M' H' v L' E' rv=>k.nx _ as M' _ H' r (L'.B6 i rv) (E'.grow L)]
theorem lO{i:Nat}(h:PS X st (jr (tE X.K c te) (dm i))):o5 X c st (BP i te):=#[h.imp λE σ H=>FN λq=>q]
def ltB{α:Type}:Nat->!α->Bool
 | 0,[]=>false
 | _+1,[]=>false
 | 0,_::_=>true
 | k+1,_::r=>ltB k r
theorem Ag{α:Type}:∀ {k:Nat} {l:!α},ltB k l=true->k < l.length
 | 0,[],h=>by cases h
 | _+1,[],h=>by cases h
 | 0,_::_,_=>by simp
 | k+1,_::r,h=>by
  have:=Ag (k:=k) (l:=r) h;simp;cbv
def EY(i k:Nat)(te:aW):jc:=λR s=>te s λd s1=>(ltB k s1.os=true/\noRef k i s1.sl=true)/\R.nx #[s1.sl.set i (.own k),s1.os.set k (some d)]
theorem zF{i k:Nat}(h:PS X st (jr (tN X.K c te) (dm i)))(gq:c.g.oV.length<=k:=by first | exact S3 _ | exact Sx _ | exact Nat.succ_le_succ (S3 _)):o5 X c st (EY i k te):=#[h.imp λE σ H zz=>cU zz λM s as R L q kk =>
 #[M,s,as,_,L,q,λd s1 #[#[hk,nr],r] M' H' a o L' E' ha ro nm ng nw h0 hn=>kk.nx _ _ M' _ H' r (L'.NC i k (Ag hk) nr ha ro nm ng nw h0 gq) (E'.grow L)]]
abbrev nA:=D->DS->(DS->Prop)->Prop
abbrev vH:=!D->DS->(DS->Prop)->Prop
def tG(K:Frag)(c:Ent)(n:Nat)(g:nA):TG:=λv σ H Q=>∃ M s as d R,aA K c M s as σ H/\Rep K H M d v/\g d s R/\∀ s',R s'->∀ σ',aA K c M s' as σ' H->(∀ i,n<=i->σ'[i]?=σ[i]?)->s'.os=s.os->Q σ' H
def R7(K:Frag)(c:Ent)(n:Nat)(g:vH):DP:=λvs σ H Q=>∃ M s as ds R,aA K c M s as σ H/\aw K H M ds vs/\g ds s R/\∀ s',R s'->∀ σ',aA K c M s' as σ' H->(∀ i,n<=i->σ'[i]?=σ[i]?)->s'.os=s.os->Q σ' H
structure DG(X:Cx)(c:Ent)(n:Nat)(tg:Cl)(g:nA):Prop where
 pg:PG X tg (tG X.K c n g)
structure MU(X:Cx)(c:Ent)(n:Nat)(ts:!Cl)(g:vH):Prop where
 pg:Eh X ts (R7 X.K c n g)
theorem _root_.L2.PG.imp{tg:Cl}{t t':TG}(h:PG X tg t)(w:∀ v σ H Q,t' v σ H Q->t v σ H Q):PG X tg t':=λSc s σ H v u Q I r q=>h Sc s σ H v u Q I r (w v σ H Q q)
theorem _root_.L2.Eh.imp{tg:!Cl}{t t':DP}(h:Eh X tg t)(w:∀ v σ H Q,t' v σ H Q->t v σ H Q):Eh X tg t':=λSc s σ H v u Q I r q=>h Sc s σ H v u Q I r (w v σ H Q q)
section
variable{n:Nat}{tg:Cl}{EF:!Cl}{g:nA}{gs:vH}
def rN(i:Nat):nA:=λd s Q=>Q (s.set i (.dat d))
theorem iT{i:Nat}(h:PG X tg (dm i))(hi:i < n):DG X c n tg (rN i):=#[h.imp λv σ H Q z4q=>by let(M,s,as,d,R,L,r,q,k):=z4q;exact k _ q _ (L.B6 i r) (λj hj=>SM (by cbv)) U]
def Jg:vH:=λds s Q=>ds=[]/\Q s
def F0(g:nA)(gs:vH):vH:=λds s Q=>∃ d r,ds=d::r/\g d s λs1=>gs r s1 Q
theorem cG:MU X c n [] Jg:=#[Du.imp λv σ H Q z5q=>by
 let(M,s,as,ds,R,L,r,(e,q),k):=z5q;subst e;exact#[r,k s q σ L (λ_ _=>rfl) U]]
theorem az(h1:DG X c n tg g)(h2:MU X c n EF gs)(hs:((assignEach (tg::EF) X.env).map (·.2)=assign tg X.env::(assignEach EF X.env).map (·.2))⁻¹):MU X c n (tg::EF) (F0 g gs) :=
 #[(AZ h1.pg h2.pg hs).imp λv σ H Q z6q=>by
   let(M,s,as,ds,R,L,r,(d,dr,e,q),k):=z6q;subst e;let(x,xr,rfl,r1,r2):=r;exact#[x,xr,U,M,s,as,d,_,L,r1,q,λs1 q1 σ1 L1 e1 o1=>#[M,s1,as,dr,R,L1,r2,q1,λs2 q2 σ2 Lb e2 o2=>k s2 q2 σ2 Lb (λi hi=>(e2 i hi).trans (e1 i hi)) (o2.trans o1)]]]
def K1(m:Nat)(gs:vH):nA:=λd s Q=>∃ ds,d=.tup ds/\ds.length=m/\gs ds s Q
theorem cK{k m:Nat}(hc:X.calm=true)(h:MU X c n EF gs)(hn:((assignEach EF X.env).length=m)⁻¹)(lQ:((assignEach EF X.env).findIdx? (·.1)=none)⁻¹):DG X c n (.Tuple EF k pos) (K1 m gs) :=
 #[(FH hc h.pg hn lQ).imp λv σ H Q z7q=>by
   let(M,s,as,d,R,L,r,(ds,e,hl,q),kk):=z7q;subst e;let(a,xs,rfl,t,r):=r;exact#[a,xs,U,t.sq,r.length.trans hl,M,s,as,ds,R,L,r,q,kk]]
def Kn(te:aW)(g:nA):jc:=λR s=>te s λd s1=>g d s1 R.nx
theorem jG(he:DE X c e te)(hg:DG X c n tg g)(hs:(swapsWithSole [tg] e pos.line X.env=pure false)⁻¹)(hw:(swappedStores [tg] e X.env=pure none)⁻¹)(h1:((assignEach [tg] X.env).map (·.2)=[assign tg X.env])⁻¹):o5 X c (.Assign [tg] e pos) (Kn te g):=#[(A1 he.pe hg.pg hs hw h1).imp λE σ H zz=>cU zz λM s as R L q k =>
 #[M,s,as,_,L,q,λd s1 r M' H' v L' E' rv=>#[M',s1,as,d,_,L',rv,r,λs2 q2 σ2 Lb _ _=>k.nx s2 as M' σ2 H' q2 Lb (E'.grow L)]]]
end
def Sh(K:Frag)(M:AC->Prop)(H:Hp)(d:D)(x:V)(H':Hp):Prop :=
 (H'=H/\Rep K H M d x)\/∃ p o,H p=none/\H'=upd H p o/\Rep K H' (λb=>M b\/b=p) d x
def Ko(K:Frag)(M:AC->Prop)(H:Hp)(ds:!D)(J:It):Prop:=∀ M1 H1,dP M H M1 H1 ->
 (∀ i,ds.length<=i->J.stop i H1)/\∀ i d,ds[i]?=some d->J.go i H1/\∀ x H2,J.IH i H1 x H2->Sh K M1 H1 d x H2
def tI(K:Frag)(c:Ent)(t:eF):TI:=λσ H R=>∃ M s as R0,aA K c M s as σ H/\t s R0/\∀ ds s',R0 ds s'->∀ M' H' J,aA K c M' s' as σ H'->Ext c as M s H M' s' H'->Ko K M' H' ds J->ds.length<=Ev->R J H'
structure DI(X:Cx)(c:Ent)(tg iter:Cl)(t:eF):Prop where
 pi:PI X tg iter (tI X.K c t)
def ll(g:nA)(tb:jc)(R:ju):!D->DS->Prop
 | [],s=>R.nx s
 | x::xs,s=>g x s λs1=>tb { R with nx:=λs'=>ll g tb R xs s',ct:=λs'=>ll g tb R xs s',bk:=R.nx } s1
def EL(ti:eF)(g:nA)(tb:jc):jc:=λR s=>ti s λxs s1=>ll g tb R xs s1
theorem drop_cons{α:Type}{l:!α}{i:Nat}{x:α}(h:l[i]?=some x):l.drop i=x::l.drop (i+1):=by
 let(hl,e):=Sw.mp h;rw[Tg hl,e]
theorem Jm{n:Nat}{tg iter:Cl}{body:!FM}{ti:eF}{g:nA}{tb:jc}(hp:PassesOwn (model X.prog X.w) X.A X.env X.xe)(hc:X.calm=true)(hi:DI X c tg iter ti)(hg:DG X c n tg g)(hb:sL X c body tb)(hs:UX iter X.env:=by intro _;rfl):o5 X c (.For tg iter body [] pos) (EL ti g tb):=#[(BS hp hc hi.pi hg.pg hb.ps hs).imp λE σ H zz=>cU zz λM s as R L q k=>by
 show#[M,s,as,_,L,q,λxs s1 q1 M1 H1 J L1 E1 io hlen=>?_];show#[λi m σ' H'=>i<=xs.length/\m=xs.length - i/\∃ M' s' as',aA X.K c M' s' as' σ' H'/\dP M1 H1 M' H'/\ll g tb R (xs.drop i) s',#[_,S3 _,U,M1,s1,as,L1,.refl,q1],?_];rintro i m σ' H' ⟨hi,rfl,M',s',as',L',G',q'⟩;let(h1,h2):=io M' H' G';by_cases gq:i < xs.length
 .refine .inr ?_;have hx:xs[i]?=some xs[i]:=SJ gq;let(hgo,hy):=h2 i _ hx;rw[drop_cons hx] at q';have next:∀ s2 as2 M2 σ2 H2,ll g tb R (xs.drop (i+1)) s2->aA X.K c M2 s2 as2 σ2 H2->dP M1 H1 M2 H2->∃ m',m' < xs.length - i/\(i+1<=xs.length/\m'=xs.length - (i+1)/\∃ M' s' as',aA X.K c M' s' as' σ2 H2/\dP M1 H1 M' H2/\ll g tb R (xs.drop (i+1)) s') :=
   λs2 as2 M2 σ2 H2 f L2 G2=>#[xs.length - (i+1),by cbv,gq,U,M2,s2,as2,L2,G2,f]
  show#[hgo,λσ2 H2=>∃ s2 as2 M2,ll g tb R (xs.drop (i+1)) s2/\aA X.K c M2 s2 as2 σ2 H2/\dP M1 H1 M2 H2,λσ2 H2 z8q=>by let(s2,as2,M2,f,L2,G2):=z8q;exact next s2 as2 M2 σ2 H2 f L2 G2,λx H2 y=>?_];have go:∀ M2,aA X.K c M2 s' as' σ' H2->Rep X.K H2 M2 xs[i] x->dP M1 H1 M2 H2->dP M H M2 H2->tG X.K c n g x σ' H2 λσ2 H2=>tS X.K c tb { nx:=λσ2 H2=>∃ s2 as2 M2,ll g tb R (xs.drop (i+1)) s2/\aA X.K c M2 s2 as2 σ2 H2/\dP M1 H1 M2 H2,rt:=E.rt,bk:=E.nx,ct:=λσ2 H2=>∃ s2 as2 M2,ll g tb R (xs.drop (i+1)) s2/\aA X.K c M2 s2 as2 σ2 H2/\dP M1 H1 M2 H2 } σ2 H2:=λM2 L2 r2 G2 G0 =>
   #[M2,s',as',_,_,L2,r2,q',λs3 q3 σ3 L3 _ _=>#[M2,s3,as',_,L3,q3,#[λs4 as4 M4 σ4 H4 f L4 G4=>#[s4,as4,M4,f,L4,G2.trans G4],λs4 as4 M4 σ4 H4 f L4 G4=>k.nx s4 as4 M4 σ4 H4 f L4 (G0.trans G4),λs4 as4 M4 σ4 H4 f L4 G4=>#[s4,as4,M4,f,L4,G2.trans G4],k.rt,k.rf,k.rs]]]
  rcases hy x H2 y with ⟨rfl,r⟩ | ⟨p,o,hp,rfl,r⟩
  .exact go M' L' r G' ((E1.grow L).trans G')
  .have G2:dP M' H' (λb=>M' b\/b=p) (upd H' p o):=λb mb=>#[.inl mb,λu e=>by rw[av (aE e hp)];exact e];exact go _ (L'.fresh hp) r (G'.trans G2) (((E1.grow L).trans G').trans G2)
 .have e:i=xs.length:=by cbv
  subst e;rw[UJ] at q';exact .inl #[h1 _ (Sx _),k.nx s' as' M' σ' H' q' L' ((E1.grow L).trans G')]]
def CO(tc:kY)(tb:jc):jc:=λR s=>∃ W:Nat->DS->Prop,(∃ m,W m s)/\∀ m s,W m s->tc s λb s1=>if b=true then tb { R with nx:=λs'=>∃ m',m' < m/\W m' s',ct:=λs'=>∃ m',m' < m/\W m' s',bk:=R.nx } s1 else R.nx s1
theorem mM{x:Cl}{body:!FM}{tc:kY}{tb:jc}(hp:PassesOwn (model X.prog X.w) X.A X.env X.xe)(hc:DT X c x tc)(hb:sL X c body tb):o5 X c (.While x body [] pos) (CO tc tb):=#[(uy hp hc.pt hb.ps).imp λE σ H z9q=>by
 let(M,s,as,R,L,(W,(m0,w0),turn),k):=z9q;show#[λm σ' H'=>∃ M' s' as',aA X.K c M' s' as' σ' H'/\dP M H M' H'/\W m s',#[m0,M,s,as,L,.refl,w0],?_];rintro m σ' H' ⟨M',s',as',L',G',w'⟩;show#[M',s',as',_,L',turn m s' w',λb s1 q1 M1 H1 L1 E1=>?_];cases b with
 | true =>
  show mh #[λσ2 H2=>∃ s2 as2 M2,(∃ m',m' < m/\W m' s2)/\aA X.K c M2 s2 as2 σ2 H2/\dP M H M2 H2,λσ2 H2 z0q=>by let(s2,as2,M2,(m',hm,w2),L2,G2):=z0q;exact#[m',hm,M2,s2,as2,L2,G2,w2],?_];have G1:=G'.trans (E1.grow L');exact#[M1,s1,as',{ R with nx:=λs'=>∃ m',m' < m/\W m' s',ct:=λs'=>∃ m',m' < m/\W m' s',bk:=R.nx },L1,by simpa using q1,#[λs4 as4 M4 σ4 H4 f L4 G4=>#[s4,as4,M4,f,L4,G1.trans G4],λs4 as4 M4 σ4 H4 f L4 G4=>k.nx s4 as4 M4 σ4 H4 f L4 (G1.trans G4),λs4 as4 M4 σ4 H4 f L4 G4=>#[s4,as4,M4,f,L4,G1.trans G4],k.rt,k.rf,k.rs]]
 | false=>exact rB (k.nx s1 as' M1 σ' H1 (by simpa using q1) L1 (G'.trans (E1.grow L')))]
end
abbrev UR:=!D->(D->Prop)->Prop
def bf(K:Frag)(g:yI)(t:UR):Sp:=λvs H Q _=>∃ M ds R,Base #[g,M,H] M H/\aw K H M ds vs/\t ds R/\∀ d,R d->∀ M' H' v,Base #[g,M,H] M' H'->Rep K H' M' d v->Q v H'
section
variable{K:Frag}{c:Ent}{M M' M1:AC->Prop}{s s' s1:DS}{as:!AC}{σ:St}{H H' H1:Hp}
theorem Base.here(B:Base c M H):Base #[c.g,M,H] M H:=#[B.oQ,λ_ _ e _=>e,B.md,B.mo,λ_ m=>m,λ_ m=>.inl m]
theorem Base.xO(B:Base c M H):Base #[.no,M,H] M H:=#[trivial,λ_ _ e _=>e,B.md,λ_ _ h=>h,λ_ m=>m,λ_ m=>.inl m]
theorem Base.CG(B:Base c M H)(B':Base #[.no,M,H] M' H'):Base #[c.g,M,H] M' H' where
 oQ:=c.g.loc H H' B.oQ λb o _ e=>B'.fr b o e λz=>z
 fr:=λb o e _=>B'.fr b o e λz=>z
 md:=B'.md
 mo:=λb m g=>by
  rcases B'.mn b m with m | n | ⟨xs,n⟩
  .exact B.mo b m g
  .let(o,e):=c.g.HN H b B.oQ g;have n:H b=none:=n;rw[n] at e;cases e
  .exact c.g.nt H b xs B.oQ g n
 m0:=B'.m0
 mn:=B'.mn
theorem aA.after(L:aA K c M s as σ H)(B:Base #[c.g,M,H] M' H'):aA K c M' s as σ H' where
 base:=#[B.oQ,λb o e g=>B.fr b o (L.base.fr b o e g) g,B.md,B.mo,λb m=>B.m0 b (L.base.m0 b m),λb m=>by
  rcases B.mn b m with m | n | ⟨xs,n⟩
  .exact L.base.mn b m
  .exact .inr (.inl (L.base.uR n))
  .have n:H b=some (.tup xs):=n;show .inr ?_;cases e:c.H0 b with
   | none=>exact .inl e
   | some o =>
    have:=L.base.fr b o e λg=>c.g.nt H b xs L.base.oQ g n;rw[n] at this;cases this;exact .inr #[xs,e]]
 len:=L.len
 d4:=L.d4
 dat:=λi d e=>by
  let(v,h1,h2):=L.dat i d e;exact#[v,h1,Rep.mono B.m0 (λb o m e=>B.fr b o e (L.base.mo b m)) d v h2]
 own:=L.own
 obj:=λk d a h1 h2=>by
  let((o,q1,q2),nm,ng,h0):=L.obj k d a h1 h2;show#[#[o,B.fr a o q1 ng,q2.mono B.m0 λb o m e=>B.fr b o e (L.base.mo b m)],λm=>?_,ng,h0];rcases B.mn a m with m | n | ⟨xs,n⟩
  .exact nm m
  .have n:H a=none:=n;rw[n] at q1;cases q1
  .have n:H a=some (.tup xs):=n;rw[n] at q1;cases q1;exact q2.CM
 inj:=L.inj
 lt:=L.lt
theorem Ext.after(B:Base #[c.g,M,H] M' H'):Ext c as M s H M' s H':=#[B.m0,λb m=>by
 rcases B.mn b m with m | n
 .exact .inl m
 .exact .inr (.inl n),λb o e g _=>B.fr b o e g,λ_ h=>h]
end
section
variable{X:Cx}{c:Ent}{k:Nat}{f:AC}{fd:GT}{ps:!Str}{t:UR}{x:Str}{p pos:Pos}{e:Cl}{es:!Cl}{ta:eF}
def lp(t:UR)(ta:eF):aW:=λs Q=>ta s λds s1=>t ds λd=>Q d s1
theorem yw{σ:St}{H:Hp}{Q:VK}{n:Nat}{E:XK}:tE X.K c (lp t ta) σ H Q->Ba (bf X.K c.g t) [] E (tA X.K c n ta) σ H Q:=λzz=>cU zz λM s as R L q kk =>
 #[M,s,as,_,L,q,λds s1 q1 M1 H1 vs L1 E1 r1 hl=>#[M1,ds,_,L1.base.here,by rw[SY];exact r1,q1,λd rd M' H' v B rv=>kk d s1 rd M' H' v (L1.after B) (E1.trans L1.base (Ext.after B)) rv]]
theorem Dg{σ:St}{H:Hp}{Q:VK}{n:Nat}{E:XK}:tE X.K c (lp t ta) σ H Q->Ba (bf X.K .no t) [] E (tA X.K c n ta) σ H Q:=λzz=>cU zz λM s as R L q kk =>
 #[M,s,as,_,L,q,λds s1 q1 M1 H1 vs L1 E1 r1 hl=>#[M1,ds,_,L1.base.xO,by rw[SY];exact r1,q1,λd rd M' H' v B rv=>kk d s1 rd M' H' v (L1.after (L1.base.CG B)) (E1.trans L1.base (Ext.after (L1.base.CG B))) rv]]
section
variable(hr:cx k X.A)(hg:Gl X x)(hm:X.mg x=some (.ref f))(hk:keepIn X.K (.ref f)=true)(hb:Binds X.K fd ps [])(ha:DA X c (e::es) ta)
include hr hg hm hk hb ha
theorem HL(F:bN X.prog X.w X.K X.mg X.base aP k f fd ps (bf X.K c.g t))(kJ: ~~~(UU x))(he:(US X.env e es)⁻¹)(ie:(UT X.env pos es)⁻¹) :
  DE X c (.Call (.Name x p) (e::es) [] pos) (lp t ta):=#[(kh F hr hg hm hk hb .nil (E:=E0) lN ha.pa kJ he ie).imp λ_ _ _=>yw]
theorem DQ(F:bN X.prog X.w X.K X.mg X.base aP k f fd ps (bf X.K .no t))(kJ: ~~~(UU x))(he:(US X.env e es)⁻¹)(ie:(UT X.env pos es)⁻¹) :
  DE X c (.Call (.Name x p) (e::es) [] pos) (lp t ta):=#[(kh F hr hg hm hk hb .nil (E:=E0) lN ha.pa kJ he ie).imp λ_ _ _=>Dg]
end
end
def eJ(n nos:Nat)(ds:!D):DS:=#[ds.map .dat++List.replicate (n - ds.length) .no,List.replicate nos none]
theorem mR{K:Frag}{g:yI}{M:AC->Prop}{H:Hp}{N:!Str}{nos:Nat}{ds:!D}{vs:!V}(B:Base #[g,M,H] M H)(r:aw K H M ds vs)(hg:g.oV=[]):aA K #[g,M,H] M (eJ N.length nos ds) (List.replicate nos 0) (L2.start N vs) H where
 base:=B
 len:=by
  have:=r.length;change (ds.map Sl.dat++List.replicate (N.length - ds.length) Sl.no).length=(vs.map some++List.replicate (N.length - vs.length) none).length;simp[this]
 d4:=by simp[eJ]
 dat:=λi d h=>by
  have hl:=r.length;by_cases hi:i < ds.length
  .have h':(ds.map Sl.dat)[i]?=some (.dat d):=by
    rw[eJ,List.getElem?_append_left (by simpa using hi)] at h;exact h
   rw[Tb] at h';let(e,h1,h2):=Te.mp h';cases h2;let(v,q1,q2):=r.get h1;show#[v,?_,q2];rw[L2.start,List.getElem?_append_left (by simp;cbv),List.getElem?_map,q1]
   rfl
  .rw[eJ,List.getElem?_append_right (by simpa using hi)] at h;have:=Sw.mp h;let(_,e):=this;simp at e
 own:=λi k h=>by
  by_cases hi:i < ds.length
  .rw[eJ,List.getElem?_append_left (by simpa using hi),List.getElem?_map] at h;let(e,h1,h2):=Te.mp h;cases h2
  .rw[eJ,List.getElem?_append_right (by simpa using hi)] at h;let(_,e):=Sw.mp h;simp at e
 obj:=λk d a h=>by
  let(_,e):=Sw.mp h;simp[eJ] at e
 inj:=λk l d e a h=>by
  let(_,e):=Sw.mp h;simp[eJ] at e
 lt:=λk a h=>by
  have h:g.oV[k]?=some a:=h;rw[hg] at h;cases h
section
variable{P:Fr}{w:Fa}{K:Frag}{mg:Str->Option AT}{base:EQ}
theorem Mq{x qual:Str}{st:FM}{f:AC}{fd:GT}{N ps:!Str}{k nos:Nat}{g:yI}{t:UR}(F:rH K x qual st f fd)(S:au N ps (ai st))(len:∀ ds R,t ds R->ds.length=ps.length)(hb:∀ (br:AT) (A:Fk) (outer:!Env) (s:Da) (H:Hp) (E:XK) (M:AC->Prop),cx k (A.deeper (envOfC qual (ai st) ↑s f br)) ->
   ∃ tb,sL (kB aP P w K mg base N qual (ai st) f br A outer s H E).y8 #[g,M,H] (aT st) tb/\∀ ds R,t ds R->tb { nx:=λ_=>R .bH,rt:=R } (eJ N.length nos ds))(hg:(g.oV=[])⁻¹):bN P w K mg base aP (k+1) f fd ps (bf K g t):=by
 show F.ok S (λvs H Q E h=>?_) λbr A outer s H vs Q E hr h=>?_
 .let(M,ds,R,B,r,q,_):=h;rw[r.length];exact len ds R q
 .let(M,ds,R,B,r,q,kk):=h;let(tb,h1,h2):=hb br A outer s H E M hr;exact#[_,h1.ps,M,_,_,_,mR B r hg,h2 ds R q,#[λs as M' σ H' r L _=>kk .bH r M' H' .bH L.base U,λ_ _ _ _ _ z=>z.elim,λ_ _ _ _ _ z=>z.elim,λd M' H' v r B' rv=>kk d r M' H' v B' rv,λ_ _ _ _ _ z=>z.elim,λ_ _ _ _ _ _ _ z=>z.elim]]
end
section
variable{K:Frag}{c:Ent}{M M' M1 M3 M6:AC->Prop}{s s' s1 s6:DS}{as:!AC}{σ σ4:St}{H H' H1 H3 H6:Hp}{a p q:AC}{o:HO}{d:D}{v:V}
def gP(nt:Nat)(us:!Nat)(s:DS):DS:=#[List.replicate nt .no++us.map λj=>s.sl.getD j .no,s.os]
theorem qe{nt:Nat}{us:!Nat}{i:Nat}{x:Sl}(hx:x≠.no)(h:(gP nt us s).sl[i]?=some x):∃ j,us[i - nt]?=some j/\nt<=i/\s.sl[j]?=some x:=by
 by_cases hi:i < nt
 .rw[gP,List.getElem?_append_left (by simpa using hi)] at h;let(_,e):=Sw.mp h;simp at e;exact absurd e.symm hx
 .rw[gP,List.getElem?_append_right (by simpa using hi)] at h;simp only[List.length_replicate] at h;rw[Tb] at h;let(j,h1,h2):=Te.mp h;show#[j,h1,by cbv,?_];rw[List.getD_eq_getElem?_getD] at h2;cases e:s.sl[j]? with
  | none=>rw[e] at h2;exact absurd h2.symm hx
  | some y=>rw[e] at h2;exact congrArg some h2
theorem uM{nt:Nat}{us:!Nat}{i j:Nat}{v:V}(hj:us[i - nt]?=some j)(hi:nt<=i)(h:σ[j]?=some (some v)):(L2.lift nt us σ)[i]?=some (some v):=by
 rw[L2.lift,List.getElem?_append_right (by simpa using hi),List.length_replicate,List.getElem?_map,hj,Option.map_some,h]
 rfl
theorem aA.inner(L:aA K c M s as σ H)(nt:Nat)(us:!Nat):aA K c M (gP nt us s) as (L2.lift nt us σ) H where
 base:=L.base
 len:=by simp[gP,L2.lift]
 d4:=L.d4
 dat:=λi d h=>by
  let(j,h1,h2,h3):=qe (by intro z;cases z) h;let(v,g1,g2):=L.dat j d h3;exact#[v,uM h1 h2 g1,g2]
 own:=λi k h=>by
  let(j,h1,h2,h3):=qe (by intro z;cases z) h;let(v,g1,g2):=L.own j k h3;exact#[v,g1,uM h1 h2 g2]
 obj:=L.obj
 inj:=L.inj
 lt:=L.lt
theorem aA.outer(L:aA K c M s as σ H)(E:Ext c as M s1 H M6 s6 H6)(hs:s1.os=s.os)(L6:aA K c M6 s6 as σ4 H6):aA K c M6 #[s.sl,s6.os] as σ H6 where
 base:=L6.base
 len:=L.len
 d4:=L6.d4
 dat:=λi d h=>by
  let(v,g1,g2):=L.dat i d h;have E':Ext c as M s H M6 s6 H6:=#[E.sub,λb m=>by
   rcases E.new b m with h | h | ⟨k,e,h1,h2⟩
   .exact .inl h
   .exact .inr (.inl h)
   .exact .inr (.inr #[k,e,by rw[<- hs];exact h1,h2]),λb o e g w=>E.keep b o e g λ#[k,e,h1,h2]=>w #[k,e,by rw[<- hs];exact h1,h2],λb w=>by
   let(k,e,h1,h2):=E.jk b w;exact#[k,e,by rw[<- hs];exact h1,h2]]
  exact#[v,g1,E'.rep L g2]
 own:=L.own
 obj:=L6.obj
 inj:=L6.inj
 lt:=L6.lt
theorem Ext.os{s2 QA:DS}(E:Ext c as M s H M' s' H')(hs:s.os=s2.os)(MP:s'.os=QA.os):Ext c as M s2 H M' QA H':=#[E.sub,λb m=>by
   rcases E.new b m with h | h | ⟨k,e,h1,h2⟩
   .exact .inl h
   .exact .inr (.inl h)
   .exact .inr (.inr #[k,e,by rw[<- hs];exact h1,h2]),λb o e g w=>E.keep b o e g λ#[k,e,h1,h2]=>w #[k,e,by rw[<- hs];exact h1,h2],λb z7r=>by
   let(k,e,h1,h2):=z7r;let(k,e,h1,h2):=E.jk b #[k,e,by rw[MP];exact h1,h2];exact#[k,e,by rw[<- hs];exact h1,h2]]
theorem aA.wr{ys:!V}(L:aA K c M s as σ H)(hq:H q=some (.lst ys))(nm:¬ M q)(ng:¬ c.g.own q)(nw:¬ eL s as q)(h0:c.H0 q=none):aA K c M s as σ (upd H q o):=by
 have kp:∀ b u,b≠q->H b=some u->upd H q o b=some u:=λb u ne e=>by rw[av ne];exact e
 have km:∀ b u,M b->H b=some u->upd H q o b=some u:=λb u m e=>kp b u (λz=>nm (z▸m)) e;show#[#[c.g.loc H _ L.base.oQ λb u g e=>kp b u (λz=>g.elim (λg=>ng (z▸g)) λ#[φ,f]=>by subst f;rw[z,hq] at e;cases e) e,λb u e g=>kp b u (λz=>by rw[z,h0] at e;cases e) (L.base.fr b u e g),λb m=>?_,L.base.mo,L.base.m0,L.base.mn],L.len,L.d4,λi e h=>?_,L.own,λl e b h1 h2=>?_,L.inj,L.lt]
 .let(u,e):=L.base.md b m;exact#[u,km b u m e]
 .let(w,h1,h2):=L.dat i e h;exact#[w,h1,Rep.mono (λ_ m=>m) km e w h2]
 .let((u,q1,q2),q3):=L.obj l e b h1 h2;show#[#[u,kp b u (λz=>?_) q1,q2.mono (λ_ m=>m) km],q3];subst z;exact nw #[l,e,h1,h2]
theorem Ext.wr(hn:H q=none)(E:Ext c as M s H M' s' H'):Ext c as M s H M' s' (upd H' q o):=#[E.sub,E.new,λb u e g w=>by
 rw[av (aE e hn)];exact E.keep b u e g w,E.jk]
theorem zX(L:aA K c M s as σ H)(E1:Ext c as M s H M1 s1 H1)(ng:¬ c.g.own a)(hn:H1 a=none):H a=none\/eL s as a:=by
 cases q:H a with
 | none=>exact .inl U
 | some u =>
  by_cases w:eL s as a
  .exact .inr w
  .have:=E1.keep a u q ng w;rw[hn] at this;cases this
end
def bM(nt:Nat)(us:!Nat)(g:nA)(ti:kY)(te:aW):!D->!D->DS->(!D->DS->Prop)->Prop
 | [],acc,s,Q=>Q acc s
 | x::xs,acc,s,Q=>g x (gP nt us s) λs1=>ti s1 λb s2=>if b=true then te s2 λy s3=>bM nt us g ti te xs (acc++[y]) #[s.sl,s3.os] Q else bM nt us g ti te xs acc #[s.sl,s2.os] Q
def oO(nt:Nat)(us:!Nat)(tx:eF)(g:nA)(ti:kY)(te:aW):aW:=λs Q=>tx s λxs s1=>bM nt us g ti te xs [] s1 λys s2=>Q (.lst ys) s2
structure IU(X:Cx)(c:Ent)(ifs:!Cl)(t:kY):Prop where
 Qv:Ig X ifs (tT X.K c t)
section
variable{X:Cx}{c:Ent}{e:Cl}{pos:Pos}
def cN:kY:=λs Q=>Q true s
theorem cj:IU X c [] cN:=#[λSc s σ H Q I z4q=>by let(M,s',as,R,L,q,k):=z4q;exact qS Sc s σ H Q I (k true s' q M H L .refl)]
theorem fD{t:kY}(h:DT X c e t):IU X c [e] t:=#[xX h.pt]
end
section
variable{X:Cx}{c:Ent}{ts:!Str}{us:!Nat}{scope:Scope}{tg elt iter:Cl}{ifs:!Cl}{pos:Pos}{tx:eF}{g:nA}{ti:kY}{te:aW}
theorem w8{σ:St}{H:Hp}{Q:VK}:tN X.K c (oO ts.length us tx g ti te) σ H Q->uA ts.length us (tI X.K c tx) (tG X.K c ts.length g) (tT X.K c ti) (tE X.K c te) σ H Q:=λzz=>cU zz λM s as R L q k=>by
 show#[M,s,as,_,L,q,λxs s1 q1 M1 H1 J L1 E1 io hlen=>?_];intro A hA;let(n1,n2,n3,n4):=notM L1 hA;show#[λi m ys H2=>i<=xs.length/\m=xs.length - i/\ys.length<=i/\∃ M' s' zs,aA X.K c M' s' as σ H2/\Ext c as M1 s1 H1 M' s' H2/\H2 A=some (.lst ys)/\aw X.K H2 M' zs ys/\¬ M' A/\bM ts.length us g ti te (xs.drop i) zs s' λys s2=>R (.lst ys) s2,
  #[_,S3 _,U,Sx _,M1,s1,[],L1.laid hA,Ext.laid hA,ay,U,n1,q1],?_]
 rintro i m ys H2 ⟨hi,rfl,hy,M',s',zs,L',E',hD,rz,nm,q'⟩;have nw:∀ {DY:DS},(∀ b,eL DY as b->eL s' as b)->¬ eL DY as A:=λh w=>n3 (E'.jk A (h A w));show#[hD,?_];have G':dP M1 H1 M' H2:=E'.grow L1;let(h1,h2):=io M' H2 G';by_cases gq:i < xs.length
 .refine .inr ?_;have hx:xs[i]?=some xs[i]:=SJ gq;let(hgo,hyl):=h2 i _ hx;rw[drop_cons hx] at q';show#[hgo,by cbv,λx H3 y=>?_];have go:∀ M3,aA X.K c M3 s' as σ H3->Rep X.K H3 M3 xs[i] x->Ext c as M' s' H2 M3 s' H3->H3 A=some (.lst ys)->¬ M3 A->tG X.K c ts.length g x (L2.lift ts.length us σ) H3 λσ4 H4=>Ak (L2.lift ts.length us σ) σ4/\tT X.K c ti σ4 H4 λb H5 =>
    if b=true then tE X.K c te σ4 H5 λy H6=>H6 A=some (.lst ys)/\∃ m',m' < xs.length - i/\(i+1<=xs.length/\m'=xs.length - (i+1)/\(ys++[y]).length<=i+1/\∃ M' s' zs,aA X.K c M' s' as σ (upd H6 A (.lst (ys++[y])))/\Ext c as M1 s1 H1 M' s' (upd H6 A (.lst (ys++[y])))/\upd H6 A (.lst (ys++[y])) A=some (.lst (ys++[y]))/\aw X.K (upd H6 A (.lst (ys++[y]))) M' zs (ys++[y])/\¬ M' A/\bM ts.length us g ti te (xs.drop (i+1)) zs s' λys s2=>R (.lst ys) s2)
    else ∃ m',m' < xs.length - i/\(i+1<=xs.length/\m'=xs.length - (i+1)/\ys.length<=i+1/\∃ M' s' zs,aA X.K c M' s' as σ H5/\Ext c as M1 s1 H1 M' s' H5/\H5 A=some (.lst ys)/\aw X.K H5 M' zs ys/\¬ M' A/\bM ts.length us g ti te (xs.drop (i+1)) zs s' λys s2=>R (.lst ys) s2):=by
   intro M3 L3 r3 E3 hD3 nm3;show#[M3,_,as,_,_,L3.inner ts.length us,r3,q',λs4 q4 σ4 L4 e4 o4=>#[λj v hj=>?_,M3,s4,as,_,L4,q4,λb s5 r5 M5 H5 L5 E5=>?_]]
   .by_cases hjn:j < ts.length
    .rw[L2.lift,List.getElem?_append_left (by simpa using hjn)] at hj;let(_,e):=Sw.mp hj;simp at e
    .rw[e4 j (by cbv)];exact hj
   .have E5':Ext c as M3 s' H3 M5 #[s'.sl,s5.os] H5:=E5.os o4 U;have L5':aA X.K c M5 #[s'.sl,s5.os] as σ H5:=L3.outer E5 o4 L5;have F5:Ext c as M' s' H2 M5 #[s'.sl,s5.os] H5:=E3.trans L3.base E5';have hD5:H5 A=some (.lst ys):=E5'.keep A _ hD3 n2 (nw λ_ h=>h);have nm5:¬ M5 A:=λm=>by
     rcases E5'.new A m with m | (m | ⟨_,m⟩) | m
     .exact nm3 m
     .rw[hD3] at m;cases m
     .rw[hD3] at m;cases m
     .exact nw (λ_ h=>h) m
    cases b with
    | false =>
     rw[if_neg SK] at r5;show rB ?_;exact#[xs.length - (i+1),by cbv,gq,U,by cbv,M5,_,zs,L5',E'.trans L'.base F5,hD5,F5.uY L' rz,nm5,r5]
    | true =>
     rw[if_pos U] at r5;show mh ?_;show#[M5,s5,as,_,L5,r5,λy s6 r6 M6 H6 v L6 E6 rv=>?_];have E6':Ext c as M5 #[s'.sl,s5.os] H5 M6 #[s'.sl,s6.os] H6:=E6.os U U;have L6':aA X.K c M6 #[s'.sl,s6.os] as σ H6:=L5'.outer E6 U L6;have F6:Ext c as M' s' H2 M6 #[s'.sl,s6.os] H6:=F5.trans L5'.base E6';have hD6:H6 A=some (.lst ys):=E6'.keep A _ hD5 n2 (nw F5.jk);have nm6:¬ M6 A:=λm=>by
      rcases E6'.new A m with m | (m | ⟨_,m⟩) | m
      .exact nm5 m
      .rw[hD5] at m;cases m
      .rw[hD5] at m;cases m
      .exact nw F5.jk m
     have kM:∀ b u,M6 b->H6 b=some u->upd H6 A (.lst (ys++[v])) b=some u:=λb u mb e=>by
      have ne:b≠A:=λz=>by
       subst z;exact nm6 mb
      rw[av ne];exact e
     show#[hD6,xs.length - (i+1),by cbv,gq,U,by simp;cbv,M6,_,zs++[y],L6'.wr hD6 nm6 n2 (nw F6.jk) n4,(E'.trans L'.base F6).wr hA,ay,?_,nm6,r6];exact aw.mono (λ_ h=>h) kM _ _ ((F6.uY L' rz).append (aw.one rv))
  rcases hyl x H3 y with ⟨rfl,r⟩ | ⟨p,o,hp,rfl,r⟩
  .exact go M' L' r .refl hD nm
  .have hpA:A≠p:=aE hD hp;exact go _ (L'.fresh hp) r (Ext.fresh hp) (by rw[av hpA];exact hD) λm=>by
    rcases m with m | m
    .exact nm m
    .exact hpA m
 .have e:i=xs.length:=by cbv
  subst e;rw[UJ] at q';show .inl #[h1 _ (Sx _),k _ s' q' M' H2 A _ L' (E1.trans L1.base E') hD rz nm n2 (nw λ_ h=>h) n4 (zX L E1 n2 hA)]
theorem Fj(S:bu X ts us scope)(hc:X.calm=true)(hi:DI X c tg iter tx)(hg:∀ C s H fp,DG (X.comp ts us scope C s H fp) c ts.length tg g)(zC:∀ C s H fp,IU (X.comp ts us scope C s H fp) c ifs ti)(he:∀ C s H fp,DE (X.comp ts us scope C s H fp) c elt te)(hs:UX iter X.env:=by intro _;rfl):DN X c (.ListComp elt [#[tg,iter,ifs,0]] scope pos) (oO ts.length us tx g ti te) :=
 #[(sk S hc hi.pi (λC s H fp=>(hg C s H fp).pg) (λC s H fp=>(zC C s H fp).Qv) (λC s H fp=>(he C s H fp).pe) hs).imp λ_ _ _=>w8]
theorem lD{i:Nat}{x:Str}{px z9:Pos}(hN:X.N.Nodup)(qk:X.N[i]?=some x)(hx:X.env.scope.names.lookup x=some .local)(S:bu X ts us scope)(hc:X.calm=true)(hi:DI X c tg iter tx)(hg:∀ C s H fp,DG (X.comp ts us scope C s H fp) c ts.length tg g)(zC:∀ C s H fp,IU (X.comp ts us scope C s H fp) c ifs ti)(he:∀ C s H fp,DE (X.comp ts us scope C s H fp) c elt te)(KY:(swapsWith (.ListComp elt [#[tg,iter,ifs,0]] scope pos) (some (.Name x px)) z9.line X.env=pure true)⁻¹)(hs:UX iter X.env:=by intro _;rfl):PS X (.Assign [.Name x px] (.ListComp elt [#[tg,iter,ifs,0]] scope pos) z9) (jr (tN X.K c (oO ts.length us tx g ti te)) (dm i)) :=
 (wB hN qk hx S hc hi.pi (λC s H fp=>(hg C s H fp).pg) (λC s H fp=>(zC C s H fp).Qv) (λC s H fp=>(he C s H fp).pe) KY hs).imp λE σ H q=>w8 q
theorem p6{i:Nat}{st:FM}{te:aW}(h:PS X st (jr (tN X.K c te) (dm i))):PS X st (jr (tE X.K c te) (dm i)):=h.imp λE σ H zz=>cU zz λM s as R L q k =>
 #[M,s,as,R,L,q,λd s' r M' H' a o L' E ha ro nm ng nw h0 hn =>
  k d s' r _ H' (.ref a) (L'.grown ha ng nw h0) (E.plus hn) ((ro.mono (λ_ h=>.inl h) λ_ _ _ e=>e).rep ha (.inr U))]
end
end DL
namespace HT
open PySem PyProof.Rows
variable{prog:Fr}{w:Fa}{A:Fk}{E:UP}{s:Da}
theorem js{t sl:AC}{items:Array AT}{vl vu:AT}{lo hi:Option Int}{Q:UP}(ht:IsTup s.heap t items)(hs:s.heap.IsSliceOf sl vl vu .none)(pl:IsPart vl lo)(pu:IsPart vu hi)(hw:bO items.size 0 lo=0/\bO items.size items.size hi=items.size)(h:Q (.ref t) s):Db (model prog w) A (getItem (.ref t) (.ref sl)) Q E s:=by
 let(os,uT,hcs,hds):=id hs;have hTs:s.TypeIs (.ref sl) "slice":=#[os,uT,hcs];unfold getItem
 try with_reducible show NE ?_
 first | show Ch (FB ?_) | skip
 show Ch (wpAny_sequenceKey ht.typeIs () ?_);show Ch (wpAny_callSpecial?_slot (name:=Str.ofString "__getitem__") ht.typeIs PyProof.Rows.slot_tuple_getitem
  (SL PyProof.Rows.slot_tuple_getitem ht.typeIs entry_tuple_getitem ?_ (args_tuple_getitem _ _)))
 change Db _ _ (FS.Tuple.tupleItemsOf (.ref t) >>= _) _ _ s;show Ch (tupleItemsOf_ ht ?_);show Ch (wpAny_typeOf hTs ?_);rw[if_pos ()];show Ch (gA hs pl pu ?_);have hno:(((bO items.size 0 lo:Nat):Int) == 0&&(1:Int) == 1&&(bO items.size items.size hi - bO items.size 0 lo) == items.size)=true:=by
  rw[hw.1,hw.2];simp
 change Db _ _ (if (((bO items.size 0 lo:Nat):Int) == 0&&(1:Int) == 1&&(bO items.size items.size hi - bO items.size 0 lo) == items.size)=true then _ else _) _ _ s;rw[if_pos hno];show Ch (m:=FS.Tuple.tupleIsExact (.ref t)) (Ch (wpAny_typeOf ht.typeIs (FB ?_)));rw[if_pos ()];exact Ch (wpAny_rule (FB #[_,U,FB h]))
end HT
namespace L2
open PySem PySem.Spec PyProof.Rows
section
variable{X:Cx}
def IA(K:Frag):V->Option Int->Option Int->Hp->VK->Prop:=λx lo hi H Q=>∃ a xs,x=.ref a/\jS K H a xs /\
 ((HT.bO xs.length 0 lo=0/\HT.bO xs.length xs.length hi=xs.length)->Q (.ref a) H)/\(¬ (HT.bO xs.length 0 lo=0/\HT.bO xs.length xs.length hi=xs.length)->∀ p,H p=none->Q (.ref p) (upd H p (.tup (nI xs lo hi))))
theorem Df:Ll X (IA X.K):=by
 intro Sc s σ H x v vl vu lo hi sl Q I rx hs pl pu h;let(a,xs,rfl,hx,q1,q2):=h;by_cases hw:HT.bO xs.length 0 lo=0/\HT.bO xs.length xs.length hi=xs.length
 .cases rx;let(its,r,ht,hz):=I.tuple hx;have hlen:its.toArray.size=xs.length:=by rw[SQ];exact r.length.symm
  exact#["tuple",_,PyProof.Rows.slot_tuple_getitem.lookup,ht.typeIs,HT.js ht hs pl pu (by rw[hlen];exact hw) #[.ref a,H,I,U,q1 hw]]
 .exact Ft Sc s σ H _ v vl vu lo hi sl Q I rx hs pl pu #[a,xs,U,hx,hw,q2 hw]
def O6(K:Frag)(tl:TE):TI:=λσ H R=>tl σ H λx H1=>∃ a,x=.ref a/\((∃ xs,dR K H1 a xs/\(xs.length<=Ev->R (Hv K a) H1))\/∃ xs,jS K H1 a xs/\(xs.length<=Ev->R (Qj K a) H1))
theorem GC{tg l:Cl}{tl:TE}(hl:PE X l tl):PI X tg l (O6 X.K tl):=by
 intro Sc s σ H R I h;show bx (hl Sc s σ H _ I h) λv s1 zz=>el2 zz λx H1 I1 r1 q1=>?_;let(a,e,q1):=q1;subst e;cases r1;have fp:∀ b∈[↑s1],ee X Sc H1 b:=λb hb=>by
  have e:b=↑s1:=by simpa using hb
  subst e;exact I1.mq (Sx _) (I1.bj.fresh (Sx _))
 rcases q1 with ⟨xs,hq,q⟩ | ⟨xs,hq,q⟩
 .let(its,rv,p,hz):=I1.list hq;show wpAny_pyIter_list p.isList ?_;exact#[↑s1,[↑s1],_,_,H1,U,I1.kept (t':=s1.toks) λb o e=>Su _ e,qa a _,#[_,SH _ U,U,U],fp,q hz]
 .let(its,rv,p,hz):=I1.tuple hq;show wpAny_pyIter_tuple (show s1.heap.IsTuple a its.toArray from p) ?_;exact#[↑s1,[↑s1],_,_,H1,U,I1.kept (t':=s1.toks) λb o e=>Su _ e,vA a _,#[_,SH _ U,U,U],fp,q hz]
end
end L2
namespace DL
open PySem PySem.Spec L2
open PyProof.Rows hiding St
section
variable{X:Cx}{c:Ent}
def cI(P:Int->Int->Prop)(f:Int->Int->Int):D->D->(D->Prop)->Prop:=λa b k=>∃ i j,a=.int i/\b=.int j/\P i j/\k (.int (f i j))
def QU(f:Int->Int->Int):D->D->(D->Prop)->Prop:=λa b k=>∃ i j,a=.int i/\b=.int j/\k (.int (f i j))
def Rj(f:Int->Int->Bool):D->D->(D->Prop)->Prop:=λa b k=>∃ i j,a=.int i/\b=.int j/\k (.bl (f i j))
theorem uD{P:Int->Int->Prop}{f:Int->Int->Int}:mG X c (rI P λi j=>.int (f i j)) (cI P f):=λM s as σ H x y dx dy k Q L rx ry z8r kk=>by
 let(i,j,e1,e2,hp,hk):=z8r;subst e1;subst e2;exact#[i,j,rx,ry,hp,kk _ hk M H _ L .refl U]
theorem eI{f:Int->Int->Int}:mG X c (sE λi j=>.int (f i j)) (QU f):=λM s as σ H x y dx dy k Q L rx ry z9r kk=>by
 let(i,j,e1,e2,hk):=z9r;subst e1;subst e2;exact#[i,j,rx,ry,kk _ hk M H _ L .refl U]
theorem nz{f:Int->Int->Bool}:mG X c (sE λi j=>.bl (f i j)) (Rj f):=λM s as σ H x y dx dy k Q L rx ry z0r kk=>by
 let(i,j,e1,e2,hk):=z0r;subst e1;subst e2;exact#[i,j,rx,ry,kk _ hk M H _ L .refl U]
def fv:D->V
 | .bH=>.bH
 | .bl b=>.bl b
 | .int i=>.int i
 | .str x=>.str x
 | .ty n=>.ty n
 | .cb a=>.ref a
 | _=>.ref 0
def gE:D->Bool
 | .bH=>true
 | .bl _=>true
 | .int _=>true
 | .str _=>true
 | _=>false
theorem Rep.flat{K:Frag}{H:Hp}{M:AC->Prop}{d:D}{v:V}(f:gE d=true)(r:Rep K H M d v):v=fv d:=by
 cases d<;>first | exact r | (cases f)
theorem mU{d:D}(f:gE d=true):jC (fv d)=true:=by
 cases d<;>first | rfl | (cases f)
theorem aw.flat{K:Frag}{H:Hp}{M:AC->Prop}:∀ {ds:!D} {vs:!V},ds.all gE=true->aw K H M ds vs->vs=ds.map fv/\vs.all jC=true
 | [],vs,f,r=>by
  have r:vs=[]:=r;subst r;exact#[U,U]
 | d::ds,vs,f,r=>by
  let(x,xr,rfl,r1,r2):=r;rw[UH,Tr] at f;let(h1,h2):=aw.flat f.2 r2;have e:=r1.flat f.1;subst e;exact#[by rw[SA,h1],by rw[UH,h2,mU f.1];rfl]
def RM:D->D->(D->Prop)->Prop:=λa b k=>(gE a=true/\gE b=true/\Dp (fv a) (fv b)=true)/\k (.bl (decide (fv a=fv b)))
def Ru:D->D->(D->Prop)->Prop:=λa b k=>(gE a=true/\gE b=true/\Dp (fv a) (fv b)=true)/\k (.bl (not (decide (fv a=fv b))))
theorem cF:mG X c OA RM:=λM s as σ H x y dx dy k Q L rx ry z1r kk=>by
 let((f1,f2,hs),hk):=z1r;have e1:=rx.flat f1;have e2:=ry.flat f2;subst e1;subst e2;exact#[hs,kk _ hk M H _ L .refl U]
theorem Dj:mG X c P9 Ru:=λM s as σ H x y dx dy k Q L rx ry z2r kk=>by
 let((f1,f2,hs),hk):=z2r;have e1:=rx.flat f1;have e2:=ry.flat f2;subst e1;subst e2;exact#[hs,kk _ hk M H _ L .refl U]
def Sd(neg:Bool):D->D->(D->Prop)->Prop:=λa b k=>∃ ds,(b=.lst ds\/b=.tup ds)/\(gE a=true/\ds.all gE=true)/\k (.bl (if neg then (not (yL (fv a) (ds.map fv))) else yL (fv a) (ds.map fv)))
theorem okIn{neg:Bool}:mG X c (HW X.K neg) (Sd neg):=λM s as σ H x y dx dy k Q L rx ry z3r kk=>by
 let(ds,hb,(f1,f2),hk):=z3r;have e1:=rx.flat f1;subst e1;have go:∀ {p xs},aw X.K H M ds xs->(dR X.K H p xs\/jS X.K H p xs)->HW X.K neg (fv dx) (.ref p) H Q:=λ{p xs} r h=>by
  let(e,f):=r.flat f2;show#[p,xs,U,h,mU f1,f,?_];rw[e];exact kk _ hk M H _ L .refl U
 rcases hb with rfl | rfl
 .let(p,xs,rfl,(m,h),r):=ry;exact go r (.inl (.of h))
 .let(p,xs,rfl,h,r):=ry;exact go r (.inr h.sq)
theorem aw.at{K:Frag}{H:Hp}{M:AC->Prop}{ds:!D}{vs:!V}{i:Int}{d:D}(r:aw K H M ds vs)(h:iw ds i=some d):∃ v,iw vs i=some v/\Rep K H M d v:=by
 unfold iw at h ⊢;rw[r.length];cases e:BF ds.length i with
 | none=>rw[e] at h;cases h
 | some j =>
  rw[e] at h;exact r.get h
def Ml:D->D->(D->Prop)->Prop:=λa b k=>∃ ds i d,a=.tup ds/\b=.int i/\iw ds i=some d/\k d
def Fe:D->D->(D->Prop)->Prop:=λa b k=>∃ ds i d,a=.lst ds/\b=.int i/\iw ds i=some d/\k d
def OM:D->D->(D->Prop)->Prop:=λa b k=>∃ z i ch,a=.str z/\b=.int i/\z.length<=Ev/\iw z.cps.toList i=some ch/\k (.str #[#v[ch]])
theorem Iw:mG X c (Lj X.K) Ml:=λM s as σ H x y dx dy k Q L rx ry z4r kk=>by
 let(ds,i,d,e1,e2,h,hk):=z4r;subst e1;subst e2;let(p,xs,rfl,t,r):=rx;let(v,h1,h2):=r.at h;exact#[p,xs,i,v,U,ry,t.sq,h1,kk _ hk M H _ L .refl h2]
theorem Lq:mG X c (Ff X.K) Fe:=λM s as σ H x y dx dy k Q L rx ry z5r kk=>by
 let(ds,i,d,e1,e2,h,hk):=z5r;subst e1;subst e2;let(p,xs,rfl,(m,t),r):=rx;let(v,h1,h2):=r.at h;exact#[p,xs,i,v,U,ry,.of t,h1,kk _ hk M H _ L .refl h2]
theorem AS:mG X c JS OM:=λM s as σ H x y dx dy k Q L rx ry z6r kk=>by
 let(z,i,ch,e1,e2,hz,h,hk):=z6r;subst e1;subst e2;exact#[z,i,ch,rx,ry,hz,h,kk _ hk M H _ L .refl U]
def NH:D->D->(D->Prop)->Prop:=λa b k=>∃ xs ys,a=.lst xs/\b=.lst ys/\xs.length+ys.length<=Ev/\k (.lst (xs++ys))
theorem bY:Hn X c Jz NH:=λM s as σ H x y dx dy k Q L rx ry z7r kk=>by
 let(xs,ys,e1,e2,hl,hk):=z7r;subst e1;subst e2;let(p,vs,rfl,(m,t),r):=rx;let(p',vs',rfl,(m',t'),r'):=ry;exact#[p,p',vs,vs',U,U,t,t',by rw[r.length,r'.length];exact hl,λq hq=>kk _ hk q _ hq (r.append r')]
abbrev DH:=DS->(Option Int->DS->Prop)->Prop
def tO(K:Frag)(c:Ent)(t:DH):TO:=λσ H Q=>∃ M s as R,aA K c M s as σ H/\t s R/\∀ o s',R o s'->∀ M' H',aA K c M' s' as σ H'->Ext c as M s H M' s' H'->Q o H'
structure DO(X:Cx)(c:Ent)(e:Option Cl)(t:DH):Prop where
 po:PO X e (tO X.K c t)
theorem _root_.L2.PO.imp{e:Option Cl}{t t':TO}(h:PO X e t)(w:∀ σ H Q,t' σ H Q->t σ H Q):PO X e t':=λSc s σ H Q I q=>h Sc s σ H Q I (w σ H Q q)
def N6:DH:=λs Q=>Q none s
def FE(te:aW):DH:=λs Q=>te s λd s1=>∃ i,d=.int i/\Q (some i) s1
theorem dk:DO X c none N6:=#[C0.imp λσ H Q zz=>cU zz λM s as R L q k=>k none s q M H L .refl]
theorem bc{e:Cl}{te:aW}(h:DE X c e te):DO X c (some e) (FE te):=#[(sH h.pe).imp λσ H Q zz=>cU zz λM s as R L q k =>
 #[M,s,as,_,L,q,λd s1 z8r M' H' v L' E' rv=>by
  let(i,e,r):=z8r;subst e;exact#[i,rv,k (some i) s1 r M' H' L' E']]]
def cutD(xs:!D)(lo hi:Option Int):!D:=(xs.drop (HT.bO xs.length 0 lo)).take (HT.bO xs.length xs.length hi - HT.bO xs.length 0 lo)
theorem aw.cut{K:Frag}{H:Hp}{M:AC->Prop}{ds:!D}{vs:!V}(lo hi:Option Int)(r:aw K H M ds vs):aw K H M (cutD ds lo hi) (nI vs lo hi):=by
 unfold cutD nI;rw[r.length];exact (r.drop _).take _
def Mi(te:aW)(tl th:DH)(k:!D->Option Int->Option Int->(D->Prop)->D->Prop):aW:=λs Q=>te s λa s1=>tl s1 λl s2=>th s2 λu s3=>∃ ds,k ds l u (λd=>Q d s3) a
def Sb:!D->Option Int->Option Int->(D->Prop)->D->Prop:=λds l u Q a=>a=.lst ds/\Q (.lst (cutD ds l u))
def Rx:!D->Option Int->Option Int->(D->Prop)->D->Prop:=λds l u Q a=>a=.tup ds/\Q (.tup (cutD ds l u))
theorem cD{e:Cl}{lo hi:Option Cl}{te:aW}{tl th:DH}{p2 pos:Pos}(he:DE X c e te)(hl:DO X c lo tl)(hu:DO X c hi th):DN X c (.Subscript e (.Slice lo hi none p2) pos) (Mi te tl th Sb):=#[(j4 xu he.pe hl.po hu.po).imp λσ H Q zz=>cU zz λM s as R L q k =>
 #[M,s,as,_,L,q,λd s1 q1 M1 H1 v L1 E1 rv=>#[M1,s1,as,_,L1,q1,λl s2 q2 M2 H2 Lb E2=>#[M2,s2,as,_,Lb,q2,λu s3 q3 M3 H3 Lc E3=>by
  let(ds,e,q):=q3;subst e;have E13:=E2.trans Lb.base E3;let(p,xs,rfl,(m,t),r):=E13.rep L1 rv;exact#[p,xs,U,.of t,λb hb=>ix (d:=.lst _) L Lc (E1.trans L1.base E13) hb (r.cut l u) (k _ s3 q)]]]]]
theorem mT{e:Cl}{lo hi:Option Cl}{te:aW}{tl th:DH}{p2 pos:Pos}(he:DE X c e te)(hl:DO X c lo tl)(hu:DO X c hi th):DE X c (.Subscript e (.Slice lo hi none p2) pos) (Mi te tl th Rx):=#[(j4 Df he.pe hl.po hu.po).imp λσ H Q zz=>cU zz λM s as R L q k =>
 #[M,s,as,_,L,q,λd s1 q1 M1 H1 v L1 E1 rv=>#[M1,s1,as,_,L1,q1,λl s2 q2 M2 H2 Lb E2=>#[M2,s2,as,_,Lb,q2,λu s3 q3 M3 H3 Lc E3=>by
  let(ds,e,q):=q3;subst e;have E13:=E2.trans Lb.base E3;have E0:=E1.trans L1.base E13;let(p,xs,rfl,t,r):=E13.rep L1 rv;show#[p,xs,U,t.sq,λhw=>?_,λhw b hb=>?_]
  .have e:cutD ds l u=ds:=by
    unfold cutD;rw[<- r.length,hw.1,hw.2,Uk,r.length,Nat.sub_zero,List.take_length]
   rw[e] at q;exact k _ s3 q M3 H3 _ Lc E0 #[p,xs,U,t,r]
  .exact k _ s3 q _ _ _ (Lc.fresh hb) (E0.trans Lc.base (Ext.fresh hb)) #[b,_,U,#[.inr U,ay],iV hb (r.cut l u)]]]]]
def Od:D->(D->Prop)->Prop:=λa k=>∃ ds,a=.lst ds/\k (.lst ds.reverse)
theorem Ai{e st:Cl}{te:aW}{p2 pos:Pos}(he:DE X c e te)(lQ:PE X st (tC (.int (-1)))):DN X c (.Subscript e (.Slice none none (some st) p2) pos) (O0 Od te):=#[(AF he.pe lQ).imp λσ H Q zz=>cU zz λM s as R L q k =>
 #[M,s,as,_,L,q,λd s1 z9r M1 H1 v L1 E1 rv=>by
  let(ds,e,q1):=z9r;subst e;let(p,xs,rfl,(m,t),r):=rv;exact#[p,xs,U,.of t,λb hb=>ix (d:=.lst _) L L1 E1 hb r.reverse (k _ s1 q1)]]]
def kO(C:UR)(t:eF):aW:=λs Q=>t s λds s1=>C ds λd=>Q d s1
def xH(X:Cx)(c:Ent)(r:!V->Hp->VK->Prop)(C:UR):Prop:=∀ (M:AC->Prop) (s:DS) (as:!AC) (σ:St) (H:Hp) (xs:!V) (ds:!D) (k:D->Prop) (Q:VK),aA X.K c M s as σ H->aw X.K H M ds xs->C ds k ->
 (∀ d,k d->∀ M' H' v,aA X.K c M' s as σ H'->Ext c as M s H M' s H'->Rep X.K H' M' d v->Q v H')->r xs H Q
def DD(X:Cx)(c:Ent)(r:!V->Hp->VK->Prop)(C:UR):Prop:=∀ (M:AC->Prop) (s:DS) (as:!AC) (σ:St) (H:Hp) (xs:!V) (ds:!D) (k:D->Prop) (Q:VK),aA X.K c M s as σ H->aw X.K H M ds xs->C ds k ->
 (∀ d,k d->∀ p o,H p=none->cw X.K H M d o->Q (.ref p) (upd H p o))->r xs H Q
section
variable{x:Str}{p pos:Pos}{e:Cl}{es:!Cl}{t:eF}{id T:String}{r:!V->Hp->VK->Prop}{C:UR}
theorem Ez{n:Nat}(k:xH X c r C){σ:St}{H:Hp}{Q:VK}:tE X.K c (kO C t) σ H Q->Fu r (tA X.K c n t) σ H Q:=λzz=>cU zz λM s as R L q kk =>
 #[M,s,as,_,L,q,λds s1 q1 M1 H1 vs L1 E1 r1 hl=>k M1 s1 as σ H1 vs ds (λd=>R d s1) Q L1 r1 q1 λd rd M' H' v L' E' rv=>kk d s1 rd M' H' v L' (E1.trans L1.base E') rv]
theorem Hw{n:Nat}(k:DD X c r C){σ:St}{H:Hp}{Q:VK}:tN X.K c (kO C t) σ H Q->Fu r (tA X.K c n t) σ H Q:=λzz=>cU zz λM s as R L q kk =>
 #[M,s,as,_,L,q,λds s1 q1 M1 H1 vs L1 E1 r1 hl=>k M1 s1 as σ H1 vs ds (λd=>R d s1) Q L1 r1 q1 λd rd p o hp ro=>ix L L1 E1 hp ro (kk d s1 rd)]
theorem bC(hc:dW X (.builtin id) r)(k:xH X c r C)(hg:Gl X x)(hm:X.mg x=none)(hv:bootBuiltins x=some (.builtin id))(ha:DA X c (e::es) t)(hn: ~~~(x≠"__name__"))(kJ: ~~~(UU x))(he:(US X.env e es)⁻¹)(ie:(UT X.env pos es)⁻¹):DE X c (.Call (.Name x p) (e::es) [] pos) (kO C t):=#[(fH hc hg hm hv ha.pa hn kJ he ie).imp λ_ _ _=>Ez k]
theorem cW(hc:dW X (.type T) r)(k:xH X c r C)(hg:Gl X x)(hm:X.mg x=none)(hv:bootBuiltins x=some (.type T))(ha:DA X c (e::es) t)(hn: ~~~(x≠"__name__"))(kJ: ~~~(UU x))(he:(US X.env e es)⁻¹)(ie:(UT X.env pos es)⁻¹):DE X c (.Call (.Name x p) (e::es) [] pos) (kO C t):=#[(pZ hc hg hm hv ha.pa hn kJ he ie).imp λ_ _ _=>Ez k]
theorem nW(hc:dW X (.type T) r)(k:DD X c r C)(hg:Gl X x)(hm:X.mg x=none)(hv:bootBuiltins x=some (.type T))(ha:DA X c (e::es) t)(hn: ~~~(x≠"__name__"))(kJ: ~~~(UU x))(he:(US X.env e es)⁻¹)(ie:(UT X.env pos es)⁻¹):DN X c (.Call (.Name x p) (e::es) [] pos) (kO C t):=#[(pZ hc hg hm hv ha.pa hn kJ he ie).imp λ_ _ _=>Hw k]
end
theorem cJ{K:Frag}{H:Hp}{M:AC->Prop}{d:D}{vs:!V}(r:aw K H M [d] vs):∃ v,vs=[v]/\Rep K H M d v:=by
 let(x,xr,rfl,r1,r2):=r;have r2:xr=[]:=r2;subst r2;exact#[x,U,r1]
theorem p8{K:Frag}{H:Hp}{M:AC->Prop}{d e:D}{vs:!V}(r:aw K H M [d,e] vs):∃ v w,vs=[v,w]/\Rep K H M d v/\Rep K H M e w:=by
 let(x,xr,rfl,r1,r2):=r;let(y,rfl,r3):=cJ r2;exact#[x,y,U,r1,r3]
def Hz:UR:=λas k=>∃ ds,(as=[.lst ds]\/as=[.tup ds])/\k (.int ds.length)
theorem Lf:xH X c (λxs H Q=>∃ p ys,xs=[.ref p]/\(dR X.K H p ys\/jS X.K H p ys)/\Q (.int ys.length) H) Hz:=λM s as σ H xs ds k Q L r z0r kk=>by
 let(es,hb,hk):=z0r;rcases hb with rfl | rfl
 .let(v,rfl,p,ys,rfl,(m,h),r'):=cJ r;show#[p,ys,U,.inl (.of h),?_];rw[r'.length];exact kk _ hk M H _ L .refl U
 .let(v,rfl,p,ys,rfl,h,r'):=cJ r;show#[p,ys,U,.inr h.sq,?_];rw[r'.length];exact kk _ hk M H _ L .refl U
def Ji:UR:=λas k=>∃ z,as=[.str z]/\z.length<=Ev/\k (.int z.length)
theorem Hu:xH X c (λxs H Q=>∃ z,xs=[.str z]/\z.length<=Ev/\Q (.int z.length) H) Ji:=λM s as σ H xs ds k Q L r z1r kk=>by
 let(z,e,hz,hk):=z1r;subst e;let(v,rfl,e):=cJ r;have e:v=.str z:=e;subst e;exact#[z,U,hz,kk _ hk M H _ L .refl U]
def Ob:UR:=λas k=>∃ i j,as=[.int i,.int j]/\k (.int (if j > i then j else i))
theorem Ee:xH X c (λxs H Q=>∃ i j,xs=[.int i,.int j]/\Q (.int (if j > i then j else i)) H) Ob:=λM s as σ H xs ds k Q L r z2r kk=>by
 let(i,j,e,hk):=z2r;subst e;let(v,w,rfl,e1,e2):=p8 r;have e1:v=.int i:=e1;have e2:w=.int j:=e2;subst e1;subst e2;exact#[i,j,U,kk _ hk M H _ L .refl U]
def KQ:UR:=λas k=>(∃ i,as=[.int i]/\k (.int i))\/∃ b,as=[.bl b]/\k (.int (if b then 1 else 0))
theorem mW:xH X c (λxs H Q=>(∃ i,xs=[.int i]/\Q (.int i) H)\/∃ k,xs=[.bl k]/\Q (.int (if k then 1 else 0)) H) KQ:=λM s as σ H xs ds k Q L r h kk=>by
 rcases h with ⟨i,rfl,hk⟩ | ⟨i,rfl,hk⟩
 .let(v,rfl,e1):=cJ r;have e1:v=.int i:=e1;subst e1;exact .inl #[i,U,kk _ hk M H _ L .refl U]
 .let(v,rfl,e1):=cJ r;have e1:v=.bl i:=e1;subst e1;exact .inr #[i,U,kk _ hk M H _ L .refl U]
def Ly:UR:=λas k=>∃ ds,(as=[.lst ds]\/as=[.tup ds])/\k (.lst ds)
theorem tj:DD X c (λxs H Q=>∃ p ys,xs=[.ref p]/\(dR X.K H p ys\/jS X.K H p ys)/\∀ l,H l=none->Q (.ref l) (upd H l (.lst ys))) Ly:=λM s as σ H xs ds k Q L r z3r kk=>by
 let(es,hb,hk):=z3r;rcases hb with rfl | rfl
 .let(v,rfl,p,ys,rfl,(m,h),r'):=cJ r;exact#[p,ys,U,.inl (.of h),λl hl=>kk _ hk l _ hl r']
 .let(v,rfl,p,ys,rfl,h,r'):=cJ r;exact#[p,ys,U,.inr h.sq,λl hl=>kk _ hk l _ hl r']
def GP:UR:=λas k=>∃ ds,(as=[.lst ds]\/as=[.tup ds])/\k (.tup ds)
theorem Kb:xH X c (λxs H Q=>∃ p ys,xs=[.ref p]/\((dR X.K H p ys/\∀ l,H l=none->Q (.ref l) (upd H l (.tup ys)))\/(jS X.K H p ys/\Q (.ref p) H))) GP:=λM s as σ H xs ds k Q L r z4r kk=>by
 let(es,hb,hk):=z4r;rcases hb with rfl | rfl
 .let(v,rfl,p,ys,rfl,(m,h),r'):=cJ r;exact#[p,ys,U,.inl #[.of h,λl hl=>kk _ hk _ _ _ (L.fresh hl) (Ext.fresh hl) #[l,ys,U,#[.inr U,ay],iV hl r']]]
 .let(v,rfl,p,ys,rfl,h,r'):=cJ r;exact#[p,ys,U,.inr #[h.sq,kk _ hk M H _ L .refl #[p,ys,U,h,r']]]
def Oj:UR:=λas k=>∃ bs:!Bool,as=[.lst (bs.map .bl)]/\k (.bl (bs.all id))
theorem xi{K:Frag}{H:Hp}{M:AC->Prop}:∀ {bs:!Bool} {vs:!V},aw K H M (bs.map .bl) vs->vs=bs.map V.bl
 | [],vs,r=>r
 | b::bs,vs,r=>by
  let(x,xr,rfl,r1,r2):=r;have r1:x=.bl b:=r1;rw[r1,xi r2,SA]
theorem I0:xH X c (λxs H Q=>∃ (p:AC) (bs:!Bool),xs=[.ref p]/\dR X.K H p (bs.map V.bl)/\Q (.bl (bs.all id)) H) Oj:=λM s as σ H xs ds k Q L r z5r kk=>by
 let(bs,e,hk):=z5r;subst e;let(v,rfl,p,ys,rfl,(m,h),r'):=cJ r;rw[xi r'] at h;exact#[p,bs,U,.of h,kk _ hk M H _ L .refl U]
def Ki(te:aW):eF:=λs Q=>te s λd s1=>∃ ds,(d=.lst ds\/d=.tup ds)/\Q ds s1
theorem bg{tg e:Cl}{te:aW}(he:DE X c e te):DI X c tg e (Ki te):=#[λSc s σ H R I zz=>cU zz λM s0 as R0 L q k=>GC he.pe Sc s σ H R I
 #[M,s0,as,_,L,q,λd s1 z6r M1 H1 v L1 E1 rv=>by
  let(ds,hd,q1):=z6r;rcases hd with rfl | rfl
  .let(p,xs,rfl,(m,h),r):=rv;show#[p,U,.inl #[xs,.of h,λhl=>k ds s1 q1 M1 H1 _ L1 E1 (λM2 H2 G=>?_) (by rw[<- r.length];exact hl)]];have h2:H2 p=some (.lst xs):=(G p m).2 _ h;have r2:=G.uY r;show#[λi hi=>#[xs,.of h2,by rw[r.length];exact hi],λi d hd=>?_];let(v,g1,g2):=r2.get hd;show#[#[xs,v,.of h2,g1],λx H3 #[e,hx]=>.inl #[e,?_]];have:=hx xs (.of h2);rw[g1] at this;cases this;exact g2
  .let(p,xs,rfl,h,r):=rv;show#[p,U,.inr #[xs,h.sq,λhl=>k ds s1 q1 M1 H1 _ L1 E1 (λM2 H2 G=>?_) (by rw[<- r.length];exact hl)]];have h2:jS X.K H2 p xs:=(h.mono (λb m=>(G b m).1) λb o m e=>(G b m).2 o e).sq;have r2:=G.uY r;show#[λi hi=>#[xs,h2,by rw[r.length];exact hi],λi d hd=>?_];let(v,g1,g2):=r2.get hd;show#[#[xs,v,h2,g1],λx H3 #[e,hx]=>.inl #[e,?_]];have:=hx xs h2;rw[g1] at this;cases this;exact g2]]
def c7(lo:Int)(n:Nat):!D:=(List.range n).map λi=>.int (lo+(i:Nat))
def En(t:eF):eF:=λs Q=>t s λds s1=>∃ j:Int,ds=[.int j]/\(-(2 ^ 62)<=j/\j<=16777216)/\Q (c7 0 j.toNat) s1
theorem An{K:Frag}{M:AC->Prop}{H:Hp}{lo:Int}{n:Nat}:Ko K M H (c7 lo n) (Mz lo n):=λM1 H1 G =>
 #[λi hi=>by
  change n<=i;simpa [c7] using hi,λi d hd=>by
  unfold c7 at hd;rw[Tb] at hd;let(j,h1,h2):=Te.mp hd;let(hl,e):=Sw.mp h1;simp at hl e;subst e;subst h2;exact#[hl,λx H2 #[e,hx]=>.inl #[e,hx]]]
section
variable{tg a b:Cl}{t:eF}{p pos:Pos}
theorem cV(hg:Gl X "range")(hm:X.mg "range"=none)(ha:DA X c [a] t)(hs:(GM [a] X.env=[(false,eval a X.env)])⁻¹):DI X c tg (.Call (.Name "range" p) [a] [] pos) (En t):=#[λSc s σ H R I zz=>cU zz λM s0 as R0 L q k=>yF hg hm ha.pa hs Sc s σ H R I
 #[M,s0,as,_,L,q,λds s1 z7r M1 H1 vs L1 E1 r _=>by
  let(j,e,(h1,h2),q1):=z7r;subst e;let(v,rfl,e):=cJ r;have e:v=.int j:=e;subst e;exact#[j,U,h1,by cbv,k _ s1 q1 M1 H1 _ L1 E1 An (by simp[c7,Ev];cbv)]]]
end
end
section
variable{X:Cx}{c:Ent}
def Oq:D->Bool
 | .lst _=>true
 | _=>false
def vg:D->Bool
 | .sQ _ _=>true
 | .l6 _ _=>true
 | _=>false
theorem qw{K:Frag}{H:Hp}{M:AC->Prop}{d:D}{o:HO}(h:Oq d=true)(r:cw K H M d o):∃ xs,o=.lst xs:=by
 cases d<;>first | (cases h;done) | (cases o<;>first | exact#[_,U] | exact r.elim)
def JV(i:Nat)(C:D->!D->(D->D->Prop)->Prop)(ta:eF):aW:=λs Q=>∃ k d0,s.sl[i]?=some (.own k)/\s.os[k]?=some (some d0)/\Oq d0=true/\ta s λds s1=>∃ d1,s1.os[k]?=some (some d1)/\C d1 ds λdr d2=>Q dr (s1.put k d2)
def Bj(X:Cx)(r:V->!V->Hp->VK->Prop)(C:D->!D->(D->D->Prop)->Prop):Prop:=∀ (M:AC->Prop) (H:Hp) (a:AC) (o:HO) (d1:D) (ds:!D) (vs:!V) (k:D->D->Prop) (Q:VK),H a=some o->cw X.K H M d1 o->aw X.K H M ds vs->¬ M a->C d1 ds k ->
 (∀ dr d2,k dr d2->∀ o' v,cw X.K H M d2 o'->Rep X.K H M dr v->Q v (upd H a o'))->r (.ref a) vs H Q
theorem IM{i n:Nat}{r:V->!V->Hp->VK->Prop}{C:D->!D->(D->D->Prop)->Prop}{ta:eF}(ok:Bj X r C){σ:St}{H:Hp}{Q:VK}:tE X.K c (JV i C ta) σ H Q->Qn X.K "list" r (bB i) (tA X.K c n ta) σ H Q:=λz9q=>by
 let(M,s,as,R,L,(k,d0,h1,h2,h3,q),kk):=z9q;let(a,o,g1,g2,g3,g4):=L.slot h1 h2;let(xs,rfl):=qw h3 g4;show#[.ref a,g2,.inl #[U,xs,.of g3],M,s,as,_,L,q,λds s1 z0q M1 H1 vs L1 E1 r1 hl=>?_];let(d1,e1,q1):=z0q;let((o1,f1,f2),nm,ng,h0):=L1.obj k d1 a e1 g1;show ok M1 H1 a o1 d1 ds vs _ Q f1 f2 r1 nm q1 λdr d2 hk o' v ro rv=>?_;have E2:Ext c as M1 s1 H1 M1 (s1.put k d2) (upd H1 a o'):=Ext.jl e1 g1;exact kk dr _ hk M1 _ v (L1.jl e1 g1 ro) (E1.trans L1.base E2) (E2.rep L1 rv)
def BC:eF:=λs Q=>Q [] s
theorem FC{i:Nat}{r:V->!V->Hp->VK->Prop}{C:D->!D->(D->D->Prop)->Prop}(ok:Bj X r C){σ:St}{H:Hp}{Q:VK}:tE X.K c (JV i C BC) σ H Q->Ge X.K "list" r (bB i) σ H Q:=λz1q=>by
 let(M,s,as,R,L,(k,d0,h1,h2,h3,d1,e1,q1),kk):=z1q;let(a,o,g1,g2,g3,g4):=L.slot h1 h2;let(xs,rfl):=qw h3 g4;show#[.ref a,g2,.inl #[U,xs,.of g3],?_];let((o1,f1,f2),nm,ng,h0):=L.obj k d1 a e1 g1;show ok M H a o1 d1 [] [] _ Q f1 f2 U nm q1 λdr d2 hk o' v ro rv=>?_;have E2:Ext c as M s H M (s.put k d2) (upd H a o'):=Ext.jl e1 g1;exact kk dr _ hk M _ v (L.jl e1 g1 ro) E2 (E2.rep L rv)
section
variable{o e:Cl}{es:!Cl}{i:Nat}{t:eF}{name:Str}{apos cE:Pos}{id:String}{r:V->!V->Hp->VK->Prop}{C:D->!D->(D->D->Prop)->Prop}
theorem wj(slot:Slot "list" name id)(zI:typeOf (.builtin id)=pure (.type "method_descriptor"))(hm:Ia X id r)(ok:Bj X r C)(ho:PE X o (bB i))(ha:DA X c (e::es) t)(fB:(attributeBase o name X.env (eval o X.env)=eval o X.env)⁻¹)(qG:(((IR cE (GM (e::es) X.env)).all (λx=>(not x.1))&&(Rs cE (SC [] X.env)).all (λx=>x.1.isSome)
   && decide ((e::es).length+([]:!Ps).length+(if ([]:!Ps).isEmpty then 0 else 1) < 30))=true)⁻¹)(c5:((apos.endLine == cE.line)=true)⁻¹)(hs:(US X.env e es)⁻¹)(ic:((IR cE (GM es X.env)).any (·.1)=false)⁻¹) :
  DE X c (.Call (.Attribute o name apos) (e::es) [] cE) (JV i C t):=#[(AH TX slot zI hm ho ha.pa fB qG c5 hs ic).imp λ_ _ _=>IM ok]
theorem xC(slot:Slot "list" name id)(zI:typeOf (.builtin id)=pure (.type "method_descriptor"))(hm:Ia X id r)(ok:Bj X r C)(ho:PE X o (bB i))(fB:(attributeBase o name X.env (eval o X.env)=eval o X.env)⁻¹)(c5:((apos.endLine == cE.line)=true)⁻¹):DE X c (.Call (.Attribute o name apos) [] [] cE) (JV i C BC) :=
 #[(wg TX slot zI hm ho fB c5).imp λ_ _ _=>FC ok]
end
def L7:D->!D->(D->D->Prop)->Prop:=λd ds k=>∃ xs x,d=.lst xs/\ds=[x]/\xs.length < Ev/\k .bH (.lst (xs++[x]))
theorem zP:Bj X wM L7:=λM H a o d ds vs k Q ha ro rv nm z8r kk=>by
 let(xs,x,e1,e2,hl,hk):=z8r;subst e1;subst e2;cases o with
 | lst ys =>
  have ro:aw X.K H M xs ys:=ro;let(v,rfl,rx):=cJ rv;exact#[a,ys,v,U,U,ha,by rw[ro.length];exact hl,kk _ _ hk _ _ (show cw X.K H M (.lst _) (.lst _) from ro.append (.one rx)) U]
 | _=>exact ro.elim
def OI:D->!D->(D->D->Prop)->Prop:=λd ds k=>∃ xs ys,d=.lst xs/\ds=[.lst ys]/\xs.length+ys.length<=Ev/\k .bH (.lst (xs++ys))
theorem wX:Bj X xB OI:=λM H a o d ds vs k Q ha ro rv nm z9r kk=>by
 let(xs,ys,e1,e2,hl,hk):=z9r;subst e1;subst e2;cases o with
 | lst us =>
  have ro:aw X.K H M xs us:=ro;let(v,rfl,b,zs,rfl,(m,hb),rz):=cJ rv;exact#[a,b,us,zs,U,U,ha,hb,by rw[ro.length,rz.length];exact hl,kk _ _ hk _ _ (show cw X.K H M (.lst _) (.lst _) from ro.append rz) U]
 | _=>exact ro.elim
theorem aw.snoc{K:Frag}{H:Hp}{M:AC->Prop}:∀ {ds:!D} {x:D} {vs:!V},aw K H M (ds++[x]) vs->∃ us v,vs=us++[v]/\aw K H M ds us/\Rep K H M x v
 | [],x,vs,r=>by
  let(v,rfl,h):=cJ r;exact#[[],v,U,U,h]
 | d::ds,x,vs,r=>by
  let(y,yr,rfl,r1,r2):=r;let(us,v,rfl,h1,h2):=aw.snoc (ds:=ds) r2;exact#[y::us,v,U,#[y,us,U,r1,h1],h2]
def N5:D->!D->(D->D->Prop)->Prop:=λd ds k=>∃ xs x,d=.lst (xs++[x])/\ds=[]/\k x (.lst xs)
theorem m7:Bj X Hi N5:=λM H a o d ds vs k Q ha ro rv nm z0r kk=>by
 let(xs,x,e1,e2,hk):=z0r;subst e1;subst e2;cases o with
 | lst us =>
  let(ws,v,rfl,r1,r2):=aw.snoc (show aw X.K H M (xs++[x]) us from ro);have rv:vs=[]:=rv;subst rv;show#[a,ws++[v],v,U,U,ha,by simp,?_];rw[List.dropLast_concat];exact kk _ _ hk _ _ (show cw X.K H M (.lst _) (.lst _) from r1) r2
 | _=>exact ro.elim
def FJ:D->!D->(D->D->Prop)->Prop:=λd ds k=>∃ xs i j x,d=.lst xs/\ds=[.int i]/\(-(2 ^ 63)<=i/\i < 2 ^ 63)/\seqIndex? i xs.length=some j/\xs[j]?=some x/\k x (.lst (xs.eraseIdx j))
theorem qN:Bj X zB FJ:=λM H a o d ds vs k Q ha ro rv nm z2q kk=>by
 let(xs,i,j,x,e1,e2,(h1,h2),h3,h4,hk):=z2q;subst e1;subst e2;cases o with
 | lst us =>
  have ro:aw X.K H M xs us:=ro;let(v,rfl,e):=cJ rv;have e:v=.int i:=e;subst e;let(w,g1,g2):=ro.get h4;exact#[a,us,i,j,w,U,U,ha,h1,h2,by rw[ro.length];exact h3,g1,kk _ _ hk _ _ (show cw X.K H M (.lst _) (.lst _) from ro.eraseIdx j) g2]
 | _=>exact ro.elim
def Hy(i:Nat)(te ti:aW):jc:=λR s=>te s λd s1=>∃ k,s1.sl[i]?=some (.own k)/\ti s1 λdi s2=>∃ xs z j,s2.os[k]?=some (some (.lst xs))/\di=.int z/\BF xs.length z=some j/\R.nx (s2.put k (.lst (xs.set j d)))
theorem Cu{i:Nat}{st:FM}{te ti:aW}(h:PS X st (jr (tE X.K c te) (JY (bB i) (tE X.K c ti) Ec))):o5 X c st (Hy i te ti):=#[h.imp λE σ H zz=>cU zz λM s as R L q kk =>
 #[M,s,as,_,L,q,λd s1 z3q M1 H1 v L1 E1 rv=>by
  let(k,h1,q1):=z3q;let(a,g1,g2):=L1.own i k h1;show#[.ref a,g2,M1,s1,as,_,L1,q1,λdi s2 z4q M2 H2 w Lb E2 rw=>?_];let(xs,z,j,h2,e,hj,q2):=z4q;subst e;let((o,f1,f2),nm,ng,h0):=Lb.obj k _ a h2 g1;cases o with
  | lst us =>
   have f2:aw X.K H2 M2 xs us:=f2;have rw:w=.int z:=rw;subst rw;have rv2:=E2.rep L1 rv;have hG:dP M H M2 (upd H2 a (.lst (us.set j v))):=(E1.grow L).trans ((E2.grow L1).trans ((Ext.jl (c:=c) (M:=M2) (d:=.lst (xs.set j d)) h2 g1).grow Lb));exact#[a,us,z,j,U,U,f1,by rw[f2.length];exact hj,kk.nx _ as M2 σ _ q2 (Lb.jl h2 g1 (show cw X.K H2 M2 (.lst _) (.lst _) from f2.set rv2 j)) hG]
  | _=>exact f2.elim]]
def Kg(i:Nat):kY:=λs Q=>∃ k xs,s.sl[i]?=some (.own k)/\s.os[k]?=some (some (.lst xs))/\Q (not xs.isEmpty) s
theorem l4{α β:Type}{l:!α}{m:!β}(h:l.length=m.length):l.isEmpty=m.isEmpty:=by
 cases l<;>cases m<;>first | rfl | simp at h
theorem wu{i:Nat}{e:Cl}(he:PE X e (bB i))(hw:∀ whole,isTrue e X.env whole=(do let v <- whole;standAt e.pos;holding [v] (truthy v)):=by intro _;rfl):DT X c e (Kg i):=#[(ur he hw).imp λσ H Q z5q=>by
 let(M,s,as,R,L,(k,xs,h1,h2,q),kk):=z5q;let(a,o,g1,g2,g3,g4):=L.slot h1 h2;cases o with
 | lst us =>
  have g4:aw X.K H M xs us:=g4;show#[_,g2,(not us.isEmpty),.inl #[us,.of g3,U],?_];rw[l4 g4.length];exact kk _ s q M H L .refl
 | _=>exact g4.elim]
def ja(k:Nat)(d:D):Sl->Sl
 | .own j=>if j=k then .dat d else .own j
 | x=>x
def DS.freeze(s:DS)(k:Nat)(d:D):DS:=#[s.sl.map (ja k d),s.os.set k none]
def LP(i:Nat):aW:=λs Q=>∃ k d,s.sl[i]?=some (.own k)/\s.os[k]?=some (some d)/\Q d (s.freeze k d)
theorem Oc{i:Nat}{e:Cl}(h:PE X e (bB i)):DE X c e (LP i):=#[h.imp λσ H Q z6q=>by
 let(M,s,as,R,L,(k,d,h1,h2,q),kk):=z6q;let(a,o,g1,g2,g3,g4):=L.slot h1 h2;let(_,nm,ng,h0):=L.obj k d a h2 g1;show#[_,g2,?_];have mk:∀ b u,M b->H b=some u->H b=some u:=λ_ _ _ e=>e;have ra:Rep X.K H (λb=>M b\/b=a) d (.ref a):=(g4.mono (λ_ m=>.inl m) mk).rep g3 (.inr U);have uT:∀ {l:Nat} {e:D},(s.freeze k d).os[l]?=some (some e)->l≠k/\s.os[l]?=some (some e):=λ{l e} h=>by
  rcases b7 h with ⟨rfl,hl,q⟩ | ⟨ne,q⟩
  .cases q
  .exact#[λz=>ne z.symm,q]
 show kk d _ q (λb=>M b\/b=a) H (.ref a) #[#[L.base.oQ,L.base.fr,λb m=>?_,λb m=>?_,λb m=>.inl (L.base.m0 b m),λb m=>?_],?_,?_,λj e he=>?_,λj l hj=>?_,λl e b e1 e2=>?_,λl m e f b e1 e2 f1 f2=>?_,L.lt] #[λ_ m=>.inl m,λb m=>?_,λ_ _ e _ _=>e,λb z7q=>by let(l,e,e1,e2):=z7q;exact#[l,e,(uT e1).2,e2]] ra
 .rcases m with m | rfl
  .exact L.base.md b m
  .exact#[o,g3]
 .rcases m with m | rfl
  .exact L.base.mo b m
  .exact ng
 .rcases m with m | rfl
  .exact L.base.mn b m
  .exact .inr (.inl h0)
 .show (s.sl.map _).length=_;rw[Ss];exact L.len
 .show as.length=(s.os.set k none).length;rw[TC];exact L.d4
 .have he:(s.sl.map (ja k d))[j]?=some (.dat e):=he;rw[Tb] at he;let(x,hx,hy):=Te.mp he;cases x with
  | no=>cases hy
  | dat y =>
   cases hy;let(v,w1,w2):=L.dat j e hx;exact#[v,w1,Rep.mono (λ_ m=>.inl m) mk e v w2]
  | own l =>
   replace hy:(if l=k then Sl.dat d else Sl.own l)=.dat e:=hy
   by_cases z:l=k
   .rw[if_pos z] at hy;cases hy;subst z;let(b,w1,w2):=L.own j l hx;rw[g1] at w1;cases w1;exact#[_,w2,ra]
   .rw[if_neg z] at hy;cases hy
 .have hj:(s.sl.map (ja k d))[j]?=some (.own l):=hj;rw[Tb] at hj;let(x,hx,hy):=Te.mp hj;cases x with
  | no=>cases hy
  | dat y=>cases hy
  | own l' =>
   replace hy:(if l'=k then Sl.dat d else Sl.own l')=.own l:=hy
   by_cases z:l'=k
   .rw[if_pos z] at hy;cases hy
   .rw[if_neg z] at hy;cases hy;exact L.own j l hx
 .let(ne,e1'):=uT e1;let((u,w1,w2),w3,w4):=L.obj l e b e1' e2;show#[#[u,w1,w2.mono (λ_ m=>.inl m) mk],λm=>?_,w4];rcases m with m | rfl
  .exact w3 m
  .exact ne (L.inj l k e d b e1' h2 e2 g1)
 .exact L.inj l m e f b (uT e1).2 (uT e2).2 f1 f2
 .rcases m with m | rfl
  .exact .inl m
  .exact .inr (.inr #[k,d,h2,g1])]
def J0(i:Nat):aW:=λs Q=>∃ k xs,s.sl[i]?=some (.own k)/\s.os[k]?=some (some (.lst xs))/\Q (.int xs.length) s
theorem AU{i:Nat}{e:Cl}(h:PE X e (Fu (λxs H Q=>∃ p ys,xs=[.ref p]/\(dR X.K H p ys\/jS X.K H p ys)/\Q (.int ys.length) H) (tJ (bB i) De))):DE X c e (J0 i):=#[h.imp λσ H Q z8q=>by
 let(M,s,as,R,L,(k,xs,h1,h2,q),kk):=z8q;let(a,o,g1,g2,g3,g4):=L.slot h1 h2;cases o with
 | lst us =>
  have g4:aw X.K H M xs us:=g4;show#[_,g2,a,us,U,.inl (.of g3),?_];rw[g4.length];exact kk _ s q M H _ L .refl U
 | _=>exact g4.elim]
def NT(i:Nat)(ti:aW):aW:=λs Q=>∃ k,s.sl[i]?=some (.own k)/\ti s λdi s1=>∃ xs z d,s1.os[k]?=some (some (.lst xs))/\di=.int z/\iw xs z=some d/\Q d s1
theorem IP{i:Nat}{e:Cl}{ti:aW}(h:PE X e (iM (Ff X.K) (bB i) (tE X.K c ti))):DE X c e (NT i ti):=#[h.imp λσ H Q z9q=>by
 let(M,s,as,R,L,(k,h1,q),kk):=z9q;let(a,g1,g2):=L.own i k h1;show#[_,g2,M,s,as,_,L,q,λdi s1 z0q M1 H1 v L1 E1 rv=>?_];let(xs,z,d,e1,e2,e3,q1):=z0q;subst e2;have rv:v=.int z:=rv;subst rv;let((o,f1,f2),nm,ng,h0):=L1.obj k _ a e1 g1;cases o with
 | lst us =>
  have f2:aw X.K H1 M1 xs us:=f2;let(w,w1,w2):=f2.at e3;exact#[a,us,z,w,U,U,.of f1,w1,kk _ s1 q1 M1 H1 w L1 E1 w2]
 | _=>exact f2.elim]
def AN:D->Option Key
 | .int i=>some (.inl i)
 | .str x=>some (.inr x)
 | _=>none
def pU:!D->Option (!Key)
 | []=>some []
 | d::r=>match AN d,pU r with
  | some k,some ks=>some (k::ks)
  | _,_=>none
theorem nV{K:Frag}{H:Hp}{M:AC->Prop}{d:D}{k:Key}{v:V}(h:AN d=some k)(r:Rep K H M d v):v=kV k:=by
 cases d<;>first | (cases h;exact r) | cases h
theorem lq{K:Frag}{H:Hp}{M:AC->Prop}:∀ {ds:!D} {ks:!Key} {vs:!V},pU ds=some ks->aw K H M ds vs->vs=ks.map kV
 | [],ks,vs,h,r=>by
  cases h;exact r
 | d::ds,ks,vs,h,r=>by
  let(x,xr,rfl,r1,r2):=r;unfold pU at h;cases e1:AN d with
  | none=>rw[e1] at h;cases h
  | some k =>
   cases e2:pU ds with
   | none=>rw[e1,e2] at h;cases h
   | some l =>
    rw[e1,e2] at h;cases h;rw[nV e1 r1,lq e2 r2,SA]
section
variable{κ:Type}[DecidableEq κ]
def b6:!κ->!D->κ->Option D
 | k::ks,d::ds,q=>if k=q then some d else b6 ks ds q
 | _,_,_=>none
def rn(ks:!κ)(q:κ):Bool:=ks.any λk=>decide (k=q)
def l5:!κ->!D->κ->D->!D
 | k::ks,d::ds,q,x=>(if k=q then x else d)::l5 ks ds q x
 | _,_,_,_=>[]
def gh(ks:!κ)(q:κ):!κ:=if rn ks q=true then ks else ks++[q]
def hJ(ks:!κ)(vs:!D)(q:κ)(x:D):!D:=if rn ks q=true then l5 ks vs q x else vs++[x]
variable{K:Frag}{H:Hp}{M:AC->Prop}
theorem rD{q:κ}:∀ {kvs:!(κ×V)} {ks:!κ} {vs:!D},kvs.map (·.1)=ks->aw K H M vs (kvs.map (·.2))->(fO kvs q=none/\b6 ks vs q=none)\/∃ v d,fO kvs q=some v/\b6 ks vs q=some d/\Rep K H M d v
 | [],ks,vs,h,r=>by
  subst h;exact .inl #[U,by cases vs<;>rfl]
 | p::kvs,ks,vs,h,r=>by
  subst h;cases vs with
  | nil=>exact absurd (show (p::kvs).map (·.2)=[] from r) (by simp)
  | cons d ds =>
   let(x,xr,e,r1,r2):=r;rw[SA] at e;cases e;by_cases z:p.1=q
   .refine .inr #[p.2,d,fA z,?_,r1];change (if p.1=q then some d else _)=_;rw[if_pos z]
   .rw[du z];have e2:b6 (((p::kvs).map (·.1))) (d::ds) q=b6 (kvs.map (·.1)) ds q:=by
     change (if p.1=q then some d else _)=_;rw[if_neg z]
    rw[e2];exact rD U r2
theorem has_any{q:κ}:∀ {kvs:!(κ×V)},(kvs.any λkv=>decide (kv.1=q))=rn (kvs.map (·.1)) q
 | []=>rfl
 | p::kvs=>by
  unfold rn;rw[T4,SA,T4,has_any (kvs:=kvs)]
  rfl
theorem zU{q:κ}{x:D}{y:V}(ry:Rep K H M x y){kvs:!(κ×V)}{vs:!D}(r:aw K H M vs (kvs.map (·.2))):(putK kvs q y).map (·.1)=gh (kvs.map (·.1)) q/\aw K H M (hJ (kvs.map (·.1)) vs q x) ((putK kvs q y).map (·.2)):=by
 unfold putK gh hJ;rw[has_any];by_cases h:rn (kvs.map (·.1)) q=true
 .rw[if_pos h,if_pos h,if_pos h];clear h;show#[?_,?_]
  .rw[S6];show Uu λp _=>?_;change (if p.1=q then (p.1,y) else p).1=p.1;split<;>rfl
  .induction kvs generalizing vs with
   | nil =>
    cases vs with
    | nil=>rfl
    | cons d ds =>
     let(_,_,e,_):=r;cases e
   | cons p kvs ih =>
    cases vs with
    | nil=>exact absurd (show (p::kvs).map (·.2)=[] from r) (by simp)
    | cons d ds =>
     let(v,vr,e,r1,r2):=r;rw[SA] at e;cases e;show#[_,_,U,?_,ih r2];change Rep K H M (if p.1=q then x else d) (if p.1=q then (p.1,y) else p).2;by_cases z:p.1=q
     .rw[if_pos z,if_pos z];exact ry
     .rw[if_neg z,if_neg z];exact r1
 .rw[if_neg h,if_neg h,if_neg h];rw[Sz,Sz];exact#[U,r.append (.one ry)]
end
def vp(d dy:D)(k:Option D->Prop):Prop:=(∃ ks vs q,d=.sQ ks vs/\AN dy=some q/\k (b6 ks vs q))\/∃ ks vs ts q,d=.l6 ks vs/\dy=.tup ts/\pU ts=some q/\k (b6 ks vs q)
def Iu(d dy x:D)(k:D->Prop):Prop:=(∃ ks vs q,d=.sQ ks vs/\AN dy=some q/\ks.length < Ev/\k (.sQ (gh ks q) (hJ ks vs q x)))\/∃ ks vs ts q,d=.l6 ks vs/\dy=.tup ts/\pU ts=some q/\ks.length < Ev/\k (.l6 (gh ks q) (hJ ks vs q x))
theorem qM{H:Hp}{M:AC->Prop}{d dy:D}{k:Option D->Prop}{a:AC}{o:HO}{y:V}(h:vp d dy k)(ha:H a=some o)(ro:cw X.K H M d o)(ry:Rep X.K H M dy y):∃ ov od,gL H a y ov/\k od/\((ov=none/\od=none)\/∃ v e,ov=some v/\od=some e/\Rep X.K H M e v):=by
 rcases h with ⟨ks,vs,q,rfl,hq,hk⟩ | ⟨ks,vs,ts,q,rfl,rfl,hq,hk⟩
 .cases o with
  | dK kvs =>
   let(e,r):=(show kvs.map (·.1)=ks/\aw X.K H M vs (kvs.map (·.2)) from ro);have ey:=nV hq ry;subst ey;show#[_,_,gL.k ha,hk,?_];rcases rD (q:=q) e r with ⟨h1,h2⟩ | ⟨v,x,h1,h2,h3⟩
   .exact .inl #[h1,h2]
   .exact .inr #[v,x,h1,h2,h3]
  | _=>exact ro.elim
 .cases o with
  | dT kvs =>
   let(e,r):=(show kvs.map (·.1)=ks/\aw X.K H M vs (kvs.map (·.2)) from ro);let(b,xs,rfl,(m,hb),rx):=ry;have ex:=lq hq rx;subst ex;show#[_,_,gL.t ha hb,hk,?_];rcases rD (q:=q) e r with ⟨h1,h2⟩ | ⟨v,x,h1,h2,h3⟩
   .exact .inl #[h1,h2]
   .exact .inr #[v,x,h1,h2,h3]
  | _=>exact ro.elim
theorem Cm{H:Hp}{M:AC->Prop}{d dy x:D}{k:D->Prop}{a:AC}{o:HO}{y z:V}(h:Iu d dy x k)(ha:H a=some o)(ro:cw X.K H M d o)(ry:Rep X.K H M dy y)(rz:Rep X.K H M x z):∃ d2 o2,lC H a y z (upd H a o2)/\k d2/\cw X.K H M d2 o2:=by
 rcases h with ⟨ks,vs,q,rfl,hq,hl,hk⟩ | ⟨ks,vs,ts,q,rfl,rfl,hq,hl,hk⟩
 .cases o with
  | dK kvs =>
   let(e,r):=(show kvs.map (·.1)=ks/\aw X.K H M vs (kvs.map (·.2)) from ro);subst e;have ey:=nV hq ry;subst ey;exact#[_,_,lC.k ha (by simpa using hl),hk,(show cw X.K H M (.sQ _ _) (.dK _) from zU rz r)]
  | _=>exact ro.elim
 .cases o with
  | dT kvs =>
   let(e,r):=(show kvs.map (·.1)=ks/\aw X.K H M vs (kvs.map (·.2)) from ro);subst e;let(b,xs,rfl,(m,hb),rx):=ry;have ex:=lq hq rx;subst ex;exact#[_,_,lC.t ha hb (by simpa using hl),hk,(show cw X.K H M (.l6 _ _) (.dT _) from zU rz r)]
  | _=>exact ro.elim
def Hf(i:Nat)(ty tv:aW):jc:=λR s=>tv s λd s1=>∃ k,s1.sl[i]?=some (.own k)/\ty s1 λdy s2=>∃ d1,s2.os[k]?=some (some d1)/\Iu d1 dy d λd2=>R.nx (s2.put k d2)
theorem CS{i:Nat}{st:FM}{ty tv:aW}(h:PS X st (uw (bB i) (tE X.K c ty) (tE X.K c tv))):o5 X c st (Hf i ty tv):=#[h.imp λE σ H zz=>cU zz λM s as R L q kk =>
 #[M,s,as,_,L,q,λd s1 z1r M1 H1 v L1 E1 rv=>by
  let(k,h1,q1):=z1r;let(a,g1,g2):=L1.own i k h1;show#[.ref a,g2,M1,s1,as,_,L1,q1,λdy s2 #[d1,h2,q2] M2 H2 w Lb E2 rw=>?_];let((o,f1,f2),nm,ng,h0):=Lb.obj k _ a h2 g1;let(d2,o2,p1,p2,p3):=Cm q2 f1 f2 rw (E2.rep L1 rv);exact#[a,_,U,p1,kk.nx _ as M2 σ _ p2 (Lb.jl h2 g1 p3) ((E1.grow L).trans ((E2.grow L1).trans ((Ext.jl (c:=c) (M:=M2) (d:=d2) h2 g1).grow Lb)))]]]
theorem Rep.dc{K:Frag}{H:Hp}{M:AC->Prop}{d:D}{v:V}(h:vg d=true)(r:Rep K H M d v):∃ a o,v=.ref a/\H a=some o/\cw K H M d o:=by
 cases d<;>first | (cases h;done) | (let(a,kvs,e,(m,ha),h1,h2):=r;exact#[a,_,e,ha,h1,h2])
def Eu(td ty:aW):aW:=λs Q=>td s λd s1=>ty s1 λdy s2=>vg d=true/\vp d dy λod=>∃ x,od=some x/\Q x s2
theorem fJ{e:Cl}{td ty:aW}(h:PE X e (kg (tE X.K c td) (tE X.K c ty))):DE X c e (Eu td ty):=#[h.imp λσ H Q zz=>cU zz λM s as R L q kk =>
 #[M,s,as,_,L,q,λd s1 q1 M1 H1 v L1 E1 rv=>#[M1,s1,as,_,L1,q1,λdy s2 z2r M2 H2 y Lb E2 ry=>by
  let(hd,q2):=z2r;let(a,o,rfl,f1,f2):=(E2.rep L1 rv).dc hd;let(ov,od,w1,(x,e2,w2),w3):=qM q2 f1 f2 ry;subst e2;rcases w3 with ⟨rfl,z⟩ | ⟨v,x,rfl,z,rx⟩
  .cases z
  .cases z;exact#[a,v,U,w1,kk _ s2 w2 M2 H2 v Lb (E1.trans L1.base E2) rx]]]]
def xo(neg:Bool)(ty td:aW):aW:=λs Q=>ty s λdy s1=>td s1 λd s2=>vg d=true/\vp d dy λod=>Q (.bl (if neg then (not od.isSome) else od.isSome)) s2
def FY:aW:=λs Q=>Q (.l6 [] []) s
theorem DB{pos:Pos}:DN X c (.Dict [] [] pos) FY:=#[Am.imp λσ H Q zz=>cU zz λM s as R L q k=>λp hp=>ix (d:=.l6 [] []) L L .refl hp (show cw X.K H M (.l6 [] []) (.dT []) from #[U,U]) (k _ s q)]
end
end DL
namespace Kw
open PySem Sem
open PySem.AutoSeq1 (wpAny_loadPart')
section
variable{prog:Fr}{w:Fa}{A:Fk}{E:UP}{s:Da}
theorem j1{it t:AC}{i:Nat}{items:Array AT}{x:AT}{Q:UP}(hit:s.heap.IsTupleIter it t i)(ht:s.heap.IsTuple t items)(hx:items[i]?=some x)(hQ:∀ h',h'.IsTupleIter it t (i+1)->EQ.SameBut it s.heap h'->Q x { s with heap:=h' }) :
  Db (model prog w) A (FS.SmallTypes.nextOf (.ref it)) Q E s:=by
 let(o,ho,hc,hd):=id hit;let(ol,hol,_,nl,hdl):=ht;unfold FS.SmallTypes.nextOf;show Ch (wpAny_callSpecial?_slot (name:=Str.ofString "__next__") hit.typeIs F.slot_tuple_iterator_next
  (SL F.slot_tuple_iterator_next hit.typeIs F.entry_tuple_iterator_next ?_ (F.args_tuple_iterator_next_1 _)))
 change Db _ _ (field (.ref it) 0 >>= _) _ _ s;show Ch (KB ho hd (x:=.ref t) U ?_);change Db _ _ (if (AT.ref t == AT.none)=true then _ else _) _ _ s;rw[if_neg (show ¬ ((AT.ref t == AT.none)=true) from SK)];change Db _ _ (field (.ref it) 1 >>= _) _ _ s;show Ch (KB ho hd (x:=.int i 0) U ?_);change Db _ _ (seqItems? (.ref t) >>= _) _ _ s;show Ch (Os hol hdl ?_);simp only[Int.toNat_natCast,hx];show Ch (wpAny_setField ho hd (by simp) (FB #[x,U,FB (hQ _ ?_ (EQ.SameBut.update ..))]));exact#[_,Tf _ ho (Obj.isFreed_of_fields (Obj.data_mapFields hd _)),(Obj.cls_mapFields ..).trans hc,by
  rw[Obj.data_mapFields hd];simp[KF]]
theorem gH{it t:AC}{i:Nat}{items:Array AT}{Q:UP}(hh:A.handled=none)(hit:s.heap.IsTupleIter it t i)(ht:s.heap.IsTuple t items)(hx:items[i]?=none)(hE:∀ h' e,EQ.ExtBut it s.heap h'->(∃ o,h'.get? e=some o/\o.cls=.type "StopIteration")->E (.ref e) { s with heap:=h' }) :
  Db (model prog w) A (FS.SmallTypes.nextOf (.ref it)) Q E s:=by
 let(o,ho,hc,hd):=id hit;let(ol,hol,_,nl,hdl):=ht;unfold FS.SmallTypes.nextOf;show Ch (wpAny_callSpecial?_slot (name:=Str.ofString "__next__") hit.typeIs F.slot_tuple_iterator_next
  (SL F.slot_tuple_iterator_next hit.typeIs F.entry_tuple_iterator_next ?_ (F.args_tuple_iterator_next_1 _)))
 change Db _ _ (field (.ref it) 0 >>= _) _ _ s;show Ch (KB ho hd (x:=.ref t) U ?_);change Db _ _ (if (AT.ref t == AT.none)=true then _ else _) _ _ s;rw[if_neg (show ¬ ((AT.ref t == AT.none)=true) from SK)];change Db _ _ (field (.ref it) 1 >>= _) _ _ s;show Ch (KB ho hd (x:=.int i 0) U ?_);change Db _ _ (seqItems? (.ref t) >>= _) _ _ s;show Ch (Os hol hdl ?_);simp only[Int.toNat_natCast,hx];show Ch (wpAny_rule (Ch (wpAny_setField ho hd (by simp) ?_)));change Db _ _ (newExc (.type "StopIteration") [] >>= _) _ _ _;show Ch ?_;simp only[newExc,newTuple];show Ch (PP ?_ (by size_fits));show Ch (m:=firstArgMember _ _) (wpAny_of_eq (a:=AT.none) (by first | rfl | (simp only[firstArgMember];rfl)) ?_);show PP ?_ (by size_fits);simp only[raiseNew];show Ch (wpAny_handled ?_)
 first | rw[show A.in1.handled=none from hh] | rw[hh]
 show Ch (FB (wpAny_throw ?_));exact hE _ _ (((EQ.SameBut.update ..).extBut.push _).push _) #[_,SH _ U,U]
theorem GH(hh:A.handled=none)(it l:AC)(qT:l≠it)(items:Array AT) :
  Draws prog w A it [it,l] items.size (λi v=>items[i]?=some v) (λi h=>h.IsTupleIter it l i/\h.IsTuple l items) where
 live:=λ_ _ st=>let #[o,ho,_]:=st.1;#[o,ho]
 frame:=λ_ _ _ st hk=>#[st.1.at λo e=>hk it (by simp) o e,let #[o,e,r]:=st.2;#[o,hk l (by simp) o e,r]]
 item:=λi s Q E hi st hQ=>by
  show j1 st.1 st.2 (x:=items[i]) (by simp[hi]) λh' hit' MP=>?_;exact hQ _ h' s.toks (by simp[hi]) #[hit',let #[o,e,r]:=st.2;#[o,MP.extBut l o qT e,r]] MP
 done:=λs Q E st hE=>gH hh st.1 st.2 (by simp) hE
end
end Kw
namespace L2
open PySem PySem.Spec
open PyProof.Rows hiding St
def xv(K:Frag)(tup:Bool)(H:Hp)(a:AC)(xs:!V):Prop:=if tup=true then jS K H a xs else dR K H a xs
section
variable{P:Fr}{w:Fa}{K:Frag}
theorem xU{X:Cx}{Sc:UQ}{σ:St}{H:Hp}{s:Da}{a:AC}{tup:Bool}{xs ys:!V}(I:Inv X Sc σ H s)(h:xv X.K tup H a xs)(h':xv X.K tup H a ys):ys=xs:=by
 cases tup with
 | true=>exact I.pf (show jS X.K H a ys from h') h
 | false=>exact I.t9 (show dR X.K H a ys from h') h
theorem Inv.wC{X:Cx}{Sc:UQ}{σ:St}{H:Hp}{s:Da}{h':EQ}{t':Nat}{fp:!AC}{a:AC}{o:HO}(I:Inv X Sc σ H s)(k:∀ b u,b∉fp->s.heap.get? b=some u->h'.get? b=some u)(hf:∀ b∈fp,ee X Sc H b)(hp:↑s<=a)(new:bQ X.prog X.w (upd H a o) h' a o):Inv X Sc σ (upd H a o) { s with heap:=h',toks:=t' }:=by
 have hn:H a=none:=I.bj.fresh hp;have nit:∀ b u,H b=some u->b∉fp:=λb u e z=>by rw[(hf b z).1] at e;cases e
 have up:∀ b u,H b=some u->upd H a o b=some u:=λb u e=>by rw[av (aE e hn)];exact e
 show I.step (g':=s.gens) (d':=s.drawn) (ch:=fp) (λb hb=>?_) (λb ob _ _ hc e _=>k b ob hc e) (λb ob _ _ hc e _=>#[ob.slots,k b ob hc e]) (λb ob _ e n=>?_)
  (λb ob hc e=>#[ob,k b ob hc e]) (λb xs e=>up b _ e) (λb ob u e=>up b _ e) (λb ps e=>#[#v[],by rw[up b _ e];simp]) (λm hm=>?_) (λb u e=>?_) I.bare
 .let(f0,f1,f2,f3,f4,f5):=hf b hb;exact#[f3,f1,f4,f5]
 .rw[av (SR (SW (SE e) hp))];exact n
 .let(ob,es,ep,ho,r):=hm;exact#[ob,es,ep,k _ ob (λz=>(hf _ z).2.1 U) ho,r]
 .by_cases hb:b=a
  .subst hb;rw[ay] at e;cases e;exact new
  .rw[av hb] at e;show (I.bj b u e).uv (λq v hq w=>k q v ?_ w) (λq w=>up q _ w) λq _ w=>up q _ w;rcases hq with z | z
   .rw[z];exact nit b u e
   .exact nit q _ z
theorem Inv.iX{X:Cx}{Sc:UQ}{σ:St}{H:Hp}{s:Da}{h':EQ}{t':Nat}{fp:!AC}(I:Inv X Sc σ H s)(k:∀ b u,b∉fp->s.heap.get? b=some u->h'.get? b=some u)(hf:∀ b∈fp,ee X Sc H b) :
  Inv X Sc σ H { s with heap:=h',toks:=t' }:=by
 have nit:∀ b u,H b=some u->b∉fp:=λb u e z=>by rw[(hf b z).1] at e;cases e
 show I.step (g':=s.gens) (d':=s.drawn) (ch:=fp) (λb hb=>?_) (λb ob _ _ hc e _=>k b ob hc e) (λb ob _ _ hc e _=>#[ob.slots,k b ob hc e]) (λb ob _ e n=>n)
  (λb ob hc e=>#[ob,k b ob hc e]) (λb xs e=>e) (λb ob u e=>e) (λb ps e=>#[#v[],by rw[e];simp]) (λm hm=>?_) (λb u e=>?_) I.bare
 .let(f0,f1,f2,f3,f4,f5):=hf b hb;exact#[f3,f1,f4,f5]
 .let(ob,es,ep,ho,r):=hm;exact#[ob,es,ep,k _ ob (λz=>(hf _ z).2.1 U) ho,r]
 .refine (I.bj b u e).uv (λq v hq w=>k q v ?_ w) (λq w=>w) λq _ w=>w;rcases hq with z | z
  .rw[z];exact nit b u e
  .exact nit q _ z
def ir(tup:Bool)(h:EQ)(it a:AC)(i:Nat):Prop:=if tup=true then h.IsTupleIter it a i else h.IsListIter it a i
theorem ir.at{tup:Bool}{h h':EQ}{it a:AC}{i:Nat}(x:ir tup h it a i)(k:∀ o,h.get? it=some o->h'.get? it=some o):ir tup h' it a i:=by
 cases tup with
 | true=>exact EQ.IsTupleIter.at (show h.IsTupleIter it a i from x) k
 | false=>exact EQ.IsListIter.at (show h.IsListIter it a i from x) k
theorem ir.obj{tup:Bool}{h:EQ}{it a:AC}{i:Nat}(x:ir tup h it a i):∃ o,h.get? it=some o/\∀ v,o.data≠.cell v:=by
 cases tup with
 | true =>
  let(o,e,c,d):=(show h.IsTupleIter it a i from x);exact#[o,e,λv z=>by rw[d] at z;cases z]
 | false =>
  let(o,e,c,d):=(show h.IsListIter it a i from x);exact#[o,e,λv z=>by rw[d] at z;cases z]
section
variable{X:Cx}
end
end
end L2
namespace DL
open PySem PySem.Spec L2
open PyProof.Rows hiding St
section
variable{X:Cx}{c:Ent}
end
mutual
noncomputable def toP:D->GE
 | .bH=>.none
 | .bl b=>.bool b
 | .int i=>.int i
 | .str x=>.str x
 | .tup ds=>.tuple (toPs ds)
 | .lst ds=>.list (toPs ds)
 | .cb _=>.none
 | .ty _=>.none
 | .sQ _ _=>.none
 | .l6 _ _=>.none
 | .EH _ _=>.none
 | .ob _ _ _=>.none
noncomputable def toPs:!D->!GE
 | []=>[]
 | d::ds=>toP d::toPs ds
end
mutual
noncomputable def lH:D->Bool
 | .bH=>true
 | .bl _=>true
 | .int _=>true
 | .str x=>GE.strOk x
 | .tup ds=>rG ds
 | .lst ds=>rG ds
 | .cb _=>false
 | .ty _=>false
 | .sQ _ _=>false
 | .l6 _ _=>false
 | .EH _ _=>false
 | .ob _ _ _=>false
noncomputable def rG:!D->Bool
 | []=>true
 | d::ds=>lH d&&rG ds
end
mutual
theorem nR:∀ d:D,lH d=true->(toP d).canLay0=true
 | .bH,_=>rfl
 | .bl _,_=>rfl
 | .int _,_=>rfl
 | .str x,h=>by
  change GE.canLay0 (.str x)=true;simpa [GE.canLay0,lH] using h
 | .tup ds,h=>by
  change GE.canLay0 (.tuple (toPs ds))=true;simpa [GE.canLay0] using rZ ds h
 | .lst ds,h=>by
  change GE.canLay0 (.list (toPs ds))=true;simpa [GE.canLay0] using rZ ds h
 | .cb _,h=>by cases h
 | .ty _,h=>by cases h
 | .sQ _ _,h=>by cases h
 | .l6 _ _,h=>by cases h
 | .EH _ _,h=>by cases h
 | .ob _ _ _,h=>by cases h
theorem rZ:∀ ds:!D,rG ds=true->GE.canLayAll0 (toPs ds)=true
 | [],_=>rfl
 | d::ds,h=>by
  have h:(lH d&&rG ds)=true:=h;rw[Tr] at h;change GE.canLayAll0 (toP d::toPs ds)=true;simp[GE.canLayAll0,nR d h.1,rZ ds h.2]
end
section
variable{X:Cx}{Sc:UQ}{σ:St}{H:Hp}{s:Da}{M:AC->Prop}
mutual
theorem iD(I:Inv X Sc σ H s):∀ (d:D) (v:V) (u:AT),lH d=true->Rep X.K H M d v->RelV v u->∃ as,Reads s.heap u (toP d) as
 | .bH,v,u,_,r,q=>by
  have r:v=.bH:=r;subst r;cases (show u=AT.none from q);exact#[_,.none]
 | .bl b,v,u,_,r,q=>by
  have r:v=.bl b:=r;subst r;cases (show u=AT.bool b from q);exact#[_,.bool b]
 | .int i,v,u,_,r,q=>by
  have r:v=.int i:=r;subst r;let(t,rfl):=(show ∃ t,u=AT.int i t from q);exact#[_,.int i t]
 | .str x,v,u,_,r,q=>by
  have r:v=.str x:=r;subst r;let(t,rfl):=(show ∃ t,u=AT.str x t from q);exact#[_,.str x t]
 | .tup ds,v,u,h,r,q=>by
  let(a,xs,rfl,(m,ha),r):=r;cases (show u=AT.ref a from q);let(_,its,rv,o,e,hc,n,hd,_):=I.bj a _ ha;let(as,hr):=lF I ds xs its h r rv;exact#[_,.tuple e hc hd (by simpa using hr)]
 | .lst ds,v,u,h,r,q=>by
  let(a,xs,rfl,(m,ha),r):=r;cases (show u=AT.ref a from q);let(_,its,n,rv,e):=I.bj a _ ha;let(as,hr):=lF I ds xs its h r rv;exact#[_,.list e U U (by simpa using hr)]
 | .cb _,v,u,h,r,q=>by cases h
 | .ty _,v,u,h,r,q=>by cases h
 | .sQ _ _,v,u,h,r,q=>by cases h
 | .l6 _ _,v,u,h,r,q=>by cases h
 | .EH _ _,v,u,h,r,q=>by cases h
 | .ob _ _ _,v,u,h,r,q=>by cases h
theorem lF(I:Inv X Sc σ H s):∀ (ds:!D) (vs:!V) (us:!AT),rG ds=true->aw X.K H M ds vs->Vals vs us->∃ as,ReadsAll s.heap us (toPs ds) as
 | [],vs,us,_,r,q=>by
  have r:vs=[]:=r;subst r;cases q;exact#[_,.nil]
 | d::ds,vs,us,h,r,q=>by
  have h:(lH d&&rG ds)=true:=h;rw[Tr] at h;let(x,xr,rfl,r1,r2):=r;cases q with
  | cons q1 q2 =>
   let(as,h1):=iD I d x _ h.1 r1 q1;let(bs,h2):=lF I ds xr _ h.2 r2 q2;exact#[_,.cons h1 h2]
end
end
def D6(a b:D):Bool:=GE.eqv (toP a) (toP b)
def j8(d:D):Nat:=(toP d).depth
section
variable{X:Cx}{c:Ent}
def BB(K:Frag)(neg:Bool):R2:=λx y H Q=>∃ M dx dy,Rep K H M dx x/\Rep K H M dy y/\lH dx=true/\lH dy=true/\(j8 dx<=150\/j8 dy<=150)/\Q (.bl (if neg then (not (D6 dx dy)) else D6 dx dy)) H
theorem pV{m n u:Nat}(h:m<=150\/n<=150)(hu:u+150 < cLine):u+min m n < cLine:=by
 have:min m n<=150:=by cbv
 cbv
theorem rb(hu:X.A.units+150 < cLine):gQ X (IN .Eq) (BB X.K false):=by
 intro Sc s σ H x y v u Q I rx ry h;let(M,dx,dy,r1,r2,o1,o2,hd,q):=h;let(as,h1):=iD I dx x v o1 r1 rx;let(bs,h2):=iD I dy y u o2 r2 ry;exact SeqAt.compareEq_reads h1 h2 (nR dx o1) (nR dy o2) (pV hd hu) #[.bl _,H,I,U,q]
theorem u3(hu:X.A.units+150 < cLine):gQ X (IN .NotEq) (BB X.K true):=by
 intro Sc s σ H x y v u Q I rx ry h;let(M,dx,dy,r1,r2,o1,o2,hd,q):=h;let(as,h1):=iD I dx x v o1 r1 rx;let(bs,h2):=iD I dy y u o2 r2 ry;exact SeqAt.compareNe_reads h1 h2 (nR dx o1) (nR dy o2) (pV hd hu) #[.bl _,H,I,U,q]
def Ox(neg:Bool):D->D->(D->Prop)->Prop:=λa b k=>(lH a=true/\lH b=true/\(j8 a<=150\/j8 b<=150))/\k (.bl (if neg then (not (D6 a b)) else D6 a b))
theorem qh{neg:Bool}:mG X c (BB X.K neg) (Ox neg):=λM s as σ H x y dx dy k Q L rx ry #[#[o1,o2,hd],hk] kk=>#[M,dx,dy,rx,ry,o1,o2,hd,kk _ hk M H _ L .refl U]
mutual
theorem eqv_refl:∀ d:D,GE.eqv (toP d) (toP d)=true
 | .bH=>rfl
 | .bl b=>by change GE.eqv (.bool b) (.bool b)=true;simp[GE.eqv]
 | .int i=>by change GE.eqv (.int i) (.int i)=true;simp[GE.eqv]
 | .str x=>by change GE.eqv (.str x) (.str x)=true;simp[GE.eqv]
 | .tup ds=>by change GE.eqv (.tuple (toPs ds)) (.tuple (toPs ds))=true;simpa [GE.eqv] using lj ds
 | .lst ds=>by change GE.eqv (.list (toPs ds)) (.list (toPs ds))=true;simpa [GE.eqv] using lj ds
 | .cb _=>rfl
 | .ty _=>rfl
 | .sQ _ _=>rfl
 | .l6 _ _=>rfl
 | .EH _ _=>rfl
 | .ob _ _ _=>rfl
theorem lj:∀ ds:!D,GE.eqvAll (toPs ds) (toPs ds)=true
 | []=>rfl
 | d::ds=>by change GE.eqvAll (toP d::toPs ds) (toP d::toPs ds)=true;simp[GE.eqvAll,eqv_refl d,lj ds]
end
def Fn:D->String->Option Bool
 | .int _,T=>if T="int" then some true else if T="bool"\/T="str"\/T="list"\/T="tuple" then some false else none
 | .bl _,T=>if T="int"\/T="bool" then some true else if T="str"\/T="list"\/T="tuple" then some false else none
 | .str _,T=>if T="str" then some true else if T="bool"\/T="int"\/T="list"\/T="tuple" then some false else none
 | .tup _,T=>if T="tuple" then some true else if T="bool"\/T="int"\/T="list"\/T="str" then some false else none
 | .lst _,T=>if T="list" then some true else if T="bool"\/T="int"\/T="tuple"\/T="str" then some false else none
 | _,_=>none
def J7(K:Frag):!V->Hp->VK->Prop:=λxs H Q=>∃ M d v T b,xs=[v,.ty T]/\Rep K H M d v/\Fn d T=some b/\Q (.bl b) H
theorem cp:dW X (.builtin "isinstance") (J7 X.K):=by
 intro Sc s σ H xs us Q I r h;let(M,d,v,T,b,rfl,rd,hb,q):=h;let(u,t,rfl,ru,rt):=r.two;cases (show t=AT.type T from rt);have fin:∀ n,EP X Sc σ Q (.bool b) { s with toks:=n }:=λn=>#[.bl b,H,I.tok n,U,q];have fin0:EP X Sc σ Q (.bool b) s:=#[.bl b,H,I,U,q];cases d with
 | int i =>
  cases (show v=.int i from rd);let(t,rfl):=ru
  replace hb:(if T="int" then some true else if T="bool"\/T="str"\/T="list"\/T="tuple" then some false else none)=some b:=hb
  split at hb
  .rename_i e;subst e;cases hb;exact IsiPair.int_int fin0
  .split at hb
   .rename_i e
    cases hb;rcases e with rfl | rfl | rfl | rfl
    .exact IsiPair.int_bool (fin _)
    .exact IsiPair.int_str (fin _)
    .exact IsiPair.int_list (fin _)
    .exact IsiPair.int_tuple (fin _)
   .cases hb
 | bl i =>
  cases (show v=.bl i from rd);cases (show u=AT.bool i from ru)
  replace hb:(if T="int"\/T="bool" then some true else if T="str"\/T="list"\/T="tuple" then some false else none)=some b:=hb
  split at hb
  .rename_i e
   cases hb;rcases e with rfl | rfl
   .exact IsiPair.bool_int fin0
   .exact IsiPair.bool_bool fin0
  .split at hb
   .rename_i e
    cases hb;rcases e with rfl | rfl | rfl
    .exact IsiPair.bool_str (fin _)
    .exact IsiPair.bool_list (fin _)
    .exact IsiPair.bool_tuple (fin _)
   .cases hb
 | str i =>
  cases (show v=.str i from rd);let(t,rfl):=ru
  replace hb:(if T="str" then some true else if T="bool"\/T="int"\/T="list"\/T="tuple" then some false else none)=some b:=hb
  split at hb
  .rename_i e;subst e;cases hb;exact IsiPair.str_str fin0
  .split at hb
   .rename_i e
    cases hb;rcases e with rfl | rfl | rfl | rfl
    .exact IsiPair.str_bool (fin _)
    .exact IsiPair.str_int (fin _)
    .exact IsiPair.str_list (fin _)
    .exact IsiPair.str_tuple (fin _)
   .cases hb
 | tup ds =>
  let(a,xs,rfl,(m,ha),r):=rd;cases (show u=AT.ref a from ru);let(_,its,rv,o,e,hc,n,hd,_):=I.bj a _ ha
  replace hb:(if T="tuple" then some true else if T="bool"\/T="int"\/T="list"\/T="str" then some false else none)=some b:=hb
  split at hb
  .rename_i e';subst e';cases hb;exact IsiPair.tuple_tuple e hc fin0
  .split at hb
   .rename_i e'
    cases hb;rcases e' with rfl | rfl | rfl | rfl
    .exact IsiPair.tuple_bool e hc (fin _)
    .exact IsiPair.tuple_int e hc (fin _)
    .exact IsiPair.tuple_list e hc (fin _)
    .exact IsiPair.tuple_str e hc (fin _)
   .cases hb
 | lst ds =>
  let(a,xs,rfl,(m,ha),r):=rd;cases (show u=AT.ref a from ru);let(_,its,n,rv,e):=I.bj a _ ha
  replace hb:(if T="list" then some true else if T="bool"\/T="int"\/T="tuple"\/T="str" then some false else none)=some b:=hb
  split at hb
  .rename_i e';subst e';cases hb;exact IsiPair.list_list e rfl fin0
  .split at hb
   .rename_i e'
    cases hb;rcases e' with rfl | rfl | rfl | rfl
    .exact IsiPair.list_bool e U (fin _)
    .exact IsiPair.list_int e U (fin _)
    .exact IsiPair.list_tuple e U (fin _)
    .exact IsiPair.list_str e U (fin _)
   .cases hb
 | _=>simp[Fn] at hb
def NJ:UR:=λas k=>∃ d T b,as=[d,.ty T]/\Fn d T=some b/\k (.bl b)
theorem gC:xH X c (J7 X.K) NJ:=λM s as σ H xs ds k Q L r z3r kk=>by
 let(d,T,b,e,hb,hk):=z3r;subst e;let(v,w,rfl,r1,r2):=p8 r;have r2:w=.ty T:=r2;subst r2;exact#[M,d,v,T,b,U,r1,hb,kk _ hk M H _ L .refl U]
end
end DL
namespace Kw
open PySem
section
variable{prog:Fr}{w:Fa}{A:Fk}{E:UP}{s:Da}{T:String}{r d:AC}{n:Nat}{P:Nat->AT->Prop}{OK:EQ->Prop}
end
end Kw
namespace L2
open PySem PySem.Spec
open PyProof.Rows hiding St
section
variable{X:Cx}
end
end L2
namespace DL
open PySem PySem.Spec L2
open PyProof.Rows hiding St
section
variable{X:Cx}{c:Ent}
end
end DL
namespace DL
open PySem PySem.Spec L2
set_option genSizeOf true in set_option genInjectivity true in inductive Fm where
 | nm (x:Str) | num (i:Int) | op (s:Str) | Aa | lt (x:Str) | mk (c:Str) | ask (f:Str) | B0 (r:Str) (hs:!(Str×!Str)) | new (k:Str) (hs:!(Str×!Str))
set_option genSizeOf true in set_option genInjectivity true in inductive Tm where
 | node (f:Fm) (ks:!Tm)
def Fm.ar:Fm->Nat->Bool
 | .nm _,n=>n == 0
 | .num _,n=>n == 0
 | .op _,n=>n == 2
 | .Aa,n=>n == 3
 | .lt _,n=>n == 2
 | .mk _,_=>true
 | .ask _,n=>1<=n
 | .B0 _ hs,n=>n == hs.length+1&&hs.all λh=>h.2.length<=8
 | .new _ hs,n=>n == hs.length&&hs.all λh=>h.2.length<=8
mutual
noncomputable def Tm.wf:Tm->Bool
 | .node f ks=>f.ar ks.length&&Iz ks
noncomputable def Iz:!Tm->Bool
 | []=>true
 | t::r=>t.wf&&Iz r
end
mutual
noncomputable def Tm.size:Tm->Nat
 | .node _ ks=>oE ks+1
noncomputable def oE:!Tm->Nat
 | []=>0
 | t::r=>t.size+oE r
end
mutual
noncomputable def Tm.dep:Tm->Nat
 | .node _ ks=>zE ks+1
noncomputable def zE:!Tm->Nat
 | []=>0
 | t::r=>max t.dep (zE r)
end
def Ky(ns:!Str):!D:=ns.map .str
def Dq(h:Str×!Str)(k:D):D:=.tup [.str h.1,.tup (Ky h.2),k]
def eD:!(Str×!Str)->!D->!D
 | h::hs,k::ks=>Dq h k::eD hs ks
 | _,_=>[]
def RW:Fm->!D->D
 | .nm x,_=>.tup [.str "name",.str x]
 | .num i,_=>.tup [.str "num",.int i]
 | .op s,ks=>.tup (.str "op"::.str s::ks)
 | .Aa,ks=>.tup (.str "zero"::ks)
 | .lt x,ks=>.tup (.str "let"::.str x::ks)
 | .mk c,ks=>.tup [.str "make",.str c,.tup ks]
 | .ask f,ks=>.tup [.str "ask",ks.headD .bH,.str f,.tup ks.tail]
 | .B0 r hs,ks=>.tup [.str "case",ks.headD .bH,.str r,.tup (eD hs ks.tail)]
 | .new k hs,ks=>.tup [.str "new",.str k,.tup (eD hs ks)]
mutual
noncomputable def toD:Tm->D
 | .node f ks=>RW f (toDs ks)
noncomputable def toDs:!Tm->!D
 | []=>[]
 | t::r=>toD t::toDs r
end
theorem toDs_map:∀ ks:!Tm,toDs ks=ks.map toD
 | []=>rfl
 | t::r=>by rw[toDs,toDs_map r,SA]
theorem eQ{b:Bool}{A B:Prop}(h:b=false)(q:B):if b=true then A else B:=by
 subst h;exact rB q
theorem gU{b:Bool}{A B:Prop}(h:b=true)(q:A):if b=true then A else B:=by
 subst h;exact mh q
theorem len0{α:Type}{l:!α}(h:l.length=0):l=[]:=TV h
theorem Cz{α:Type}{l:!α}(h:1<=l.length):∃ a r,l=a::r:=by
 cases l with
 | nil=>simp at h
 | cons a r=>exact#[a,r,U]
theorem Nt{α:Type}{l:!α}(h:l.length=2):∃ a b,l=[a,b]:=by
 let(a,r,rfl):=Cz (l:=l) (by cbv);let(b,r',rfl):=Cz (l:=r) (by simp at h;cbv);have:r'=[]:=len0 (by simpa using h);subst this;exact#[a,b,U]
theorem aV:16000000<=Ev:=by decide
theorem bE{α:Type}{x:α}{r:!α}:iw (x::r) 0=some x:=eY (j:=0) U
theorem bw{α:Type}{nt:Nat}{us:!Nat}{g:nA}{te:aW}(h f:α->D){Q:!D->DS->Prop}{s:DS}:∀ (xs:!α) {acc:!D},(∀ x∈xs,∀ k:D->DS->Prop,(∀ s':DS,s'.os=s.os->k (f x) s')->g (h x) (gP nt us s) λs1=>te s1 k)->Q (acc++xs.map f) s->bM nt us g cN te (xs.map h) acc s Q
 | [],acc,_,q=>by
  rw[Tt,SY] at q;exact q
 | x::xs,acc,hx,q=>by
  change g (h x) (gP nt us s) λs1=>cN s1 λb s2=>if b=true then te s2 λy s3=>bM nt us g cN te (xs.map h) (acc++[y]) #[s.sl,s3.os] Q else bM nt us g cN te (xs.map h) acc #[s.sl,s2.os] Q;have:=hx x SD (λy s3=>bM nt us g cN te (xs.map h) (acc++[y]) #[s.sl,s3.os] Q) λs' e=>by
   rw[e];show bw h f xs (λy hy=>hx y (Sy _ hy)) ?_;rw[S0];exact q
  simpa [cN] using this
theorem bh{α:Type}{nt:Nat}{us:!Nat}{g:nA}{ti:kY}{te:aW}(h f:α->D)(p:α->Bool){Q:!D->DS->Prop}{s:DS}:∀ (xs:!α) {acc:!D},
  (∀ x∈xs,∀ k:D->DS->Prop,∀ N:DS->Prop,(p x=true->∀ s':DS,s'.os=s.os->k (f x) s')->(p x=false->∀ s':DS,s'.os=s.os->N s')->g (h x) (gP nt us s) λs1=>ti s1 λb s2=>if b=true then te s2 k else N s2)->Q (acc++(xs.filter p).map f) s->bM nt us g ti te (xs.map h) acc s Q
 | [],acc,_,q=>by
  rw[List.filter_nil,Tt,SY] at q;exact q
 | x::xs,acc,hx,q=>by
  show hx x SD (λy s3=>bM nt us g ti te (xs.map h) (acc++[y]) #[s.sl,s3.os] Q) (λs2=>bM nt us g ti te (xs.map h) acc #[s.sl,s2.os] Q) (λhp s' e=>?_) λhp s' e=>?_
  .show bM nt us g ti te (xs.map h) (acc++[f x]) #[s.sl,s'.os] Q;rw[e];show bh h f p xs (λy hy=>hx y (Sy _ hy)) ?_;rw[List.filter_cons_of_pos hp] at q;rw[S0];exact q
  .show bM nt us g ti te (xs.map h) acc #[s.sl,s'.os] Q;rw[e];show bh h f p xs (λy hy=>hx y (Sy _ hy)) ?_;rw[List.filter_cons_of_neg (by rw[hp];exact SK)] at q;exact q
end DL
namespace DL
open PySem PySem.Spec L2
open PyProof.Rows hiding St
section
variable{X:Cx}{c:Ent}
theorem oK{A:Fk}{k:Nat}(hr:cx k A):A.units+150 < cLine:=by have:=hr.un;cbv
def JK:D->D->(D->Prop)->Prop:=λa b k=>∃ x y,a=.str x/\b=.str y/\(x.length+y.length<=Ev)/\k (.str (x++y))
end
theorem gG{P:Fr}{w:Fa}{K:Frag}{mg:Str->Option AT}{base:EQ}{k:Nat}{f:AC}{fd:GT}{ps:!Str}{g:yI}:bN P w K mg base aP k f fd ps (bf K g λ_ _=>False) :=
 #[λvs H Q E h=>by let(_,_,_,_,_,h,_):=h;exact h.elim,λA outer s H args us vs Q E hr he hb hv h=>by let(_,_,_,_,_,h,_):=h;exact h.elim]
def eP(d:AC):UR:=λds R=>∃ m:Int,ds=[.cb d,.int m]/\(0 < m/\m < 9223372036854775808)/\∀ r:Int,0<=r->r < m->R (.int r)
theorem D5{P:Fr}{w:Fa}{K:Frag}{mg:Str->Option AT}{base:EQ}{k:Nat}{f d l:AC}{fd:GT}{ps:!Str}(F:bN P w K mg base aP k f fd ps cC.vh):bN P w K mg base aP k f fd ps (bf K (aN d l) (eP d)) :=
 F.imp λvs H Q E h=>by
  let(M,ds,R,B,r,(m,rfl,(h1,h2),k),kk):=h;let(v,w,rfl,e1,e2):=p8 r;cases (show v=.ref d from e1);cases (show w=.int m from e2);show#[d,l,m,U,B.oQ,h1,h2,λq H' q1 q2 A' bt=>kk _ (k q q1 q2) M H' _ #[A',λb o e g=>bt b o e (λz=>g (.inl z)) λz=>g (.inr z),λb m=>?_,B.mo,λ_ m=>m,λ_ m=>.inl m] rfl];let(o,e):=B.md b m;exact#[o,bt b o e (λz=>B.mo b m (.inl z)) λz=>B.mo b m (.inr z)]
section
variable{X:Cx}{c:Ent}
def OT(i:Nat):aW:=λs Q=>(∃ d,s.sl[i]?=some (.dat d)/\Q d s)\/∃ k d,s.sl[i]?=some (.own k)/\s.os[k]?=some (some d)/\Q d (s.freeze k d)
theorem sM{i:Nat}{e:Cl}(h:PE X e (bB i)):DE X c e (OT i):=#[λSc s0 σ H Q I zz=>cU zz λM s as R L q kk=>by
 rcases q with q | q
 .exact (dv (c:=c) h).pe Sc s0 σ H Q I #[M,s,as,R,L,q,kk]
 .exact (Oc (c:=c) h).pe Sc s0 σ H Q I #[M,s,as,R,L,q,kk]]
def K7(neg:Bool)(i:Nat)(tb:aW):aW:=λs Q=>∃ k d0,s.sl[i]?=some (.own k)/\s.os[k]?=some (some d0)/\tb s λb s1=>∃ d,s1.os[k]?=some (some d)/\(lH d=true/\lH b=true/\(j8 d<=150\/j8 b<=150))/\Q (.bl (if neg then (not (D6 d b)) else D6 d b)) s1
theorem Gw{neg:Bool}{i:Nat}{tb:aW}{σ:St}{H:Hp}{Q:VK}:tE X.K c (K7 neg i tb) σ H Q->iM (BB X.K neg) (bB i) (tE X.K c tb) σ H Q:=λz1q=>by
 let(M,s,as,R,L,(k,d0,h1,h2,q),kk):=z1q;let(a,o,g1,g2,g3,g4):=L.slot h1 h2;show#[_,g2,M,s,as,_,L,q,λb s1 z2q M1 H1 v L1 E1 rv=>?_];let(d,e1,(o1,o2,hd),q1):=z2q;let((o',f1,f2),nm,ng,h0):=L1.obj k _ a e1 g1;exact#[λb=>M1 b\/b=a,d,b,(f2.mono (λ_ m=>.inl m) λ_ _ _ e=>e).rep f1 (.inr U),Rep.mono (λ_ m=>.inl m) (λ_ _ _ e=>e) _ _ rv,o1,o2,hd,kk _ s1 q1 M1 H1 _ L1 E1 U]
theorem F4{neg:Bool}{i:Nat}{a b:Cl}{op:CmpOp}{tb:aW}{pos:Pos}(ho:gQ X (IN op) (BB X.K neg))(ha:PE X a (bB i))(hb:DE X c b tb)(hm:behindInMarks op b=false):DT X c (.Compare a [op] [b] pos) (EX (K7 neg i tb)):=#[(ib ho ha hb.pe hm).imp λ_ _ _=>gX Gw]
theorem cO:mG X c (λx y H Q=>∃ i j,x=.str i/\y=.str j/\i.length+j.length<=Ev/\Q (.str (i++j)) H) JK:=λM s as σ H x y dx dy k Q L rx ry z4r kk=>by
 let(i,j,e1,e2,h,hk):=z4r;subst e1;subst e2;exact#[i,j,rx,ry,h,kk _ hk M H _ L .refl U]
def Jx:D->D->(D->Prop)->Prop:=λa b k=>∃ z n,a=.str z/\b=.int n/\MulOk z n/\k (.str (Txt.mul z n))
theorem Bk:mG X c (λx y H Q=>∃ z n,x=.str z/\y=.int n/\MulOk z n/\Q (.str (Txt.mul z n)) H) Jx:=λM s as σ H x y dx dy k Q L rx ry z5r kk=>by
 let(i,j,e1,e2,h,hk):=z5r;subst e1;subst e2;exact#[i,j,rx,ry,h,kk _ hk M H _ L .refl U]
def Pw(te:aW)(tl th:DH):aW:=λs Q=>te s λa s1=>tl s1 λl s2=>th s2 λu s3=>∃ z,a=.str z/\z.length<=Ev/\Q (.str (Txt.slice z l u)) s3
theorem iR{e:Cl}{lo hi:Option Cl}{te:aW}{tl th:DH}{p2 pos:Pos}(he:DE X c e te)(hl:DO X c lo tl)(hu:DO X c hi th):DE X c (.Subscript e (.Slice lo hi none p2) pos) (Pw te tl th):=#[(j4 FF he.pe hl.po hu.po).imp λσ H Q zz=>cU zz λM s as R L q k =>
 #[M,s,as,_,L,q,λd s1 q1 M1 H1 v L1 E1 rv=>#[M1,s1,as,_,L1,q1,λl s2 q2 M2 H2 Lb E2=>#[M2,s2,as,_,Lb,q2,λu s3 q3 M3 H3 Lc E3=>by
  let(z,e,hz,q):=q3;subst e;have E13:=E2.trans Lb.base E3;exact#[z,rv,hz,k _ s3 q M3 H3 _ Lc (E1.trans L1.base E13) U]]]]]
theorem tR{K:Frag}{H:Hp}{M:AC->Prop}:∀ {bs:!Str} {vs:!V},aw K H M (bs.map .str) vs->vs=bs.map V.str
 | [],vs,r=>r
 | b::bs,vs,r=>by
  let(x,xr,rfl,r1,r2):=r;have r1:x=.str b:=r1;rw[r1,tR r2,SA]
def Jq(to:aW)(t:eF):aW:=λs Q=>to s λa s1=>∃ z,a=.str z/\t s1 λds s2=>∃ zs,ds=[.lst (zs.map .str)]/\(zs.map (·.length)).sum+zs.length * z.length<=16777216/\Q (.str (Txt.join z zs)) s2
theorem nO{o e:Cl}{es:!Cl}{to:aW}{t:eF}{apos cE:Pos}(ho:DE X c o to)(ha:DA X c (e::es) t)(fB:(attributeBase o "join" X.env (eval o X.env)=eval o X.env)⁻¹)(qG:(((IR cE (GM (e::es) X.env)).all (λx=>(not x.1))&&(Rs cE (SC [] X.env)).all (λx=>x.1.isSome)
   && decide ((e::es).length+([]:!Ps).length+(if ([]:!Ps).isEmpty then 0 else 1) < 30))=true)⁻¹)(c5:((apos.endLine == cE.line)=true)⁻¹)(hs:(US X.env e es)⁻¹)(ic:((IR cE (GM es X.env)).any (·.1)=false)⁻¹) :
  DE X c (.Call (.Attribute o "join" apos) (e::es) [] cE) (Jq to t):=#[(AH PySem.F.plainAttrs_str PySem.F.slot_str_join PySem.F.type_str_join DZ ho.pe ha.pa fB qG c5 hs ic).imp λσ H Q zz=>cU zz λM s as R L q kk=>by
 show#[M,s,as,_,L,q,λd s1 #[z,e,q1] M1 H1 v L1 E1 rv=>?_];subst e;cases (show v=.str z from rv);show#[U,M1,s1,as,_,L1,q1,λds s2 #[zs,e2,hz,q2] M2 H2 vs L2 E2 rvs hl=>?_];subst e2;let(w,rfl,p,ys,rfl,(m,h),r'):=cJ rvs;rw[tR r'] at h;exact#[z,p,zs,U,U,.of h,hz,kk _ s2 q2 M2 H2 _ L2 (E1.trans L1.base E2) U]]
def GU(zs:!Str):eF:=λs Q=>Q (zs.map .str) s
theorem qd{K:Frag}{H:Hp}{M:AC->Prop}:∀ (zs:!Str),aw K H M (zs.map .str) (zs.map V.str)
 | []=>rfl
 | z::zs=>#[_,_,U,U,qd zs]
theorem Ck{es:!Cl}{zs:!Str}(h:su es=true)(h2:xI es=zs)(h3:es.length=zs.length):DA X c es (GU zs):=#[(by subst h2;exact (xZ h).imp λσ H Q zz=>cU zz λM s as R L q k=>k _ s q M H _ L .refl (qd _) (by rw[Ss];exact h3.symm))]
def Jp(neg:Bool)(te:aW)(i:Nat):aW:=λs Q=>te s λa s1=>∃ k ds,s1.sl[i]?=some (.own k)/\s1.os[k]?=some (some (.lst ds))/\(gE a=true/\ds.all gE=true)/\Q (.bl (if neg then (not (yL (fv a) (ds.map fv))) else yL (fv a) (ds.map fv))) s1
theorem Gm{neg:Bool}{i:Nat}{te:aW}{σ:St}{H:Hp}{Q:VK}:tE X.K c (Jp neg te i) σ H Q->iM (HW X.K neg) (tE X.K c te) (bB i) σ H Q:=λzz=>cU zz λM s as R L q kk =>
 #[M,s,as,_,L,q,λd s1 z5q M1 H1 v L1 E1 rv=>by
  let(k,ds,h1,h2,(f1,f2),q1):=z5q;let(a,o,g1,g2,g3,g4):=L1.slot h1 h2;cases o with
  | lst us =>
   have g4:aw X.K H1 M1 ds us:=g4;have e1:=rv.flat f1;subst e1;let(e,f):=g4.flat f2;show#[_,g2,a,us,U,.inl (.of g3),mU f1,f,?_];rw[e];exact kk _ s1 q1 M1 H1 _ L1 E1 U
  | _=>exact g4.elim]
theorem Hd{neg:Bool}{i:Nat}{a b:Cl}{op:CmpOp}{ta:aW}{pos:Pos}(ho:gQ X (IN op) (HW X.K neg))(ha:DE X c a ta)(hb:PE X b (bB i))(hm:behindInMarks op b=false):DT X c (.Compare a [op] [b] pos) (EX (Jp neg ta i)):=#[(ib ho ha.pe hb hm).imp λ_ _ _=>gX Gm]
end
end DL
namespace DL
open PySem PySem.Spec L2
section
variable{κ:Type}[DecidableEq κ]
theorem wY{ks:!κ}{q:κ}:rn ks q=true↔q∈ks:=by
 unfold rn;rw[List.any_eq_true];constructor
 .rintro⟨k,h1,h2⟩;rw[<- of_decide_eq_true h2];exact h1
 .intro h;exact#[q,h,decide_eq_true U]
theorem oj:∀ {ks:!κ} {vs:!D} {q:κ} {x:D} (r:κ),ks.length=vs.length->q∈ks->b6 ks (l5 ks vs q x) r=if r=q then some x else b6 ks vs r
 | [],vs,q,x,r,_,h=>by cases h
 | k::ks,[],q,x,r,e,_=>by simp at e
 | k::ks,v::vs,q,x,r,e,h=>by
  change (if k=r then some (if k=q then x else v) else b6 ks (l5 ks vs q x) r)=if r=q then some x else if k=r then some v else b6 ks vs r;by_cases h1:k=r
  .subst h1;rw[if_pos U,if_pos U];by_cases h2:k=q
   .rw[if_pos h2,if_pos h2]
   .rw[if_neg h2,if_neg h2]
  .rw[if_neg h1,if_neg h1];by_cases h3:q∈ks
   .exact oj r (by simpa using e) h3
   .have h4:q=k:=by
     rcases SO.mp h with h | h
     .exact h
     .exact absurd h h3
    have h5:¬ r=q:=λz=>h1 (h4.symm.trans z.symm);rw[if_neg h5];have:∀ {ks:!κ} {vs:!D},ks.length=vs.length->q∉ks->b6 ks (l5 ks vs q x) r=b6 ks vs r:=by
     intro ks vs
     induction ks generalizing vs with
     | nil=>intro e _;cases vs<;>first | rfl | simp at e
     | cons k ks ih =>
      intro e hn;cases vs with
      | nil=>simp at e
      | cons v vs =>
       change (if k=r then some (if k=q then x else v) else b6 ks (l5 ks vs q x) r)=if k=r then some v else b6 ks vs r;have hk:¬ k=q:=λz=>hn (by rw[z];exact SD);rw[if_neg (c:=k=q) hk,ih (by simpa using e) λz=>hn (List.mem_cons_of_mem _ z)]
    exact this (by simpa using e) h3
theorem pz:∀ {ks:!κ} {vs:!D} {q:κ} {x:D} (r:κ),ks.length=vs.length->q∉ks->b6 (ks++[q]) (vs++[x]) r=if r=q then some x else b6 ks vs r
 | [],[],q,x,r,_,h=>by
  change (if q=r then some x else none)=_;by_cases h1:r=q
  .rw[if_pos h1,if_pos h1.symm]
  .rw[if_neg h1,if_neg (Ne.symm h1)]
   rfl
 | [],_::_,q,x,r,e,_=>by simp at e
 | _::_,[],q,x,r,e,_=>by simp at e
 | k::ks,v::vs,q,x,r,e,h=>by
  change (if k=r then some v else b6 (ks++[q]) (vs++[x]) r)=if r=q then some x else if k=r then some v else b6 ks vs r;have hk:k≠q:=λz=>h (by rw[z];exact SD);by_cases h1:k=r
  .subst h1;rw[if_pos U,if_neg hk,if_pos U]
  .rw[if_neg h1,if_neg h1];exact pz r (by simpa using e) λz=>h (List.mem_cons_of_mem _ z)
theorem AJ{ks:!κ}{vs:!D}{q:κ}{x:D}(r:κ)(e:ks.length=vs.length):b6 (gh ks q) (hJ ks vs q x) r=if r=q then some x else b6 ks vs r:=by
 unfold gh hJ;by_cases h:rn ks q=true
 .rw[if_pos h,if_pos h];exact oj r e (wY.mp h)
 .rw[if_neg h,if_neg h];exact pz r e λz=>h (wY.mpr z)
theorem qi:∀ {ks:!κ} {vs:!D} {q:κ} {x:D},ks.length=vs.length->(l5 ks vs q x).length=vs.length
 | [],[],q,x,_=>rfl
 | [],_::_,q,x,e=>by simp at e
 | _::_,[],q,x,e=>by simp at e
 | k::ks,v::vs,q,x,e=>by
  change (l5 ks vs q x).length+1=vs.length+1;rw[qi (by simpa using e)]
theorem xT{ks:!κ}{vs:!D}{q:κ}{x:D}(e:ks.length=vs.length):(gh ks q).length=(hJ ks vs q x).length/\(gh ks q).length<=ks.length+1:=by
 unfold gh hJ;by_cases h:rn ks q=true
 .rw[if_pos h,if_pos h,qi e];exact#[e,Ut _]
 .rw[if_neg h,if_neg h];simp[e]
end
def Fm.strs:Fm->!Str
 | .nm x=>[x]
 | .num _=>[]
 | .op s=>[s]
 | .Aa=>[]
 | .lt x=>[x]
 | .mk c=>[c]
 | .ask f=>[f]
 | .B0 r hs=>r::(hs.map λh=>h.1::h.2).flatten
 | .new k hs=>k::(hs.map λh=>h.1::h.2).flatten
mutual
noncomputable def Tm.FR:Tm->Bool
 | .node f ks=>f.strs.all GE.strOk&&AD ks
noncomputable def AD:!Tm->Bool
 | []=>true
 | t::r=>t.FR&&AD r
end
def vj(ds:!D):Nat:=GE.depthAll (toPs ds)
theorem pN(d:D)(ds:!D):vj (d::ds)=max (j8 d) (vj ds):=by
 change GE.depthAll (toP d::toPs ds)=_;simp[GE.depthAll,vj,j8]
theorem Br:vj []=0:=by simp[vj,toPs,GE.depthAll]
theorem Dk(ds:!D):j8 (.tup ds)=vj ds+1:=by
 change GE.depth (.tuple (toPs ds))=_;simp[GE.depth,vj]
theorem xQ(x:Str):j8 (.str x)=0:=by simp[j8,toP,GE.depth]
theorem Ds(x:Int):j8 (.int x)=0:=by simp[j8,toP,GE.depth]
theorem wJ:∀ {ks:!Tm} {n:Nat},(∀ k∈ks,k.dep<=n)->zE ks<=n
 | [],n,_=>S3 _
 | t::r,n,h=>by
  have h1:=h t SD;have h2:=wJ (n:=n) λk hk=>h k (Sy _ hk);change max t.dep (zE r)<=n;cbv
end DL
namespace DL
open PySem PySem.Spec L2
open PyProof.Rows hiding St
def Lw(x:Str):Prop:=∀ ch∈x.cps.toList,97<=ch/\ch<=122
noncomputable instance (x:Str):Decidable (Lw x):=by unfold Lw;infer_instance
theorem Lw.app{x y:Str}(h:Lw x)(k:Lw y):Lw (x++y):=λch hc=>by
 have e:(x++y).cps.toList=x.cps.toList++y.cps.toList:=by change (x.cps++y.cps).toList=_;simp
 rw[e,SN] at hc;rcases hc with hc | hc
 .exact h ch hc
 .exact k ch hc
theorem Lw.slice{x:Str}(h:Lw x)(l u:Option Int):Lw (Txt.slice x l u):=by
 unfold Txt.slice;split
 .exact h
 .intro ch hc;simp only[List.mem_filterMap] at hc;let(i,_,e):=hc;let(hi,e):=Array.getElem?_eq_some_iff.mp e;exact h ch (by rw[<- e];simp)
theorem sR:∀ (cs:!Nat),(Txt.join ("":Str) (cs.map λc=>(#[#v[c]]:Str))).cps.toList=cs
 | []=>by unfold Txt.join;rw[PySem.StrLaws.glued_eq_join];rfl
 | [c]=>by unfold Txt.join;rw[PySem.StrLaws.glued_eq_join];rfl
 | c::d::r=>by
  have ih:=sR (d::r);have e:(Txt.join ("":Str) ((c::d::r).map λc=>(#[#v[c]]:Str)))=(#[#v[c]]:Str)++("":Str)++Txt.join ("":Str) ((d::r).map λc=>(#[#v[c]]:Str)):=by
   unfold Txt.join;rw[T1,T1]
   rfl
  rw[e];change ((#v[c]++#v[])++(Txt.join ("":Str) ((d::r).map λc=>(#[#v[c]]:Str))).cps).toList=_;rw[Array.toList_append,ih]
  rfl
theorem Lw.strOk{x:Str}(h:Lw x):GE.strOk x=true:=by
 unfold GE.strOk;rw[Array.all_eq_true];intro i hi;have:=h x.cps[i] (by simp);simp;cbv
theorem nj{nt:Nat}{us:!Nat}{g:nA}{te:aW}(Pd:D->Prop){Q:!D->DS->Prop}{s:DS}:∀ (xs:!D) {acc:!D},(∀ x∈xs,∀ k:D->DS->Prop,(∀ (y:D) (s':DS),Pd y->s'.os=s.os->k y s')->g x (gP nt us s) λs1=>te s1 k)->(∀ ys:!D,ys.length=xs.length->(∀ y∈ys,Pd y)->Q (acc++ys) s)->bM nt us g cN te xs acc s Q
 | [],acc,_,q=>by
  have:=q [] rfl (λ_ h=>absurd h (by simp));rw[SY] at this;exact this
 | x::xs,acc,hx,q=>by
  have:=hx x SD (λy s3=>bM nt us g cN te xs (acc++[y]) #[s.sl,s3.os] Q) λy s' hy e=>by
   change bM nt us g cN te xs (acc++[y]) #[s.sl,s'.os] Q;rw[e];show nj Pd xs (λz hz=>hx z (Sy _ hz)) λys hl hp=>?_;rw[S0];show q ([y]++ys) (by simp[hl]) λz hz=>?_;rcases SO.mp hz with rfl | hz
   .exact hy
   .exact hp z hz
  rw[bM];simpa [cN] using this
theorem DK{X:Cx}{pG:!FM}{t:AC->jc}(h:∀ d l M0 H0,sL X #[aN d l,M0,H0] pG (t d)):mK X pG (λE σ H=>∃ d l M0 H0,tS X.K #[aN d l,M0,H0] (t d) E σ H):=λSc s σ H E I #[d,l,M0,H0,q]=>(h d l M0 H0).ps Sc s σ H E I q
theorem Fw{K:Frag}{d l:AC}{H:Hp}{t:AC->jc}{E:Ends}{σ:St}{n nos:Nat}(D1:cC.At H d l)(hl:σ.length=n+2)(h1:σ[1]?=some (some (.ref d)))(q:t d { nx:=λ_=>False,rt:=λx=>x=.bl true } #[.no::.dat (.cb d)::List.replicate n .no,List.replicate nos none])(k:∀ H',E.rt (.bl true) H'):∃ d l M0 H0,tS K #[aN d l,M0,H0] (t d) E σ H:=by
 show#[d,l,λ_=>False,H,λ_=>False,_,List.replicate nos 0,_,?_,q,?_]
 .refine#[#[D1,λb o e _=>e,λb m=>m.elim,λb m=>m.elim,λb m=>m.elim,λb m=>m.elim],by simp[hl],by simp,λi x e=>?_,λi k e=>?_,λk x a e=>?_,λk _ x _ a e=>?_,λk a e=>(nomatch e)]
  .match i,e with
   | 0,e=>simp at e
   | 1,e =>
    simp at e;subst e;exact#[_,h1,U]
   | i+2,e =>
    let(_,e):=Sw.mp e;simp at e
  .match i,e with
   | 0,e=>simp at e
   | 1,e=>simp at e
   | i+2,e =>
    let(_,e):=Sw.mp e;simp at e
  .let(_,e):=Sw.mp e;simp at e
  .let(_,e):=Sw.mp e;simp at e
 .refine#[λ_ _ _ _ _ z=>z.elim,λ_ _ _ _ _ z=>z.elim,λ_ _ _ _ _ z=>z.elim,λx M' H' v r B' rv=>?_,λ_ _ _ _ _ z=>z.elim,λ_ _ _ _ _ _ _ z=>z.elim];cases (show x=.bl true from r);cases (show v=.bl true from rv);exact k H'
def xD(K:Frag):Sp:=λvs H Q _=>∃ (a:AC) (ns:!Int),vs=[.ref a]/\dR K H a (ns.map V.int)/\ns.length<=63/\∀ H',Q (.bl true) H'
def sW:!Str:=["made","asked","def","tab","cross","to","number"]
def pF:!Str:=["zero","let","make","ask","case","new"]
def Nm(x:Str):Prop:=Lw x/\1<=x.length/\x.length<=8/\x∉sW/\x∉pF
noncomputable instance (x:Str):Decidable (Nm x):=by unfold Nm;infer_instance
theorem CZ:∀ z∈cC.near,Nm z:=by decide+kernel
theorem Dr:∀ z∈sW,(z++("q":Str))∉sW/\(z++("q":Str))∉pF/\z.length<=6:=by decide+kernel
theorem Dt:∀ z∈pF,(z++("q":Str))∉sW/\(z++("q":Str))∉pF/\z.length<=6:=by decide+kernel
theorem eu{w:Str}:∀ {zs:!Str},yL (.str w) (zs.map V.str)=decide (w∈zs)
 | []=>rfl
 | z::zs=>by
  have ih:=eu (w:=w) (zs:=zs);unfold yL at ih ⊢;rw[SA,T4,ih];rw[show Cg (V.str z) (V.str w)=decide (z=w) from U];by_cases h:z=w
  .simp[h]
  .simp[h,Ne.symm h]
def wl(pre post:!Nat)(tn k e:Nat):!Nat:=pre++(97+(tn+7 * k) % 26)::(post++(List.replicate (k % 2) 120++(List.replicate (k / 26) 121++List.replicate e 113)))
theorem Hx{pre post:!Nat}{tn k k' e e':Nat}(h:wl pre post tn k e=wl pre post tn k' e'):k=k':=by
 unfold wl at h;have h:=UE h;injection h with h1 h2;have h2:=UE h2;have h3:k % 26=k' % 26:=by cbv
 have h4:k % 2=k' % 2:=by cbv
 rw[h4] at h2;have h2:=UE h2;have h5:=congrArg (List.count 121) h2;simp[List.count_append,List.count_replicate] at h5;cbv
theorem kK(x y:Str):(x++y).cps.toList=x.cps.toList++y.cps.toList:=by change (x.cps++y.cps).toList=_;simp
theorem xF{r:Int}(h0:0<=r)(h1:r < 26):iw cC.KI.cps.toList r=some (97+r.toNat):=by
 have hn:∀ n:Fin 26,cC.KI.cps.toList[n.val]?=some (97+n.val):=by decide+kernel
 have hj:r.toNat < 26:=by cbv
 have e:(r.toNat:Int)=r:=Uv h0;have q:=eY (xs:=cC.KI.cps.toList) (j:=r.toNat) (v:=97+r.toNat) (hn #[r.toNat,hj]);rw[e] at q;exact q
theorem wH{c:Nat}{n:Int}(h0:0<=n)(h1:n<=2):(Txt.mul (#[#v[c]]:Str) n).cps.toList=List.replicate n.toNat c/\MulOk (#[#v[c]]:Str) n:=by
 have:n=0\/n=1\/n=2:=by cbv
 rcases this with rfl | rfl | rfl
 .exact#[U,U,λh=>absurd () h,λh=>absurd () h]
 .exact#[U,U,λ_ h=>absurd h (by simp),λ_ h=>absurd h (by simp)]
 .exact#[U,U,λ_ _=>by change ¬ ((1:Nat):Int) > (2 ^ 63 - 1) / 2;decide,λ_ _=>by change PySem.Builtin.Str.tooLong (1 * 2)=false;decide]
theorem pK{α:Type}{z:α}:∀ {ws:!α} (i:Nat),ws.Nodup->z∉ws->(ws.set i z).Nodup
 | [],i,h,hz=>by simpa using h
 | w::ws,0,h,hz=>by
  rw[List.set_cons_zero];rw[T2] at h ⊢;exact#[λm=>hz (Sy _ m),h.2]
 | w::ws,i+1,h,hz=>by
  rw[List.set_cons_succ];rw[T2] at h ⊢;show#[λm=>?_,pK i h.2 λm=>hz (Sy _ m)];rcases List.mem_or_eq_of_mem_set m with m | e
  .exact h.1 m
  .exact hz (by rw[<- e];exact SD)
open PySem.Builtin PySem.Builtin.Str in
theorem uf(x:Str)(l u:Option Int):(Txt.slice x l u).length<=(strSliceIndices l u 1 x.length).length:=by
 unfold Txt.slice;split
 .rename_i h
  simp at h;cbv
 .show (List.filterMap _ (strSliceIndices l u 1 x.length)).toArray.size<=_;rw[SQ];exact List.length_filterMap_le _ _
open PySem.Builtin PySem.Builtin.Str in
theorem yU{x:Str}{i:Int}(h0:0<=i)(h1:i<=x.length):(Txt.slice x none (some i)).length+(Txt.slice x (some i) none).length<=x.length:=by
 have a:=uf x none (some i);have b:=uf x (some i) none;have ha:(strSliceIndices none (some i) 1 x.length).length<=i.toNat:=by
  unfold strSliceIndices sliceRange;simp only[show (1:Int) > 0 by decide,if_true,List.length_map,List.length_range]<;>(split<;>(try split)<;>(try split)<;>(try simp only[Int.ediv_one])<;>cbv)
 have hb:(strSliceIndices (some i) none 1 x.length).length<=x.length - i.toNat:=by
  unfold strSliceIndices sliceRange;simp only[show (1:Int) > 0 by decide,if_true,List.length_map,List.length_range]<;>(split<;>(try split)<;>(try split)<;>(try simp only[Int.ediv_one])<;>cbv)
 cbv
def ud(pre post:!Nat)(tn:Nat)(ws:!Str):Prop:=∀ (j:Nat) (w:Str),ws[j]?=some w->Nm w/\∃ e,w.cps.toList=wl pre post tn j e
theorem ud.nodup{pre post:!Nat}{tn:Nat}{ws:!Str}(h:ud pre post tn ws):ws.Nodup:=by
 rw[Us,List.pairwise_iff_getElem];intro i j hi hj QN e;let(_,e1,h1):=h i ws[i] (SJ hi);let(_,e2,h2):=h j ws[j] (SJ hj);rw[e,h2] at h1;have:=Hx h1;cbv
theorem ud.snoc{pre post:!Nat}{tn:Nat}{ws:!Str}{u:Str}{e:Nat}(h:ud pre post tn ws)(hu:Nm u)(he:u.cps.toList=wl pre post tn ws.length e):ud pre post tn (ws++[u]):=λj w q=>by
 by_cases hj:j < ws.length
 .rw[TF hj] at q;exact h j w q
 .rw[TM (by cbv)] at q;let(h1,h2):=Sw.mp q;simp at h1;have:j=ws.length:=by cbv
  subst this;simp at h2;subst h2;exact#[hu,e,he]
theorem ud.nm{pre post:!Nat}{tn:Nat}{ws:!Str}(h:ud pre post tn ws):∀ w∈ws,Nm w:=λw m=>by
 let(j,hj,e):=Tz m;exact (h j w (by rw[SJ hj,e])).1
def BL(d:AC):UR:=λds R=>∃ m:Int,ds=[.cb d,.int m]/\(0 < m/\m<=60)/\∀ ws:!Str,ws.length=m.toNat->ws.Nodup->(∀ x∈ws,Nm x)->R (.lst (ws.map .str))
section
variable{X:Cx}{c:Ent}
def qB:D->Bool
 | .bH=>true
 | _=>false
theorem Rep.E8{K:Frag}{H:Hp}{M:AC->Prop}{d:D}{v:V}(r:Rep K H M d v):decide (v=.bH)=qB d:=by
 cases d with
 | bH=>rw[show v=.bH from r];rfl
 | bl b=>rw[show v=.bl b from r];rfl
 | int b=>rw[show v=.int b from r];rfl
 | str b=>rw[show v=.str b from r];rfl
 | cb b=>rw[show v=.ref b from r];rfl
 | ty b=>rw[show v=.ty b from r];rfl
 | tup _=>let(a,xs,rfl,_):=r;rfl
 | lst _=>let(a,xs,rfl,_):=r;rfl
 | sQ _ _=>let(a,xs,rfl,_):=r;rfl
 | l6 _ _=>let(a,xs,rfl,_):=r;rfl
 | EH _ _=>let(a,o,xs,ts,rfl,_):=r;rfl
 | ob _ _ _=>let(a,dx,xs,rfl,_):=r;rfl
def O9:D->D->(D->Prop)->Prop:=λa b k=>b=.bH/\k (.bl (qB a))
def Jl:D->D->(D->Prop)->Prop:=λa b k=>b=.bH/\k (.bl (not (qB a)))
theorem ET:mG X c (λx y H Q=>y=.bH/\Q (.bl (decide (x=.bH))) H) O9:=λM s as σ H x y dx dy k Q L rx ry z6r kk=>by
 let(e,hk):=z6r;subst e;show#[ry,?_];rw[rx.E8];exact kk _ hk M H _ L .refl U
theorem HK:mG X c (λx y H Q=>y=.bH/\Q (.bl (not (decide (x=.bH)))) H) Jl:=λM s as σ H x y dx dy k Q L rx ry z7r kk=>by
 let(e,hk):=z7r;subst e;show#[ry,?_];rw[rx.E8];exact kk _ hk M H _ L .refl U
def Pn:UR:=λas k=>∃ i j,as=[.int i,.int j]/\k (.int (if j < i then j else i))
theorem La:xH X c (λxs H Q=>∃ i j,xs=[.int i,.int j]/\Q (.int (if j < i then j else i)) H) Pn:=λM s as σ H xs ds k Q L r z8r kk=>by
 let(i,j,e,hk):=z8r;subst e;let(v,w,rfl,e1,e2):=p8 r;have e1:v=.int i:=e1;have e2:w=.int j:=e2;subst e1;subst e2;exact#[i,j,U,kk _ hk M H _ L .refl U]
end
end DL
namespace PyZ
open PySem Sem
section
variable{prog:Fr}{w:Fa}{A:Fk}{E:UP}{s:Da}{z TI TO i1 i2:AC}{f1 f2:!AC}{n1 n2:Nat}{P1 P2:Nat->AT->Prop}{S1 S2:Nat->EQ->Prop}
structure Apart(z TI TO i1 i2:AC)(f1 f2:!AC):Prop where
 TIz:TI≠z
 TOz:TO≠z
 i1z:i1≠z
 i2z:i2≠z
 TITO:TI≠TO
 TIi1:TI≠i1
 TIi2:TI≠i2
 TOi1:TO≠i1
 TOi2:TO≠i2
 z1:z∉f1
 z2:z∉f2
 o1:TO∉f1
 o2:TO∉f2
 a1:i2∉f1
 a2:i1∉f2
structure Zip(S1 S2:Nat->EQ->Prop)(z TI TO i1 i2:AC)(f0:AT)(k1 k2:Nat)(h:EQ):Prop where
 zip:IsZip h z TI TO f0
 ins:Ix h TI (.ref i1) (.ref i2)
 out:∃ a b,Ix h TO a b
 Ie:S1 k1 h
 EU:S2 k2 h
theorem but{c:AC}{f:!AC}{h h':EQ}{S:Nat->EQ->Prop}{it:AC}{n k:Nat}{P:Nat->AT->Prop}(D:Draws prog w A it f n P S)(x:EQ.SameBut c h h')(hc:c∉f)(st:S k h):S k h' :=
 D.frame _ _ _ st λb hb o e=>x.extBut _ _ (λq=>hc (q▸hb)) e
theorem next_item{k:Nat}{Q:UP}(X:Apart z TI TO i1 i2 f1 f2)(D1:Draws prog w A i1 f1 n1 P1 S1)(D2:Draws prog w A i2 f2 n2 P2 S2)(Z:Zip S1 S2 z TI TO i1 i2 .none k k s.heap)(h1:k < n1)(h2:k < n2)(hQ:∀ x y h' tk,P1 k x->P2 k y->Zip S1 S2 z TI TO i1 i2 (KF ↑s) (k+1) (k+1) h'->Ix h' ↑s x y->h'.objs.size=↑s+1 ->
   (∀ c o,c≠z->c≠TO->c≠i1->c≠i2->s.heap.get? c=some o->h'.get? c=some o)->Q (.ref ↑s) { s with heap:=h',toks:=tk }) :
  Db (model prog w) A (FS.«zip.__next__» #[[.ref z],[]]) (λfin s'=>∃ v,fin=.done (.ret v)/\Q v s') E s:=by
 let(hz,hTI,(a,b,hTO),t1,t2):=Z;change Db _ _ (field (.ref z) 2 >>= _) _ _ _;show Ch (KB hz U (x:=.bool false) U ?_);change Db _ _ (field (.ref z) 3 >>= _) _ _ _;show Ch (KB hz U (x:=.ref TI) U (Ch (Os hTI U ?_)));change Db _ _ (FS.SmallTypes.ownedTupleIsFree (.ref z) >>= _) _ _ _;show Ch ?_;unfold FS.SmallTypes.ownedTupleIsFree;show Ch (KB hz U (x:=.none) U (FB ?_));simp only[if_true];show Ch (wpAny_rule (Ch (KB hz U (x:=.ref TO) U (Ch (wpAny_setField_rec hz (by simp) λha hza sa=>?_)))))
 replace hza:IsZip ha z TI TO .ellipsis:=hza
 show Ch ?_;simp only[List.zipIdx_cons,List.zipIdx_nil,List.forIn_cons,List.forIn_nil];show Ch (Ch (wpAny_onRaise ?_));change Db _ _ (FS.SmallTypes.nextOf (.ref i1) >>= _) _ _ _;show Ch (D1.item k _ _ _ h1 (but D1 sa X.z1 t1) λx hb tk1 px t1b sb=>FB ?_);have ob:Ix hb TO a b:=sb.extBut _ _ X.TOi1 (sa.extBut _ _ X.TOz hTO);show Ch (Os ob U (Ch (wpAny_updateSeq_pair ob λhc oc sc=>Ch (wpAny_letGo (FB ?_)))))
 replace oc:Ix hc TO x b:=oc
 show Ch (Ch (wpAny_onRaise ?_));change Db _ _ (FS.SmallTypes.nextOf (.ref i2) >>= _) _ _ _;show Ch (D2.item k _ _ _ h2 (but D2 sc X.o2 (but D2 sb X.a2 (but D2 sa X.z2 t2))) λy hd tk2 py t2d sd=>FB ?_);have od:Ix hd TO x b:=sd.extBut _ _ X.TOi2 oc;show Ch (Os od U (Ch (wpAny_updateSeq_pair od λhe oe se=>Ch (wpAny_letGo (FB (FB ?_))))))
 replace oe:Ix he TO x y:=oe
 show Ch (Os oe U (Ch (wpAny_newTuple ?_)));have hsz:he.objs.size=↑s:=by rw[se.1,sd.1,sc.1,sb.1,sa.1]
 have ze:IsZip he z TI TO .ellipsis:=se.extBut _ _ X.TOz.symm (sd.extBut _ _ X.i2z.symm (sc.extBut _ _ X.TOz.symm (sb.extBut _ _ X.i1z.symm hza)));have ke:∀ c o,c≠z->c≠TO->c≠i1->c≠i2->s.heap.get? c=some o->he.get? c=some o:=λc o c1 c2 c3 c4 e =>
  se.extBut _ _ c2 (sd.extBut _ _ c4 (sc.extBut _ _ c2 (sb.extBut _ _ c3 (sa.extBut _ _ c1 e))))
 have t1e:S1 (k+1) he:=but D1 se X.o1 (but D1 sd X.a1 (but D1 sc X.o1 t1b));have t2e:S2 (k+1) he:=but D2 se X.o2 t2d;have hzlt:z < he.objs.size:=SE ze;change Db _ _ (FS.SmallTypes.ownedTupleHandOut (.ref z) (.ref he.objs.size) >>= _) _ _ _;show Ch ?_;unfold FS.SmallTypes.ownedTupleHandOut;have zf:IsZip (he.push { cls:=.type "tuple",data:=.seq #v[x,y] }) z TI TO .ellipsis:=Su _ ze;show Ch (wpAny_setField_rec zf (by simp) λhg zg sg=>?_)
 replace zg:IsZip hg z TI TO (KF he.objs.size):=zg
 show wpAny_setField_rec zg (by simp) λhh zh sh=>?_
 replace zh:IsZip hh z TI TO (KF he.objs.size):=zh
 have up:∀ c o,c≠z->he.get? c=some o->hh.get? c=some o:=λc o c1 e=>sh.extBut _ _ c1 (sg.extBut _ _ c1 (Su _ e));have pT:Ix hh he.objs.size x y:=sh.extBut _ _ (Ui hzlt) (sg.extBut _ _ (Ui hzlt) (SH _ U));have z8:hh.objs.size=he.objs.size+1:=by rw[sh.1,sg.1,Th]
 rw[hsz] at zh pT z8;show FB #[_,U,?_];change Q (.ref he.objs.size) _;rw[hsz];show hQ x y hh _ px py #[zh,up _ _ X.TIz (ke _ _ X.TIz X.TITO X.TIi1 X.TIi2 hTI),#[_,_,up _ _ X.TOz oe],?_,?_] pT z8 λc o c1 c2 c3 c4 e=>up c o c1 (ke c o c1 c2 c3 c4 e)
 .exact D1.frame _ _ _ t1e λq hq o e=>up q o (λr=>X.z1 (r▸hq)) e
 .exact D2.frame _ _ _ t2e λq hq o e=>up q o (λr=>X.z2 (r▸hq)) e
def Ends(prog:Fr)(w:Fa)(A:Fk)(it:AC)(S:EQ->Prop):Prop:=∀ (s:Da) (Q:UP) (E:UP),S s.heap ->
  (∀ h' e,EQ.ExtBut it s.heap h'->(∃ o,h'.get? e=some o/\o.cls=.type "StopIteration")->E (.ref e) { s with heap:=h' })->Db (model prog w) A (FS.SmallTypes.nextOf (.ref it)) Q E s
theorem next_end{k:Nat}{Q:PySem.Fin->Da->Prop}(X:Apart z TI TO i1 i2 f1 f2)(D1:Draws prog w A i1 f1 n1 P1 S1)(D2:Draws prog w A i2 f2 n2 P2 S2)(Z:Zip S1 S2 z TI TO i1 i2 .none k k s.heap)(hk:Ends prog w A i1 (S1 k)\/(k < n1/\Ends prog w A i2 (S2 k)))(hE:∀ h' e tk,(∀ c o,c≠z->c≠TO->c≠i1->c≠i2->s.heap.get? c=some o->h'.get? c=some o)->(∃ o,h'.get? e=some o/\o.cls=.type "StopIteration")->E (.ref e) { s with heap:=h',toks:=tk }) :
  Db (model prog w) A (FS.«zip.__next__» #[[.ref z],[]]) Q E s:=by
 let(hz,hTI,(a,b,hTO),t1,t2):=Z;change Db _ _ (field (.ref z) 2 >>= _) _ _ _;show Ch (KB hz U (x:=.bool false) U ?_);change Db _ _ (field (.ref z) 3 >>= _) _ _ _;show Ch (KB hz U (x:=.ref TI) U (Ch (Os hTI U ?_)));change Db _ _ (FS.SmallTypes.ownedTupleIsFree (.ref z) >>= _) _ _ _;show Ch ?_;unfold FS.SmallTypes.ownedTupleIsFree;show Ch (KB hz U (x:=.none) U (FB ?_));simp only[if_true];show Ch (wpAny_rule (Ch (KB hz U (x:=.ref TO) U (Ch (wpAny_setField_rec hz (by simp) λha hza sa=>?_)))))
 replace hza:IsZip ha z TI TO .ellipsis:=hza
 show Ch ?_;simp only[List.zipIdx_cons,List.zipIdx_nil,List.forIn_cons,List.forIn_nil];show Ch (Ch (wpAny_onRaise ?_));change Db _ _ (FS.SmallTypes.nextOf (.ref i1) >>= _) _ _ _;rcases hk with d1 | ⟨h1,d2⟩
 rotate_left
 .refine Ch (D1.item k _ _ _ h1 (but D1 sa X.z1 t1) λx hb tk1 px t1b sb=>FB ?_);have ob:Ix hb TO a b:=sb.extBut _ _ X.TOi1 (sa.extBut _ _ X.TOz hTO);show Ch (Os ob U (Ch (wpAny_updateSeq_pair ob λhc oc sc=>Ch (wpAny_letGo (FB ?_)))));show Ch (Ch (wpAny_onRaise ?_));change Db _ _ (FS.SmallTypes.nextOf (.ref i2) >>= _) _ _ _;show Ch (d2 _ _ _ (but D2 sc X.o2 (but D2 sb X.a2 (but D2 sa X.z2 t2))) λhd e sd he=>?_);let(oe,hoe,hce):=he;have zd:IsZip hd z TI TO .ellipsis:=sd _ _ X.i2z.symm (sc.extBut _ _ X.TOz.symm (sb.extBut _ _ X.i1z.symm hza));have hez:e≠z:=λx=>by subst x;rw[zd] at hoe;cases hoe;simp at hce
  exact wpAny_setField_rec zd (by simp) λhf _ sf=>hE hf e _ (λc o c1 c2 c3 c4 x=>sf.extBut _ _ c1 (sd _ _ c4 (sc.extBut _ _ c2 (sb.extBut _ _ c3 (sa.extBut _ _ c1 x))))) #[oe,sf.extBut _ _ hez hoe,hce]
 .refine Ch (d1 _ _ _ (but D1 sa X.z1 t1) λhb e sb he=>?_);let(oe,hoe,hce):=he;have zb:IsZip hb z TI TO .ellipsis:=sb _ _ X.i1z.symm hza;have hez:e≠z:=λx=>by subst x;rw[zb] at hoe;cases hoe;simp at hce
  exact wpAny_setField_rec zb (by simp) λhf _ sf=>hE hf e _ (λc o c1 _ c3 _ x=>sf.extBut _ _ c1 (sb _ _ c3 (sa.extBut _ _ c1 x))) #[oe,sf.extBut _ _ hez hoe,hce]
theorem xl{k:Nat}{Q:Option AT->Da->Prop}(X:Apart z TI TO i1 i2 f1 f2)(D1:Draws prog w A.in1 i1 f1 n1 P1 S1)(D2:Draws prog w A.in1 i2 f2 n2 P2 S2)(Z:Zip S1 S2 z TI TO i1 i2 .none k k s.heap)(h1:k < n1)(h2:k < n2)(hQ:∀ x y h' tk,P1 k x->P2 k y->Zip S1 S2 z TI TO i1 i2 (KF ↑s) (k+1) (k+1) h'->Ix h' ↑s x y->h'.objs.size=↑s+1 ->
   (∀ c o,c≠z->c≠TO->c≠i1->c≠i2->s.heap.get? c=some o->h'.get? c=some o)->Q (some (.ref ↑s)) { s with heap:=h',toks:=tk }):Db (model prog w) A (pyNext (.ref z)) Q E s:=by
 have hT:s.TypeIs (.ref z) "zip":=#[_,Z.zip,U];unfold pyNext;exact Ch (wpAny_attempt (wpAny_callSpecial?_slot (name:=Str.ofString "__next__") hT F.slot_zip_next
  (SL F.slot_zip_next hT F.entry_zip_next (next_item X D1 D2 Z h1 h2 λx y h' tk a1 a2 a3 a4 a5 a6=>FB (hQ x y h' tk a1 a2 a3 a4 a5 a6)) (F.args_zip_next_1 _))))
theorem Bf{k:Nat}{Q:Option AT->Da->Prop}(X:Apart z TI TO i1 i2 f1 f2)(D1:Draws prog w A.in1 i1 f1 n1 P1 S1)(D2:Draws prog w A.in1 i2 f2 n2 P2 S2)(Z:Zip S1 S2 z TI TO i1 i2 .none k k s.heap)(hk:Ends prog w A.in1 i1 (S1 k)\/(k < n1/\Ends prog w A.in1 i2 (S2 k)))(hQ:∀ h' tk,(∀ c o,c≠z->c≠TO->c≠i1->c≠i2->s.heap.get? c=some o->h'.get? c=some o)->Q none { s with heap:=h',toks:=tk }):Db (model prog w) A (pyNext (.ref z)) Q E s:=by
 have hT:s.TypeIs (.ref z) "zip":=#[_,Z.zip,U];unfold pyNext;show Ch (wpAny_attempt (wpAny_callSpecial?_slot (name:=Str.ofString "__next__") hT F.slot_zip_next
  (SL F.slot_zip_next hT F.entry_zip_next (next_end X D1 D2 Z hk λh' e tk kk he=>?_) (F.args_zip_next_1 _))))
 let(o,ho,hc):=he;show Ch (wpAny_isInstance (T:="StopIteration") (b:=true) #[o,ho,hc] isSubtype_stop ?_);exact FB (hQ _ _ kk)
end
end PyZ
namespace PyZ
open PySem Sem L2
def jT(t:Bool)(h:EQ)(l:AC)(xs:Array AT):Prop:=if t=true then h.IsTuple l xs else h.IsList l xs
def Gv(t:Bool)(l:AC):Obj:={ cls:=.type (if t=true then "tuple_iterator" else "list_iterator"),data:=.fields #v[.ref l,.int 0 0] }
theorem jT.at{t:Bool}{h h':EQ}{l:AC}{xs:Array AT}(x:jT t h l xs)(k:∀ o,h.get? l=some o->h'.get? l=some o):jT t h' l xs:=by
 cases t with
 | true =>
  let(o,e,r):=(show h.IsTuple l xs from x);exact#[o,k o e,r]
 | false=>exact EQ.IsList.at (show h.IsList l xs from x) k
section
variable{prog:Fr}{w:Fa}{A:Fk}{E:UP}{s:Da}
theorem zl{t:Bool}{l:AC}{xs:Array AT}{Q:UP}(hl:jT t s.heap l xs)(h:Q (.ref ↑s) { s with heap:=s.heap.push (Gv t l) }):Db (model prog w) A (pyIter (.ref l)) Q E s:=by
 cases t with
 | true=>exact wpAny_pyIter_tuple (show s.heap.IsTuple l xs from hl) h
 | false=>exact wpAny_pyIter_list (show s.heap.IsList l xs from hl) h
theorem i6(t:Bool)(hh:A.handled=none)(it l:AC)(qT:l≠it)(xs:Array AT):Draws prog w A it [it,l] xs.size (λi v=>xs[i]?=some v) (λi h=>ir t h it l i/\jT t h l xs):=by
 cases t with
 | true=>exact Kw.GH hh it l qT xs
 | false=>exact Draws.list hh it l qT xs
end
theorem rC{prog:Fr}{w:Fa}{A:Fk}(t:Bool)(hh:A.handled=none){it l:AC}{xs:Array AT}{k:Nat}(hk:xs.size<=k):Ends prog w A it (λh=>ir t h it l k/\jT t h l xs):=λs Q E z9r hE=>by
 let(a,b):=z9r;have hn:xs[k]?=none:=Array.getElem?_eq_none hk;cases t with
 | true=>exact Kw.gH hh (show s.heap.IsTupleIter it l k from a) (show s.heap.IsTuple l xs from b) hn hE
 | false=>exact wpAny_nextOf_list_end hh (show s.heap.IsListIter it l k from a) (show s.heap.IsList l xs from b) hn hE
abbrev q1(t1:Bool)(h:EQ)(l1:AC):EQ:=h.push (Gv t1 l1)
abbrev q2(t1 t2:Bool)(h:EQ)(l1 l2:AC):EQ:=(q1 t1 h l1).push (Gv t2 l2)
abbrev q3(t1 t2:Bool)(h:EQ)(l1 l2:AC):EQ:=(q2 t1 t2 h l1 l2).push { cls:=.type "tuple",data:=.seq #v[.ref h.objs.size,.ref (q1 t1 h l1).objs.size] }
abbrev q4(t1 t2:Bool)(h:EQ)(l1 l2:AC):EQ:=(q3 t1 t2 h l1 l2).push { cls:=.type "tuple",data:=.seq #v[.none,.none] }
abbrev q5(t1 t2:Bool)(h:EQ)(l1 l2:AC):EQ:=(q4 t1 t2 h l1 l2).push { cls:=.type "zip",data:=.fields #v[.none,.bool false,.bool false,.ref (q2 t1 t2 h l1 l2).objs.size,.ref (q3 t1 t2 h l1 l2).objs.size] }
theorem yu(t1 t2:Bool)(l1 l2:AC)(xs ys:Array AT) :
  Meets (FS.«zip.__new__» #[[.type "zip",.ref l1,.ref l2],[]]) (λ_ R s=>jT t1 s.heap l1 xs/\jT t2 s.heap l2 ys /\
   R (.ok (.ret (.ref (q4 t1 t2 s.heap l1 l2).objs.size))) { s with heap:=q5 t1 t2 s.heap l1 l2 }) :=
 .of_wp λprog w A R s h=>by
  let(hp,g,d,tk,os):=s;let(zo,HU,h):=h;have hsub:=sub_zip;have hL1:jT t1 (Da.heap #[hp,g,d,tk,os]) l1 xs:=zo;have hL2:jT t2 (Da.heap #[hp.push (Gv t1 l1),g,d,tk,os]) l2 ys:=jT.at HU λo e=>Su _ e
  wp_walk using zl hL1,zl hL2
  exact#[_,U,h]
section
variable{prog:Fr}{w:Fa}{A:Fk}{E:UP}{s:Da}
theorem uH{t:Bool}{h:EQ}{it l:AC}(e:h.get? it=some (Gv t l)):ir t h it l 0:=by
 cases t with
 | true=>exact (show h.IsTupleIter it l 0 from #[_,e,U,U])
 | false=>exact (show h.IsListIter it l 0 from #[_,e,U,U])
theorem sZ{t1 t2:Bool}{l1 l2:AC}{xs ys:Array AT}{Q:UP}(zo:jT t1 s.heap l1 xs)(HU:jT t2 s.heap l2 ys)(h:∀ h',IsZip h' (↑s+4) (↑s+2) (↑s+3) .none->Ix h' (↑s+2) (.ref ↑s) (.ref (↑s+1)) ->
   Ix h' (↑s+3) .none .none->ir t1 h' ↑s l1 0->ir t2 h' (↑s+1) l2 0->h'.objs.size=↑s+5 ->
   (∀ c o,s.heap.get? c=some o->h'.get? c=some o)->Q (.ref (↑s+4)) { s with heap:=h' }) :
  Db (model prog w) A (call (.type "zip") [.ref l1,.ref l2]) Q E s:=by
 show callType_new F.called_zip () (F.typeCall_zip_2 _ _) (F.newCall_zip_2 _ _) (λobj=>F.args_object_init_3 obj _ _) F.entry_zip_new (yu t1 t2 l1 l2 xs ys) #[zo,HU,?_];have z1:(q1 t1 s.heap l1).objs.size=↑s+1:=Th ..;have z2:(q2 t1 t2 s.heap l1 l2).objs.size=↑s+2:=by rw[Th,z1]
 have z3:(q3 t1 t2 s.heap l1 l2).objs.size=↑s+3:=by rw[Th,z2]
 have z4:(q4 t1 t2 s.heap l1 l2).objs.size=↑s+4:=by rw[Th,z3]
 have z5:(q5 t1 t2 s.heap l1 l2).objs.size=↑s+5:=by rw[Th,z4]
 have g5:(q5 t1 t2 s.heap l1 l2).get? (q4 t1 t2 s.heap l1 l2).objs.size=some _:=SH _ U;have g4:(q5 t1 t2 s.heap l1 l2).get? (q3 t1 t2 s.heap l1 l2).objs.size=some _:=Su _ (SH _ U);have g3:(q5 t1 t2 s.heap l1 l2).get? (q2 t1 t2 s.heap l1 l2).objs.size=some _:=Su _ (Su _ (SH _ U));have g2:(q5 t1 t2 s.heap l1 l2).get? (q1 t1 s.heap l1).objs.size=some (Gv t2 l2):=Su _ (Su _ (Su _ (SH _ U)));have g1:(q5 t1 t2 s.heap l1 l2).get? ↑s=some (Gv t1 l1):=Su _ (Su _ (Su _ (Su _ (SH _ U))));change _/\_;rw[z2,z3,z4] at g5;rw[z1,z2] at g3;rw[z3] at g4;rw[z1] at g2;rw[z4];exact#[#[_,g5,U],h _ g5 g3 g4 (uH g1) (uH g2) z5 λc o x =>
  Su _ (Su _ (Su _ (Su _ (Su _ x))))]
end
end PyZ
namespace L2
open PySem PySem.Spec PyZ
open PyProof.Rows hiding St
def QF(K:Frag)(t1 t2:Bool)(a b:AC):It :=
 #[λi H=>∃ xs ys x y,(xv K t1 H a xs/\xv K t2 H b ys)/\xs[i]?=some x/\ys[i]?=some y,
  λi H x H'=>∃ p,H p=none/\x=.ref p/\∀ xs ys,xv K t1 H a xs->xv K t2 H b ys->∃ u v,xs[i]?=some u/\ys[i]?=some v/\H'=upd H p (.tup [u,v]),
  λi H=>∃ xs ys,(xv K t1 H a xs/\xv K t2 H b ys)/\min xs.length ys.length<=i]
section
variable{P:Fr}{w:Fa}{K:Frag}
theorem iS{X:Cx}{Sc:UQ}{σ:St}{H:Hp}{s:Da}{a:AC}{t:Bool}{xs:!V}(I:Inv X Sc σ H s)(h:xv X.K t H a xs):∃ its:!AT,Vals xs its/\jT t s.heap a its.toArray/\xs.length<=Ev:=by
 cases t with
 | true =>
  let(its,r,p,hz):=I.tuple (show jS X.K H a xs from h);exact#[its,r,p,hz]
 | false =>
  let(its,r,p,hz):=I.list (show dR X.K H a xs from h);exact#[its,r,p.isList,hz]
structure EW(t1 t2:Bool)(z TI TO i1 i2 a b:AC)(i:Nat)(h:EQ):Prop where
 zip:IsZip h z TI TO .none
 ins:Ix h TI (.ref i1) (.ref i2)
 out:∃ u v,Ix h TO u v
 e1:ir t1 h i1 a i
 e2:ir t2 h i2 b i
theorem AE(t1 t2:Bool){elts:!Cl}{k:Nat}{u9:Pos}{z TI TO i1 i2 a b:AC}(Y:Apart z TI TO i1 i2 [i1,a] [i2,b])(ha:a≠i1)(hb:b≠i2):Turn P w K (.Tuple elts k u9) (QF K t1 t2 a b) [z,TI,TO,i1,i2] z (EW t1 t2 z TI TO i1 i2 a b) where
 mem:=by simp
 obj:=λi h st c hc=>by
  simp only[List.mem_cons,List.not_mem_nil,or_false] at hc;rcases hc with rfl | rfl | rfl | rfl | rfl
  .exact#[_,st.zip,λv q=>by
    have q':Data.fields _=Data.cell v:=q;cases q']
  .exact#[_,st.ins,λv q=>by
    have q':Data.seq _ _=Data.cell v:=q;cases q']
  .let(u,v,e):=st.out;exact#[_,e,λv q=>by
    have q':Data.seq _ _=Data.cell v:=q;cases q']
  .exact st.e1.obj
  .exact st.e2.obj
 keep:=λi h h' st kk=>#[kk z (by simp) _ st.zip,kk TI (by simp) _ st.ins,let #[u,v,e]:=st.out;#[u,v,kk TO (by simp) _ e],st.e1.at λo x=>kk i1 (by simp) o x,st.e2.at λo x=>kk i2 (by simp) o x]
 item:=by
  intro X hP hw hK hc i Sc s σ H E I hf st hg;subst hP hw hK;let(xs,ys,x,y,(hx,hy),ex,ey):=hg;let(ef,r1,p1,_):=iS I hx;let(dZ,r2,p2,_):=iS I hy;let(u,hu,ru):=r1.get ex;let(v,hv,rv):=r2.get ey;have hd:(X.A.in1).handled=none:=I.ok.hd hc;show xl Y (i6 t1 hd i1 a ha ef.toArray) (i6 t2 hd i2 b hb dZ.toArray) #[st.zip,st.ins,st.out,#[st.e1,p1],#[st.e2,p2]] ?_ ?_ λu' v' h' tk pu pv Z pT hsz hk=>?_
  .have:=(Sw.mp hu).1;simpa using this
  .have:=(Sw.mp hv).1;simpa using this
  have e1:u'=u:=by
   have q:ef[i]?=some u':=by simpa using pu
   rw[hu] at q;exact (S4 q).symm
  have e2:v'=v:=by
   have q:dZ[i]?=some v':=by simpa using pv
   rw[hv] at q;exact (S4 q).symm
  subst e1;subst e2;show#[_,U,wpAny_letOwnedTupleGo_zip (s:={ s with heap:=h',toks:=tk }) Z.zip λh2 z2 s2=>?_];have hzlt:z < ↑s:=SE st.zip;have keep:∀ c o,c∉[z,TI,TO,i1,i2]->s.heap.get? c=some o->h2.get? c=some o:=λc o hc q=>by
   simp only[List.mem_cons,List.not_mem_nil,or_false,not_or] at hc;exact s2.extBut _ _ hc.1 (hk c o hc.1 hc.2.2.1 hc.2.2.2.1 hc.2.2.2.2 q)
  have hfr:H ↑s=none:=I.bj.fresh (Sx _);have I1:Inv X Sc σ (upd H ↑s (.tup [x,y])) { s with heap:=h2,toks:=tk } :=
   Inv.wC I keep hf (Sx _) #[by change 2<=Ev;decide,[u',v'],.cons ru (.cons rv .nil),#[_,s2.extBut _ _ (Ui hzlt) pT,U,_,U,U]]
  show#[.ref ↑s,_,I1,U,#[↑s,hfr,U,λzs ws q1 q2=>#[x,y,?_,?_,U]],#[z2,s2.extBut _ _ Y.TIz Z.ins,let #[p,q,e]:=Z.out;#[p,q,s2.extBut _ _ Y.TOz e],Z.Ie.1.at λo e=>s2.extBut _ _ Y.i1z e,Z.EU.1.at λo e=>s2.extBut _ _ Y.i2z e],λc hc=>?_]
  .rw[xU I hx q1];exact ex
  .rw[xU I hy q2];exact ey
  .have gq:c < ↑s:=by
    simp only[List.mem_cons,List.not_mem_nil,or_false] at hc;rcases hc with rfl | rfl | rfl | rfl | rfl
    .exact hzlt
    .exact SE st.ins
    .let(_,_,e):=st.out;exact SE e
    .let(o,e,_):=st.e1.obj;exact SE e
    .let(o,e,_):=st.e2.obj;exact SE e
   rw[av (SR gq)];exact (hf c hc).1
 done:=by
  intro X hP hw hK hc i Sc s σ H E I hf st hg;subst hP hw hK;let(xs,ys,(hx,hy),hm):=hg;let(ef,r1,p1,_):=iS I hx;let(dZ,r2,p2,_):=iS I hy;have l1:=r1.length;have l2:=r2.length;have hd:(X.A.in1).handled=none:=I.ok.hd hc;show Bf Y (i6 t1 hd i1 a ha ef.toArray) (i6 t2 hd i2 b hb dZ.toArray) #[st.zip,st.ins,st.out,#[st.e1,p1],#[st.e2,p2]] ?_ λh' tk hk=>#[U,Inv.iX (t':=tk) I (λc o hc q=>?_) hf]
  .by_cases h1:i < ef.length
   .exact .inr #[by simpa using h1,rC t2 hd (by simp;cbv)]
   .exact .inl (rC t1 hd (by simp;cbv))
  .simp only[List.mem_cons,List.not_mem_nil,or_false,not_or] at hc;exact hk c o hc.1 hc.2.2.1 hc.2.2.2.1 hc.2.2.2.2 q
 self:=λ_ _ _ _ _ st h=>wpAny_pyIter_zip st.zip h
end
section
variable{X:Cx}
theorem jT.lt{t:Bool}{h:EQ}{l:AC}{xs:Array AT}(x:jT t h l xs):l < h.objs.size:=by
 cases t with
 | true =>
  let(o,e,_):=(show h.IsTuple l xs from x);exact SE e
 | false =>
  let(o,e,_):=(show h.IsList l xs from x);exact SE e
theorem apart_new{n l1 l2:Nat}(h1:l1 < n)(h2:l2 < n):Apart (n+4) (n+2) (n+3) n (n+1) [n,l1] [n+1,l2]:=by
 have ne:∀ (a b:Nat),¬ a=b->¬ ((n+a:Nat):AC)=(n+b:Nat):=λa b h e=>h (Nat.add_left_cancel (show n+a=n+b from e));have nl:∀ {l:Nat} (a:Nat),l < n->¬ ((n+a:Nat):AC)=l:=λ{l} a h e=>TL l (SW h (SI (UK n a) (Uz e)));have two:∀ {x a b:AC},¬ x=a->¬ x=b->x∉[a,b]:=λh k z=>(SO.mp z).elim h λz=>k (SF.mp z);exact#[ne 2 4 (),ne 3 4 (),ne 0 4 (),ne 1 4 (),ne 2 3 (),ne 2 0 (),ne 2 1 (),ne 3 0 (),ne 3 1 (),two (ne 4 0 ()) (nl 4 h1),two (ne 4 1 ()) (nl 4 h2),two (ne 3 0 ()) (nl 3 h1),two (ne 3 1 ()) (nl 3 h2),two (ne 1 0 ()) (nl 1 h1),two (ne 0 1 ()) (nl 0 h2)]
def NP(K:Frag)(t:TA):TI:=λσ H R=>t σ H λvs H1=>∃ a b t1 t2 xs ys,vs=[.ref a,.ref b]/\(xv K t1 H1 a xs/\xv K t2 H1 b ys)/\(xs.length<=Ev->R (QF K t1 t2 a b) H1)
theorem FQ{elts:!Cl}{k:Nat}{u9 p pos:Pos}{a b:Cl}{t:TA}(hg:Gl X "zip")(hm:X.mg "zip"=none)(ha:PA X [a,b] t)(hs:(GM [a,b] X.env=[(false,eval a X.env),(false,eval b X.env)])⁻¹)(t5:(GM [b] X.env=[(false,eval b X.env)])⁻¹):PI X (.Tuple elts k u9) (.Call (.Name "zip" p) [a,b] [] pos) (NP X.K t):=by
 intro Sc s σ H R I h;show Call_ (gj I hg hm (u:=.type "zip") (by decide+kernel) (PyProof.Rows.callWith_type1 (bx (ha pos Sc s σ H _ I h) λus s1 zz=>el2 zz λvs H1 I1 r1 q1=>?_) (by rw[hs,t5]) (by rw[t5];rfl)));let(l1,l2,t1,t2,xs,ys,e,(hx,hy),q):=q1;subst e;let(u,v,rfl,ru,rv):=Vals.two r1;cases ru;cases rv;let(ef,v1,p1,z1):=iS I1 hx;let(dZ,v2,p2,z2):=iS I1 hy;have b1:=jT.lt p1;have b2:=jT.lt p2;show sZ p1 p2 λh' hz hI hO e1 e2 hsz hk=>wpAny_pyIter_zip hz ?_;show#[↑s1+4,[↑s1+4,↑s1+2,↑s1+3,↑s1,↑s1+1],_,_,H1,U,I1.kept (t':=s1.toks) hk,
  AE t1 t2 (apart_new b1 b2) (SR b1) (SR (Nat.lt_succ_of_lt b2)),#[hz,hI,#[_,_,hO],e1,e2],λc hc=>?_,q z1]
 .have hle:↑s1<=c:=by
   simp only[List.mem_cons,List.not_mem_nil,or_false] at hc;rcases hc with e | e | e | e | e<;>(rw[e];first | exact Sx _ | exact UK _ _)
  exact I1.mq hle (I1.bj.fresh hle)
end
end L2
namespace DL
open PySem PySem.Spec L2
open PyProof.Rows hiding St
section
variable{X:Cx}{c:Ent}
def lz(xs ys:!D):!D:=xs.zipWith (λx y=>.tup [x,y]) ys
def BY:D->Option (!D)
 | .lst ds=>some ds
 | .tup ds=>some ds
 | _=>none
def K6(t:eF):eF:=λs Q=>t s λas s1=>∃ d e xs ys,as=[d,e]/\(BY d=some xs/\BY e=some ys)/\Q (lz xs ys) s1
theorem tZ{xs ys:!D}:(lz xs ys).length=min xs.length ys.length:=by simp[lz]
theorem Bp{xs ys:!D}{i:Nat}{d:D}(h:(lz xs ys)[i]?=some d):∃ x y,xs[i]?=some x/\ys[i]?=some y/\d=.tup [x,y]:=by
 unfold lz at h;rw[List.getElem?_zipWith] at h;cases e:xs[i]? with
 | none=>rw[e] at h;cases h
 | some x =>
  cases e2:ys[i]? with
  | none=>rw[e,e2] at h;cases h
  | some y =>
   rw[e,e2] at h;cases h;exact#[x,y,U,U,U]
theorem mN{K:Frag}{M1:AC->Prop}{H1:Hp}{d:D}{xs:!D}{v:V}(h:BY d=some xs)(r:Rep K H1 M1 d v):∃ a t vs,v=.ref a/\aw K H1 M1 xs vs/\∀ M2 H2,dP M1 H1 M2 H2->xv K t H2 a vs/\aw K H2 M2 xs vs:=by
 cases d with
 | lst ds =>
  cases h;let(a,vs,rfl,(m,e),r):=r;exact#[a,false,vs,U,r,λM2 H2 G=>#[dR.of ((G a m).2 _ e),G.uY r]]
 | tup ds =>
  cases h;let(a,vs,rfl,e,r):=r;exact#[a,true,vs,U,r,λM2 H2 G=>#[(e.mono (λb m=>(G b m).1) λb o m e=>(G b m).2 o e).sq,G.uY r]]
 | _=>cases h
theorem Ep{elts:!Cl}{k:Nat}{u9 p pos:Pos}{a b:Cl}{t:eF}(hg:Gl X "zip")(hm:X.mg "zip"=none)(ha:DA X c [a,b] t)(hs:(GM [a,b] X.env=[(false,eval a X.env),(false,eval b X.env)])⁻¹)(t5:(GM [b] X.env=[(false,eval b X.env)])⁻¹):DI X c (.Tuple elts k u9) (.Call (.Name "zip" p) [a,b] [] pos) (K6 t) :=
 #[λSc s σ H R I zz=>cU zz λM s0 as R0 L q k=>FQ hg hm ha.pa hs t5 Sc s σ H R I
  #[M,s0,as,_,L,q,λads s1 z0r M1 H1 vs L1 E1 rv _=>by
   let(d,e,xs,ys,ead,(hd,he),q1):=z0r;subst ead;let(u,v,rfl,ru,rw):=p8 rv;let(a,t1,us,rfl,r1,g1):=mN hd ru;let(b,t2,ws,rfl,r2,g2):=mN he rw;have G0:dP M1 H1 M1 H1:=λb m=>#[m,λ_ h=>h];show#[a,b,t1,t2,us,ws,U,#[(g1 M1 H1 G0).1,(g2 M1 H1 G0).1],λhl=>k _ s1 q1 M1 H1 _ L1 E1 (λM2 H2 G=>?_) (by rw[tZ,<- r1.length];cbv)];let(h1,y1):=g1 M2 H2 G;let(h2,y2):=g2 M2 H2 G;show#[λi hi=>#[us,ws,#[h1,h2],by rw[r1.length,r2.length];rw[tZ] at hi;exact hi],λi d hd=>?_];let(x,y,ex,ey,rfl):=Bp hd;let(v1,c1,c2):=y1.get ex;let(v2,c3,c4):=y2.get ey;show#[#[us,ws,v1,v2,#[h1,h2],c1,c3],λx H3 #[b,hb,ex,hx]=>.inr ?_];let(w1,w2,m1,m2,m3):=hx us ws h1 h2;rw[c1] at m1;rw[c3] at m2;cases m1;cases m2;subst m3;exact#[b,_,hb,U,b,_,ex,#[.inr U,ay],#[_,_,U,qX hb c2,_,_,U,qX hb c4,U]]]]
theorem aA.over{K:Frag}{c:Ent}{M:AC->Prop}{s:DS}{as:!AC}{σ:St}{H:Hp}{p:AC}{o:HO}{ys:!(Key×V)}(L:aA K c M s as σ H)(hq:H p=some (.dK ys))(n1:¬ M p)(n2:¬ c.g.own p)(n3:¬ eL s as p)(n4:c.H0 p=none):aA K c M s as σ (upd H p o):=by
 have ne:∀ b,M b->b≠p:=λb m q=>n1 (q▸m);have ng:∀ b,c.g.own b->b≠p:=λb m q=>n2 (q▸m);have n0:∀ b u,c.H0 b=some u->b≠p:=λb u e q=>by rw[q,n4] at e;cases e
 show#[#[c.g.loc H _ L.base.oQ λb u g e=>?_,λb u e g=>?_,λb m=>?_,L.base.mo,L.base.m0,L.base.mn],L.len,L.d4,λi d e=>?_,L.own,λk d a e1 e2=>?_,L.inj,L.lt]
 .rw[av (g.elim (ng b) λ#[φ,f] z=>by subst f;rw[z,hq] at e;cases e)];exact e
 .rw[av (n0 b u e)];exact L.base.fr b u e g
 .let(u,e):=L.base.md b m;exact#[u,by rw[av (ne b m)];exact e]
 .let(v,h1,h2):=L.dat i d e;exact#[v,h1,Rep.mono (λ_ h=>h) (λb u m e=>by rw[av (ne b m)];exact e) d v h2]
 .let((u,q,r),q1):=L.obj k d a e1 e2;show#[#[u,?_,cw.mono (λ_ h=>h) (λb u m e=>by rw[av (ne b m)];exact e) r],q1];have na:a≠p:=λz=>n3 #[k,d,e1,z▸e2];rw[av na];exact q
def vI:!(Str×aW)->eF
 | [],s,Q=>Q [] s
 | kt::r,s,Q=>kt.2 s λd s1=>vI r s1 λds s2=>Q (d::ds) s2
def AK(K:Frag)(c:Ent)(jm:!(Str×aW)):!(TE×TE):=jm.map λkt=>(tC (.str kt.1),tE K c kt.2)
structure Mo(X:Cx)(c:Ent)(pos:Pos)(keys:!(Option Cl))(values:!Cl)(jm:!(Str×aW)):Prop where
 pp:Km X pos keys values (AK X.K c jm)
 kl:keys.length=jm.length
theorem CP{pos:Pos}:Mo X c pos [] [] []:=#[xG,U]
theorem j5{pos pk:Pos}{k:Str}{j}{v:Cl}{ks:!(Option Cl)}{vs:!Cl}{te:aW}{jm:!(Str×aW)}(hv:DE X c v te)(hr:Mo X c pos ks vs jm):Mo X c pos (some (.Constant (.str k) j pk)::ks) (v::vs) ((k,te)::jm):=#[kx cf hv.pe hr.pp,by rw[SG,SG,hr.kl]]
def jZ:!(Str×aW)->!V->!(Key×V)
 | kt::r,v::vs=>(.inr kt.1,v)::jZ r vs
 | _,_=>[]
theorem uz{σ:St}{as:!AC}:∀ (jm:!(Str×aW)) {M:AC->Prop} {s:DS} {H:Hp} {R:!D->DS->Prop} {Q:!(V×V)->Hp->Prop},aA X.K c M s as σ H->vI jm s R ->
  (∀ ds s',R ds s'->∀ M' H' vs,aA X.K c M' s' as σ H'->Ext c as M s H M' s' H'->aw X.K H' M' ds vs->ds.length=jm.length->Q ((jZ jm vs).map λkv=>(kV kv.1,kv.2)) H')->oG (AK X.K c jm) σ H Q
 | [],M,s,H,R,Q,L,q,k=>k [] s q M H [] L .refl U U
 | kt::r,M,s,H,R,Q,L,q,k=>by
  change tC (.str kt.1) σ H λx H1=>tE X.K c kt.2 σ H1 λy H2=>oG (AK X.K c r) σ H2 λps H3=>Q ((x,y)::ps) H3;show#[M,s,as,_,L,q,λd s1 q1 M1 H1 v L1 E1 rv=>?_];show uz r L1 q1 λds s2 q2 M2 H2 vs Lb E2 rvs hl=>?_;exact k (d::ds) s2 q2 M2 H2 (v::vs) Lb (E1.trans L1.base E2) #[v,vs,U,E2.rep L1 rv,rvs] (by rw[SG,SG,hl])
theorem lU:∀ (more kvs:!(Key×V)),(∀ a∈kvs,∀ b∈more,a.1≠b.1)->(more.map (·.1)).Nodup->gg kvs more=kvs++more
 | [],kvs,_,_=>by simp[gg]
 | b::more,kvs,h,nd=>by
  rw[SA,T2] at nd;have hp:putK kvs b.1 b.2=kvs++[b]:=by
   unfold putK;rw[if_neg];intro q;let(a,m,e):=List.any_eq_true.mp q;exact h a m b SD (of_decide_eq_true e)
  change gg (putK kvs b.1 b.2) more=_;rw[hp,lU more (kvs++[b]) (λa ha x hx=>?_) nd.2,S0]
  .rfl
  .rcases SN.mp ha with ha | ha
   .exact h a ha x (Sy _ hx)
   .rw[SF] at ha;subst ha;exact λe=>nd.1 (e▸SU hx)
theorem m9:∀ (jm:!(Str×aW)) (vs:!V),vs.length=jm.length->(jZ jm vs).map (·.1)=jm.map λkt=>Sum.inr kt.1
 | [],[],_=>rfl
 | [],_::_,h=>by simp at h
 | _::_,[],h=>by simp at h
 | kt::r,v::vs,h=>by rw[jZ,List.map_cons,List.map_cons,m9 r vs (by simpa using h)]
theorem ow:∀ (jm:!(Str×aW)) (vs:!V),vs.length=jm.length->(jZ jm vs).map (·.2)=vs
 | [],[],_=>rfl
 | [],_::_,h=>by simp at h
 | _::_,[],h=>by simp at h
 | kt::r,v::vs,h=>by rw[jZ,List.map_cons,ow r vs (by simpa using h)]
def Hh(jm:!(Str×aW)):aW:=λs Q=>vI jm s λds s1=>Q (.sQ (jm.map λkt=>Sum.inr kt.1) ds) s1
theorem Gq{pos:Pos}{keys:!(Option Cl)}{values:!Cl}{jm:!(Str×aW)}(h:Mo X c pos keys values jm)(nd:(jm.map λkt=>(Sum.inr kt.1:Key)).Nodup)(ug:(keys.all (·.isSome)=true)⁻¹)(hl:(keys.length=values.length)⁻¹)(h0:keys≠[]:=by simp)(HS: ~~~(keys.length<=15)):DN X c (.Dict keys values pos) (Hh jm) :=
 #[(xS h.pp ug hl h0 HS).imp λσ H Q z5q p hp=>by
   let(M,s,as,R,L,q,k):=z5q;let(n1,n2,n3,n4):=notM L hp;show uz jm (L.laid (o:=.dK []) hp) q λds s1 q1 M1 H1 vs L1 E1 rvs hd=>?_;have e1:H1 p=some (.dK []):=E1.keep p _ ay n2 n3;have m1:¬ M1 p:=λm=>by
    rcases E1.new p m with z | (z | ⟨_,z⟩) | z
    .exact n1 z
    .rw[ay] at z;cases z
    .rw[ay] at z;cases z
    .exact n3 z
   have w1:¬ eL s1 as p:=λz=>n3 (E1.jk p z);have hv:vs.length=jm.length:=by rw[rvs.length];exact hd
   have hk:=m9 jm vs hv;show#[e1,jZ jm vs,U,?_,?_]
   .have:=congrArg List.length hk;rw[Ss,Ss] at this;rw[this,<- h.kl];exact HS
   .rw[lU _ [] (λa ha=>absurd ha (by simp)) (by rw[hk];exact nd),List.nil_append];have up:∀ b u,M1 b->H1 b=some u->upd H1 p (.dK (jZ jm vs)) b=some u:=λb u m e=>by
     have hb:b≠p:=λq=>m1 (q▸m);rw[av hb];exact e
    show k _ s1 q1 M1 _ p (.dK (jZ jm vs)) (L1.over e1 m1 n2 w1 n4) ?_ ay #[hk,?_] m1 n2 w1 n4 (.inl hp)
    .refine#[E1.sub,λb m=>?_,λb u e g z=>?_,E1.jk]
     .rcases E1.new b m with z | (z | ⟨xs,z⟩) | z
      .exact .inl z
      .by_cases hb:b=p
       .exact .inr (.inl (.inl (hb▸hp)))
       .rw[av hb] at z;exact .inr (.inl (.inl z))
      .by_cases hb:b=p
       .exact .inr (.inl (.inl (hb▸hp)))
       .rw[av hb] at z;exact .inr (.inl (.inr #[xs,z]))
      .exact .inr (.inr z)
     .have hb:b≠p:=aE e hp;rw[av hb];exact E1.keep b u (by rw[av hb];exact e) g z
    .rw[ow jm vs hv];exact aw.mono (λ_ h=>h) up _ _ rvs]
end
end DL
namespace L2
open PySem PySem.Spec PyProof.Rows
section
variable{X:Cx}
theorem zr(items:Array AT):slicePick items none none (some 1)=items:=by
 have hb:sliceBounds none none (some 1) items.size=(0,(items.size:Int),1):=by first | rfl | simp[sliceBounds]
 unfold slicePick;rw[hb];change ((sliceRange 0 (items.size:Int) 1).filterMap (items[·]?)).toArray=_;have hr:sliceRange 0 (items.size:Int) 1=List.range items.size:=by
  unfold sliceRange;simp only[show (1:Int) > 0 by decide,if_true];by_cases h:(items.size:Int) > 0
  .simp only[h,if_true];apply List.ext_getElem
   .simp
   .intro i h1 h2;simp
  .have e:items.size=0:=by cbv
   rw[e];simp
 rw[hr,PySem.W.krv_all]
def kc(w:Int){α:Type}(xs:!α):!α:=if w=1 then xs else xs.reverse
def Gz(K:Frag)(te tw:TE):TE:=λσ H Q=>te σ H λx H1=>tw σ H1 λy H2=>∃ a xs w,x=.ref a/\y=.int w/\(w=1\/w=-1)/\dR K H2 a xs/\∀ l,H2 l=none->Q (.ref l) (upd H2 l (.lst (kc w xs)))
theorem zH{e st:Cl}{te tw:TE}{p2 pos:Pos}(he:PE X e te)(lQ:PE X st tw):PE X (.Subscript e (.Slice none none (some st) p2) pos) (Gz X.K te tw):=by
 intro Sc s σ H Q I h;show Subscript_ (bx (he Sc s σ H _ I h) λv s1 z3q=>?_);let(x,H1,I1,r1,q1):=z3q;show wpAny_Slice ?_;rw[evalPart_none];show FB ?_;show FB ?_;rw[evalPart_some];show bx (lQ Sc s1 σ H1 _ I1 q1) λu s2 z4q=>?_;let(y,H2,I2,r2,a,xs,w,ex,ey,hw,hq,q):=z4q;subst ex ey;cases r1;let(t,rfl):=r2;let(its,r,ht,hz):=I2.list hq;have hlen:=r.length;have I3:Inv X Sc σ H2 { s2 with heap:=s2.heap.push { cls:=.type "slice",data:=.fields #v[.none,.none,.int w t] } }:=I2.kept (t':=s2.toks) λb ob q=>Su _ q;change Db (model X.prog X.w) X.A (subscriptTail e (.Slice none none (some st) p2) (.ref a) (.ref ↑s2)) (EP X Sc σ Q) X.xe { s2 with heap:=s2.heap.push { cls:=.type "slice",data:=.fields #v[.none,.none,.int w t] } };show tail_any (ops:=[.ref a,.ref ↑s2]) (ht.isList.push _).typeIs slot_list_getitem.lookup ?_ (by with_unfolding_all rfl);have hw0:(some w:Option Int)≠some 0:=by rcases hw with rfl | rfl<;>decide
 show wpAny_getItem_list_slice (ht.isList.push _) (EQ.IsSliceOf.new ..) .none .none (.int w t) hw0 ?_ (by rw[SQ];cbv);rcases hw with rfl | rfl
 .rw[zr];show#[.ref _,_,I3.laid (t':=s2.toks) (o:=.lst xs) (λb ob q=>Su _ q) (Sx _) ?_,U,q _ (I3.bj.fresh (Sx _))];exact#[hz,its,0,r,SH _ U]
 .rw[PySem.W.krv_pick];show#[.ref _,_,I3.laid (t':=s2.toks) (o:=.lst xs.reverse) (λb ob q=>Su _ q) (Sx _) ?_,U,q _ (I3.bj.fresh (Sx _))];exact#[by rw[List.length_reverse];exact hz,_,0,by simpa using r.reverse,EQ.get?_push_size _ U]
end
end L2
namespace DL
open PySem PySem.Spec L2
open PyProof.Rows hiding St
section
variable{X:Cx}{c:Ent}
def Nx:D->D->(D->Prop)->Prop:=λa b k=>∃ ds w,a=.lst ds/\b=.int w/\(w=1\/w=-1)/\k (.lst (kc w ds))
def OE(C:D->D->(D->Prop)->Prop)(ta tb:aW):aW:=λs Q=>ta s λa s1=>tb s1 λb s2=>C a b λd=>Q d s2
theorem El{e st:Cl}{te tw:aW}{p2 pos:Pos}(he:DE X c e te)(lQ:DE X c st tw):DN X c (.Subscript e (.Slice none none (some st) p2) pos) (OE Nx te tw):=#[(zH he.pe lQ.pe).imp λσ H Q zz=>cU zz λM s as R L q k =>
 #[M,s,as,_,L,q,λd s1 q1 M1 H1 v L1 E1 rv=>#[M1,s1,as,_,L1,q1,λd2 s2 z1r M2 H2 v2 Lb E2 rv2=>by
  let(ds,w,e,e2,hw,q2):=z1r;subst e e2;let(p,xs,rfl,(m,t),r):=E2.rep L1 rv;show#[p,xs,w,U,rv2,hw,.of t,λb hb=>ix (d:=.lst _) L Lb (E1.trans L1.base E2) hb ?_ (k _ s2 q2)];change aw _ _ _ (kc w ds) (kc w xs);unfold kc;split
  .exact r
  .exact r.reverse]]]
end
end DL
namespace PySem.F
theorem Ae:typeLookup (.type "zip") "__len__"=pure none:=by rw[typeLookup_type,builtinLookup_eq_fast];kernel_rfl
theorem yc:typeLookup (.type "zip") "__length_hint__"=pure none:=by rw[typeLookup_type,builtinLookup_eq_fast];kernel_rfl
end PySem.F
namespace PyZ
open PySem Sem
section
variable{prog:Fr}{w:Fa}{A:Fk}{E:UP}{s:Da}{z TI TO i1 i2:AC}{f1 f2:!AC}{n1 n2:Nat}{P1 P2:Nat->AT->Prop}{S1 S2:Nat->EQ->Prop}
theorem F2{M:Model}{a:AC}{Q:Option Obj->Da->Prop}(h:Q (s.heap.get? a) s):Db M A (loadIfAlive a) Q E s:=λΓ p _=>by
 change wp M Γ (.loadIfAlive a .pure) _ _ p s;rw[wp_loadIfAlive];exact h
def o3(f0:AT)(b:Bool)(TI TO:AC):Obj:={ cls:=.type "zip",dict:=none,data:=.fields #v[f0,.bool b,.bool false,.ref TI,.ref TO],slots:=#v[] }
theorem xE{T:AC}{oT:Obj}{b:Bool}{Q:Bool->Da->Prop}(hz:s.heap.get? z=some (o3 (KF T) b TI TO))(hT:s.heap.get? T=some oT)(hQ:∀ h',h'.get? z=some (o3 (KF T) true TI TO)->EQ.SameBut z s.heap h'->Q false { s with heap:=h' }):Db (model prog w) A (FS.SmallTypes.ownedTupleIsFree (.ref z)) Q E s:=by
 unfold FS.SmallTypes.ownedTupleIsFree;show Ch (KB hz U (x:=KF T) U ?_);change Db _ _ (loadIfAlive ((T:Nat):Int).toNat >>= _) _ _ _;rw[Uh];show Ch (F2 ?_);rw[hT];change Db _ _ (field (.ref z) 1 >>= _) _ _ _;show Ch (KB hz U (x:=.bool b) U ?_);cases b with
 | false =>
  change Db _ _ (setField (.ref z) 1 (.bool true) >>= λ_=>Pure.pure false) _ _ _;exact Ch (wpAny_setField_rec hz (by simp) λh' hz' hs=>FB (hQ h' hz' hs))
 | true=>exact FB (hQ s.heap hz #[U,λ_ _=>rfl])
theorem yY{k:Nat}{T:AC}{oT:Obj}{b:Bool}{Q:UP}(X:Apart z TI TO i1 i2 f1 f2)(D1:Draws prog w A i1 f1 n1 P1 S1)(D2:Draws prog w A i2 f2 n2 P2 S2)(hz:s.heap.get? z=some (o3 (KF T) b TI TO))(hT:s.heap.get? T=some oT)(hI:Ix s.heap TI (.ref i1) (.ref i2))(t1:S1 k s.heap)(t2:S2 k s.heap)(h1:k < n1)(h2:k < n2)(hQ:∀ x y h' tk,P1 k x->P2 k y->h'.get? z=some (o3 (KF T) true TI TO)->S1 (k+1) h'->S2 (k+1) h'->Ix h' ↑s x y->h'.objs.size=↑s+1 ->
   (∀ c o,c≠z->c≠i1->c≠i2->s.heap.get? c=some o->h'.get? c=some o)->Q (.ref ↑s) { s with heap:=h',toks:=tk }) :
  Db (model prog w) A (FS.«zip.__next__» #[[.ref z],[]]) (λfin s'=>∃ v,fin=.done (.ret v)/\Q v s') E s:=by
 change Db _ _ (field (.ref z) 2 >>= _) _ _ _;show Ch (KB hz U (x:=.bool false) U ?_);change Db _ _ (field (.ref z) 3 >>= _) _ _ _;show Ch (KB hz U (x:=.ref TI) U (Ch (Os hI U ?_)));change Db _ _ (FS.SmallTypes.ownedTupleIsFree (.ref z) >>= _) _ _ _;show Ch (xE hz hT λha za sa=>?_);simp only[Bool.false_eq_true,if_false];show Ch ?_;simp only[<- Array.forIn_toList,List.forIn_cons,List.forIn_nil];show Ch (Ch (NE ?_));change Db _ _ (FS.SmallTypes.nextOf (.ref i1) >>= _) _ _ _;show Ch (D1.item k _ _ _ h1 (but D1 sa X.z1 t1) λx hb tk1 px t1b sb=>FB (FB ?_));show Ch (Ch (NE ?_));change Db _ _ (FS.SmallTypes.nextOf (.ref i2) >>= _) _ _ _;show Ch (D2.item k _ _ _ h2 (but D2 sb X.a2 (but D2 sa X.z2 t2)) λy hc tk2 py t2c sc=>FB (FB (FB ?_)));show Ch (wpAny_newTuple (hsz:=(show 2<=Ev by decide)) (FB #[_,U,?_]));have hsz:hc.objs.size=↑s:=by rw[sc.1,sb.1,sa.1]
 rw[hsz];have up:∀ c o,c≠z->c≠i1->c≠i2->s.heap.get? c=some o->(hc.push { cls:=.type "tuple",data:=.seq #v[x,y] }).get? c=some o:=λc o c1 c2 c3 e=>Su _ (sc.extBut _ _ c3 (sb.extBut _ _ c2 (sa.extBut _ _ c1 e)));show hQ x y _ _ px py (Su _ (sc.extBut _ _ X.i2z.symm (sb.extBut _ _ X.i1z.symm za))) ?_ ?_ (hsz▸SH _ U) (by rw[Th,hsz]) up
 .exact D1.frame _ _ _ (but D1 sc X.a1 t1b) λq hq o e=>Su _ e
 .exact D2.frame _ _ _ t2c λq hq o e=>Su _ e
theorem zM{k:Nat}{T:AC}{oT:Obj}{b:Bool}{Q:PySem.Fin->Da->Prop}(X:Apart z TI TO i1 i2 f1 f2)(D1:Draws prog w A i1 f1 n1 P1 S1)(D2:Draws prog w A i2 f2 n2 P2 S2)(hz:s.heap.get? z=some (o3 (KF T) b TI TO))(hT:s.heap.get? T=some oT)(hI:Ix s.heap TI (.ref i1) (.ref i2))(t1:S1 k s.heap)(t2:S2 k s.heap)(hk:Ends prog w A i1 (S1 k)\/(k < n1/\Ends prog w A i2 (S2 k)))(hE:∀ h' e tk,(∀ c o,c≠z->c≠i1->c≠i2->s.heap.get? c=some o->h'.get? c=some o)->(∃ o,h'.get? e=some o/\o.cls=.type "StopIteration")->E (.ref e) { s with heap:=h',toks:=tk }) :
  Db (model prog w) A (FS.«zip.__next__» #[[.ref z],[]]) Q E s:=by
 change Db _ _ (field (.ref z) 2 >>= _) _ _ _;show Ch (KB hz U (x:=.bool false) U ?_);change Db _ _ (field (.ref z) 3 >>= _) _ _ _;show Ch (KB hz U (x:=.ref TI) U (Ch (Os hI U ?_)));change Db _ _ (FS.SmallTypes.ownedTupleIsFree (.ref z) >>= _) _ _ _;show Ch (xE hz hT λha za sa=>?_);simp only[Bool.false_eq_true,if_false];show Ch ?_;simp only[<- Array.forIn_toList,List.forIn_cons,List.forIn_nil];show Ch (Ch (NE ?_));change Db _ _ (FS.SmallTypes.nextOf (.ref i1) >>= _) _ _ _;rcases hk with d1 | ⟨h1,d2⟩
 .refine Ch (d1 _ _ _ (but D1 sa X.z1 t1) λhb e sb he=>?_);exact hE hb e _ (λc o c1 c2 c3 x=>sb _ _ c2 (sa.extBut _ _ c1 x)) he
 .refine Ch (D1.item k _ _ _ h1 (but D1 sa X.z1 t1) λx hb tk1 px t1b sb=>FB (FB ?_));show Ch (Ch (NE ?_));change Db _ _ (FS.SmallTypes.nextOf (.ref i2) >>= _) _ _ _;show Ch (d2 _ _ _ (but D2 sb X.a2 (but D2 sa X.z2 t2)) λhc e sc he=>?_);exact hE hc e _ (λc o c1 c2 c3 x=>sc _ _ c3 (sb.extBut _ _ c2 (sa.extBut _ _ c1 x))) he
theorem Ci{k:Nat}{T:AC}{oT:Obj}{b:Bool}{Q:Option AT->Da->Prop}(X:Apart z TI TO i1 i2 f1 f2)(D1:Draws prog w A.in1 i1 f1 n1 P1 S1)(D2:Draws prog w A.in1 i2 f2 n2 P2 S2)(hz:s.heap.get? z=some (o3 (KF T) b TI TO))(hT:s.heap.get? T=some oT)(hI:Ix s.heap TI (.ref i1) (.ref i2))(t1:S1 k s.heap)(t2:S2 k s.heap)(h1:k < n1)(h2:k < n2)(hQ:∀ x y h' tk,P1 k x->P2 k y->h'.get? z=some (o3 (KF T) true TI TO)->S1 (k+1) h'->S2 (k+1) h'->Ix h' ↑s x y->h'.objs.size=↑s+1 ->
   (∀ c o,c≠z->c≠i1->c≠i2->s.heap.get? c=some o->h'.get? c=some o)->Q (some (.ref ↑s)) { s with heap:=h',toks:=tk }):Db (model prog w) A (pyNext (.ref z)) Q E s:=by
 have hT2:s.TypeIs (.ref z) "zip":=#[_,hz,U];unfold pyNext;exact Ch (wpAny_attempt (wpAny_callSpecial?_slot (name:=Str.ofString "__next__") hT2 F.slot_zip_next
  (SL F.slot_zip_next hT2 F.entry_zip_next (yY X D1 D2 hz hT hI t1 t2 h1 h2 λx y h' tk a1 a2 a3 a4 a5 a6 a7 a8=>FB (hQ x y h' tk a1 a2 a3 a4 a5 a6 a7 a8)) (F.args_zip_next_1 _))))
theorem um{k:Nat}{T:AC}{oT:Obj}{b:Bool}{Q:Option AT->Da->Prop}(X:Apart z TI TO i1 i2 f1 f2)(D1:Draws prog w A.in1 i1 f1 n1 P1 S1)(D2:Draws prog w A.in1 i2 f2 n2 P2 S2)(hz:s.heap.get? z=some (o3 (KF T) b TI TO))(hT:s.heap.get? T=some oT)(hI:Ix s.heap TI (.ref i1) (.ref i2))(t1:S1 k s.heap)(t2:S2 k s.heap)(hk:Ends prog w A.in1 i1 (S1 k)\/(k < n1/\Ends prog w A.in1 i2 (S2 k)))(hQ:∀ h' tk,(∀ c o,c≠z->c≠i1->c≠i2->s.heap.get? c=some o->h'.get? c=some o)->Q none { s with heap:=h',toks:=tk }):Db (model prog w) A (pyNext (.ref z)) Q E s:=by
 have hT2:s.TypeIs (.ref z) "zip":=#[_,hz,U];unfold pyNext;show Ch (wpAny_attempt (wpAny_callSpecial?_slot (name:=Str.ofString "__next__") hT2 F.slot_zip_next
  (SL F.slot_zip_next hT2 F.entry_zip_next (zM X D1 D2 hz hT hI t1 t2 hk λh' e tk kk he=>?_) (F.args_zip_next_1 _))))
 let(o,ho,hc):=he;show Ch (wpAny_isInstance (T:="StopIteration") (b:=true) #[o,ho,hc] isSubtype_stop ?_);exact FB (hQ _ _ kk)
end
end PyZ
namespace L2
open PySem PySem.Spec PyZ
open PyProof.Rows hiding St
def mS:Hp->!(V×V)->Hp->!AC->Prop
 | H,[],H',ps=>H'=H/\ps=[]
 | H,(u,v)::r,H',ps=>∃ p qs,H p=none/\ps=p::qs/\mS (upd H p (.tup [u,v])) r H' qs
section
variable{X:Cx}{Sc:UQ}{σ:St}
structure ZS(t1 t2:Bool)(z TI TO i1 i2 a b S:AC)(ef dZ:Array AT)(k:Nat)(H:Hp)(h:EQ)(acc:Array AT)(c:Nat):Prop where
 zip:IsZip h z TI TO .none\/∃ (T:AC) (tv:!V) (b':Bool),h.get? z=some (o3 (KF T) b' TI TO)/\H T=some (.tup tv)
 ins:Ix h TI (.ref i1) (.ref i2)
 out:∃ u v,Ix h TO u v
 e1:ir t1 h i1 a k/\jT t1 h a ef
 e2:ir t2 h i2 b k/\jT t2 h b dZ
 lst:h.get? S=some { cls:=.type "list",dict:=none,data:=.seq acc c,slots:=#v[] }
theorem qo{xs:!V}{its:!AT}{k:Nat}{u:V}(h:Vals (u::xs) (its.drop k)):∃ v,its[k]?=some v/\RelV u v/\Vals xs (its.drop (k+1)):=by
 cases e:its.drop k with
 | nil=>rw[e] at h;cases h
 | cons v r =>
  rw[e] at h;cases h with
  | cons h1 h2 =>
  show#[v,?_,h1,?_]
  .have:=congrArg (λl=>l[0]?) e;simpa using this
  .rw[<- TZ (i:=1) (j:=k),e];exact h2
theorem jz{its:!AT}{k:Nat}(h:Vals [] (its.drop k)):its.length<=k:=by
 cases e:its.drop k with
 | nil=>simpa using e
 | cons v r=>rw[e] at h;cases h
theorem Bq(hc:X.calm=true){A:Fk}(hh:A.in1.in1.handled=none){t1 t2:Bool}{z TI TO i1 i2 a b S:AC}(Y:Apart z TI TO i1 i2 [i1,a] [i2,b])(ha:a≠i1)(hb:b≠i2)(hS:S∉[z,TI,TO,i1,i2])(RZ:a≠S)(Q7:b≠S)(ho:a∉[z,TI,TO,i1,i2]/\b∉[z,TI,TO,i1,i2]){ef dZ:!AT}{res:AT}{R:Result->Da->Prop}(Qz:ef.length<=Ev):∀ (xs ys:!V) (k:Nat) (s:Da) (H:Hp) (acc:Array AT) (c:Nat),
  Vals xs (ef.drop k)->Vals ys (dZ.drop k)->acc.size=k->k<=ef.length->Inv X Sc σ H s->(∀ q∈[z,TI,TO,i1,i2,S],ee X Sc H q)->ZS t1 t2 z TI TO i1 i2 a b S ef.toArray dZ.toArray k H s.heap acc c ->
  (∀ s' H' qs acc' c',Inv X Sc σ H' s'->(∀ q∈[z,TI,TO,i1,i2,S],ee X Sc H' q)->s'.heap.get? S=some { cls:=.type "list",dict:=none,data:=.seq acc' c',slots:=#v[] }->acc'.toList=acc.toList++qs.map AT.ref->acc'.size<=Ev->mS H (xs.zip ys) H' qs->R (.ok (.ret res)) s') ->
  codeAny (model X.prog X.w) A (.builtin "list.extend.loop" #[[.ref S,.ref z,res],[]]) R s:=by
 have nS:∀ {q:AC},q∈[z,TI,TO,i1,i2]->q≠S:=λhq e=>hS (e▸hq);have D1:=i6 (prog:=X.prog) (w:=X.w) t1 hh i1 a ha ef.toArray;have D2:=i6 (prog:=X.prog) (w:=X.w) t2 hh i2 b hb dZ.toArray;have fin:∀ (xs ys:!V) (k:Nat) (s:Da) (H:Hp) (acc:Array AT) (c:Nat),xs.zip ys=[]->(PyZ.Ends X.prog X.w A.in1.in1 i1 (λh=>ir t1 h i1 a k/\jT t1 h a ef.toArray)\/(k < ef.toArray.size/\PyZ.Ends X.prog X.w A.in1.in1 i2 (λh=>ir t2 h i2 b k/\jT t2 h b dZ.toArray)))->acc.size=k->k<=ef.length->Inv X Sc σ H s->(∀ q∈[z,TI,TO,i1,i2,S],ee X Sc H q)->ZS t1 t2 z TI TO i1 i2 a b S ef.toArray dZ.toArray k H s.heap acc c ->
  (∀ s' H' qs acc' c',Inv X Sc σ H' s'->(∀ q∈[z,TI,TO,i1,i2,S],ee X Sc H' q)->s'.heap.get? S=some { cls:=.type "list",dict:=none,data:=.seq acc' c',slots:=#v[] }->acc'.toList=acc.toList++qs.map AT.ref->acc'.size<=Ev->mS H (xs.zip ys) H' qs->R (.ok (.ret res)) s') ->
  codeAny (model X.prog X.w) A (.builtin "list.extend.loop" #[[.ref S,.ref z,res],[]]) R s:=by
  intro xs ys k s H acc c he hk hacc hkl I hf Z hR;show codeAny_builtin F.entry_extend_loop ?_;rw[Fk.under_plainId F.plain_extend_loop _];change Db _ A.in1 (pyNext (.ref z) >>= _) _ _ s;have done:∀ h' tk,(∀ c o,c≠z->c≠TO->c≠i1->c≠i2->s.heap.get? c=some o->h'.get? c=some o)->R (.ok (.ret res)) { s with heap:=h',toks:=tk }:=λh' tk kk=>by
   show hR _ H [] acc c (Inv.iX I (λb o hb e=>?_) hf) hf ?_ (by simp) (by cbv) (by rw[he];exact#[U,U])
   .simp only[List.mem_cons,List.not_mem_nil,or_false,not_or] at hb;exact kk b o hb.1 hb.2.2.1 hb.2.2.2.1 hb.2.2.2.2.1 e
   .exact kk S _ (λe=>hS (by simp[e])) (λe=>hS (by simp[e])) (λe=>hS (by simp[e])) (λe=>hS (by simp[e])) Z.lst
  rcases Z.zip with hz | ⟨T,tv,b',hz,hT⟩
  .exact Ch (Bf Y D1 D2 #[hz,Z.ins,Z.out,Z.e1,Z.e2] hk λh' tk kk=>FB (done h' tk kk))
  .let(_,its,_,oT,eT,_):=(show bQ X.prog X.w H s.heap T (.tup tv) from I.bj T _ hT);exact Ch (um Y D1 D2 hz eT Z.ins Z.e1 Z.e2 hk λh' tk kk=>FB (done h' tk λc o c1 _ c3 c4 e=>kk c o c1 c3 c4 e))
 intro xs
 induction xs with
 | nil =>
  intro ys k s H acc c v1 v2 hacc hkl I hf Z hR;exact fin [] ys k s H acc c U (.inl (rC t1 hh (by rw[SQ];exact jz v1))) hacc hkl I hf Z hR
 | cons x xs ih =>
  intro ys k s H acc c v1 v2 hacc hkl I hf Z hR;let(u,hu,ru,v1'):=qo v1;have hk1:k < ef.length:=(Sw.mp hu).1;cases ys with
  | nil=>exact fin (x::xs) [] k s H acc c U (.inr #[by simpa using hk1,rC t2 hh (by rw[List.size_toArray];exact jz v2)]) hacc hkl I hf Z hR
  | cons y ys =>
  let(v,hv,rv,v2'):=qo v2;have hk2:k < dZ.length:=(Sw.mp hv).1;show codeAny_builtin F.entry_extend_loop ?_;rw[Fk.under_plainId F.plain_extend_loop _];change Db _ A.in1 (pyNext (.ref z) >>= _) _ _ s;have hfr:H ↑s=none:=I.bj.fresh (Sx _);have gq:∀ q∈[z,TI,TO,i1,i2,S],q < ↑s:=λq hq=>by
   simp only[List.mem_cons,List.not_mem_nil,or_false] at hq;rcases hq with rfl | rfl | rfl | rfl | rfl | rfl
   .rcases Z.zip with e | ⟨_,_,_,e,_⟩
    .exact SE e
    .exact SE e
   .exact SE Z.ins
   .let(_,_,e):=Z.out;exact SE e
   .let(o,e,_):=Z.e1.1.obj;exact SE e
   .let(o,e,_):=Z.e2.1.obj;exact SE e
   .exact SE Z.lst
  have cont:∀ (h':EQ) (tk:Nat) (T:AC) (tv:!V) (b':Bool),upd H ↑s (.tup [x,y]) T=some (.tup tv)->h'.get? z=some (o3 (KF T) b' TI TO)->Ix h' TI (.ref i1) (.ref i2)->(∃ u v,Ix h' TO u v)->(ir t1 h' i1 a (k+1)/\jT t1 h' a ef.toArray)->(ir t2 h' i2 b (k+1)/\jT t2 h' b dZ.toArray)->Ix h' ↑s u v->(∀ c o,c∉[z,TI,TO,i1,i2]->s.heap.get? c=some o->h'.get? c=some o) ->
    Db (model X.prog X.w) A.in1 (updateSeq S (·.push (AT.ref ↑s)) >>= λ_=>again (.builtin "list.extend.loop" #[[.ref S,.ref z,res],[]])) (λfin s'=>match fin with | .done f=>R (.ok f) s' | .again c'=>c'.quiet=true/\codeAny (model X.prog X.w) A c' R s') (λe s'=>R (.error e) s') { s with heap:=h',toks:=tk }:=by
   intro h' tk T tv b' hT hz hI hO q1 q2 hp kk;have I1:Inv X Sc σ (upd H ↑s (.tup [x,y])) { s with heap:=h',toks:=tk } :=
    Inv.wC I (λb o hb e=>kk b o (λm=>hb (by simp only[List.mem_cons,List.not_mem_nil,or_false] at m ⊢;rcases m with m | m | m | m | m<;>simp[m])) e) hf (Nat.le_refl _) #[by change 2<=Ev;decide,[u,v],.cons ru (.cons rv .nil),#[_,hp,rfl,_,rfl,rfl]]
   have hf1:∀ q∈[z,TI,TO,i1,i2,S],ee X Sc (upd H ↑s (.tup [x,y])) q:=λq hq=>by
    let(f0,fr):=hf q hq;exact#[by rw[av (SR (gq q hq))];exact f0,fr]
   have hS':h'.get? S=some { cls:=.type "list",dict:=none,data:=.seq acc c,slots:=#v[] }:=kk S _ hS Z.lst;show Ch (wpAny_updateSeq hS' U (FB #[plainId_quiet F.plain_extend_loop _,?_]) (by cbv) (by change (acc.push _).size<=Ev+1;rw[Array.size_push];cbv));have oth:∀ q o,q≠S->h'.get? q=some o->(h'.update S (Obj.mapSeq (·.push (AT.ref ↑s)))).get? q=some o:=λq o hq e=>(S9 _ _ (Ne.symm hq)).trans e;have I2:Inv X Sc σ (upd H ↑s (.tup [x,y])) { s with heap:=h'.update S (Obj.mapSeq (·.push (AT.ref ↑s))),toks:=tk } :=
    Inv.iX (s:={ s with heap:=h',toks:=tk }) I1 (λq o hq e=>oth q o (λe=>hq (by simp[e])) e) hf1
   obtain⟨c2,hc2⟩:∃ c2,(h'.update S (Obj.mapSeq (·.push (AT.ref ↑s)))).get? S=some { cls:=.type "list",dict:=none,data:=.seq (acc.push (AT.ref ↑s)) c2,slots:=#v[] }:=#[_,Tf _ hS' U];show ih ys (k+1) _ (upd H ↑s (.tup [x,y])) (acc.push (AT.ref ↑s)) c2 v1' v2' (by rw[Array.size_push,hacc]) hk1 I2 hf1 ?_ λs' H' qs acc' c' J1 J2 J3 J4 J5 J6=>?_
   .refine#[.inr #[T,tv,b',oth z _ (nS (by simp)) hz,hT],oth TI _ (nS (by simp)) hI,let #[p,q,e]:=hO;#[p,q,oth TO _ (nS (by simp)) e],#[q1.1.at λo e=>oth i1 o (nS (by simp)) e,q1.2.at λo e=>oth a o RZ e],#[q2.1.at λo e=>oth i2 o (nS (by simp)) e,q2.2.at λo e=>oth b o Q7 e],?_];exact hc2
   .refine hR s' H' (↑s::qs) acc' c' J1 J2 J3 ?_ J5 #[_,qs,hfr,U,J6];rw[J4];simp
  rcases Z.zip with hz | ⟨T,tv,b',hz,hT⟩
  .refine Ch (xl Y D1 D2 #[hz,Z.ins,Z.out,Z.e1,Z.e2] (by simpa using hk1) (by simpa using hk2) λu' v' h' tk pu pv Z' pT hsz kk=>?_);have e1:u'=u:=by
    have q:ef[k]?=some u':=by simpa using pu
    rw[hu] at q;exact (S4 q).symm
   have e2:v'=v:=by
    have q:dZ[k]?=some v':=by simpa using pv
    rw[hv] at q;exact (S4 q).symm
   subst e1;subst e2;exact cont h' tk ↑s _ false ay Z'.zip Z'.ins Z'.out Z'.Ie Z'.EU pT λc o hc e=>by
    simp only[List.mem_cons,List.not_mem_nil,or_false,not_or] at hc;exact kk c o hc.1 hc.2.2.1 hc.2.2.2.1 hc.2.2.2.2 e
  .let(_,its,_,oT,eT,_):=(show bQ X.prog X.w H s.heap T (.tup tv) from I.bj T _ hT);show Ch (Ci Y D1 D2 hz eT Z.ins Z.e1 Z.e2 (by simpa using hk1) (by simpa using hk2) λu' v' h' tk pu pv z' s1 s2 pT hsz kk=>?_);have e1:u'=u:=by
    have q:ef[k]?=some u':=by simpa using pu
    rw[hu] at q;exact (S4 q).symm
   have e2:v'=v:=by
    have q:dZ[k]?=some v':=by simpa using pv
    rw[hv] at q;exact (S4 q).symm
   subst e1;subst e2;let(p,q,eO):=Z.out;show cont h' tk T tv true (by rw[av (aE hT hfr)];exact hT) z' (kk TI _ Y.TIz Y.TIi1 Y.TIi2 Z.ins) #[p,q,kk TO _ Y.TOz Y.TOi1 Y.TOi2 eO] s1 s2 pT λc o hc e=>?_;simp only[List.mem_cons,List.not_mem_nil,or_false,not_or] at hc;exact kk c o hc.1 hc.2.2.2.1 hc.2.2.2.2 e
def BA(K:Frag)(t:TA):TE:=λσ H Q=>t σ H λvs H1=>∃ a b t1 t2 xs ys,vs=[.ref a,.ref b]/\(xv K t1 H1 a xs/\xv K t2 H1 b ys)/\∀ H2 qs l,mS H1 (xs.zip ys) H2 qs->H2 l=none->Q (.ref l) (upd H2 l (.lst (qs.map V.ref)))
theorem pO:∀ qs:!AC,Vals (qs.map V.ref) (qs.map AT.ref)
 | []=>.nil
 | _::qs=>.cons U (pO qs)
theorem Inv.KS{s:Da}{H:Hp}{S:AC}{o:HO}(I:Inv X Sc σ H s)(f:ee X Sc H S)(new:bQ X.prog X.w (upd H S o) s.heap S o):Inv X Sc σ (upd H S o) s:=by
 let(f0,f1,f2,f3,f4,f5):=f;have up:∀ b u,H b=some u->upd H S o b=some u:=λb u e=>by rw[av (aE e f0)];exact e
 show I.step (g':=s.gens) (d':=s.drawn) (t':=s.toks) (h':=s.heap) (ch:=[S]) (λb hb=>?_) (λb ob _ _ _ e _=>e) (λb ob _ _ _ e _=>#[ob.slots,e]) (λb ob hc _ n=>?_)
  (λb ob _ e=>#[ob,e]) (λb xs e=>up b _ e) (λb ob u e=>up b _ e) (λb ps e=>#[#v[],by rw[up b _ e];simp]) (λm hm=>hm) (λb u e=>?_) I.bare
 .rw[SF.mp hb];exact#[f3,f1,f4,f5]
 .rw[av (λe=>hc (by rw[e];exact SF.mpr U))];exact n
 .by_cases hb:b=S
  .subst hb;rw[ay] at e;cases e;exact new
  .rw[av hb] at e;exact (I.bj b u e).uv (λ_ _ _ q=>q) (λ_ q=>up _ _ q) λ_ _ q=>up _ _ q
theorem BU(hc:X.calm=true){s:Da}{H:Hp}{z TI TO i1 i2 a b:AC}{t1 t2:Bool}(Y:Apart z TI TO i1 i2 [i1,a] [i2,b])(ha:a≠i1)(hb:b≠i2){ef dZ:!AT}{xs ys:!V}(v1:Vals xs ef)(v2:Vals ys dZ)(Qz:ef.length<=Ev)(I:Inv X Sc σ H s)(hf:∀ q∈[z,TI,TO,i1,i2],ee X Sc H q)(Z:EW t1 t2 z TI TO i1 i2 a b 0 s.heap)(p1:jT t1 s.heap a ef.toArray)(p2:jT t2 s.heap b dZ.toArray)(ho:a∉[z,TI,TO,i1,i2]/\b∉[z,TI,TO,i1,i2]){Q:UP}{E:UP}(hQ:∀ s' H' qs l,mS H (xs.zip ys) H' qs->H' l=none->Inv X Sc σ (upd H' l (.lst (qs.map V.ref))) s'->Q (.ref l) s') :
  Db (model X.prog X.w) X.A (call (.type "list") [.ref z]) Q E s:=by
 have hzlt:z < ↑s:=SE Z.zip;have gq:∀ q∈[z,TI,TO,i1,i2],q < ↑s:=λq hq=>by
  simp only[List.mem_cons,List.not_mem_nil,or_false] at hq;rcases hq with rfl | rfl | rfl | rfl | rfl
  .exact hzlt
  .exact SE Z.ins
  .let(_,_,e):=Z.out;exact SE e
  .let(o,e,_):=Z.e1.obj;exact SE e
  .let(o,e,_):=Z.e2.obj;exact SE e
 have hS5:↑s∉[z,TI,TO,i1,i2]:=λm=>absurd (gq _ m) (TL _);show callType_codes (Q₁:=λobj s₁=>obj=.ref ↑s/\s₁={ s with heap:=s.heap.push { cls:=.type "list",data:=.seq #v[] } }) F.called_list (F.typeCall_list_1 _) F.entry_list_init
  (code_list_new _ #[U,U]) λobj s₁ h₁=>?_
 let(rfl,rfl):=h₁;have hL:(s.heap.push { cls:=.type "list",data:=.seq #v[] }).get? ↑s=some { cls:=.type "list",data:=.seq #v[] }:=SH _ U;show#[#[_,hL,U],F.args_list_init_2 _ _,?_];change Db _ _ (do let old <- FS.List.listItems (.ref ↑s);FS.List.listUpdate (.ref ↑s) (λ_=>#v[]);letGo old.toList.reverse;FS.List.listExtendWith (.ref ↑s) (.ref z) .none) _ _ _;show Ch ?_;unfold FS.List.listItems;show Ch (Os hL U (FB ?_));change Db _ _ (updateSeq ↑s (λ_=>#v[]) >>= λ_=>letGo (#v[]:Array AT).toList.reverse >>= λ_=>FS.List.listExtendWith (.ref ↑s) (.ref z) .none) _ _ _;show Ch (wpAny_updateSeq hL U ?_);obtain⟨c2,h2⟩:∃ c2,((s.heap.push { cls:=.type "list",data:=.seq #v[] }).update ↑s (Obj.mapSeq (λ_=>(#v[]:Array AT)))).get? ↑s=some { cls:=.type "list",dict:=none,data:=.seq #v[] c2,slots:=#v[] }:=#[_,Tf _ hL U];have oth:∀ b o,b≠↑s->s.heap.get? b=some o->((s.heap.push { cls:=.type "list",data:=.seq #v[] }).update ↑s (Obj.mapSeq (λ_=>(#v[]:Array AT)))).get? b=some o :=
  λb o hb e=>(S9 _ _ (Ne.symm hb)).trans (Su _ e)
 show Ch (wpAny_letGo ?_);generalize (s.heap.push { cls:=.type "list",data:=.seq #v[] }).update ↑s (Obj.mapSeq (λ_=>(#v[]:Array AT)))=h3 at h2 oth;have hzz:IsZip h3 z TI TO .none:=oth z _ (SR hzlt) Z.zip;have hTz:Da.TypeIs { s with heap:=h3 } (.ref z) "zip":=#[_,hzz,U];unfold FS.List.listExtendWith;show Ch (wpAny_typeOf hTz ?_);have g1:FS.List.listSameRef (.ref ↑s) (.ref z)=false:=by simp[FS.List.listSameRef,Nat.ne_of_gt hzlt]
 have g2:(AT.type "zip" == AT.type "list")=false:=by decide
 have g3:(AT.type "zip" == AT.type "tuple")=false:=by decide
 simp only[g1,g2,g3,Bool.or_false,Bool.false_eq_true,if_false];show Ch (wpAny_pyIter_zip hzz ?_);show Ch (NE ?_);unfold FS.List.listLengthHint;show Ch (wpAny_specialOf hTz F.Ae ?_)
 wp_delta
 show Ch (wpAny_specialOf hTz F.yc ?_);show FB ?_;rw[if_pos ()];show Ch (wpAny_rule ?_);unfold FS.List.listTouch;show Ch (Ch ?_);change Db _ _ (updateSeq ↑s (·.push .none)) _ _ _;show wpAny_updateSeq h2 U ?_;obtain⟨c4,h4⟩:∃ c4,(h3.update ↑s (Obj.mapSeq (·.push AT.none))).get? ↑s=some { cls:=.type "list",dict:=none,data:=.seq #v[.none] c4,slots:=#v[] }:=#[_,Tf _ h2 U];have oth4:∀ b o,b≠↑s->s.heap.get? b=some o->(h3.update ↑s (Obj.mapSeq (·.push AT.none))).get? b=some o:=λb o hb e=>(S9 _ _ (Ne.symm hb)).trans (oth b o hb e);generalize h3.update ↑s (Obj.mapSeq (·.push AT.none))=h5 at h4 oth4;change Db _ _ (updateSeq ↑s (·.pop)) _ _ _;show wpAny_updateSeq h4 U ?_;obtain⟨c6,h6⟩:∃ c6,(h5.update ↑s (Obj.mapSeq (·.pop))).get? ↑s=some { cls:=.type "list",dict:=none,data:=.seq #v[] c6,slots:=#v[] }:=#[_,Tf _ h4 U];have oth6:∀ b o,b≠↑s->s.heap.get? b=some o->(h5.update ↑s (Obj.mapSeq (·.pop))).get? b=some o:=λb o hb e=>(S9 _ _ (Ne.symm hb)).trans (oth4 b o hb e);generalize h5.update ↑s (Obj.mapSeq (·.pop))=h7 at h6 oth6;have kept:∀ b o,s.heap.get? b=some o->h7.get? b=some o:=λb o e=>oth6 b o (SR (SE e)) e;have aS:a≠↑s:=SR (jT.lt p1);have bS:b≠↑s:=SR (jT.lt p2);have I7:Inv X Sc σ H { s with heap:=h7 }:=I.kept (t':=s.toks) kept;have hf7:∀ q∈[z,TI,TO,i1,i2,↑s],ee X Sc H q:=λq hq=>by
  simp only[List.mem_cons,List.not_mem_nil,or_false] at hq;rcases hq with e | e | e | e | e | e
  .exact hf q (by simp[e])
  .exact hf q (by simp[e])
  .exact hf q (by simp[e])
  .exact hf q (by simp[e])
  .exact hf q (by simp[e])
  .rw[e];exact I.mq (Sx _) (I.bj.fresh (Sx _))
 show FB #[plainId_quiet F.plain_extend_loop _,?_];show Bq (A:=X.A.in1) hc (I.ok.hd hc) Y ha hb hS5 aS bS ho Qz xs ys 0 _ H #v[] c6 (by simpa using v1) (by simpa using v2) U (Nat.zero_le _) I7 hf7
  #[.inl (kept _ _ Z.zip),kept _ _ Z.ins,let #[p,q,e]:=Z.out;#[p,q,kept _ _ e],#[Z.e1.at λo e=>kept _ _ e,p1.at λo e=>kept _ _ e],#[Z.e2.at λo e=>kept _ _ e,p2.at λo e=>kept _ _ e],h6] λs' H' qs acc' c' J1 J2 J3 J4 J5 J6=>?_
 have hn:H' ↑s=none:=(J2 ↑s (by simp)).1;show#[U,hQ s' H' qs ↑s J6 hn (Inv.KS J1 (J2 ↑s (by simp)) ?_)];have e4:acc'.toList=qs.map AT.ref:=by simpa using J4
 have e5:(qs.map V.ref).length=acc'.size:=by
  have:=congrArg List.length e4;simp at this;rw[Ss];exact this.symm
 exact#[by rw[e5];exact J5,qs.map AT.ref,c',pO qs,by rw[<- e4];exact J3]
theorem va{a b:Cl}{t:TA}{p p2 pos jI:Pos}(hc:X.calm=true)(IJ:Gl X "list")(B9:X.mg "list"=none)(hg:Gl X "zip")(hm:X.mg "zip"=none)(ha:PA X [a,b] t)(hs:(GM [.Call (.Name "zip" p2) [a,b] [] jI] X.env=[(false,eval (.Call (.Name "zip" p2) [a,b] [] jI) X.env)])⁻¹)(MA:(GM [a,b] X.env=[(false,eval a X.env),(false,eval b X.env)])⁻¹)(t5:(GM [b] X.env=[(false,eval b X.env)])⁻¹) :
  PE X (.Call (.Name "list" p) [.Call (.Name "zip" p2) [a,b] [] jI] [] pos) (BA X.K t):=by
 intro Sc s σ H Q I h;show wpAny_Call_Name_kw (gj I IJ B9 PyProof.Rows.boot_list ?_ () ());show PyProof.Rows.callWith_type1 ?_ hs U;rw[hs];change Db _ _ (spliced ((false,eval (.Call (.Name "zip" p2) [a,b] [] jI) X.env)::IR pos [])) _ _ s;show Calls.spliced_cons ?_;show Call_ (gj I hg hm (u:=.type "zip") (by decide+kernel) (PyProof.Rows.callWith_type1 (bx (ha jI Sc s σ H _ I h) λus s1 zz=>el2 zz λvs H1 I1 r1 q1=>?_) (by rw[MA,t5]) (by rw[t5];rfl)));let(l1,l2,t1,t2,xs,ys,e,(hx,hy),q):=q1;subst e;let(u,v,rfl,ru,rv):=Vals.two r1;cases ru;cases rv;let(ef,v1,p1,z1):=iS I1 hx;let(dZ,v2,p2,z2):=iS I1 hy;have b1:=jT.lt p1;have b2:=jT.lt p2;have l1':=v1.length;show sZ p1 p2 λh' hz hI hO e1 e2 hsz hk=>?_;show Calls.spliced_nil ?_;have I2:Inv X Sc σ H1 { s1 with heap:=h' }:=I1.kept (t':=s1.toks) hk;have ge:∀ {c:AC},c∈[↑s1+4,↑s1+2,↑s1+3,↑s1,↑s1+1]->↑s1<=c:=λ{c} hc=>by
  simp only[List.mem_cons,List.not_mem_nil,or_false] at hc;rcases hc with e | e | e | e | e<;>(rw[e];first | exact Sx _ | exact UK _ _)
 show BU hc (apart_new b1 b2) (SR b1) (SR (Nat.lt_succ_of_lt b2)) v1 v2 (by cbv) I2 (λc hc=>I1.mq (ge hc) (I1.bj.fresh (ge hc))) #[hz,hI,#[_,_,hO],e1,e2] (p1.at λo e=>hk _ o e) (p2.at λo e=>hk _ o e) #[λm=>absurd (SW b1 (ge m)) (TL _),λm=>absurd (SW b2 (ge m)) (TL _)] λs' H' qs l J1 J2 J3=>?_;exact#[.ref l,_,J3,U,q H' qs l J1 J2]
end
end L2
namespace DL
open PySem PySem.Spec L2
open PyProof.Rows hiding St
section
variable{X:Cx}{c:Ent}
theorem qt{K:Frag}{s:DS}{as:!AC}{σ:St}:∀ (xs ys:!D) (us vs:!V) (M:AC->Prop) (H H':Hp) (qs:!AC),aA K c M s as σ H->aw K H M xs us->aw K H M ys vs->mS H (us.zip vs) H' qs ->
  ∃ M',aA K c M' s as σ H'/\Ext c as M s H M' s H'/\aw K H' M' (lz xs ys) (qs.map V.ref)
 | [],ys,us,vs,M,H,H',qs,L,r1,r2,l=>by
  have r1:us=[]:=r1;subst r1;let(e1,e2):=(show H'=H/\qs=[] from l);subst e1 e2;exact#[M,L,.refl,U]
 | x::xs,[],us,vs,M,H,H',qs,L,r1,r2,l=>by
  have r2:vs=[]:=r2;subst r2;rw[List.zip_nil_right] at l;let(e1,e2):=(show H'=H/\qs=[] from l);subst e1 e2;exact#[M,L,.refl,U]
 | x::xs,y::ys,us,vs,M,H,H',qs,L,r1,r2,l=>by
  let(u,us,rfl,ru,r1):=r1;let(v,vs,rfl,rv,r2):=r2;let(p,ps,hp,rfl,l2):=(show ∃ p ps,H p=none/\qs=p::ps/\mS (upd H p (.tup [u,v])) (us.zip vs) H' ps from l);let(M',L',E',r'):=qt xs ys us vs _ _ H' ps (L.fresh (o:=.tup [u,v]) hp) (iV hp r1) (iV hp r2) l2;show#[M',L',(Ext.fresh hp).trans (L.fresh hp).base E',.ref p,_,U,?_,r'];show E'.rep (L.fresh hp) #[p,[u,v],U,#[.inr U,ay],?_];exact#[u,[v],U,qX hp ru,v,[],U,qX hp rv,U]
def yd(t:eF):aW:=λs Q=>t s λas s1=>∃ d e xs ys,as=[d,e]/\(BY d=some xs/\BY e=some ys)/\Q (.lst (lz xs ys)) s1
theorem ph{a b:Cl}{t:eF}{p p2 pos jI:Pos}(hc:X.calm=true)(IJ:Gl X "list")(B9:X.mg "list"=none)(hg:Gl X "zip")(hm:X.mg "zip"=none)(ha:DA X c [a,b] t)(hs:(GM [.Call (.Name "zip" p2) [a,b] [] jI] X.env=[(false,eval (.Call (.Name "zip" p2) [a,b] [] jI) X.env)])⁻¹)(MA:(GM [a,b] X.env=[(false,eval a X.env),(false,eval b X.env)])⁻¹)(t5:(GM [b] X.env=[(false,eval b X.env)])⁻¹) :
  DN X c (.Call (.Name "list" p) [.Call (.Name "zip" p2) [a,b] [] jI] [] pos) (yd t):=#[(va hc IJ B9 hg hm ha.pa hs MA t5).imp λσ H Q zz=>cU zz λM s as R L q k =>
 #[M,s,as,_,L,q,λds s1 q1 M1 H1 vs L1 E1 r1 hl=>by
  let(d,e,xs,ys,rfl,(hd,he),q2):=q1;let(u,r,rfl,ru,r):=r1;let(v,r',rfl,rv,r):=r;have r:r'=[]:=r;subst r;let(a1,t1,us,rfl,rus,g1):=mN hd ru;let(a2,t2,vs,rfl,rvs,g2):=mN he rv;have G0:dP M1 H1 M1 H1:=λb m=>#[m,λo e=>e];show#[a1,a2,t1,t2,us,vs,U,#[(g1 M1 H1 G0).1,(g2 M1 H1 G0).1],λH2 qs l J hl=>?_];let(M2,Lb,E2,r2):=qt xs ys us vs M1 H1 H2 qs L1 rus rvs J;exact ix (d:=.lst _) L Lb (E1.trans L1.base E2) hl r2 (k _ s1 q2)]]
theorem HA{ty td:aW}{σ:St}{H:Hp}{Q:VK}:tE X.K c (xo false ty td) σ H Q->Ka (tE X.K c ty) (tE X.K c td) σ H Q:=λzz=>cU zz λM s as R L q kk =>
 #[M,s,as,_,L,q,λdy s1 q1 M1 H1 y L1 E1 ry=>#[M1,s1,as,_,L1,q1,λd s2 z2r M2 H2 v Lb E2 rv=>by
  let(hd,q2):=z2r;let(a,o,rfl,f1,f2):=rv.dc hd;let(ov,od,w1,w2,w3):=qM q2 f1 f2 (E2.rep L1 ry);show#[a,ov,U,w1,?_];have e:ov.isSome=od.isSome:=by
   rcases w3 with ⟨rfl,rfl⟩ | ⟨v,x,rfl,rfl,rx⟩<;>rfl
  rw[e];exact kk _ s2 w2 M2 H2 _ Lb (E1.trans L1.base E2) U]]
theorem zZ{i o:Cl}{pos:Pos}{ty td:aW}(hu:X.A.units+1 < cLine)(hi:DE X c i ty)(ho:DE X c o td)(h1:(behindInMarks .In o=false)⁻¹):DT X c (.Compare i [.In] [o] pos) (EX (xo false ty td)) :=
 #[(BD (Hr hu hi.pe ho.pe) h1).imp λσ H Q q=>gX HA q]
end
end DL
namespace DL
open PySem PySem.Spec L2
structure ia where
 name:Str
 fs:!(Str×Str)
structure iu where
 name:Str
 ps:!(Str×Str)
 res:Str
structure Kd where
 asked:Bool
 name:Str
 bJ:!ia
 cT:!iu
structure bW where
 kinds:!Kd
 vars:!Str
 heads:!Str
 inner:Bool
 words:!Str
def a9(b:Bool):Str:=if b=true then "asked" else "made"
def pairD(p:Str×Str):D:=.tup [.str p.1,.str p.2]
def dQ(ps:!(Str×Str)):D:=.tup (ps.map pairD)
def cS(m:ia):D:=.tup [.str m.name,dQ m.fs]
def d6(a:iu):D:=.tup [.str a.name,dQ a.ps,.str a.res]
def jo(k:Kd):D:=.tup [.str (a9 k.asked),.str k.name,.tup (k.bJ.map cS),.tup (k.cT.map d6)]
def oX(W:bW)(k:Str):Prop:=k="number"\/∃ kd∈W.kinds,kd.bJ≠[]/\kd.name=k
def GY(W:bW)(ns:!Str)(ps:!(Str×Str)):Prop:=ps.length<=3/\ps.map (·.1)=ns.take ps.length/\∀ p∈ps,oX W p.2
structure gr(W:bW):Prop where
 kl:W.kinds.length<=5
 kn:(W.kinds.map Kd.name).Nodup
 kw:∀ k∈W.kinds,Nm k.name/\k.bJ.length<=5/\k.cT.length<=5
 mn:(W.kinds.flatMap λk=>k.bJ.map ia.name).Nodup
 an:(W.kinds.flatMap λk=>k.cT.map iu.name).Nodup
 mo:∀ k∈W.kinds,∀ m∈k.bJ,Nm m.name/\GY W (W.heads.take 3) m.fs
 ao:∀ k∈W.kinds,∀ a∈k.cT,Nm a.name/\GY W (W.heads.drop 3) a.ps/\oX W a.res
 ft:∀ k∈W.kinds,∀ m r,k.bJ=m::r->∀ p∈m.fs,p.2="number"
 hl:W.heads.length=6
 vl:W.vars.length=15
 nd:(W.heads++W.vars).Nodup
 nm:∀ x∈W.heads++W.vars,Nm x
structure jL(W:bW)(sc:!(Str×Str)):Prop where
 len:sc.length<=15
 nd:(sc.map (·.1)).Nodup
 ok:∀ p∈sc,oX W p.2/\(p.1∈W.heads\/∃ j,j < sc.length/\W.vars[j]?=some p.1)
def wq(W:bW)(sc:!(Str×Str))(ns:!Str):Prop:=ns.Nodup/\(∀ x∈ns,x∉sc.map (·.1))/\∀ x∈ns,x∈W.heads\/∃ j,j < sc.length+ns.length/\W.vars[j]?=some x
inductive qZ(W:bW)(sc:!(Str×Str)):Str->Fm->!(!(Str×Str)×Str)->Prop
 | nm {x k:Str}:(x,k)∈sc->qZ W sc k (.nm x) []
 | num {i:Int}:0<=i->i < 1000000->qZ W sc "number" (.num i) []
 | op {o:Str}:o∈(["+","-","*"]:!Str)->qZ W sc "number" (.op o) [([],"number"),([],"number")]
 | Aa {k:Str}:qZ W sc k .Aa [([],"number"),([],k),([],k)]
 | lt {x k k':Str}:wq W sc [x]->oX W k'->qZ W sc k (.lt x) [([],k'),([(x,k')],k)]
 | mk {kd:Kd} {m:ia}:kd∈W.kinds->m∈kd.bJ->qZ W sc kd.name (.mk m.name) (m.fs.map λp=>([],p.2))
 | ask {kd:Kd} {a:iu}:kd∈W.kinds->kd.bJ≠[]->a∈kd.cT->qZ W sc a.res (.ask a.name) (([],kd.name)::a.ps.map λp=>([],p.2))
 | B0 {k:Str} {kd:Kd} {sub:!(ia×!Str)}:kd∈W.kinds->kd.bJ≠[]->kd.asked=false->(sub.map (·.1)).Sublist kd.bJ->(∀ p∈sub,p.2.length=p.1.fs.length/\wq W sc p.2) ->
   qZ W sc k (.B0 k (sub.map λp=>(p.1.name,p.2))) (([],kd.name)::sub.map λp=>(p.2.zip (p.1.fs.map (·.2)),k))
 | new {kd:Kd} {sub:!(iu×!Str)}:kd∈W.kinds->kd.bJ≠[]->kd.asked=true->(sub.map (·.1)).Sublist kd.cT->(∀ p∈sub,p.2.length=p.1.ps.length/\wq W sc p.2) ->
   qZ W sc kd.name (.new kd.name (sub.map λp=>(p.1.name,p.2))) (sub.map λp=>(p.2.zip (p.1.ps.map (·.2)),p.1.res))
mutual
noncomputable def Ty(W:bW):!(Str×Str)->Str->Tm->Prop
 | sc,k,.node f ts=>∃ sp,qZ W sc k f sp/\eM W sc sp ts
noncomputable def eM(W:bW):!(Str×Str)->!(!(Str×Str)×Str)->!Tm->Prop
 | sc,sp,[]=>sp=[]
 | sc,sp,t::ts=>∃ e r,sp=e::r/\Ty W (sc++e.1) e.2 t/\eM W sc r ts
end
theorem eM.len{W:bW}{sc:!(Str×Str)}:∀ {sp:!(!(Str×Str)×Str)} {ts:!Tm},eM W sc sp ts->ts.length=sp.length
 | sp,[],h=>by
  have h:sp=[]:=h;rw[h];rfl
 | sp,t::ts,h=>by
  let(e,r,rfl,_,h):=(show ∃ e r,sp=e::r/\Ty W (sc++e.1) e.2 t/\eM W sc r ts from h);rw[SG,SG,eM.len h]
theorem Ty.mk{W:bW}{sc:!(Str×Str)}{k:Str}{f:Fm}{ts:!Tm}{sp:!(!(Str×Str)×Str)}(h:qZ W sc k f sp)(r:eM W sc sp ts):Ty W sc k (.node f ts):=#[sp,h,r]
theorem eM.nil{W:bW}{sc:!(Str×Str)}:eM W sc [] []:=rfl
theorem eM.cons{W:bW}{sc ex:!(Str×Str)}{k:Str}{t:Tm}{ts:!Tm}{sp:!(!(Str×Str)×Str)}(h:Ty W (sc++ex) k t)(r:eM W sc sp ts):eM W sc ((ex,k)::sp) (t::ts):=#[(ex,k),sp,U,h,r]
theorem eM.pC{W:bW}{sc:!(Str×Str)}{k:Str}{t:Tm}{ts:!Tm}{sp:!(!(Str×Str)×Str)}(h:Ty W sc k t)(r:eM W sc sp ts):eM W sc (([],k)::sp) (t::ts):=eM.cons (by rw[SY];exact h) r
theorem eM.app{W:bW}{sc:!(Str×Str)}:∀ {sp sq:!(!(Str×Str)×Str)} {ts us:!Tm},eM W sc sp ts->eM W sc sq us->eM W sc (sp++sq) (ts++us)
 | sp,sq,[],us,h,h'=>by
  have h:sp=[]:=h;subst h;exact h'
 | sp,sq,t::ts,us,h,h'=>by
  let(e,r,rfl,h1,h):=(show ∃ e r,sp=e::r/\Ty W (sc++e.1) e.2 t/\eM W sc r ts from h);exact#[e,r++sq,U,h1,eM.app h h']
theorem Nm.ok{x:Str}(h:Nm x):GE.strOk x=true:=h.1.strOk
theorem wL{W:bW}(w:gr W){j:Nat}{x:Str}(h:W.vars[j]?=some x):x∈W.vars:=Ta h
theorem wq.nm{W:bW}(w:gr W){sc:!(Str×Str)}{ns:!Str}(b:wq W sc ns):∀ x∈ns,Nm x:=λx hx=>by
 rcases b.2.2 x hx with h | ⟨j,_,h⟩
 .exact w.nm x (Tp _ h)
 .exact w.nm x (S5 _ (wL w h))
theorem jL.nm{W:bW}(w:gr W){sc:!(Str×Str)}(h:jL W sc):∀ p∈sc,Nm p.1:=λp hp=>by
 rcases (h.ok p hp).2 with h | ⟨j,_,h⟩
 .exact w.nm _ (Tp _ h)
 .exact w.nm _ (S5 _ (wL w h))
theorem oX.ok{W:bW}(w:gr W){k:Str}(h:oX W k):GE.strOk k=true:=by
 rcases h with rfl | ⟨kd,hk,_,rfl⟩
 .decide+kernel
 .exact (w.kw kd hk).1.ok
theorem jL.more{W:bW}{sc:!(Str×Str)}(h:jL W sc){ns ks:!Str}(b:wq W sc ns)(hl:ns.length=ks.length)(hk:∀ k∈ks,oX W k)(HS:sc.length+ns.length<=15):jL W (sc++ns.zip ks):=by
 have e1:(ns.zip ks).map (·.1)=ns:=UL (by cbv);have e2:(ns.zip ks).length=ns.length:=by rw[UO];cbv
 show#[by rw[Sv,e2];exact HS,?_,λp hp=>?_]
 .rw[Sz,e1,To];exact#[h.nd,b.1,λx hx y hy e=>b.2.1 y hy (e▸hx)]
 .rcases SN.mp hp with hp | hp
  .let(h1,h2):=h.ok p hp;show#[h1,h2.imp id λ#[j,hj,e]=>#[j,by rw[Sv];cbv,e]]
  .have m1:p.1∈ns:=e1▸SU (f:=(·.1)) hp;have m2:p.2∈ks:=by
    have:(ns.zip ks).map (·.2)=ks:=List.map_snd_zip (by cbv);exact this▸SU (f:=(·.2)) hp
   show#[hk _ m2,(b.2.2 p.1 m1).imp id λ#[j,hj,e]=>#[j,by rw[Sv,e2];exact hj,e]]
theorem fg{α β:Type}{nt:Nat}{us:!Nat}{g:nA}{te:aW}(h:α->D)(f:β->D)(Rl:α->β->Prop){Q:!D->DS->Prop}{s:DS}:∀ (xs:!α) {acc:!D},(∀ x∈xs,∀ k:D->DS->Prop,(∀ (y:β) (s':DS),Rl x y->s'.os=s.os->k (f y) s')->g (h x) (gP nt us s) λs1=>te s1 k)->(∀ ys:!β,Paired Rl xs ys->Q (acc++ys.map f) s)->bM nt us g cN te (xs.map h) acc s Q
 | [],acc,_,q=>by
  have:=q [] .nil;rw[Tt,SY] at this;exact this
 | x::xs,acc,hx,q=>by
  have:=hx x SD (λy s3=>bM nt us g cN te (xs.map h) (acc++[y]) #[s.sl,s3.os] Q) λy s' hy e=>by
   change bM nt us g cN te (xs.map h) (acc++[f y]) #[s.sl,s'.os] Q;rw[e];show fg h f Rl xs (λz hz=>hx z (Sy _ hz)) λys hp=>?_;rw[S0];exact q (y::ys) (.cons hy hp)
  rw[SA,bM];simpa [cN] using this
theorem fz{α β:Type}{F:α->β->Prop}:∀ {l₁:!α} {l₂:!β},Paired F l₁ l₂->l₂.length=l₁.length
 | _,_,.nil=>rfl
 | _,_,.cons _ t=>by rw[SG,SG,fz t]
theorem fk{α β:Type}{F:α->β->Prop}:∀ {l₁:!α} {l₂:!β},Paired F l₁ l₂->∀ y∈l₂,∃ x∈l₁,F x y
 | _,_,.nil,y,h=>nomatch h
 | _,_,.cons r t,y,h=>by
  rcases SO.mp h with rfl | h
  .exact#[_,SD,r]
  .let(x,hx,q):=fk t y h;exact#[x,Sy _ hx,q]
theorem AR{α β:Type}{F:α->β->Prop}:∀ {l₁:!α} {l₂:!β},Paired F l₁ l₂->∀ {i:Nat} {x:α},l₁[i]?=some x->∃ y,l₂[i]?=some y/\F x y
 | _,_,.nil,i,x,h=>by simp at h
 | _,_,.cons r t,0,x,h=>by
  simp at h;subst h;exact#[_,U,r]
 | _,_,.cons r t,i+1,x,h=>by
  let(y,h1,h2):=AR t (i:=i) (x:=x) (by simpa using h);exact#[y,by simpa using h1,h2]
theorem qx{β γ:Type}{F:Nat->β->Prop}{v:β->γ}{ns:!γ}(h:∀ i y,F i y->ns[i]?=some (v y)){n:Nat}{ys:!β}(p:Paired F (List.range n) ys):ys.map v=ns.take ys.length:=by
 have hl:=fz p;rw[T6] at hl;apply List.ext_getElem?;intro i;rw[Tb,List.getElem?_take];by_cases hi:i < n
 .let(y,e,f):=AR p (i:=i) (x:=i) (by simp[hi]);rw[e,if_pos (by cbv),h i y f]
  rfl
 .rw[if_neg (by cbv),List.getElem?_eq_none (by cbv)]
  rfl
theorem Aq{α β γ:Type}{F:α->β->Prop}{u:α->γ}{v:β->γ}(h:∀ x y,F x y->v y=u x):∀ {l₁:!α} {l₂:!β},Paired F l₁ l₂->l₂.map v=l₁.map u
 | _,_,.nil=>rfl
 | _,_,.cons r t=>by rw[SA,SA,h _ _ r,Aq h t]
theorem nY{α:Type}{f:α->D}{xs:!α}{r:Int}(h0:0<=r)(h1:r < xs.length):∃ x,xs[r.toNat]?=some x/\iw (xs.map f) r=some (f x):=by
 have hj:r.toNat < xs.length:=by cbv
 show#[xs[r.toNat],SJ hj,?_];have e:(r.toNat:Int)=r:=Uv h0;have q:=eY (xs:=xs.map f) (j:=r.toNat) (v:=f xs[r.toNat]) (by simp[hj]);rw[e] at q;exact q
theorem iG{α:Type}{f:α->D}{xs:!α}{r:Int}(h0:0<=r)(h1:r < xs.length):∃ x,x∈xs/\iw (xs.map f) r=some (f x):=by
 let(x,h,e):=nY (f:=f) h0 h1;exact#[x,Ta h,e]
theorem gS(n:Nat):c7 0 n=(List.range n).map λ(i:Nat)=>D.int (i:Int):=by
 unfold c7;show Uu λi _=>?_;rw[Int.zero_add]
theorem fu{α:Type}{f:α->D}{xs:!α}{lo hi:Option Int}:cutD (xs.map f) lo hi=((xs.drop (HT.bO xs.length 0 lo)).take (HT.bO xs.length xs.length hi - HT.bO xs.length 0 lo)).map f:=by
 unfold cutD;rw[Ss,<- List.map_drop,<- List.map_take]
theorem vN{f:Str->D}{ws:!Str}{n:Int}(h0:0<=n)(h1:n<=ws.length):∃ al:!Str,cutD (ws.map f) (some n) none++cutD (ws.map f) none (some n)=al.map f/\al.Perm ws:=by
 have e1:HT.bO ws.length 0 (some n)=n.toNat:=by
  unfold HT.bO;simp only[]
  repeat' split
  all_goals cbv
 have e2:HT.bO ws.length ws.length (some n)=n.toNat:=by
  unfold HT.bO;simp only[]
  repeat' split
  all_goals cbv
 have e3:HT.bO ws.length ws.length none=ws.length:=rfl;have e4:HT.bO ws.length 0 none=0:=rfl;show#[ws.drop n.toNat++ws.take n.toNat,?_,?_]
 .rw[fu,fu,e1,e2,e3,e4,List.drop_zero,Nat.sub_zero,List.map_append,List.take_of_length_le (by simp)]
 .refine List.perm_append_comm.trans ?_;rw[T3]
def _root_.DL.Sl.pl:Sl->Bool
 | .own _=>false
 | _=>true
theorem bP{k i:Nat}{x:Sl}{r:!Sl}(h:x.pl=true):noRef k (i+1) (x::r)=noRef k i r:=by
 cases x with
 | own j=>cases h
 | _=>rfl
def yG(xs:!D)(j n:Nat):Prop:=j<=n/\xs=(List.range' j (n - j)).map λ(i:Nat)=>D.int (i:Int)
theorem yG.init(n:Nat):yG (c7 0 n) 0 n:=#[S3 _,by rw[gS,Nat.sub_zero,List.range_eq_range']]
theorem yG.nil{j n:Nat}(h:yG [] j n):j=n:=by
 have:=congrArg List.length h.2;simp at this;have:=h.1;cbv
theorem yG.cons{x:D}{xs:!D}{j n:Nat}(h:yG (x::xs) j n):x=.int (j:Int)/\j < n/\yG xs (j+1) n:=by
 let(h1,h2):=h;have h3:=congrArg List.length h2;simp at h3;have e:n - j=(n - (j+1))+1:=by cbv
 rw[e,List.range'_succ,SA] at h2;injection h2 with h4 h5;exact#[h4,by cbv,by cbv,h5]
def Cb(ns ss:!Str)(ps:!(Str×Str)):Prop:=ps.length<=3/\ps.map (·.1)=ns.take ps.length/\∀ p∈ps,p.2∈ss
abbrev gD:!Str:=["number"]
def dG(ks:!Kd):!Str:=ks.flatMap λk=>k.bJ.map ia.name
def cY(ks:!Kd):!Str:=ks.flatMap λk=>k.cT.map iu.name
structure Lh(ws ns:!Str)(k:Kd):Prop where
 m0:k.bJ≠[]
 ml:k.bJ.length<=5
 al:k.cT.length<=5
 mp:∀ m∈k.bJ,Cb ((ws.drop 24).take 3) (ns++gD) m.fs
 mf:∀ m r,k.bJ=m::r->∀ p∈m.fs,p.2="number"
 ap:∀ a∈k.cT,Cb ((ws.drop 27).take 3) (ns++gD) a.ps/\a.res∈ns++gD
structure CA(ws ns ML AL:!Str)(ks:!Kd):Prop where
 kl:ks.length<=ns.length
 kn:ks.map Kd.name=ns.take ks.length
 rg:∀ k∈ks,Lh ws ns k
 mn:dG ks=ML.take (dG ks).length
 an:cY ks=AL.take (cY ks).length
 mb:(dG ks).length<=5 * ks.length
 ab:(cY ks).length<=5 * ks.length
theorem CA.nil{ws ns ML AL:!Str}:CA ws ns ML AL []:=#[S3 _,U,λ_ h=>(nomatch h),U,U,S3 _,S3 _]
theorem fX(ks:!Kd)(k:Kd):dG (ks++[k])=dG ks++k.bJ.map ia.name:=by simp[dG]
theorem fP(ks:!Kd)(k:Kd):cY (ks++[k])=cY ks++k.cT.map iu.name:=by simp[cY]
theorem take_snoc{α:Type}{L A B:!α}(ha:A=L.take A.length)(hb:B=(L.drop A.length).take B.length):A++B=L.take (A++B).length:=by
 rw[Sv,List.take_add,<- ha,<- hb]
theorem CA.snoc{ws ns ML AL:!Str}{ks:!Kd}(h:CA ws ns ML AL ks){k:Kd}(r:Lh ws ns k)(hk:ns[ks.length]?=some k.name)(hm:k.bJ.map ia.name=(ML.drop (dG ks).length).take k.bJ.length)(ha:k.cT.map iu.name=(AL.drop (cY ks).length).take k.cT.length):CA ws ns ML AL (ks++[k]):=by
 let(gq,e):=Sw.mp hk;show#[by simp;cbv,?_,λx hx=>?_,?_,?_,?_,?_]
 .rw[Sz,h.kn,Sv,List.take_add]
  congr 1
  change [k.name]=(ns.drop ks.length).take 1;rw[Tg gq,e]
  rfl
 .rcases SN.mp hx with hx | hx
  .exact h.rg x hx
  .rw[SF.mp hx];exact r
 .rw[fX];exact take_snoc h.mn (by rw[Ss];exact hm)
 .rw[fP];exact take_snoc h.an (by rw[Ss];exact ha)
 .have:=h.mb;have:=r.ml;rw[fX,Sv,Sv,Ss];simp;cbv
 .have:=h.ab;have:=r.al;rw[fP,Sv,Sv,Ss];simp;cbv
theorem bK{k:Nat}{d:D}{x:Sl}(h:x.pl=true):(ja k d x).pl=true:=by
 cases x with
 | own j=>cases h
 | _=>rfl
structure Gd(ws ns L:!Str)(ms:!ia):Prop where
 nm:ms.map ia.name=L.take ms.length
 mp:∀ m∈ms,Cb ((ws.drop 24).take 3) (ns++gD) m.fs
 mf:∀ m r,ms=m::r->∀ p∈m.fs,p.2="number"
theorem Gd.nil{ws ns L:!Str}:Gd ws ns L []:=#[U,λ_ h=>(nomatch h),λ_ _ h=>by simp at h]
theorem pB{α β:Type}{v:β->α}{L:!α}{ms:!β}{m:β}(h:ms.map v=L.take ms.length)(e:L[ms.length]?=some (v m)):(ms++[m]).map v=L.take (ms++[m]).length:=by
 let(gq,e):=Sw.mp e;rw[Sz,h,Sv,List.take_add]
 congr 1
 change [v m]=(L.drop ms.length).take 1;rw[Tg gq,e]
 rfl
theorem Gd.snoc{ws ns L:!Str}{ms:!ia}(h:Gd ws ns L ms){m:ia}(e:L[ms.length]?=some m.name)(hp:Cb ((ws.drop 24).take 3) (ns++gD) m.fs)(hf:ms=[]->∀ p∈m.fs,p.2="number"):Gd ws ns L (ms++[m]):=by
 show#[pB h.nm e,λx hx=>?_,λx r hx=>?_]
 .rcases SN.mp hx with hx | hx
  .exact h.mp x hx
  .rw[SF.mp hx];exact hp
 .cases ms with
  | nil =>
   injection hx with e1 e2;subst e1;exact hf U
  | cons y ys =>
   injection hx with e1 e2;subst e1;exact h.mf _ _ U
structure zV(ws ns L:!Str)(as:!iu):Prop where
 nm:as.map iu.name=L.take as.length
 ap:∀ a∈as,Cb ((ws.drop 27).take 3) (ns++gD) a.ps/\a.res∈ns++gD
theorem zV.nil{ws ns L:!Str}:zV ws ns L []:=#[U,λ_ h=>nomatch h]
theorem zV.snoc{ws ns L:!Str}{as:!iu}(h:zV ws ns L as){a:iu}(e:L[as.length]?=some a.name)(hp:Cb ((ws.drop 27).take 3) (ns++gD) a.ps)(hr:a.res∈ns++gD):zV ws ns L (as++[a]):=by
 show#[pB h.nm e,λx hx=>?_];rcases SN.mp hx with hx | hx
 .exact h.ap x hx
 .rw[SF.mp hx];exact#[hp,hr]
theorem Cb.sub{ns ss tt:!Str}{ps:!(Str×Str)}(h:Cb ns ss ps)(hs:∀ x∈ss,x∈tt):Cb ns tt ps:=#[h.1,h.2.1,λp hp=>hs _ (h.2.2 p hp)]
theorem FV{L:!Str}{n j:Nat}(h:n+j < L.length):∃ x,L[n+j]?=some x/\(L.drop n)[j]?=some x/\seqIndex? 0 (((L.drop (n+j)).map D.str)).length=some 0/\((L.drop (n+j)).map D.str)[0]?=some (.str x)/\((L.drop (n+j)).map D.str).eraseIdx 0=(L.drop (n+(j+1))).map D.str:=by
 show#[L[n+j],SJ h,?_,?_,?_,?_]
 .rw[Ud,SJ h]
 .rw[Ss,Ti];exact PySem.seqIndex_of () (by cbv)
 .rw[Tb,Ud,Nat.add_zero,SJ h]
  rfl
 .rw[List.eraseIdx_zero,<- List.map_tail,List.tail_drop]
  congr 1
theorem mE{r:Int}(h0:0<=r)(h1:r < 2):∃ b:Bool,iw [D.str "made",D.str "asked"] r=some (.str (a9 b)):=by
 have:r=0\/r=1:=by cbv
 rcases this with rfl | rfl
 .exact#[false,U]
 .exact#[true,U]
def dg(ws:!Str)(ks:!Kd)(inner:Bool):bW:=#[ks,ws.drop 30,(ws.drop 24).take 6,inner,ws]
theorem nN{ws:!Str}(h:ws.Nodup){n j:Nat}(hn:n<=j){x:Str}(e:ws[j]?=some x):(ws.take n++[x]).Nodup:=by
 let(hj,e):=Sw.mp e;have hs:(ws.take n++[x]).Sublist ws:=by
  have h1:(ws.take n++[x]).Sublist (ws.take n++ws.drop n):=by
   show Uw (T7 _) (List.singleton_sublist.mpr ?_);have:(ws.drop n)[j - n]?=some x:=by
    rw[Ud,show n+(j - n)=j by cbv,SJ hj,e]
   exact Ta this
  rwa [T3] at h1
 exact h.sublist hs
theorem eC{α:Type}{f:α->D}:∀ {l:!α},(∀ x∈l,lH (f x)=true)->rG (l.map f)=true
 | [],_=>rfl
 | x::l,h=>by
  change (lH (f x)&&rG (l.map f))=true;rw[h x SD,eC λy hy=>h y (Sy _ hy)]
  rfl
theorem rA{W:bW}(w:gr W){ns:!Str}(hn:∀ x∈ns,Nm x){ps:!(Str×Str)}(h:GY W ns ps):lH (dQ ps)=true:=by
 show eC λp hp=>?_;have h1:p.1∈ns:=by
  have:p.1∈ps.map (·.1):=SU hp;rw[h.2.1] at this;exact Tq this
 change (GE.strOk p.1&&(GE.strOk p.2&&true))=true;rw[(hn _ h1).ok,(h.2.2 p hp).ok w]
 rfl
theorem xc{W:bW}(w:gr W){k:Kd}(hk:k∈W.kinds):lH (.tup (k.bJ.map cS))=true:=by
 show eC λm hm=>?_;let(h1,h2):=w.mo k hk m hm;change (GE.strOk m.name&&(lH (dQ m.fs)&&true))=true;rw[h1.ok,rA w (λx hx=>w.nm x (Tp _ (Tq hx))) h2]
 rfl
theorem Dz{W:bW}(w:gr W){k:Kd}(hk:k∈W.kinds):lH (.tup (k.cT.map d6))=true:=by
 show eC λa ha=>?_;let(h1,h2,h3):=w.ao k hk a ha;change (GE.strOk a.name&&(lH (dQ a.ps)&&(GE.strOk a.res&&true)))=true;rw[h1.ok,rA w (λx hx=>w.nm x (Tp _ (Up hx))) h2,h3.ok w]
 rfl
def things(W:bW):!Kd:=W.kinds.filter λk=>(not k.bJ.isEmpty)
theorem fq{W:bW}{k:Kd}:k∈things W↔k∈W.kinds/\k.bJ≠[]:=by
 unfold things;rw[TB];simp
theorem wq.heads{W:bW}(w:gr W){sc:!(Str×Str)}{al:!Str}(p:al.Perm (W.heads.filter λx=>(not (decide (x∈sc.map (·.1))))))(m:Nat):wq W sc (al.take m):=by
 have mem:∀ x∈al.take m,x∈W.heads/\x∉sc.map (·.1):=λx hx=>by
  have:=p.mem_iff.mp (Tq hx);let(h1,h2):=TB.mp this;exact#[h1,by simpa using h2]
 show#[?_,λx hx=>(mem x hx).2,λx hx=>.inl (mem x hx).1];have h1:W.heads.Nodup:=(To.mp w.nd).1;exact (p.nodup_iff.mpr (h1.sublist List.filter_sublist)).sublist (Tv _ _)
theorem wq.vars{W:bW}(w:gr W){sc:!(Str×Str)}(s:jL W sc){m:Nat}{ns:!Str}(p:Paired (λk x=>W.vars[sc.length+k]?=some x) (List.range m) ns):wq W sc ns:=by
 have hl:=fz p;rw[T6] at hl;have h2:W.vars.Nodup:=(To.mp w.nd).2.1;have e:ns=(W.vars.drop sc.length).take ns.length:=by
  have:=qx (v:=id) (ns:=W.vars.drop sc.length) (λi y h=>by rw[Ud];exact h) p;simpa using this
 show#[?_,λx hx hs=>?_,λx hx=>?_]
 .rw[e];exact h2.sublist ((Tv _ _).trans (List.drop_sublist _ _))
 .let(k,_,hk):=fk p x hx;let(q,hq,eq):=SV.mp hs;rcases (s.ok q hq).2 with h | ⟨j,hj,ej⟩
  .rw[eq] at h;exact (To.mp w.nd).2.2 x h x (Ta hk) U
  .rw[eq] at ej;let(l1,g1):=Sw.mp hk;let(l2,g2):=Sw.mp ej;have:=(Um h2).mp (g1.trans g2.symm);cbv
 .let(k,hk,hv):=fk p x hx;have:=T8.mp hk;exact .inr #[sc.length+k,by cbv,hv]
theorem yn{ws:!Str}:(ws.map D.str).all gE=true:=by
 rw[List.all_map];exact TH.mpr λ_ _=>rfl
theorem Dn{x:Str}{ws:!Str}:yL (fv (.str x)) ((ws.map D.str).map fv)=decide (x∈ws):=by
 rw[S6];exact eu
theorem ck{a b:Str}:decide (fv (.str a)=fv (.str b))=decide (a=b):=by
 change decide (V.str a=V.str b)=_;by_cases h:a=b
 .simp[h]
 .have:¬ V.str a=V.str b:=λe=>h (by injection e);rw[decide_eq_false this,decide_eq_false h]
theorem qK{W:bW}(w:gr W){a b:Kd}(ha:a∈W.kinds)(hb:b∈W.kinds)(e:a.name=b.name):a=b:=by
 let(i,hi,rfl):=Tz ha;let(j,hj,rfl):=Tz hb;have:=Us.mp w.kn;have h2:(W.kinds.map Kd.name)[i]'(by simpa using hi)=(W.kinds.map Kd.name)[j]'(by simpa using hj):=by simpa using e
 have:=(Um w.kn).mp h2;subst this
 rfl
theorem jO{α:Type}{p:α->Bool}{a:α}:∀ {l:!α},a∈l->p a=true->(∀ x∈l,p x=true->x=a)->∃ n,l.filter p=List.replicate (n+1) a
 | [],h,_,_=>nomatch h
 | x::l,h,ha,hu=>by
  by_cases hx:p x=true
  .have e:=hu x SD hx;subst e;rw[List.filter_cons_of_pos hx];by_cases hm:x∈l
   .let(n,e):=jO hm ha λy hy=>hu y (Sy _ hy);exact#[n+1,by rw[e];rfl]
   .refine#[0,?_];have:l.filter p=[]:=List.filter_eq_nil_iff.mpr λy hy hp=>hm (hu y (Sy _ hy) hp▸hy);rw[this]
    rfl
  .rw[List.filter_cons_of_neg hx];show jO ?_ ha λy hy=>hu y (Sy _ hy);rcases SO.mp h with rfl | h
   .exact absurd ha hx
   .exact h
theorem kinds_of{W:bW}(w:gr W){k:Str}(h:oX W k)(hn:k≠"number"):∃ kd∈W.kinds,kd.bJ≠[]/\kd.name=k/\∃ n,(W.kinds.filter λx=>decide (x.name=k))=List.replicate (n+1) kd:=by
 rcases h with h | ⟨kd,h1,h2,h3⟩
 .exact absurd h hn
 .exact#[kd,h1,h2,h3,jO h1 (by simpa using h3) λx hx hp=>qK w hx h1 (by rw[h3];simpa using hp)]
end DL
namespace DL
theorem jn{C G:Prop}(dh:C)(h:C->G):G:=h dh
end DL
namespace DL
open PySem L2
theorem v9{α:Type}{W:bW}{sc:!(Str×Str)}{F:α->Tm->Prop}{v:α->Str}:∀ {ps:!α} {ts:!Tm},Paired F ps ts->(∀ p∈ps,∀ t,F p t->Ty W sc (v p) t)->eM W sc (ps.map λp=>([],v p)) ts
 | _,_,.nil,_=>eM.nil
 | _,_,.cons (a:=p) r t,h=>eM.pC (h _ SD _ r) (v9 t λq hq=>h q (Sy _ hq))
theorem yi{x:D}{xs:!D}:cutD (x::xs) (some 1) none=xs:=by
 unfold cutD;have e1:HT.bO (x::xs).length 0 (some 1)=1:=by
  unfold HT.bO;simp only[List.length_cons]
  repeat' split
  all_goals cbv
 have e2:HT.bO (x::xs).length (x::xs).length none=(x::xs).length:=rfl;rw[e1,e2,List.drop_succ_cons,List.drop_zero,List.take_of_length_le (by simp)]
theorem kA{f:Fm}{ts:!Tm}{n:Nat}(h:∀ t∈ts,t.dep<=n):(Tm.node f ts).dep<=n+1:=by
 have:=wJ h;change zE ts+1<=n+1;cbv
theorem zW{W:bW}(w:gr W){k:Kd}(hk:k∈W.kinds):lH (jo k)=true:=by
 change (GE.strOk (a9 k.asked)&&(GE.strOk k.name&&(lH (.tup (k.bJ.map cS))&&(lH (.tup (k.cT.map d6))&&true))))=true;rw[(w.kw k hk).1.ok,xc w hk,Dz w hk];cases k.asked<;>decide+kernel
theorem JN{W:bW}(w:gr W){k:Kd}(hk:k∈W.kinds):k.name≠"number":=λe=>by
 have:=(w.kw k hk).1.2.2.2.1;rw[e] at this;exact this (by decide+kernel)
theorem BW{W:bW}(w:gr W){k:Str}(h:oX W k){kd:Kd}(hk:kd∈W.kinds)(e:kd.name=k):kd.bJ≠[]:=by
 rcases h with h | ⟨kd',h1,h2,h3⟩
 .exact absurd (e.trans h) (JN w hk)
 .have:=qK w hk h1 (e.trans h3.symm);rw[this];exact h2
theorem AY(t:Tm):(not (qB (toD t)))=true:=by
 cases t with
 | node f ks=>cases f<;>rfl
end DL
namespace DL
open PySem PySem.Spec L2
theorem qZ.ar{W:bW}(w:gr W){sc:!(Str×Str)}{k:Str}{f:Fm}{sp:!(!(Str×Str)×Str)}(h:qZ W sc k f sp):f.ar sp.length=true:=by
 cases h with
 | nm _=>rfl
 | num _ _=>rfl
 | op _=>rfl
 | Aa=>rfl
 | lt _ _=>rfl
 | mk _ _=>rfl
 | ask _ _ _=>simp[Fm.ar]
 | @B0 _ kd sub h1 h2 h3 h4 h5 =>
  simp only[Fm.ar,List.length_cons,List.length_map,beq_self_eq_true,Bool.true_and,List.all_eq_true,List.mem_map];rintro _ ⟨p,hp,rfl⟩;have hm:p.1∈kd.bJ:=h4.subset (SU hp);have:=(w.mo kd h1 p.1 hm).2.1;have:=(h5 p hp).1;simp;cbv
 | @new kd sub h1 h2 h3 h4 h5 =>
  simp only[Fm.ar,List.length_map,beq_self_eq_true,Bool.true_and,List.all_eq_true,List.mem_map];rintro _ ⟨p,hp,rfl⟩;have hm:p.1∈kd.cT:=h4.subset (SU hp);have:=(w.ao kd h1 p.1 hm).2.1.1;have:=(h5 p hp).1;simp;cbv
theorem qZ.strs{W:bW}(w:gr W){sc:!(Str×Str)}{k:Str}{f:Fm}{sp:!(!(Str×Str)×Str)}(t8:∀ p∈sc,GE.strOk p.1=true)(hk:GE.strOk k=true)(h:qZ W sc k f sp):f.strs.all GE.strOk=true/\∀ e∈sp,GE.strOk e.2=true/\∀ p∈e.1,GE.strOk p.1=true:=by
 have num:GE.strOk ("number":Str)=true:=by decide+kernel
 cases h with
 | @nm x _ hx=>exact#[by simp[Fm.strs,t8 _ hx],λ_ h=>by cases h]
 | num _ _=>exact#[U,λ_ h=>by cases h]
 | @op o ho =>
  show#[?_,λe he=>?_]
  .simp only[Fm.strs,List.all_cons,List.all_nil,Bool.and_true]
   revert o
   decide+kernel
  .simp at he;subst he;exact#[num,λ_ h=>by cases h]
 | Aa =>
  show#[U,λe he=>?_];simp at he;rcases he with rfl | rfl
  .exact#[num,λ_ h=>by cases h]
  .exact#[hk,λ_ h=>by cases h]
 | @lt x _ k' hb hk' =>
  have hx:=(hb.nm w x (SF.mpr U)).ok;show#[by simp[Fm.strs,hx],λe he=>?_];simp at he;rcases he with rfl | rfl
  .exact#[hk'.ok w,λ_ h=>by cases h]
  .exact#[hk,λp hp=>by rw[SF.mp hp];exact hx]
 | @mk kd m h1 h2 =>
  let(m1,m2,m3,m4):=w.mo kd h1 m h2;show#[by simp[Fm.strs,m1.ok],λe he=>?_];let(p,hp,rfl):=SV.mp he;exact#[(m4 p hp).ok w,λ_ h=>by cases h]
 | @ask kd a h1 h2 h3 =>
  let(m1,(m2,m3,m4),m5):=w.ao kd h1 a h3;show#[by simp[Fm.strs,m1.ok],λe he=>?_];rcases SO.mp he with rfl | he
  .exact#[(w.kw kd h1).1.ok,λ_ h=>by cases h]
  let(p,hp,rfl):=SV.mp he;exact#[(m4 p hp).ok w,λ_ h=>by cases h]
 | @B0 _ kd sub h1 h2 h3 h4 h5 =>
  show#[?_,λe he=>?_]
  .simp only[Fm.strs,List.all_cons,hk,Bool.true_and,List.map_map,List.all_flatten,List.all_map,List.all_eq_true];intro p hp;have hm:p.1∈kd.bJ:=h4.subset (SU hp);simp only[Function.comp,List.all_cons,(w.mo kd h1 p.1 hm).1.ok,Bool.true_and,List.all_eq_true];exact λx hx=>((h5 p hp).2.nm w x hx).ok
  .rcases SO.mp he with rfl | he
   .exact#[(w.kw kd h1).1.ok,λ_ h=>by cases h]
   let(p,hp,rfl):=SV.mp he;show#[hk,λq hq=>?_];exact ((h5 p hp).2.nm w _ (TK hq).1).ok
 | @new kd sub h1 h2 h3 h4 h5 =>
  show#[?_,λe he=>?_]
  .simp only[Fm.strs,List.all_cons,hk,Bool.true_and,List.map_map,List.all_flatten,List.all_map,List.all_eq_true];intro p hp;have hm:p.1∈kd.cT:=h4.subset (SU hp);simp only[Function.comp,List.all_cons,(w.ao kd h1 p.1 hm).1.ok,Bool.true_and,List.all_eq_true];exact λx hx=>((h5 p hp).2.nm w x hx).ok
  .let(p,hp,rfl):=SV.mp he;have hm:p.1∈kd.cT:=h4.subset (SU hp);show#[(w.ao kd h1 p.1 hm).2.2.ok w,λq hq=>?_];exact ((h5 p hp).2.nm w _ (TK hq).1).ok
mutual
theorem Ty.good{W:bW}(w:gr W):∀ (t:Tm) (sc:!(Str×Str)) (k:Str),(∀ p∈sc,GE.strOk p.1=true)->GE.strOk k=true->Ty W sc k t->t.wf=true/\t.FR=true
 | .node f ts,sc,k,t8,hk,h=>by
  let(sp,hf,hr):=(show ∃ sp,qZ W sc k f sp/\eM W sc sp ts from h);let(s1,s2):=hf.strs w t8 hk;let(g1,g2):=eM.good w ts sc sp t8 s2 hr;show#[?_,?_]
  .show (f.ar ts.length&&Iz ts)=true;rw[hr.len,hf.ar w,g1]
   rfl
  .show (f.strs.all GE.strOk&&AD ts)=true;rw[s1,g2]
   rfl
theorem eM.good{W:bW}(w:gr W):∀ (ts:!Tm) (sc:!(Str×Str)) (sp:!(!(Str×Str)×Str)),(∀ p∈sc,GE.strOk p.1=true)->(∀ e∈sp,GE.strOk e.2=true/\∀ p∈e.1,GE.strOk p.1=true)->eM W sc sp ts->Iz ts=true/\AD ts=true
 | [],sc,sp,t8,hs,h=>#[U,U]
 | t::ts,sc,sp,t8,hs,h=>by
  let(e,r,rfl,h1,h2):=(show ∃ e r,sp=e::r/\Ty W (sc++e.1) e.2 t/\eM W sc r ts from h);let(e1,e2):=hs e SD;let(a1,a2):=Ty.good w t (sc++e.1) e.2 (λp hp=>(SN.mp hp).elim (t8 p) (e2 p)) e1 h1;let(b1,b2):=eM.good w ts sc r t8 (λx hx=>hs x (Sy _ hx)) h2;exact#[by change (t.wf&&Iz ts)=true;rw[a1,b1];rfl,by change (t.FR&&AD ts)=true;rw[a2,b2];rfl]
end
structure PK where
 asked:Bool
 kd:Kd
 tabs:!(!(Str×Tm))
def ua(r:Str×Tm):D:=.tup [.str r.1,toD r.2]
def KL(rs:!(Str×Tm)):D:=.tup (rs.map ua)
def jB(x:ia×!(Str×Tm)):D:=.tup [.str x.1.name,dQ x.1.fs,KL x.2]
def j6(x:iu×!(Str×Tm)):D:=.tup [.str x.1.name,dQ x.1.ps,.str x.1.res,KL x.2]
def Au(p:PK):!D:=if p.asked=true then (p.kd.bJ.zip p.tabs).map jB else (p.kd.cT.zip p.tabs).map j6
def Kf(p:PK):D:=if p.asked=true then .tup (p.kd.cT.map d6) else .tup (p.kd.bJ.map cS)
def oR(p:PK):D:=.tup [.str (a9 p.asked),.str p.kd.name,Kf p,.tup (Au p)]
def CD(p:PK):!(Str×!(Str×Tm)):=(if p.asked=true then p.kd.bJ.map ia.name else p.kd.cT.map iu.name).zip p.tabs
def ky(asked:Bool)(b:Str×!(Str×Tm)):!((Str×Str)×Tm):=b.2.map λr=>(if asked=true then (b.1,r.1) else (r.1,b.1),r.2)
def ents(p:PK):!((Str×Str)×Tm):=(CD p).flatMap (ky p.asked)
theorem Bv{ms:!ia}{ts:!(!(Str×Tm))}(h:ts.length=ms.length){α:Type}(f:ia->α):(ms.zip ts).map (λx=>f x.1)=ms.map f:=by
 have:(ms.zip ts).map Prod.fst=ms:=UL (by cbv);rw[show (λx:ia×!(Str×Tm)=>f x.1)=f∘Prod.fst from U,<- S6,this]
end DL
namespace DL
open PySem L2
theorem fc(b:Bool):decide (fv (.str (a9 b))=fv (.str "made"))=(not b):=by cases b<;>decide+kernel
theorem cB(b:Bool):decide (fv (.str (a9 b))=fv (.str "asked"))=b:=by cases b<;>decide+kernel
theorem qA{W:bW}(w:gr W){kd:Kd}(hk:kd∈W.kinds){m:ia}(hm:m∈kd.bJ){a:iu}(ha:a∈kd.cT):jL W (m.fs++a.ps):=by
 let(_,m2,m3,m4):=w.mo kd hk m hm;let(_,(a2,a3,a4),_):=w.ao kd hk a ha;have hh:W.heads.take 3++W.heads.drop 3=W.heads:=T3 _ _;have hn:W.heads.Nodup:=(To.mp w.nd).1;have hs:((m.fs++a.ps).map (·.1)).Sublist W.heads:=by
  rw[Sz,m3,a3];have:=Uw (Tv m.fs.length (W.heads.take 3)) (Tv a.ps.length (W.heads.drop 3))
  rwa [hh] at this
 show#[by rw[Sv];cbv,hn.sublist hs,λp hp=>#[?_,.inl (hs.subset (SU hp))]];rcases SN.mp hp with h | h
 .exact m4 p h
 .exact a4 p h
theorem w9{α β:Type}{F:α->β->Prop}:∀ {l₁:!α} {l₂:!β} {a:α} {b:β},Paired F l₁ l₂->F a b->Paired F (l₁++[a]) (l₂++[b])
 | _,_,a,b,.nil,h=>.cons h .nil
 | _,_,a,b,.cons r t,h=>.cons r (w9 t h)
end DL
namespace DL
open PySem PySem.Spec L2
theorem g6{α β:Type}{nt:Nat}{us:!Nat}{g:nA}{ti:kY}{te:aW}(h:α->D)(f:β->D)(Rl:α->β->Prop){Q:!D->DS->Prop}{s:DS}:∀ (xs:!α) {acc:!D},
  (∀ x∈xs,∀ (k:D->DS->Prop) (N:DS->Prop),(∀ (y:β) (s':DS),Rl x y->s'.os=s.os->k (f y) s')->(∀ s':DS,s'.os=s.os->N s')->g (h x) (gP nt us s) λs1=>ti s1 λb s2=>if b=true then te s2 k else N s2)->(∀ (sub:!α) (ys:!β),sub.Sublist xs->Paired Rl sub ys->Q (acc++ys.map f) s)->bM nt us g ti te (xs.map h) acc s Q
 | [],acc,_,q=>by
  have:=q [] [] (T7 _) .nil;rw[Tt,SY] at this;exact this
 | x::xs,acc,hx,q=>by
  show hx x SD (λy s3=>bM nt us g ti te (xs.map h) (acc++[y]) #[s.sl,s3.os] Q) (λs2=>bM nt us g ti te (xs.map h) acc #[s.sl,s2.os] Q) (λy s' hy e=>?_) λs' e=>?_
  .show bM nt us g ti te (xs.map h) (acc++[f y]) #[s.sl,s'.os] Q;rw[e];show g6 h f Rl xs (λz hz=>hx z (Sy _ hz)) λsub ys hs hp=>?_;rw[S0];exact q (x::sub) (y::ys) (hs.cons_cons _) (.cons hy hp)
  .show bM nt us g ti te (xs.map h) acc #[s.sl,s'.os] Q;rw[e];exact g6 h f Rl xs (λz hz=>hx z (Sy _ hz)) λsub ys hs hp=>q sub ys (hs.cons _) hp
theorem qr{α:Type}(w:Int)(xs:!α):(kc w xs).Perm xs:=by
 unfold kc;split
 .exact List.Perm.refl _
 .exact List.reverse_perm _
theorem sP{α β:Type}(f:α->β)(w:Int)(xs:!α):kc w (xs.map f)=(kc w xs).map f:=by
 unfold kc;split
 .rfl
 .rw[Uo]
theorem yH(b:Bool)(x:Str×!(Str×Tm)):(ky b x).length=x.2.length:=by unfold ky;rw[List.length_map]
theorem kD{b:Bool}{bs:!(Str×!(Str×Tm))}{e:(Str×Str)×Tm}(h:e∈bs.flatMap (ky b)):∃ x∈bs,∃ r∈x.2,e=(if b=true then (x.1,r.1) else (r.1,x.1),r.2):=by
 let(x,hx,he):=UM.mp h;let(r,hr,e):=SV.mp he;exact#[x,hx,r,hr,e.symm]
theorem ql{b:Bool}:∀ {bs:!(Str×!(Str×Tm))},(bs.map (·.1)).Nodup->(∀ x∈bs,(x.2.map (·.1)).Nodup)->((bs.flatMap (ky b)).map (·.1)).Nodup
 | [],_,_=>List.nodup_nil
 | x::bs,h1,h2=>by
  rw[SA,T2] at h1;rw[TU,Sz,To];show#[?_,ql h1.2 λy hy=>h2 y (Sy _ hy),?_]
  .have:=h2 x SD;unfold ky;rw[S6];rw[Us,List.pairwise_map] at this ⊢;show this.imp λ{a c} hac e=>hac ?_;cases b with
   | true=>exact (Prod.mk.inj e).2
   | false=>exact (Prod.mk.inj e).1
  .intro k hk k' hk' e;subst e;let(a,ha,rfl):=SV.mp hk;let(c,hc,ec):=SV.mp hk';let(r,hr,rfl):=SV.mp ha;let(y,hy,r2,hr2,rfl):=kD hc;show h1.1 ?_;have:y.1=x.1:=by
    cases b with
    | true=>exact (Prod.mk.inj ec).1
    | false=>exact (Prod.mk.inj ec).2
   rw[<- this];exact SU hy
theorem wW{b:Bool}:∀ {bs:!(Str×!(Str×Tm))},(∀ x∈bs,x.2.length<=5)->(bs.flatMap (ky b)).length<=5 * bs.length
 | [],_=>S3 _
 | x::bs,h=>by
  have h1:=h x SD;have h2:=wW (b:=b) λy hy=>h y (Sy _ hy);rw[TU,Sv,yH,SG];cbv
theorem rT{W:bW}(w:gr W){kd:Kd}(hk:kd∈W.kinds):(kd.bJ.map ia.name).Nodup:=by
 let(a,c,e):=List.append_of_mem hk;have:=w.mn;rw[e,List.flatMap_append,TU] at this;exact (To.mp (To.mp this).2.1).1
theorem sj{W:bW}(w:gr W){kd:Kd}(hk:kd∈W.kinds):(kd.cT.map iu.name).Nodup:=by
 let(a,c,e):=List.append_of_mem hk;have:=w.an;rw[e,List.flatMap_append,TU] at this;exact (To.mp (To.mp this).2.1).1
theorem jf{W:bW}(w:gr W){kd:Kd}(hk:kd∈W.kinds){m:ia}(hm:m∈kd.bJ){a:iu}(ha:a∈kd.cT){t:Tm}(h:Ty W (m.fs++a.ps) a.res t):t.wf=true/\t.FR=true :=
 Ty.good w t _ _ (λp hp=>((DL.qA w hk hm ha).nm w p hp).ok) ((w.ao kd hk a ha).2.2.ok w) h
end DL
namespace DL
open PySem L2
theorem map_one{α:Type}{f:α->Str}{l:!α}(h:(l.map f).Nodup){a b:α}(ha:a∈l)(hb:b∈l)(e:f a=f b):a=b:=by
 let(i,hi,rfl):=Tz ha;let(j,hj,rfl):=Tz hb;have h2:(l.map f)[i]'(by simpa using hi)=(l.map f)[j]'(by simpa using hj):=by simpa using e
 have:=(Um h).mp h2;subst this
 rfl
theorem tF{α β:Type}{l:!α}{m:!β}{a:α}{b:β}(h:m.length=l.length):(l++[a]).zip (m++[b])=l.zip m++[(a,b)]:=by
 rw[List.zip_append (by cbv)]
 rfl
end DL
namespace Il
open PySem Sem
open PySem.AutoSeq1 (wpAny_loadPart')
section
variable{prog:Fr}{w:Fa}{A:Fk}{E:UP}{s:Da}
end
end Il
namespace L2
open PySem PySem.Spec
open PyProof.Rows hiding St
section
variable{P:Fr}{w:Fa}{K:Frag}
section
variable{M:Model}{A:Fk}{E:UP}{s:Da}{env:Env}
theorem II{f:Cl}{as:!Cl}{ks:!Ps}{pos:Pos}{Q:UP}(h:Db M A (eval f env) (λv s1=>Db M A (callWith pos v [] (IR pos (GM as env)) (Rs pos (SC ks env))) Q E s1) E s)(he:(eval (.Call f as ks pos) env=(do callWith pos (<- eval f env) [] (IR pos (GM as env)) (Rs pos (SC ks env))))⁻¹):Db M A (eval (.Call f as ks pos) env) Q E s:=by
 rw[he];exact Ch h
end
section
variable{X:Cx}
end
end
end L2
namespace DL
open PySem PySem.Spec L2
open PyProof.Rows hiding St
section
variable{X:Cx}{c:Ent}
end
end DL
namespace Il
open PySem Sem
section
variable{prog:Fr}{w:Fa}{A:Fk}{E:UP}{h:EQ}{g:Array GenState}{d:Drawn}{t:Nat}{os:OsState}{a:AC}{o:Obj}
theorem mQ:isSubtype (.type "AttributeError") (.type "AttributeError")=Pure.pure true:=by rw[isSubtype_type];kernel_rfl
theorem vF(vs:!AT):firstArgMember (.type "AttributeError") vs=Pure.pure .none:=by
 unfold firstArgMember;have e:((Manifest.find? "AttributeError").elim false λt=>t.mro.contains "StopIteration"||t.mro.contains "SystemExit")=false:=by decide+kernel
 simp only[pure_bind,e]
 rfl
theorem vL{α:Type}{h2:EQ}{e:AC}{p v:AT}{nm:Str}{sl:Array (Option AT)}{Q:α->Da->Prop}(hh:A.handled=none)(he:h2.get? e=some #[.type "AttributeError",none,.fields #v[p,.none,.none,.none,.bool false,.none,unsetMember,unsetMember],sl])(hq:∀ h3 t',(∀ b u,b≠e->h2.get? b=some u->h3.get? b=some u)->(∃ u,h3.get? e=some u/\u.cls=.type "AttributeError")->E (.ref e) #[h3,g,d,t',os]) :
  Db (model prog w) A (mkText nm >>= λn=>noteAttr (.ref e) v n >>= λ_=>raiseNew (.ref e)) Q E #[h2,g,d,t,os]:=by
 have hT:∀ t',(#[h2,g,d,t',os]:Da).TypeIs (.ref e) "AttributeError":=λ_=>#[_,he,U];have hT1:=hT (t+1);have f6:=mQ;unfold noteAttr raiseNew
 repeat (any_goals (first | assumption | wp_step))
 exact hq _ _ (λb u hb x=>(EQ.get?_update_ne _ _ _ _ hb).trans x) #[_,Tf _ he (Obj.isFreed_of_fields (Obj.data_mapFields U _)),(Obj.cls_mapFields ..).trans U]
theorem wo{α:Type}{v:AT}{nm msg:Str}{Q:α->Da->Prop}(hh:A.handled=none)(hz:msg.length<=Ev)(hq:∀ h' e t',(∀ b u,h.get? b=some u->h'.get? b=some u)->(∃ u,h'.get? e=some u/\u.cls=.type "AttributeError")->E (.ref e) #[h',g,d,t',os]) :
  Db (model prog w) A (raiseAttrError v nm msg) Q E #[h,g,d,t,os]:=by
 unfold raiseAttrError;simp only[newExc,newTuple];show Ch (wpAny_mkStr ?_ hz);show Ch (Ch (PP ?_ (by size_fits)));show Ch (m:=firstArgMember _ _) (wpAny_of_eq (vF _) ?_);show PP ?_ (by size_fits);dsimp only;show vL (sl:=#v[]) hh (SH _ U) λh3 t' k c=>hq h3 _ t' (λb u x=>k b u (SR (SW (SE x) ?_)) (Su _ (Su _ x))) c;rw[Th];exact Ut _
end
end Il
namespace L2
open PySem PySem.Spec
open PyProof.Rows hiding St
section
variable{X:Cx}{Sc:UQ}{σ:St}
theorem pd:entryFor table "dict.update.loop"=some FS.«dict.update.loop»:=entryFor_of_tree (by kernel_rfl)
end
end L2
namespace DL
open PySem PySem.Spec L2
section
variable{X:Cx}{c:Ent}
end
end DL
namespace HT
open PySem PySem.Spec PyProof.Rows
open PySem.AutoSeq1
section
variable{prog:Fr}{w:Fa}{A:Fk}{E:UP}{s:Da}
end
end HT
namespace L2
open PySem PySem.Spec PyProof.Rows
section
variable{X:Cx}
end
end L2
namespace DL
open PySem PySem.Spec L2
section
variable{X:Cx}{c:Ent}
end
end DL
namespace DL
open PySem PySem.Spec L2
open PyProof.Rows hiding St
section
variable{K:Frag}{H:Hp}{M:AC->Prop}{a:AC}
end
section
variable{X:Cx}{c:Ent}{k:Nat}{f:AC}{fd:GT}{ps:!Str}{t:UR}{x:Str}{p pos:Pos}{e ex:Cl}{te:aW}
end
end DL
namespace DL
open PySem L2
end DL
namespace DL
open PySem PySem.Spec L2
open PyProof.Rows hiding St
section
variable{K:Frag}{d l r:AC}{M:AC->Prop}{H:Hp}
end
section
variable{P:Fr}{w:Fa}{K:Frag}{mg:Str->Option AT}{base:EQ}{d l r:AC}
end
section
variable{X:Cx}{c:Ent}{st:FM}{e:Cl}{te:aW}{pos:Pos}
def Jy(te:aW):jc:=λR s=>te s λx s1=>R.rs x s1
theorem Fx(he:DE X c e te):o5 X c (.Return (some e) pos) (Jy te):=#[(iL he.pe).imp λE σ H zz=>cU zz λM s as R L q k =>
 #[M,s,as,_,L,q,λd s1 r M' H' v L' E' rv=>k.rs d s1 as M' σ H' v r L' rv]]
end
section
variable{K:Frag}{c:Ent}{M M':AC->Prop}{s:DS}{as:!AC}{σ:St}{H H':Hp}{d l r:AC}
end
section
variable{X:Cx}{k:Nat}{f d l r:AC}{M0:AC->Prop}{H0:Hp}{fd:GT}{ps:!Str}{x:Str}{p pos:Pos}{e:Cl}{es:!Cl}{ta:eF}
end
end DL
namespace HT
open PySem PySem.Spec PyProof.Rows
open PySem.AutoSeq1
section
variable{prog:Fr}{w:Fa}{A:Fk}{E:UP}{s:Da}
end
end HT
namespace L2
open PySem PySem.Spec PyProof.Rows
section
variable{X:Cx}
end
end L2
namespace DL
open PySem PySem.Spec L2
section
variable{X:Cx}{c:Ent}
theorem lr{nt:Nat}{us:!Nat}{g:nA}{te:aW}{sl:!Sl}{Q:!D->DS->Prop}(I:!D->!D->!(Option D)->Prop)(step:∀ x xs acc os,I (x::xs) acc os->∀ k:D->DS->Prop,(∀ (y:D) (s':DS),I xs (acc++[y]) s'.os->k y s')->g x (gP nt us #[sl,os]) λs1=>te s1 k)(fin:∀ acc os,I [] acc os->Q acc #[sl,os]):∀ (xs acc:!D) (os:!(Option D)),I xs acc os->bM nt us g cN te xs acc #[sl,os] Q
 | [],acc,os,h=>fin acc os h
 | x::xs,acc,os,h=>by
  rw[bM];exact step x xs acc os h (λy s3=>bM nt us g cN te xs (acc++[y]) #[sl,s3.os] Q) λy s' h'=>lr I step fin xs (acc++[y]) s'.os h'
end
end DL
namespace DL
open PySem L2
def FI(x:Str):Prop:=Nm x\/x="number"
def Ku(hs:!(Str×!Str)):Prop:=hs.length<=5/\∀ h∈hs,Nm h.1/\h.2.length<=3/\∀ n∈h.2,Nm n
def IG:Fm->Nat->Prop
 | .nm x,n=>Nm x/\n=0
 | .num i,n=>(0<=i/\i < 1000000)/\n=0
 | .op s,n=>(s="+"\/s="-"\/s="*")/\n=2
 | .Aa,n=>n=3
 | .lt x,n=>Nm x/\n=2
 | .mk c,n=>Nm c/\n<=3
 | .ask f,n=>Nm f/\1<=n/\n<=4
 | .B0 r hs,n=>FI r/\Ku hs/\n=hs.length+1
 | .new k hs,n=>FI k/\Ku hs/\n=hs.length
def Fm.w:Fm->Nat
 | .nm _=>0
 | .num _=>0
 | _=>1
mutual
noncomputable def Tm.gt:Tm->Prop
 | .node f ks=>IG f ks.length/\Pz ks
noncomputable def Pz:!Tm->Prop
 | []=>True
 | t::r=>t.gt/\Pz r
end
mutual
noncomputable def Tm.Ey:Tm->Nat
 | .node f ks=>f.w+vK ks
noncomputable def vK:!Tm->Nat
 | []=>0
 | t::r=>t.Ey+vK r
end
theorem oX.JU{W:bW}(w:gr W){k:Str}(h:oX W k):FI k:=by
 rcases h with rfl | ⟨kd,hkd,_,rfl⟩
 .exact .inr U
 .exact .inl (w.kw kd hkd).1
theorem qZ.fm{W:bW}(w:gr W){sc:!(Str×Str)}{k:Str}{f:Fm}{sp:!(!(Str×Str)×Str)}(t8:∀ p∈sc,Nm p.1)(hk:FI k)(h:qZ W sc k f sp):IG f sp.length/\∀ e∈sp,FI e.2/\∀ p∈e.1,Nm p.1:=by
 have none:∀ p:Str×Str,p∈([]:!(Str×Str))->Nm p.1:=λ_ h=>by cases h
 cases h with
 | @nm x _ hx=>exact#[#[t8 _ hx,U],λ_ h=>by cases h]
 | num h0 h1=>exact#[#[#[h0,h1],U],λ_ h=>by cases h]
 | @op o ho =>
  show#[#[by simpa using ho,U],λe he=>?_];simp at he;subst he;exact#[.inr U,none]
 | Aa =>
  show#[U,λe he=>?_];simp at he;rcases he with rfl | rfl
  .exact#[.inr U,none]
  .exact#[hk,none]
 | @lt x _ k' hb hk' =>
  have hx:=hb.nm w x (SF.mpr U);show#[#[hx,U],λe he=>?_];simp at he;rcases he with rfl | rfl
  .exact#[hk'.JU w,none]
  .exact#[hk,λp hp=>by rw[SF.mp hp];exact hx]
 | @mk kd m h1 h2 =>
  let(m1,m2,m3,m4):=w.mo kd h1 m h2;show#[#[m1,by rw[Ss];exact m2],λe he=>?_];let(p,hp,rfl):=SV.mp he;exact#[(m4 p hp).JU w,none]
 | @ask kd a h1 h2 h3 =>
  let(m1,(m2,m3,m4),m5):=w.ao kd h1 a h3;show#[#[m1,by simp,by rw[List.length_cons,List.length_map];cbv],λe he=>?_];rcases SO.mp he with rfl | he
  .exact#[.inl (w.kw kd h1).1,none]
  let(p,hp,rfl):=SV.mp he;exact#[(m4 p hp).JU w,none]
 | @B0 _ kd sub h1 h2 h3 h4 h5 =>
  have hl:=h4.length_le;have hl5:=(w.kw kd h1).2.1;rw[Ss] at hl;show#[#[hk,#[by rw[List.length_map];cbv,λh hh=>?_],by simp],λe he=>?_]
  .let(p,hp,rfl):=SV.mp hh;have hm:p.1∈kd.bJ:=h4.subset (SU hp);let(m1,m2,_):=w.mo kd h1 p.1 hm;show#[m1,?_,λx hx=>(h5 p hp).2.nm w x hx];change p.2.length<=3;rw[(h5 p hp).1];exact m2
  .rcases SO.mp he with rfl | he
   .exact#[.inl (w.kw kd h1).1,none]
   let(p,hp,rfl):=SV.mp he;exact#[hk,λq hq=>(h5 p hp).2.nm w _ (TK hq).1]
 | @new kd sub h1 h2 h3 h4 h5 =>
  have hl:=h4.length_le;have hl5:=(w.kw kd h1).2.2;rw[Ss] at hl;show#[#[hk,#[by rw[List.length_map];cbv,λh hh=>?_],by simp],λe he=>?_]
  .let(p,hp,rfl):=SV.mp hh;have hm:p.1∈kd.cT:=h4.subset (SU hp);let(m1,(m2,_),_):=w.ao kd h1 p.1 hm;show#[m1,?_,λx hx=>(h5 p hp).2.nm w x hx];change p.2.length<=3;rw[(h5 p hp).1];exact m2
  .let(p,hp,rfl):=SV.mp he;have hm:p.1∈kd.cT:=h4.subset (SU hp);exact#[(w.ao kd h1 p.1 hm).2.2.JU w,λq hq=>(h5 p hp).2.nm w _ (TK hq).1]
mutual
theorem Ty.JG{W:bW}(w:gr W):∀ (t:Tm) (sc:!(Str×Str)) (k:Str),(∀ p∈sc,Nm p.1)->FI k->Ty W sc k t->t.gt
 | .node f ts,sc,k,t8,hk,h=>by
  let(sp,hf,hr):=(show ∃ sp,qZ W sc k f sp/\eM W sc sp ts from h);let(s1,s2):=hf.fm w t8 hk;show#[?_,eM.JG w ts sc sp t8 s2 hr];rw[hr.len];exact s1
theorem eM.JG{W:bW}(w:gr W):∀ (ts:!Tm) (sc:!(Str×Str)) (sp:!(!(Str×Str)×Str)),(∀ p∈sc,Nm p.1)->(∀ e∈sp,FI e.2/\∀ p∈e.1,Nm p.1)->eM W sc sp ts->Pz ts
 | [],sc,sp,t8,hs,h=>trivial
 | t::ts,sc,sp,t8,hs,h=>by
  let(e,r,rfl,h1,h2):=(show ∃ e r,sp=e::r/\Ty W (sc++e.1) e.2 t/\eM W sc r ts from h);let(e1,e2):=hs e SD;exact#[Ty.JG w t (sc++e.1) e.2 (λp hp=>(SN.mp hp).elim (t8 p) (e2 p)) e1 h1,eM.JG w ts sc r t8 (λx hx=>hs x (Sy _ hx)) h2]
end
theorem jL.Rh{W:bW}(w:gr W){sc:!(Str×Str)}(h:jL W sc):∀ p∈sc,Nm p.1:=λp hp=>by
 rcases (h.ok p hp).2 with z | ⟨j,_,z⟩
 .exact w.nm _ (Tp _ z)
 .exact w.nm _ (S5 _ (Ta z))
end DL
namespace DL
open PySem PySem.Spec L2
def Ri:!Key:=[.inr "kinds",.inr "vars",.inr "heads",.inr "inner"]
def jM(W:bW):D:=.sQ Ri [.lst (W.kinds.map jo),.lst (W.vars.map .str),.lst (W.heads.map .str),.bl W.inner]
theorem dH{W:bW}{k:Option D->Prop}(h:k (some (.lst (W.kinds.map jo)))):vg (jM W)=true/\vp (jM W) (.str "kinds") k:=#[U,.inl #[_,_,_,U,U,h]]
theorem pQ{W:bW}{k:Option D->Prop}(h:k (some (.lst (W.vars.map .str)))):vg (jM W)=true/\vp (jM W) (.str "vars") k:=#[U,.inl #[_,_,_,U,U,h]]
theorem vo{W:bW}{k:Option D->Prop}(h:k (some (.lst (W.heads.map .str)))):vg (jM W)=true/\vp (jM W) (.str "heads") k:=#[U,.inl #[_,_,_,U,U,h]]
theorem om{W:bW}{k:Option D->Prop}(h:k (some (.bl W.inner))):vg (jM W)=true/\vp (jM W) (.str "inner") k:=#[U,.inl #[_,_,_,U,U,h]]
structure wG(ws:!Str)(ks:!Kd):Prop where
 ex:∃ (ns ML AL:!Str) (sJ:!Kd),ns=ws.take ns.length/\1<=ns.length/\ns.length<=3/\ML.Perm ws/\AL.Perm ws/\sJ.length=ns.length/\CA ws ns ML AL sJ /\
  (ks=sJ\/∃ kd:Kd,ks=sJ++[kd]/\kd.bJ=[]/\ws[3]?=some kd.name/\kd.cT.length<=2/\zV ws [] (AL.drop (cY sJ).length) kd.cT)
theorem wG.bp{ws:!Str}{ks:!Kd}(inner:Bool)(h:wG ws ks)(hl:ws.length=45)(hn:ws.Nodup)(hm:∀ x∈ws,Nm x):gr (dg ws ks inner):=by
 let(ns,ML,AL,sJ,e1,n1,n3,pM,pA,rl,I,hk):=h.ex;have hML:ML.Nodup:=pM.nodup_iff.mpr hn;have hAL:AL.Nodup:=pA.nodup_iff.mpr hn;have rk:sJ.map Kd.name=ns:=by rw[I.kn,rl,List.take_length]
 have hh:(ws.drop 24).take 6++ws.drop 30=ws.drop 24:=by
  have:=T3 6 (ws.drop 24)
  rwa [TZ] at this
 have h3:((ws.drop 24).take 6).take 3=(ws.drop 24).take 3:=by rw[List.take_take];rfl
 have h4:((ws.drop 24).take 6).drop 3=(ws.drop 27).take 3:=by rw[List.drop_take,TZ]
 have mem:∀ k∈ks,k∈sJ\/(k.bJ=[]/\ws[3]?=some k.name/\k.cT.length<=2/\zV ws [] (AL.drop (cY sJ).length) k.cT):=λk hkk=>by
  rcases hk with rfl | ⟨kd,rfl,a,b,c,d⟩
  .exact .inl hkk
  .rcases SN.mp hkk with z | z
   .exact .inl z
   .rw[SF.mp z];exact .inr #[a,b,c,d]
 have sub:∀ k∈sJ,k∈ks:=λk hkk=>by
  rcases hk with rfl | ⟨kd,rfl,_⟩
  .exact hkk
  .exact Tp _ hkk
 have inML:∀ x∈ML,Nm x:=λx hx=>hm x (pM.mem_iff.mp hx);have inAL:∀ x∈AL,Nm x:=λx hx=>hm x (pA.mem_iff.mp hx);have mnm:∀ k∈sJ,∀ m∈k.bJ,Nm m.name:=λk hkk m hmm=>by
  have:m.name∈dG sJ:=UM.mpr #[k,hkk,SU hmm];rw[I.mn] at this;exact inML _ (Tq this)
 have anm:∀ k∈sJ,∀ a∈k.cT,Nm a.name:=λk hkk a haa=>by
  have:a.name∈cY sJ:=UM.mpr #[k,hkk,SU haa];rw[I.an] at this;exact inAL _ (Tq this)
 have kok:∀ x∈ns++gD,oX (dg ws ks inner) x:=λx hx=>by
  rcases SN.mp hx with hx | hx
  .rw[<- rk] at hx;let(k,hkk,e):=SV.mp hx;exact .inr #[k,sub k hkk,(I.rg k hkk).m0,e]
  .exact .inl (SF.mp hx)
 have kok0:∀ x∈([]:!Str)++gD,oX (dg ws ks inner) x:=λx hx=>.inl (SF.mp hx);show#[?_,?_,λk hkk=>?_,?_,?_,λk hkk m hmm=>?_,λk hkk a haa=>?_,λk hkk m r e=>?_,?_,?_,?_,λx hx=>?_]
 .rcases hk with rfl | ⟨kd,rfl,_⟩
  .show ks.length<=5;cbv
  .show (sJ++[kd]).length<=5;rw[Sv];simp;cbv
 .rcases hk with rfl | ⟨kd,rfl,_,b,_⟩
  .show (ks.map Kd.name).Nodup;rw[rk,e1];exact hn.sublist (Tv _ _)
  .show ((sJ++[kd]).map Kd.name).Nodup;rw[Sz,rk,e1];exact nN hn (by cbv) b
 .rcases mem k hkk with z | ⟨a,b,c,d⟩
  .refine#[?_,(I.rg k z).ml,(I.rg k z).al];have:k.name∈ns:=rk▸SU z;rw[e1] at this;exact hm _ (Tq this)
  .exact#[hm _ (Ta b),by rw[a];decide,by cbv]
 .have:dG ks=dG sJ:=by
   rcases hk with rfl | ⟨kd,rfl,a,_⟩
   .rfl
   .rw[fX,a,Tt,SY]
  change (dG ks).Nodup;rw[this,I.mn];exact hML.sublist (Tv _ _)
 .show (cY ks).Nodup;rcases hk with rfl | ⟨kd,rfl,_,_,_,d⟩
  .rw[I.an];exact hAL.sublist (Tv _ _)
  .rw[fP];have:=take_snoc (A:=cY sJ) (B:=kd.cT.map iu.name) I.an (by rw[Ss];exact d.nm);rw[this];exact hAL.sublist (Tv _ _)
 .rcases mem k hkk with z | ⟨a,_⟩
  .refine#[mnm k z m hmm,?_];let(q1,q2,q3):=(I.rg k z).mp m hmm;exact#[q1,by rw[show (dg ws ks inner).heads.take 3=(ws.drop 24).take 3 from h3];exact q2,λp hp=>kok _ (q3 p hp)]
  .rw[a] at hmm;cases hmm
 .rcases mem k hkk with z | ⟨_,_,_,d⟩
  .refine#[anm k z a haa,?_];let((q1,q2,q3),q4):=(I.rg k z).ap a haa;exact#[#[q1,by rw[show (dg ws ks inner).heads.drop 3=(ws.drop 27).take 3 from h4];exact q2,λp hp=>kok _ (q3 p hp)],kok _ q4]
  .let((q1,q2,q3),q4):=d.ap a haa;show#[?_,#[q1,by rw[show (dg ws ks inner).heads.drop 3=(ws.drop 27).take 3 from h4];exact q2,λp hp=>kok0 _ (q3 p hp)],kok0 _ q4];have:a.name∈k.cT.map iu.name:=SU haa;rw[d.nm] at this;exact inAL _ (Up (Tq this))
 .rcases mem k hkk with z | ⟨a,_⟩
  .exact (I.rg k z).mf m r e
  .rw[a] at e;cases e
 .show ((ws.drop 24).take 6).length=6;simp[hl]
 .show (ws.drop 30).length=15;simp[hl]
 .show ((ws.drop 24).take 6++ws.drop 30).Nodup;rw[hh];exact hn.sublist (List.drop_sublist _ _)
 .have hx:x∈(ws.drop 24).take 6++ws.drop 30:=hx;rw[hh] at hx;exact hm x (Up hx)
def Rf:!Nat:=[4,4,25,26,51,52,76,77,103,104,105,127,154,177,178,179,207]
def RI:!Nat:=[1,1,7,8,15,16,22,23,31,32,33,37,46,51,52,53,63]
def sz(r:Nat):Nat:=Rf.getD r 207
def si(r:Nat):Nat:=RI.getD r 63
theorem mJ{a b:Nat}(h:a<=b)(hb:b<=16):sz a<=sz b/\si a<=si b:=by
 have:∀ b,b < 17->∀ a,a < 17->a<=b->sz a<=sz b/\si a<=si b:=by decide
 exact this b (by cbv) a (by cbv) h
def MW(n q r:Nat):Prop:=n * sz q+1<=sz r/\n * si q+1<=si r
theorem u5{r n:Nat}(h:r<=16)(h2:2<=r)(hn:n<=4):MW n ((r - 1) / max 1 n) r:=by
 have:∀ r,r < 17->2<=r->∀ n,n < 5->n * sz ((r - 1) / max 1 n)+1<=sz r/\n * si ((r - 1) / max 1 n)+1<=si r:=by decide
 exact this r (by cbv) h2 n (by cbv)
theorem Gy{r:Nat}(h:r<=16)(h2:2<=r):MW 3 (r / 3) r:=by
 have:∀ r,r < 17->2<=r->3 * sz (r / 3)+1<=sz r/\3 * si (r / 3)+1<=si r:=by decide
 exact this r (by cbv) h2
theorem Gb{r:Nat}(h:r<=16)(h2:2<=r):MW 2 (r / 2) r:=by
 have:∀ r,r < 17->2<=r->2 * sz (r / 2)+1<=sz r/\2 * si (r / 2)+1<=si r:=by decide
 exact this r (by cbv) h2
theorem z6{r m:Nat}(h:r<=16)(h2:2<=r)(hm:m<=5):sz (r / 3)+m * sz ((r - 1) / (1+m))+1<=sz r/\si (r / 3)+m * si ((r - 1) / (1+m))+1<=si r:=by
 have:∀ r,r < 17->2<=r->∀ m,m < 6->sz (r / 3)+m * sz ((r - 1) / (1+m))+1<=sz r/\si (r / 3)+m * si ((r - 1) / (1+m))+1<=si r:=by decide
 exact this r (by cbv) h2 m (by cbv)
theorem kf{m:Nat}:∀ {ts:!Tm},(∀ t∈ts,t.size<=m)->oE ts<=ts.length * m
 | [],_=>S3 _
 | t::ts,h=>by
  have h1:=h t SD;have h2:=kf λu hu=>h u (Sy _ hu);change t.size+oE ts<=(ts.length+1) * m;rw[Nat.add_mul];cbv
theorem mF{m:Nat}:∀ {ts:!Tm},(∀ t∈ts,t.Ey<=m)->vK ts<=ts.length * m
 | [],_=>S3 _
 | t::ts,h=>by
  have h1:=h t SD;have h2:=mF λu hu=>h u (Sy _ hu);change t.Ey+vK ts<=(ts.length+1) * m;rw[Nat.succ_mul];cbv
theorem GO(f:Fm):f.w<=1:=by cases f<;>exact Nat.le_of_ble_eq_true U
def Tm.rq(n r:Nat)(t:Tm):Prop:=t.dep<=n/\t.size<=sz r/\t.Ey<=si r
theorem ji{f:Fm}{ts:!Tm}{n r q:Nat}(h:∀ t∈ts,t.rq n q)(hb:MW ts.length q r):(Tm.node f ts).rq (n+1) r:=by
 show#[kA λt ht=>(h t ht).1,?_,?_]
 .show oE ts+1<=_;exact SI (Nat.add_le_add_right (kf λt ht=>(h t ht).2.1) 1) hb.1
 .show f.w+vK ts<=_;have:=GO f;have:=mF λt ht=>(h t ht).2.2;have:=hb.2;cbv
theorem GJ{f:Fm}{t0:Tm}{ts:!Tm}{n r m:Nat}(h0:t0.rq n (r / 3))(h:∀ t∈ts,t.rq n ((r - 1) / (1+m)))(hl:ts.length<=m)(hm:m<=5)(h2:2<=r)(hr:r<=16):(Tm.node f (t0::ts)).rq (n+1) r:=by
 let(e4,e5):=z6 hr h2 hm;show#[kA λt ht=>?_,?_,?_]
 .rcases SO.mp ht with rfl | ht
  .exact h0.1
  .exact (h t ht).1
 .show (t0.size+oE ts)+1<=_;have e1:=h0.2.1;have e2:=kf λt ht=>(h t ht).2.1;have e3:ts.length * sz ((r - 1) / (1+m))<=m * sz ((r - 1) / (1+m)):=Uq _ hl;cbv
 .show f.w+(t0.Ey+vK ts)<=_;have e0:=GO f;have e1:=h0.2.2;have e2:=mF λt ht=>(h t ht).2.2;have e3:ts.length * si ((r - 1) / (1+m))<=m * si ((r - 1) / (1+m)):=Uq _ hl;cbv
theorem HE{f:Fm}{ts:!Tm}{n r m:Nat}(h:∀ t∈ts,t.rq n ((r - 1) / (1+m)))(hl:ts.length<=m)(hm:m<=5)(h2:2<=r)(hr:r<=16):(Tm.node f ts).rq (n+1) r:=by
 show ji h ?_;let(e4,e5):=z6 hr h2 hm;have e3:ts.length * sz ((r - 1) / (1+m))<=m * sz ((r - 1) / (1+m)):=Uq _ hl;have e6:ts.length * si ((r - 1) / (1+m))<=m * si ((r - 1) / (1+m)):=Uq _ hl;exact#[by cbv,by cbv]
def Tm.lf(n:Nat)(k:Str)(t:Tm):Prop:=t.dep<=n/\t.size<=4/\(k="number"->t.size<=1)/\t.Ey<=1/\(k="number"->t.Ey<=0)
theorem xf{f:Fm}{n:Nat}{k:Str}(hf:(f.w=0)⁻¹):(Tm.node f []).lf (n+1) k:=#[kA λ_ h=>(nomatch h),by change 0+1<=4;cbv,λ_=>by change 0+1<=1;cbv,by change f.w+0<=1;cbv,λ_=>by change f.w+0<=0;cbv]
theorem CJ{f:Fm}{ts:!Tm}{n:Nat}{k:Str}(hk:k≠"number")(hl:ts.length<=3)(h:∀ t∈ts,t.lf n "number"):(Tm.node f ts).lf (n+1) k:=by
 show#[kA λt ht=>(h t ht).1,?_,λe=>absurd e hk,?_,λe=>absurd e hk]
 .show oE ts+1<=4;have h2:=kf λt ht=>(h t ht).2.2.1 U;cbv
 .show f.w+vK ts<=1;have h2:=mF λt ht=>(h t ht).2.2.2.2 U;have:=GO f;cbv
theorem Tm.lf.rq{n m r:Nat}{k:Str}{t:Tm}(h:t.lf n k)(hm:n<=m)(hr:r<=16):t.rq m r:=#[SI h.1 hm,SI h.2.1 (mJ (S3 r) hr).1,SI h.2.2.2.1 (mJ (S3 r) hr).2]
end DL
namespace DL
open PySem L2 PyProof.Rows
abbrev D3:=Str×FM×!Str
def Own(K:Frag)(mg:Str->Option AT)(d:D3):Prop:=∃ f fd,rH K d.1 d.1 d.2.1 f fd/\mg d.1=some (.ref f)/\Binds K fd d.2.2 []
def C4(P:Fr)(w:Fa)(K:Frag)(mg:Str->Option AT)(base:EQ)(CX:u4)(d:D3)(k:Nat)(sp:Sp):Prop:=∃ f fd,bN P w K mg base CX k f fd d.2.2 sp/\rH K d.1 d.1 d.2.1 f fd/\mg d.1=some (.ref f)/\Binds K fd d.2.2 []
section
variable{P:Fr}{w:Fa}{K:Frag}{mg:Str->Option AT}{base:EQ}{CX:u4}{d:D3}{k:Nat}{sp LH:Sp}
theorem Own.c(o:Own K mg d)(h:∀ f fd,rH K d.1 d.1 d.2.1 f fd->bN P w K mg base CX k f fd d.2.2 sp):C4 P w K mg base CX d k sp :=
 let #[f,fd,F,m,b]:=o
 #[f,fd,h f fd F,F,m,b]
theorem C4.imp(c:C4 P w K mg base CX d k sp)(h:∀ f fd,bN P w K mg base CX k f fd d.2.2 sp->bN P w K mg base CX k f fd d.2.2 LH):C4 P w K mg base CX d k LH :=
 let #[f,fd,G,r]:=c
 #[f,fd,h f fd G,r]
theorem GF{h:EQ}{f:AC}{oc:AT}{od an:Option AC}{Ce:Array (Option AT)}{kV doc pm br ct:AT}(X:K.In h)(G:h.Ns Gc mg)(a:nsIn K Gc d.1=some (some (.ref f)))(l:K.lookup f=some #[oc,od,.func (fnOf d.1 d.1 (dE d.2.1) (aT d.2.1) (ai d.2.1) .none kV doc pm an br ct),Ce])(c:codeIn K br d.1=true)(k:keepIn K (.ref f)=true)(b:∀ (kV doc pm:AT) (an:Option AC) (br ct:AT) (us:!AT),us.length=d.2.2.length->bindArgs (fnOf d.1 d.1 (dE d.2.1) (aT d.2.1) (ai d.2.1) .none kV doc pm an br ct) #[us,[]]=pure (d.2.2.zip us)):Own K mg d :=
 #[f,_,jP l c k,PySem.W.mg_of X G a,(jP (st:=d.2.1) l c k).binds b]
end
section
variable{X:Cx}{c:Ent}{d:D3}{k m:Nat}{t:UR}{x:Str}{p pos:Pos}{e:Cl}{es:!Cl}{ta:eF}
theorem ak(hr:cx m X.A)(G:C4 X.prog X.w X.K X.mg X.base aP d k (bf X.K c.g t))(ha:DA X c (e::es) ta)(hx:(d.1=x)⁻¹)(hk:k<=m:=by ac_rfl)(hg:(Gl X x)⁻¹)(kJ: ~~~(UU x))(he:(US X.env e es)⁻¹)(ie:(UT X.env pos es)⁻¹) :
  DE X c (.Call (.Name x p) (e::es) [] pos) (lp t ta):=by
 subst hx;let(f,fd,G,F,M,b):=G;exact HL (hr.mono hk) hg M F.kp b ha G kJ he ie
theorem aF(hr:cx m X.A)(G:C4 X.prog X.w X.K X.mg X.base aP d k (bf X.K .no t))(ha:DA X c (e::es) ta)(hx:(d.1=x)⁻¹)(hk:k<=m:=by ac_rfl)(hg:(Gl X x)⁻¹)(kJ: ~~~(UU x))(he:(US X.env e es)⁻¹)(ie:(UT X.env pos es)⁻¹) :
  DE X c (.Call (.Name x p) (e::es) [] pos) (lp t ta):=by
 subst hx;let(f,fd,G,F,M,b):=G;exact DQ (hr.mono hk) hg M F.kp b ha G kJ he ie
end
theorem eG{N P:!Str}{sc:Scope}(h1:(sc.kind=.function)⁻¹)(h2:(sc.isCoroutine=false)⁻¹)(h3:(sc.isGenerator=false)⁻¹)(h4:N.Nodup:=by decide+kernel)(h5:(N.take P.length=P)⁻¹)(h6:∀ x∈P,sc.names.lookup x=some .local\/sc.names.lookup x=some .cell:=by decide+kernel)(h7:∀ y∈sc.names,y.2≠.free:=by decide+kernel):au N P sc:=#[h1,h2,h3,h4,h5,h6,h7]
theorem cq{g:nA}{tb:jc}{R:ju}(I:!D->DS->Prop)(h0:∀ s,I [] s->R.nx s)(h1:∀ x xs s (E:ju),I (x::xs) s->(∀ s',I xs s'->E.nx s')->(∀ d,R.rt d->E.rt d)->g x s λs1=>tb E s1):∀ xs s,I xs s->ll g tb R xs s
 | [],s,h=>h0 s h
 | x::xs,s,h=>h1 x xs s { R with nx:=λs'=>ll g tb R xs s',ct:=λs'=>ll g tb R xs s',bk:=R.nx } h (λs' h'=>cq I h0 h1 xs s' h') λ_ h=>h
section
variable{X:Cx}{c:Ent}{x:Str}{pos p:Pos}
theorem vd(i:Nat)(hN:(X.N[i]?=some x)⁻¹)(hv:HP X.env.scope x:=by first | exact Or.inl U | exact Or.inr (Or.inl U) | exact Or.inr (Or.inr U))(hd: ~~~(UU x))(rR: ~~~((x == ("__classdict__":Str))=false)):DE X c (.Name x pos) (HV i):=dv (v8 hN hv hd rR)
theorem gN{n:Nat}(i:Nat)(hN:X.N.Nodup)(hi:(X.N[i]?=some x)⁻¹)(hx:Loc X.env.scope x:=by exact Or.inl U)(hf:UW X x:=by ac_nf)(hl: ~~~(i < n)):DG X c n (.Name x pos) (rN i):=iT (dD hN hi hx hf) hl
theorem gM{n:Nat}(i:Nat)(L:!Str)(hN:L.Nodup:=by decide+kernel)(hL:(X.N=L)⁻¹)(hi:(L[i]?=some x)⁻¹)(hx:Loc X.env.scope x:=by exact Or.inl U)(hf:UW X x:=by ac_nf)(hl: ~~~(i < n)):DG X c n (.Name x pos) (rN i):=iT (dD (hL▸hN) (hL▸hi) hx hf) hl
theorem sS{e:Cl}{te:aW}(i:Nat)(hN:X.N.Nodup)(he:DE X c e te)(hi:(X.N[i]?=some x)⁻¹)(hx:Loc X.env.scope x:=by exact Or.inl U)(hs:(swapsWith e (some (.Name x p)) pos.line X.env=pure false)⁻¹)(hf:UW X x:=by ac_nf):o5 X c (.Assign [.Name x p] e pos) (BP i te):=lO (fE hN hi hx he.pe hs hf)
theorem sN{e:Cl}{te:aW}(k i:Nat)(hN:X.N.Nodup)(he:DN X c e te)(hi:(X.N[i]?=some x)⁻¹)(hx:Loc X.env.scope x:=by exact Or.inl U)(hs:(swapsWith e (some (.Name x p)) pos.line X.env=pure false)⁻¹)(hf:UW X x:=by ac_nf)(gq:c.g.oV.length<=k:=by first | exact S3 _ | exact Sx _ | exact Nat.succ_le_succ (S3 _)):o5 X c (.Assign [.Name x p] e pos) (EY i k te):=zF (fE hN hi hx he.pe hs hf) gq
variable{a b:Cl}{ta tb:aW}
theorem d5(ha:DE X c a ta)(hb:DE X c b tb)(hs:mz b:=by exact λ_ _=>rfl):DE X c (.Subscript a b pos) (BE Ml ta tb):=AB GN Iw ha hb hs
theorem je(ha:DE X c a ta)(hb:DE X c b tb)(hs:mz b:=by exact λ_ _=>rfl):DE X c (.Subscript a b pos) (BE Fe ta tb):=AB wD Lq ha hb hs
theorem sF{tg iter:Cl}{body:!FM}{ti:eF}{g:nA}{tb:jc}(hi:DI X c tg iter ti)(hg:DG X c 1000 tg g)(hb:sL X c body tb)(hc:(X.calm=true)⁻¹)(hp:PassesOwn (model X.prog X.w) X.A X.env X.xe:=by exact PassesOwn.never)(hs:UX iter X.env:=by intro _;rfl):o5 X c (.For tg iter body [] pos) (EL ti g tb):=Jm hp hc hi hg hb hs
theorem oS{e:Cl}{es:!Cl}{t:eF}{apos cE:Pos}(i:Nat)(ha:DA X c (e::es) t)(hN:(X.N[i]?=some x)⁻¹)(hv:HP X.env.scope x:=by first | exact Or.inl U | exact Or.inr (Or.inl U) | exact Or.inr (Or.inr U))(hd: ~~~(UU x))(rR: ~~~((x == ("__classdict__":Str))=false))(fB:(attributeBase (.Name x p) "append" X.env (eval (.Name x p) X.env)=eval (.Name x p) X.env)⁻¹)(qG:(((IR cE (GM (e::es) X.env)).all (λx=>(not x.1))&&(Rs cE (SC [] X.env)).all (λx=>x.1.isSome)
   && decide ((e::es).length+([]:!Ps).length+(if ([]:!Ps).isEmpty then 0 else 1) < 30))=true)⁻¹)(c5:((apos.endLine == cE.line)=true)⁻¹)(hs:(US X.env e es)⁻¹)(ic:((IR cE (GM es X.env)).any (·.1)=false)⁻¹)(KY:(swapsWith (.Call (.Attribute (.Name x p) "append" apos) (e::es) [] cE) none pos.line X.env=pure false)⁻¹) :
  o5 X c (.Expr (.Call (.Attribute (.Name x p) "append" apos) (e::es) [] cE) pos) (Av (JV i L7 t)):=dS (wj UB UC i5 zP (v8 hN hv hd rR) ha fB qG c5 hs ic) KY
end
section
variable{X:Cx}{c:Ent}{pos p:Pos}{e:Cl}{es:!Cl}{t:eF}
theorem d7(hm:X.mg "len"=none)(ha:DA X c (e::es) t)(hg:(Gl X "len")⁻¹)(he:(US X.env e es)⁻¹)(ie:(UT X.env pos es)⁻¹):DE X c (.Call (.Name "len" p) (e::es) [] pos) (kO Hz t):=bC eU Lf hg hm Ul ha () () he ie
theorem iq(hm:X.mg "tuple"=none)(ha:DA X c (e::es) t)(hg:(Gl X "tuple")⁻¹)(he:(US X.env e es)⁻¹)(ie:(UT X.env pos es)⁻¹):DE X c (.Call (.Name "tuple" p) (e::es) [] pos) (kO GP t):=cW pb Kb hg hm (by decide+kernel) ha () () he ie
variable{tg elt iter:Cl}{ifs:!Cl}{scope:Scope}{tx:eF}{g:nA}{ti:kY}{te:aW}
theorem nC(ts:!Str)(us:!Nat)(hi:DI X c tg iter tx)(hg:∀ C s H fp,DG (X.comp ts us scope C s H fp) c ts.length tg g)(zC:∀ C s H fp,IU (X.comp ts us scope C s H fp) c ifs ti)(he:∀ C s H fp,DE (X.comp ts us scope C s H fp) c elt te)(S:bu X ts us scope:=by exact#[U,U,U,U,U,U])(hc:(X.calm=true)⁻¹)(hs:UX iter X.env:=by intro _;rfl):DN X c (.ListComp elt [#[tg,iter,ifs,0]] scope pos) (oO ts.length us tx g ti te):=Fj S hc hi hg zC he hs
end
section
variable{P:Fr}{w:Fa}{K:Frag}{mg:Str->Option AT}{base:EQ}{q:D3}{k nos:Nat}{g:yI}{t:UR}{N:!Str}
theorem Own.d(o:Own K mg q)(S:au N q.2.2 (ai q.2.1))(len:∀ ds R,t ds R->ds.length=q.2.2.length)(hb:∀ (f:AC) (br:AT) (A:Fk) (outer:!Env) (s:Da) (H:Hp) (E:XK) (M:AC->Prop),cx k (A.deeper (envOfC q.1 (ai q.2.1) ↑s f br)) ->
   ∃ tb,sL (kB aP P w K mg base N q.1 (ai q.2.1) f br A outer s H E).y8 #[g,M,H] (aT q.2.1) tb/\∀ ds R,t ds R->tb { nx:=λ_=>R .bH,rt:=R } (eJ N.length nos ds))(hg:(g.oV=[])⁻¹):C4 P w K mg base aP q (k+1) (bf K g t):=o.c λf fd F=>Mq F S len (hb f) hg
end
end DL
namespace DL
open PySem PySem.Spec L2
open PyProof.Rows hiding St
section
variable{X:Cx}{k m:Nat}{d l r:AC}{M0:AC->Prop}{H0:Hp}{q:D3}{x:Str}{p pos:Pos}
end
end DL
namespace DL
open PySem L2
theorem vZ{α:Type}{g:nA}{tb:jc}{R:ju}(f:α->D)(I:!α->DS->Prop){l:!α}(h0:∀ s,I l s->R.nx s)(h1:∀ dn x td s (E:ju),l=dn++x::td->I dn s->(∀ s',I (dn++[x]) s'->E.nx s')->(∀ d,R.rt d->E.rt d)->g (f x) s λs1=>tb E s1)(s:DS)(h:I [] s):ll g tb R (l.map f) s:=by
 show cq (λxs s=>∃ dn td,l=dn++td/\xs=td.map f/\I dn s) ?_ ?_ _ s #[[],l,U,U,h]
 .rintro s ⟨dn,td,e,hx,hi⟩;cases td with
  | nil=>rw[SY] at e;subst e;exact h0 s hi
  | cons a b=>cases hx
 .rintro x xs s E ⟨dn,td,e,hx,hi⟩ hN hE;cases td with
  | nil=>cases hx
  | cons a td =>
   injection hx with e1 e2;subst e1 e2;exact h1 dn a td s E e hi (λs' hs=>hN s' #[dn++[a],td,by rw[e];simp,U,hs]) hE
section
variable{X:Cx}{c:Ent}{a b:Cl}{ta tb:aW}{pos:Pos}
end
section
open PyProof.Rows
variable{P:Fr}{w:Fa}{K:Frag}{mg:Str->Option AT}{base:EQ}{q:D3}{k nos:Nat}{g:yI}{t:UR}{N:!Str}
end
theorem jd{α:Type}{x y:α}{r:!α}:iw (x::y::r) 1=some y:=eY (j:=1) U
theorem qz{α:Type}{x y z:α}{r:!α}:iw (x::y::z::r) 2=some z:=eY (j:=2) U
abbrev cd(x:Str):!Nat:=x.cps.toList
abbrev bA(l:!Nat):Str:=#[l.toArray]
theorem eZ{x y:Str}(h:cd x=cd y):x=y:=by
 obtain⟨a⟩:=x;obtain⟨b⟩:=y;have:a=b:=Array.toList_inj.mp h;rw[this]
theorem c8(x y:Str):cd (x++y)=cd x++cd y:=Array.toList_append
theorem pq(x:Str):bA (cd x)=x:=eZ U
theorem gm(a:!Nat):(bA a).length=a.length:=by simp[Str.length]
theorem k7(x:Str):(cd x).length=x.length:=by simp[Str.length]
def cH(i:Int):Str:=toString i
theorem eA{i:Int}(h0:0<=i)(h1:i < 1000000):(cH i).length<=8:=by
 have:=PyProof.Rows.toString_length_le (k:=6) (v:=i) h0 () (by cbv);change (PySem.Str.ofString (toString i)).length<=8;cbv
end DL
namespace L2
open PySem PySem.Spec PyProof.Rows
section
variable{X:Cx}
theorem iZ:dW X (.type "str") (λxs H Q=>(∃ i,xs=[.int i]/\i.natAbs.log2 < 1920/\Q (.str (toString i)) H)\/∃ z,xs=[.str z]/\Q (.str z) H):=by
 intro Sc s σ H xs us Q I r h;rcases h with h | ⟨z,rfl,q⟩
 .exact rE Sc s σ H xs us Q I r h
 .let(u,rfl,t,rfl):=vals1 r;exact PySem.P.str_of_str #[.str z,H,I,#[_,U],q]
theorem yM:dW X (.type "int") (λxs H Q=>∃ n:Int,xs=[.str (toString n)]/\0<=n/\n < 10 ^ 10/\Q (.int n) H):=by
 intro Sc s σ H xs us Q I r h;let(n,rfl,h0,h1,q):=h;let(u,rfl,t,rfl):=vals1 r;exact PySem.W.KIN.call_num h0 h1 #[.int n,H,I.tok _,#[_,U],q]
end
end L2
namespace DL
open PySem PySem.Spec L2
section
variable{X:Cx}{c:Ent}
def Mf:UR:=λas k=>(∃ i,as=[.int i]/\i.natAbs.log2 < 1920/\k (.str (toString i)))\/∃ z,as=[.str z]/\k (.str z)
theorem qU:xH X c (λxs H Q=>(∃ i,xs=[.int i]/\i.natAbs.log2 < 1920/\Q (.str (toString i)) H)\/∃ z,xs=[.str z]/\Q (.str z) H) Mf:=λM s as σ H xs ds k Q L r h kk=>by
 rcases h with ⟨i,rfl,hz,hk⟩ | ⟨i,rfl,hk⟩
 .let(v,rfl,e1):=cJ r;have e1:v=.int i:=e1;subst e1;exact .inl #[i,U,hz,kk _ hk M H _ L .refl U]
 .let(v,rfl,e1):=cJ r;have e1:v=.str i:=e1;subst e1;exact .inr #[i,U,kk _ hk M H _ L .refl U]
def K0:UR:=λas k=>∃ n:Int,as=[.str (toString n)]/\0<=n/\n < 10 ^ 10/\k (.int n)
theorem Hs:xH X c (λxs H Q=>∃ n:Int,xs=[.str (toString n)]/\0<=n/\n < 10 ^ 10/\Q (.int n) H) K0:=λM s as σ H xs ds k Q L r h kk=>by
 let(i,rfl,h0,h1,hk):=h;let(v,rfl,e1):=cJ r;have e1:v=.str (toString i):=e1;subst e1;exact#[i,U,h0,h1,kk _ hk M H _ L .refl U]
end
theorem lu{i:Int}(h0:0<=i)(h1:i < 1000000):i.natAbs.log2 < 1920:=by
 have h:i.natAbs < 2 ^ 20:=by cbv
 by_cases z:i.natAbs=0
 .rw[z];decide
 .have:=(Nat.log2_lt z).mpr h;cbv
end DL
namespace DL
open PySem PySem.Spec L2
open PyProof.Rows hiding St
def gO(rs:!AC):yI:={ yI.no with oV:=rs }
def jt(H:Hp)(rs:!AC):Hp:=λb=>if b∈rs then none else H b
theorem mH{H:Hp}{rs:!AC}{b:AC}(h:b∉rs):jt H rs b=H b:=if_neg h
theorem rS{H:Hp}{rs:!AC}{b:AC}(h:b∈rs):jt H rs b=none:=if_pos h
theorem CH{H:Hp}{rs:!AC}{b:AC}{o:HO}(h:jt H rs b=some o):b∉rs/\H b=some o:=by
 by_cases q:b∈rs
 .rw[rS q] at h;cases h
 .rw[mH q] at h;exact#[q,h]
theorem sY{H:Hp}{x:AC}{o:HO}(h:H x=none):jt (upd H x o) [x]=H:=by
 funext b
 by_cases q:b=x
 .subst q;rw[rS (SF.mpr U),h]
 .rw[mH (λz=>q (SF.mp z)),av q]
structure vq(K:Frag)(H:Hp)(M:AC->Prop)(rs:!AC)(cs:!D):Prop where
 inj:∀ (k l:Nat) (r:AC),rs[k]?=some r->rs[l]?=some r->k=l
 len:rs.length=cs.length
 at_:∀ (k:Nat) (r:AC) (d:D),rs[k]?=some r->cs[k]?=some d->¬ M r/\∃ o,H r=some o/\cw K H M d o
def xk:!(Option D)->Option (!D)
 | []=>some []
 | none::_=>none
 | some d::r=>match xk r with
  | some l=>some (d::l)
  | none=>none
theorem Bh:∀ {l:!(Option D)} {cs:!D},xk l=some cs->l=cs.map some
 | [],cs,h=>by cases h;rfl
 | none::r,cs,h=>by cases h
 | some d::r,cs,h=>by
  unfold xk at h;cases e:xk r with
  | none=>rw[e] at h;cases h
  | some l=>rw[e] at h;cases h;rw[Bh e];rfl
theorem K2{l:!(Option D)}{cs:!D}{n:Nat}(h:xk (l.take n)=some cs):(∀ (k:Nat) (d:D),cs[k]?=some d->l[k]?=some (some d))/\(∀ (k:Nat),k < n->k < l.length->∃ d,cs[k]?=some d/\l[k]?=some (some d))/\cs.length=min n l.length:=by
 have e:=Bh h;have hl:cs.length=min n l.length:=by
  have:=congrArg List.length e;rw[Ts,Ss] at this;exact this.symm
 have g:∀ (k:Nat) (d:D),cs[k]?=some d->l[k]?=some (some d):=λk d hk=>by
  have h1:(l.take n)[k]?=some (some d):=by rw[e,Tb,hk];rfl
  rw[List.getElem?_take] at h1;split at h1
  .exact h1
  .cases h1
 show#[g,λk h1 h2=>?_,hl];have hk:k < cs.length:=by cbv
 exact#[cs[k],SJ hk,g k _ (SJ hk)]
abbrev yh:=!AC->!D->!D->(D->!D->Prop)->Prop
def o8(K:Frag)(t:yh):Sp:=λvs H Q _=>∃ rs M ds cs R,Base #[.no,M,H] M H/\vq K H M rs cs/\aw K H M ds vs/\t rs ds cs R /\
 ∀ x jJ,R x jJ->∀ M' H' v,Base #[.no,M,jt H rs] M' H'->vq K H' M' rs jJ->Rep K H' M' x v->Q v H'
def nT(n nos:Nat)(ds cs:!D):DS:=#[ds.map .dat++List.replicate (n - ds.length) .no,cs.map some++List.replicate nos none]
section
variable{K:Frag}{M M' M0:AC->Prop}{H H' H0:Hp}{rs:!AC}{cs jJ:!D}{s:DS}{as:!AC}{σ:St}{nos:Nat}
theorem Base.ym(B:Base #[gO rs,M0,H0] M H):Base #[.no,M0,H0] M H:=#[B.oQ,B.fr,B.md,B.mo,B.m0,B.mn]
theorem aA.ym(L:aA K #[gO rs,M0,H0] M s as σ H):aA K #[.no,M0,H0] M s as σ H:=#[L.base.ym,L.len,L.d4,L.dat,L.own,L.obj,L.inj,λ_ _ h=>(nomatch h)]
theorem vB{k:Nat}{d:D}{a:AC}(hl:rs.length=cs.length)(h1:(cs.map some++List.replicate nos none)[k]?=some (some d))(h2:(rs++List.replicate nos 0)[k]?=some a):cs[k]?=some d/\rs[k]?=some a:=by
 by_cases hk:k < cs.length
 .rw[TF (by rw[Ss];exact hk),Tb] at h1;rw[TF (by rw[hl];exact hk)] at h2;let(x,q1,q2):=Te.mp h1;cases q2;exact#[q1,h2]
 .rw[TM (by rw[Ss];cbv)] at h1;let(_,e):=Sw.mp h1;simp at e
theorem aA.hold(L:aA K #[.no,M0,H0] M s as σ H)(uT:s.os=[])(h:vq K H M rs cs)(hn:∀ r∈rs,H0 r=none):aA K #[gO rs,M0,H0] M #[s.sl,cs.map some++List.replicate nos none] (rs++List.replicate nos 0) σ H:=by
 show#[#[L.base.oQ,L.base.fr,L.base.md,L.base.mo,L.base.m0,L.base.mn],L.len,by simp[h.len],L.dat,λi k e=>?_,λk d a e1 e2=>?_,λk l d e a e1 e2 g1 g2=>?_,λk a e=>?_]
 .let(a,z,_):=L.own i k e;have:=(Sw.mp z).1;rw[L.d4,uT] at this;exact absurd this (Nat.not_lt_zero _)
 .let(q1,q2):=vB h.len e1 e2;let(nm,o):=h.at_ k a d q2 q1;exact#[o,nm,λz=>z,hn a (Ta q2)]
 .exact h.inj k l a (vB h.len e1 g1).2 (vB h.len e2 g2).2
 .have e:rs[k]?=some a:=e;rw[TF (Sw.mp e).1];exact e
theorem lW{N:!Str}{ds:!D}{vs:!V}(B:Base #[.no,M,H] M H)(h:vq K H M rs cs)(r:aw K H M ds vs):aA K #[gO rs,M,jt H rs] M (nT N.length nos ds cs) (rs++List.replicate nos 0) (L2.start N vs) H:=by
 have L0:=mR (N:=N) (nos:=0) (g:=.no) B r U;have L1:aA K #[.no,M,jt H rs] M (eJ N.length 0 ds) (List.replicate 0 0) (L2.start N vs) H:=#[#[trivial,λb o e _=>(CH e).2,B.md,λ_ _ z=>z,λ_ m=>m,λ_ m=>.inl m],L0.len,L0.d4,L0.dat,L0.own,λk d a e=>by simp[eJ] at e,L0.inj,L0.lt];exact L1.hold U h λr hr=>rS hr
theorem aA.there{n:Nat}(L:aA K #[gO rs,M0,H0] M s as σ H)(hn:rs.length=n):n<=s.os.length:=by
 cases n with
 | zero=>exact S3 _
 | succ m =>
  have h:m < rs.length:=by cbv
  have:=(Sw.mp (L.lt m rs[m] (SJ h))).1;rw[L.d4] at this;exact this
theorem aA.at_{n:Nat}(L:aA K #[gO rs,M0,H0] M s as σ H)(hn:rs.length=n)(hc:xk (s.os.take n)=some cs){k:Nat}{r:AC}(h:rs[k]?=some r):∃ d,cs[k]?=some d/\s.os[k]?=some (some d)/\as[k]?=some r:=by
 have hk:k < rs.length:=(Sw.mp h).1;let(d,h1,h2):=(K2 hc).2.1 k (by cbv) (SW (by cbv) (L.there hn));exact#[d,h1,h2,L.lt k r h]
theorem aA.held{n:Nat}(L:aA K #[gO rs,M0,H0] M s as σ H)(hn:rs.length=n)(hc:xk (s.os.take n)=some cs):vq K H M rs cs:=by
 show#[λk l r h1 h2=>?_,?_,λk r d h1 h2=>?_]
 .let(d,_,q2,q3):=L.at_ hn hc h1;let(e,_,p2,p3):=L.at_ hn hc h2;exact L.inj k l d e r q2 p2 q3 p3
 .have:=(K2 hc).2.2;have:=L.there hn;cbv
 .let(d',q1,q2,q3):=L.at_ hn hc h1;rw[h2] at q1;cases q1;let(o,nm,_):=L.obj k d r q2 q3;exact#[nm,o]
def DS.back(s:DS)(n:Nat)(cs:!D):DS:=#[s.sl,cs.map some++s.os.drop n]
theorem tQ{n k:Nat}{x:D}(hl:jJ.length=n)(h:(s.back n jJ).os[k]?=some (some x)):(k < n/\jJ[k]?=some x)\/(n<=k/\s.os[k]?=some (some x)):=by
 have h:(jJ.map some++s.os.drop n)[k]?=some (some x):=h;by_cases hk:k < n
 .rw[TF (by rw[Ss];cbv),Tb] at h;let(y,q1,q2):=Te.mp h;cases q2;exact .inl #[hk,q1]
 .rw[TM (by rw[Ss];cbv),Ss,hl,Ud,show n+(k - n)=k by cbv] at h;exact .inr #[by cbv,h]
theorem aA.given(L:aA K #[gO rs,M0,H0] M s as σ H)(hc:xk (s.os.take rs.length)=some cs)(B:Base #[.no,M,jt H rs] M' H')(h:vq K H' M' rs jJ) :
  aA K #[gO rs,M0,H0] M' (s.back rs.length jJ) as σ H'/\Ext #[gO rs,M0,H0] as M s H M' (s.back rs.length jJ) H':=by
 have hl:jJ.length=rs.length:=h.len.symm;have old:∀ {k:Nat} {x:D},(s.back rs.length jJ).os[k]?=some (some x)->∃ y,s.os[k]?=some (some y):=λ{k x} e=>by
  rcases tQ hl e with ⟨hk,_⟩ | ⟨_,q⟩
  .let(d,_,q2,_):=L.at_ U hc (SJ hk);exact#[d,q2]
  .exact#[x,q]
 have z0:∀ r∈rs,H0 r=none/\¬ M r/\¬ M' r/\eL s as r:=λr hr=>by
  let(k,hk):=Ur hr;let(d,_,q2,q3):=L.at_ U hc hk;let(_,nm,_,h0):=L.obj k d r q2 q3;obtain⟨d',hd'⟩:∃ d',jJ[k]?=some d':=#[_,SJ (show k < jJ.length by rw[hl];exact (Sw.mp hk).1)];exact#[h0,nm,(h.at_ k r d' hk hd').1,k,d,q2,q3]
 have kp:∀ b u,b∉rs->H b=some u->H' b=some u:=λb u nb e=>B.fr b u (by change jt H rs b=_;rw[mH nb];exact e) λz=>z;have km:∀ b u,M b->H b=some u->H' b=some u:=λb u m e=>kp b u (λz=>(z0 b z).2.1 m) e;have nu:∀ b,M' b->M b\/Nu H b:=λb m=>by
  rcases B.mn b m with z | z
  .exact .inl z
  .have z:Nu (jt H rs) b:=z;unfold Nu at z;rw[mH λq=>(z0 b q).2.2.1 m] at z;exact .inr z
 show#[#[#[trivial,λb u e g=>kp b u (λz=>?_) (L.base.fr b u e g),B.md,λ_ _ z=>z,λb m=>B.m0 b (L.base.m0 b m),λb m=>?_],L.len,?_,λi x e=>?_,L.own,λk x a h1 h2=>?_,λk l x y a h1 h2 g1 g2=>?_,L.lt],#[B.m0,λb m=>(nu b m).imp id .inl,λb u e _ w=>kp b u (λz=>w (z0 b z).2.2.2) e,λb #[k,x,h1,h2]=>?_]]
 .have e:H0 b=some u:=e;rw[(z0 b z).1] at e;cases e
 .rcases nu b m with m | n | ⟨xs,n⟩
  .exact L.base.mn b m
  .exact .inr (.inl (L.base.uR n))
  .refine .inr ?_;cases e:H0 b with
   | none=>exact .inl e
   | some o =>
    have:=L.base.fr b o e λz=>z;rw[n] at this;cases this;exact .inr #[xs,e]
 .show as.length=(jJ.map some++s.os.drop rs.length).length;have:=L.there U;rw[L.d4,Sv,Ss,Ti,hl];cbv
 .let(v,q1,q2):=L.dat i x e;exact#[v,q1,Rep.mono B.m0 km x v q2]
 .rcases tQ hl h1 with ⟨hk,q⟩ | ⟨hk,q⟩
  .have hr:=SJ hk;have e2:=L.lt k _ hr;rw[h2] at e2;injection e2 with e2;let(nm,o):=h.at_ k _ x hr q;have m:=UI hk;rw[<- e2] at nm o m;exact#[o,nm,λz=>z,(z0 a m).1]
  .let((o,q1,q2),nm,ng,hz):=L.obj k x a q h2;have na:a∉rs:=λz=>by
    let(j,hj):=Ur z;let(d,_,p2,p3):=L.at_ U hc hj;have:=L.inj j k d x a p2 q p3 h2;have:=(Sw.mp hj).1;cbv
   show#[#[o,kp a o na q1,q2.mono B.m0 km],λm=>?_,ng,hz];rcases nu a m with m | n | ⟨xs,n⟩
   .exact nm m
   .rw[n] at q1;cases q1
   .rw[n] at q1;cases q1;exact q2.CM
 .let(x',e1):=old h1;let(y',e2):=old h2;exact L.inj k l x' y' a e1 e2 g1 g2
 .let(x',e1):=old h1;exact#[k,x',e1,h2]
theorem nU.ym{R:ju}{E:Ends}(k:nU K #[.no,M0,H0] M H R E):nU K #[gO rs,M0,H0] M H R E :=
 #[λs as M' σ H' r L=>k.nx s as M' σ H' r L.ym,λs as M' σ H' r L=>k.bk s as M' σ H' r L.ym,λs as M' σ H' r L=>k.ct s as M' σ H' r L.ym,λd M' H' v r B=>k.rt d M' H' v r B.ym,λd M' H' a o r B=>k.rf d M' H' a o r B.ym,λd s as M' σ H' v r L=>k.rs d s as M' σ H' v r L.ym]
end
def Hk(n:Nat)(R:D->!D->Prop):ju:={ nx:=λs=>∃ cs,xk (s.os.take n)=some cs/\R .bH cs,rt:=λ_=>False,rs:=λx s=>∃ cs,xk (s.os.take n)=some cs/\R x cs }
section
variable{P:Fr}{w:Fa}{K:Frag}{mg:Str->Option AT}{base:EQ}
theorem P0{x qual:Str}{st:FM}{f:AC}{fd:GT}{N ps:!Str}{k nos n:Nat}{t:yh}(F:rH K x qual st f fd)(S:au N ps (ai st))(len:∀ rs ds cs R,t rs ds cs R->ds.length=ps.length/\rs.length=n)(hb:∀ (br:AT) (A:Fk) (outer:!Env) (s:Da) (H:Hp) (E:XK) (M:AC->Prop) (rs:!AC),cx k (A.deeper (envOfC qual (ai st) ↑s f br))->rs.length=n ->
   ∃ tb,sL (kB aP P w K mg base N qual (ai st) f br A outer s H E).y8 #[gO rs,M,jt H rs] (aT st) tb/\∀ ds cs R,t rs ds cs R->tb (Hk n R) (nT N.length nos ds cs)):bN P w K mg base aP (k+1) f fd ps (o8 K t):=by
 show F.ok S (λvs H Q E h=>?_) λbr A outer s H vs Q E hr h=>?_
 .let(rs,M,ds,cs,R,B,hh,r,q,_):=h;rw[r.length];exact (len rs ds cs R q).1
 .let(rs,M,ds,cs,R,B,hh,r,q,kk):=h;have hn:=(len rs ds cs R q).2;let(tb,h1,h2):=hb br A outer s H E M rs hr hn;show#[_,h1.ps,M,_,_,_,lW B hh r,h2 ds cs R q,#[λs as M' σ H' #[jJ,hc,r'] L _=>?_,λ_ _ _ _ _ z=>z.elim,λ_ _ _ _ _ z=>z.elim,λ_ _ _ _ z=>z.elim,λ_ _ _ _ _ z=>z.elim,λx s as M' σ H' v #[jJ,hc,r'] L rv=>?_]]
  .exact kk .bH jJ r' M' H' .bH L.base.ym (L.held hn hc) U
  .exact kk x jJ r' M' H' v L.base.ym (L.held hn hc) rv
theorem Own.o{q:D3}{N:!Str}{k nos n:Nat}{t:yh}(o:Own K mg q)(S:au N q.2.2 (ai q.2.1))(len:∀ rs ds cs R,t rs ds cs R->ds.length=q.2.2.length/\rs.length=n)(hb:∀ (f:AC) (br:AT) (A:Fk) (outer:!Env) (s:Da) (H:Hp) (E:XK) (M:AC->Prop) (rs:!AC),cx k (A.deeper (envOfC q.1 (ai q.2.1) ↑s f br))->rs.length=n ->
   ∃ tb,sL (kB aP P w K mg base N q.1 (ai q.2.1) f br A outer s H E).y8 #[gO rs,M,jt H rs] (aT q.2.1) tb/\∀ ds cs R,t rs ds cs R->tb (Hk n R) (nT N.length nos ds cs)):C4 P w K mg base aP q (k+1) (o8 K t):=o.c λf fd F=>P0 F S len (hb f)
def uI(K:Frag)(C:AC)(qual:Str)(d:D3):Prop:=∃ f fd,rH K d.1 qual d.2.1 f fd/\Meth K C d.1 f/\Binds K fd d.2.2 []
def zk(P:Fr)(w:Fa)(K:Frag)(mg:Str->Option AT)(base:EQ)(C:AC)(d:D3)(k:Nat)(sp:Sp):Prop:=∃ f fd,bN P w K mg base aP k f fd d.2.2 sp/\Meth K C d.1 f/\Binds K fd d.2.2 []
theorem uI.o{C:AC}{qual:Str}{q:D3}{N:!Str}{k nos n:Nat}{t:yh}(o:uI K C qual q)(S:au N q.2.2 (ai q.2.1))(len:∀ rs ds cs R,t rs ds cs R->ds.length=q.2.2.length/\rs.length=n)(hb:∀ (f:AC) (br:AT) (A:Fk) (outer:!Env) (s:Da) (H:Hp) (E:XK) (M:AC->Prop) (rs:!AC),cx k (A.deeper (envOfC qual (ai q.2.1) ↑s f br))->rs.length=n ->
   ∃ tb,sL (kB aP P w K mg base N qual (ai q.2.1) f br A outer s H E).y8 #[gO rs,M,jt H rs] (aT q.2.1) tb/\∀ ds cs R,t rs ds cs R->tb (Hk n R) (nT N.length nos ds cs)):zk P w K mg base C q (k+1) (o8 K t):=by
 let(f,fd,F,m,b):=o;exact#[f,fd,P0 F S len (hb f),m,b]
end
section
variable{X:Cx}{k m n:Nat}{rs:!AC}{M0:AC->Prop}{H0:Hp}{q:D3}{x:Str}{p pos apos:Pos}{o e:Cl}{es:!Cl}{ta:eF}{te tv:aW}{t:yh}{C:AC}{ks:!Str}
def FD(rs:!AC)(t:yh)(ta:eF):aW:=λs Q=>ta s λds s1=>∃ cs,xk (s1.os.take rs.length)=some cs/\t rs ds cs λx jJ=>Q x (s1.back rs.length jJ)
theorem zY{M1:AC->Prop}{H1:Hp}{s1:DS}{as:!AC}{σ:St}{ds cs:!D}{vs:!V}{Q:VK}{E:XK}{R:D->!D->Prop}(L1:aA X.K #[gO rs,M0,H0] M1 s1 as σ H1)(hc:xk (s1.os.take rs.length)=some cs)(r1:aw X.K H1 M1 ds vs)(q1:t rs ds cs R)(kk:∀ x jJ,R x jJ->∀ M' H' v,aA X.K #[gO rs,M0,H0] M' (s1.back rs.length jJ) as σ H'->Ext #[gO rs,M0,H0] as M1 s1 H1 M' (s1.back rs.length jJ) H'->Rep X.K H' M' x v->Q v H'):o8 X.K t vs H1 Q E :=
 #[rs,M1,ds,cs,R,L1.base.xO,L1.held U hc,r1,q1,λx jJ rx M' H' v B h rv=>kk x jJ rx M' H' v (L1.given hc B h).1 (L1.given hc B h).2 rv]
theorem nP(hr:cx m X.A)(G:C4 X.prog X.w X.K X.mg X.base aP q k (o8 X.K t))(ha:DA X #[gO rs,M0,H0] (e::es) ta)(hx:(q.1=x)⁻¹)(hk:k<=m:=by ac_rfl)(hg:(Gl X x)⁻¹)(kJ: ~~~(UU x))(he:(US X.env e es)⁻¹)(ie:(UT X.env pos es)⁻¹) :
  DE X #[gO rs,M0,H0] (.Call (.Name x p) (e::es) [] pos) (FD rs t ta):=by
 subst hx;let(f,fd,G,F,hm,hb):=G;exact#[(kh G (hr.mono hk) hg hm F.kp hb .nil (E:=E0) lN ha.pa kJ he ie).imp λσ H Q zz=>cU zz λM s as R L q kk =>
  #[M,s,as,_,L,q,λds s1 #[cs,hc,q1] M1 H1 vs L1 E1 r1 hl=>zY L1 hc (by rw[SY];exact r1) q1 λx jJ rx M' H' v L2 E2 rv=>kk x _ rx M' H' v L2 (E1.trans L1.base E2) rv]]
theorem pE:∀ {fs:!(Str×V)} {f:Str},f∉fs.map (·.1)->fs.lookup f=none
 | [],f,h=>rfl
 | (g,x)::r,f,h=>by
  have hb:(f == g)=false:=beq_eq_false_iff_ne.mpr λz=>h (by rw[z];exact SD);simp only[List.lookup,hb];exact pE λz=>h (Sy _ z)
def GR(rs:!AC)(k:Nat)(C:AC)(ks:!Str)(te:aW)(t:yh)(ta:eF):aW:=λs Q=>te s λd s1=>∃ a vs,d=.cb a/\rs[k]?=some a/\s1.os[k]?=some (some (.ob C ks vs))/\ta s1 λds s2=>∃ cs,xk (s2.os.take rs.length)=some cs/\t rs (d::ds) cs λx jJ=>Q x (s2.back rs.length jJ)
theorem oF{M:AC->Prop}{H:Hp}{s:DS}{as:!AC}{σ:St}{a:AC}{vs:!D}{j:Nat}(L:aA X.K #[gO rs,M0,H0] M s as σ H)(hr:rs[j]?=some a)(ho:s.os[j]?=some (some (.ob C ks vs))):∃ dx fs,H a=some (.ins C dx fs)/\fs.map (·.1)=ks/\aw X.K H M vs (fs.map (·.2)):=by
 let((o,h1,h2),_):=L.obj j _ a ho (L.lt j a hr);cases o with
 | ins C' dx fs =>
  let(rfl,h3,h4):=h2;exact#[dx,fs,h1,h3,h4]
 | _=>exact h2.elim
theorem lh{pl:Sem Bool}{mm:Str}(j:Nat)(ks:!Str)(c:wN X.K C)(hr:cx m X.A)(G:zk X.prog X.w X.K X.mg X.base C q k (o8 X.K t))(ho:DE X #[gO rs,M0,H0] o te)(ha:DA X #[gO rs,M0,H0] (e::es) ta)(hx:(q.1=mm)⁻¹)(hk:k<=m:=by ac_rfl)(yf:mm∉ks:=by decide+kernel)(lQ:(US X.env e es)⁻¹)(ie:(UT X.env pos es)⁻¹)(ht:(eval (.Call (.Attribute o mm apos) (e::es) [] pos) X.env=(do
   let ov <- eval o X.env
   standAt apos.atName
   let (f,first) <- holding [ov] (getMethod ov mm pl)
   callWith pos f first (IR pos (GM (e::es) X.env)) (Rs pos (SC [] X.env))))⁻¹) :
  DE X #[gO rs,M0,H0] (.Call (.Attribute o mm apos) (e::es) [] pos) (GR rs j C ks te t ta):=by
 subst hx;let(f,fd,G,hm,hb):=G;exact#[(Cy ho.pe c hm G (hr.mono hk) hb .nil (E:=E0) lN ha.pa lQ ie ht).imp λσ H Q zz=>cU zz λM s as R L q kk =>
  #[M,s,as,_,L,q,λd s1 z M1 H1 v L1 E1 rv=>by
   let(a,vs,ed,hj,ho,q1):=z;subst ed;have rv:v=.ref a:=rv;subst rv;let(dx,fs,h1,h2,h3):=oF L1 hj ho;show#[a,dx,fs,U,h1,pE (by rw[h2];exact yf),M1,s1,as,_,L1,q1,λds s2 #[cs,hc,q2] M2 H2 vs L2 E2 r2 hl=>?_];exact zY L2 hc (ds:=.cb a::ds) #[_,_,U,U,by rw[SY];exact r2] q2 λx jJ rx M' H' v L3 E3 rv=>kk x _ rx M' H' v L3 ((E1.trans L1.base E2).trans L2.base E3) rv]]
def D4:!Str->Str->Option Nat
 | [],_=>none
 | k::r,f=>if k=f then some 0 else match D4 r f with
  | some i=>some (i+1)
  | none=>none
theorem uN{k f:Str}{r:!Str}{i:Nat}(h:D4 (k::r) f=some i):(k=f/\i=0)\/(k≠f/\∃ j,D4 r f=some j/\i=j+1):=by
 unfold D4 at h;by_cases e:k=f
 .rw[if_pos e] at h;cases h;exact .inl #[e,U]
 .rw[if_neg e] at h;cases q:D4 r f with
  | none=>rw[q] at h;cases h
  | some j=>rw[q] at h;cases h;exact .inr #[e,j,U,U]
theorem As:∀ {fs:!(Str×V)} {f:Str} {i:Nat},D4 (fs.map (·.1)) f=some i->fs.lookup f=(fs.map (·.2))[i]?
 | [],f,i,h=>by cases h
 | (g,x)::r,f,i,h=>by
  rcases uN h with ⟨e,rfl⟩ | ⟨ne,j,hj,rfl⟩
  .have hb:(f == g)=true:=beq_iff_eq.mpr (Eq.symm e);simp only[List.lookup,hb]
   rfl
  .have hb:(f == g)=false:=beq_eq_false_iff_ne.mpr λz=>ne (Eq.symm z);simp only[List.lookup,hb];rw[As hj]
   rfl
theorem EA(y:V):∀ {fs:!(Str×V)} {f:Str} {i:Nat},D4 (fs.map (·.1)) f=some i->(eg f y fs).map (·.1)=fs.map (·.1)/\(eg f y fs).map (·.2)=(fs.map (·.2)).set i y
 | [],f,i,h=>by cases h
 | (g,x)::r,f,i,h=>by
  rcases uN h with ⟨e,rfl⟩ | ⟨ne,j,hj,rfl⟩
  .have e:g=f:=e;rw[show eg f y ((g,x)::r)=(if g=f then (g,y)::r else (g,x)::eg f y r) from U,if_pos e];exact#[U,U]
  .have ne:¬ g=f:=ne;rw[show eg f y ((g,x)::r)=(if g=f then (g,y)::r else (g,x)::eg f y r) from U,if_neg ne];let(h1,h2):=EA y hj;exact#[by rw[SA,SA,h1],by rw[SA,SA,h2];rfl]
theorem nX(y:V):∀ {fs:!(Str×V)} {f:Str},f∉fs.map (·.1)->eg f y fs=fs++[(f,y)]
 | [],f,h=>rfl
 | (g,x)::r,f,h=>by
  have ne:¬ g=f:=λz=>h (by rw[<- z];exact SD);rw[show eg f y ((g,x)::r)=(if g=f then (g,y)::r else (g,x)::eg f y r) from U,if_neg ne,nX y λz=>h (Sy _ z)]
  rfl
def LX(rs:!AC)(k:Nat)(C:AC)(ks:!Str)(i:Nat)(te:aW):aW:=λs Q=>te s λd s1=>∃ a vs y,d=.cb a/\rs[k]?=some a/\s1.os[k]?=some (some (.ob C ks vs))/\vs[i]?=some y/\Q y s1
theorem cM{f:Str}(j:Nat)(ks:!Str)(i:Nat)(c:wN X.K C)(hn:d3 X.K C f)(ho:DE X #[gO rs,M0,H0] o te)(hi:D4 ks f=some i:=by decide+kernel)(hb:(attributeBase o f X.env (eval o X.env)=eval o X.env)⁻¹):DE X #[gO rs,M0,H0] (.Attribute o f pos) (LX rs j C ks i te) :=
 #[(Gh ho.pe hb).imp λσ H Q zz=>cU zz λM s as R L q kk=>#[M,s,as,_,L,q,λd s1 z M1 H1 v L1 E1 rv=>by
   let(a,vs,y,ed,hj,ho,hy,q1):=z;subst ed;have rv:v=.ref a:=rv;subst rv;let(dx,fs,h1,h2,h3):=oF L1 hj ho;let(v,h4,h5):=h3.get hy;exact#[a,C,dx,fs,v,U,h1,c,hn,by rw[As (by rw[h2];exact hi)];exact h4,kk y s1 q1 M1 H1 v L1 E1 h5]]]
def JJ(rs:!AC)(k:Nat)(C:AC)(ks:!Str)(i:Nat)(te tv:aW):jc:=λR s=>tv s λy s1=>te s1 λd s2=>∃ a vs,d=.cb a/\rs[k]?=some a/\s2.os[k]?=some (some (.ob C ks vs))/\R.nx (s2.put k (.ob C ks (vs.set i y)))
theorem zQ{f:Str}{value:Cl}{pos':Pos}(j:Nat)(ks:!Str)(i:Nat)(c:wN X.K C)(hn:d3 X.K C f)(ho:DE X #[gO rs,M0,H0] o te)(hv:DE X #[gO rs,M0,H0] value tv)(hi:D4 ks f=some i:=by decide+kernel)(hl: ~~~(ks.length < 1000))(hs:(swapsWith value (some (.Attribute o f pos')) pos.line X.env=pure false)⁻¹) :
  o5 X #[gO rs,M0,H0] (.Assign [.Attribute o f pos'] value pos) (JJ rs j C ks i te tv) :=
 #[(vE ho.pe hv.pe hs).imp λE σ H zz=>cU zz λM s as R L q kk=>#[M,s,as,_,L,q,λy s1 q1 M1 H1 w L1 E1 rw=>#[M1,s1,as,_,L1,q1,λd s2 z M2 H2 v L2 E2 rv=>by
   let(a,vs,ed,hj,ho,q2):=z;subst ed;have rv:v=.ref a:=rv;subst rv;let(dx,fs,h1,h2,h3):=oF L2 hj ho;let(g1,g2):=EA w (fs:=fs) (by rw[h2];exact hi);show#[a,C,dx,fs,U,h1,c,hn,(by rw[<- Ss (f:=λx:Str×V=>x.1),h2];exact hl),?_];have E3:=(E1.trans L1.base E2).trans L2.base (Ext.jl (d:=.ob C ks (vs.set i y)) (o:=.ins C dx (eg f w fs)) ho (L2.lt j a hj));exact kk.nx _ as M2 σ _ q2 (L2.jl ho (L2.lt j a hj) #[U,by rw[g1,h2],by rw[g2];exact aw.set (E2.rep L1 rw) i h3]) (E3.grow L)]]]
def Kk(rs:!AC)(k:Nat)(C:AC)(ks:!Str)(f:Str)(te tv:aW):jc:=λR s=>tv s λy s1=>te s1 λd s2=>∃ a vs,d=.cb a/\rs[k]?=some a/\s2.os[k]?=some (some (.ob C ks vs))/\R.nx (s2.put k (.ob C (ks++[f]) (vs++[y])))
theorem A5{f:Str}{value:Cl}{pos':Pos}(j:Nat)(ks:!Str)(c:wN X.K C)(hn:d3 X.K C f)(ho:DE X #[gO rs,M0,H0] o te)(hv:DE X #[gO rs,M0,H0] value tv)(hi:f∉ks:=by decide+kernel)(hl: ~~~(ks.length < 1000))(hs:(swapsWith value (some (.Attribute o f pos')) pos.line X.env=pure false)⁻¹) :
  o5 X #[gO rs,M0,H0] (.Assign [.Attribute o f pos'] value pos) (Kk rs j C ks f te tv) :=
 #[(vE ho.pe hv.pe hs).imp λE σ H zz=>cU zz λM s as R L q kk=>#[M,s,as,_,L,q,λy s1 q1 M1 H1 w L1 E1 rw=>#[M1,s1,as,_,L1,q1,λd s2 z M2 H2 v L2 E2 rv=>by
   let(a,vs,ed,hj,ho,q2):=z;subst ed;have rv:v=.ref a:=rv;subst rv;let(dx,fs,h1,h2,h3):=oF L2 hj ho;have g:=nX w (fs:=fs) (f:=f) (by rw[h2];exact hi);show#[a,C,dx,fs,U,h1,c,hn,(by rw[<- Ss (f:=λx:Str×V=>x.1),h2];exact hl),?_];have E3:=(E1.trans L1.base E2).trans L2.base (Ext.jl (d:=.ob C (ks++[f]) (vs++[y])) (o:=.ins C dx (eg f w fs)) ho (L2.lt j a hj));exact kk.nx _ as M2 σ _ q2 (L2.jl ho (L2.lt j a hj) #[U,by rw[g,Sz,h2];rfl,by rw[g,Sz];exact h3.append (aw.one (E2.rep L1 rw))]) (E3.grow L)]]]
def PV(rs:!AC)(k:Nat)(C:D->!D->(D->D->Prop)->Prop)(te:aW)(ta:eF):aW:=λs Q=>te s λx s0=>∃ a d0,x=.cb a/\rs[k]?=some a/\s0.os[k]?=some (some d0)/\Oq d0=true/\ta s0 λds s1=>∃ d1,s1.os[k]?=some (some d1)/\C d1 ds λdr d2=>Q dr (s1.put k d2)
theorem QI{r:V->!V->Hp->VK->Prop}{CC:D->!D->(D->D->Prop)->Prop}(ok:Bj X r CC){M M1:AC->Prop}{H H1:Hp}{s s1:DS}{as:!AC}{σ:St}{a:AC}{d1:D}{ds:!D}{vs:!V}{Q:VK}{R:D->DS->Prop}{j:Nat}(L1:aA X.K #[gO rs,M0,H0] M1 s1 as σ H1)(E1:Ext #[gO rs,M0,H0] as M s H M1 s1 H1)(r1:aw X.K H1 M1 ds vs)(hj:rs[j]?=some a)(e1:s1.os[j]?=some (some d1))(q1:CC d1 ds λdr d2=>R dr (s1.put j d2))(kk:∀ d s',R d s'->∀ M' H' v,aA X.K #[gO rs,M0,H0] M' s' as σ H'->Ext #[gO rs,M0,H0] as M s H M' s' H'->Rep X.K H' M' d v->Q v H'):r (.ref a) vs H1 Q:=by
 have g1:=L1.lt j a hj;let((o1,f1,f2),nm,ng,h0):=L1.obj j d1 a e1 g1;show ok M1 H1 a o1 d1 ds vs _ Q f1 f2 r1 nm q1 λdr d2 hk o' v ro rv=>?_;have E2:Ext #[gO rs,M0,H0] as M1 s1 H1 M1 (s1.put j d2) (upd H1 a o'):=Ext.jl e1 g1;exact kk dr _ hk M1 _ v (L1.jl e1 g1 ro) (E1.trans L1.base E2) (E2.rep L1 rv)
section
variable{name:Str}{cE:Pos}{id:String}{r:V->!V->Hp->VK->Prop}{CC:D->!D->(D->D->Prop)->Prop}
theorem AI(j:Nat)(slot:Slot "list" name id)(zI:typeOf (.builtin id)=pure (.type "method_descriptor"))(hm:Ia X id r)(ok:Bj X r CC)(ho:DE X #[gO rs,M0,H0] o te)(ha:DA X #[gO rs,M0,H0] (e::es) ta)(fB:(attributeBase o name X.env (eval o X.env)=eval o X.env)⁻¹)(qG:(((IR cE (GM (e::es) X.env)).all (λx=>(not x.1))&&(Rs cE (SC [] X.env)).all (λx=>x.1.isSome)
   && decide ((e::es).length+([]:!Ps).length+(if ([]:!Ps).isEmpty then 0 else 1) < 30))=true)⁻¹)(c5:((apos.endLine == cE.line)=true)⁻¹)(hs:(US X.env e es)⁻¹)(ic:((IR cE (GM es X.env)).any (·.1)=false)⁻¹) :
  DE X #[gO rs,M0,H0] (.Call (.Attribute o name apos) (e::es) [] cE) (PV rs j CC te ta):=#[(AH TX slot zI hm ho.pe ha.pa fB qG c5 hs ic).imp λσ H Q zz=>cU zz λM s as R L q kk=>#[M,s,as,_,L,q,λx s0 z M1 H1 v L1 E1 rv=>by
   let(a,d0,ed,hj,h2,h3,q):=z;subst ed;have rv:v=.ref a:=rv;subst rv;let((o,g3,g4),_):=L1.obj j d0 a h2 (L1.lt j a hj);let(xs,rfl):=qw h3 g4;exact#[.inl #[U,xs,.of g3],M1,s0,as,_,L1,q,λds s1 #[d1,e1,q1] M2 H2 vs L2 E2 r2 hl=>QI ok L2 (E1.trans L1.base E2) r2 hj e1 q1 kk]]]
theorem vG(j:Nat)(slot:Slot "list" name id)(zI:typeOf (.builtin id)=pure (.type "method_descriptor"))(hm:Ia X id r)(ok:Bj X r CC)(ho:DE X #[gO rs,M0,H0] o te)(fB:(attributeBase o name X.env (eval o X.env)=eval o X.env)⁻¹)(c5:((apos.endLine == cE.line)=true)⁻¹):DE X #[gO rs,M0,H0] (.Call (.Attribute o name apos) [] [] cE) (PV rs j CC te BC) :=
 #[(wg TX slot zI hm ho.pe fB c5).imp λσ H Q zz=>cU zz λM s as R L q kk=>#[M,s,as,_,L,q,λx s0 z M1 H1 v L1 E1 rv=>by
   let(a,d0,ed,hj,h2,h3,d1,e1,q1):=z;subst ed;have rv:v=.ref a:=rv;subst rv;let((o,g3,g4),_):=L1.obj j d0 a h2 (L1.lt j a hj);let(xs,rfl):=qw h3 g4;exact#[.inl #[U,xs,.of g3],QI (ds:=[]) ok L1 E1 U hj e1 q1 kk]]]
end
def JQ(rs:!AC)(k:Nat)(te:aW):kY:=λs Q=>te s λx s0=>∃ a xs,x=.cb a/\rs[k]?=some a/\s0.os[k]?=some (some (.lst xs))/\Q (not xs.isEmpty) s0
theorem Dv(j:Nat)(he:DE X #[gO rs,M0,H0] e te)(hw:∀ whole,isTrue e X.env whole=(do let v <- whole;standAt e.pos;holding [v] (truthy v)):=by intro _;rfl):DT X #[gO rs,M0,H0] e (JQ rs j te):=#[(ur he.pe hw).imp λσ H Q zz=>cU zz λM s as R L q kk=>#[M,s,as,_,L,q,λx s0 z M1 H1 v L1 E1 rv=>by
 let(a,xs,ed,hj,h2,q):=z;subst ed;have rv:v=.ref a:=rv;subst rv;let((o,g3,g4),_):=L1.obj j _ a h2 (L1.lt j a hj);cases o with
 | lst us =>
  have g4:aw X.K H1 M1 xs us:=g4;show#[(not us.isEmpty),.inl #[us,.of g3,U],?_];rw[l4 g4.length];exact kk _ s0 q M1 H1 L1 E1
 | _=>exact g4.elim]]
end
abbrev MX:=(!AC->DS->Prop)->DS->Prop
def QZ(K:Frag)(M0:AC->Prop)(H0:Hp)(rs:!AC)(t:MX):TS:=λE σ H=>∃ M s as R,aA K #[gO rs,M0,H0] M s as σ H/\t R s/\∀ rs s as M' σ H',R rs s->aA K #[gO rs,M0,H0] M' s as σ H'->E.nx σ H'
structure Ii(X:Cx)(M0:AC->Prop)(H0:Hp)(rs:!AC)(pG:!FM)(t:MX):Prop where
 ps:mK X pG (QZ X.K M0 H0 rs t)
section
variable{X:Cx}{M0:AC->Prop}{H0:Hp}{rs:!AC}{st:FM}{pG:!FM}{t:jc}{u:MX}{uu:AC->MX}{o value:Cl}{tv:aW}{C:AC}{ks:!Str}{f:Str}{pos pos':Pos}
theorem IS:Ii X M0 H0 rs [] (λR s=>R rs s):=#[mO.imp λE σ H zz=>cU zz λM s as R L q k=>k rs s as M σ H q L]
theorem AA(h1:o5 X #[gO rs,M0,H0] st t)(h2:Ii X M0 H0 rs pG u):Ii X M0 H0 rs (st::pG) (λR s=>t { nx:=u R,rt:=λ_=>False } s):=#[(bF h1.ps h2.ps).imp λE σ H zz=>cU zz λM s as R L q k =>
 #[M,s,as,_,L,q,#[λs' as' M' σ' H' r L' G=>#[M',s',as',R,L',r,k],λ_ _ _ _ _ z=>z.elim,λ_ _ _ _ _ z=>z.elim,λ_ _ _ _ z=>z.elim,λ_ _ _ _ _ z=>z.elim,λ_ _ _ _ _ _ _ z=>z.elim]]]
theorem EE{i:Nat}(j:Nat)(ks:!Str)(c:wN X.K C)(hn:d3 X.K C f)(ho:PE X o (bB i))(hv:DN X #[gO rs,M0,H0] value tv)(h2:∀ a,Ii X M0 H0 (rs++[a]) pG (uu a))(hi:f∉ks:=by decide+kernel)(hl: ~~~(ks.length < 1000))(hs:(swapsWith value (some (.Attribute o f pos')) pos.line X.env=pure false)⁻¹) :
  Ii X M0 H0 rs (.Assign [.Attribute o f pos'] value pos::pG) (λR s=>tv s λy s1=>∃ x vs,s1.sl[i]?=some (.dat (.cb x))/\rs[j]?=some x/\s1.os[j]?=some (some (.ob C ks vs))/\(s1.os[rs.length]?=some none/\noRef rs.length s1.sl.length s1.sl=true)/\∀ a,uu a R #[s1.sl,(s1.os.set rs.length (some y)).set j (some (.ob C (ks++[f]) (vs++[.cb a])))]):=by
 have h3:mK X pG (λE σ H=>∃ a,QZ X.K M0 H0 (rs++[a]) (uu a) E σ H):=λSc s σ H E I #[a,q]=>(h2 a).ps Sc s σ H E I q;show#[(bF (vE ho hv.pe hs) h3).imp λE σ H zz=>cU zz λM s as R L q k=>#[M,s,as,_,L,q,λy s1 z M1 H1 a o L1 E1 ha ro nm ng nw h0 hn'=>?_]];let(x,vs,hx,hj,hob,(hfree,hnr),q1):=z;let(v,hv1,hv2):=L1.dat i _ hx;have hv2:v=.ref x:=hv2;subst hv2;let(dx,fs,g1,g2,g3):=oF L1 hj hob;have g:=nX (.ref a) (fs:=fs) (f:=f) (by rw[g2];exact hi);have hjl:j < rs.length:=(Sw.mp hj).1;have hnl:rs.length < s1.os.length:=(Sw.mp hfree).1;have hkl:rs.length < as.length:=by rw[L1.d4];exact hnl
 show#[_,hv1,x,C,dx,fs,U,g1,c,hn,(by rw[<- Ss (f:=λx:Str×V=>x.1),g2];exact hl),a,M1,_,as.set rs.length a,R,?_,q1 a,k];have Lm:aA X.K #[gO (rs++[a]),M0,H0] M1 #[s1.sl,s1.os.set rs.length (some y)] (as.set rs.length a) σ H1:=by
  show#[#[L1.base.oQ,L1.base.fr,L1.base.md,L1.base.mo,L1.base.m0,L1.base.mn],L1.len,by simp[L1.d4],L1.dat,λl m e=>?_,λl d b e1 e2=>?_,λl m d e b e1 e2 f1 f2=>?_,λl b e=>?_]
  .let(b,p1,p2):=L1.own l m e;have nm:rs.length≠m:=λz=>by
    subst z;exact lg (Sx _) hnr e
   exact#[b,by rw[SM nm];exact p1,p2]
  .rcases b7 e1 with ⟨rfl,_,q⟩ | ⟨ne,q⟩
   .cases q;rw[S7 hkl] at e2;cases e2;exact#[#[o,ha,ro],nm,ng,h0]
   .rw[SM ne] at e2;exact L1.obj l d b q e2
  .rcases b7 e1 with ⟨rfl,_,q⟩ | ⟨ne,q⟩
   .rcases b7 e2 with ⟨rfl,_,q'⟩ | ⟨ne',q'⟩
    .rfl
    .rw[S7 hkl] at f1;cases f1;rw[SM ne'] at f2;exact absurd #[m,e,q',f2] nw
   .rcases b7 e2 with ⟨rfl,_,q'⟩ | ⟨ne',q'⟩
    .rw[S7 hkl] at f2;cases f2;rw[SM ne] at f1;exact absurd #[l,d,q,f1] nw
    .rw[SM ne] at f1;rw[SM ne'] at f2;exact L1.inj l m d e b q q' f1 f2
  .have e:(rs++[a])[l]?=some b:=e;by_cases hlr:l < rs.length
   .rw[TF hlr] at e;rw[SM (by cbv)];exact L1.lt l b e
   .rw[TM (by cbv)] at e;have:l=rs.length:=by
     have:=(Sw.mp e).1;simp at this;cbv
    subst this;rw[Nat.sub_self] at e;cases e;rw[S7 hkl]
 have hob2:(s1.os.set rs.length (some y))[j]?=some (some (.ob C ks vs)):=by rw[SM (by cbv)];exact hob
 exact Lm.jl (s:=#[s1.sl,s1.os.set rs.length (some y)]) hob2 (by rw[SM (by cbv)];exact L1.lt j x hj) #[U,by rw[g,Sz,g2];rfl,by rw[g,Sz];exact g3.append (aw.one (show Rep X.K H1 M1 (.cb a) (.ref a) from U))]
end
abbrev MQ:=!D->(!AC->!D->Prop)->Prop
def Kr(K:Frag)(C:AC)(t:MQ):Sp:=λvs H Q _=>∃ x dx M ds R ws,vs=.ref x::ws/\H x=some (.ins C dx [])/\Base #[.no,M,H] M H/\¬ M x/\aw K H M ds ws/\t ds R /\
 ∀ rs cs,R rs cs->∀ M' H',Base #[.no,M,jt H [x]] M' H'->vq K H' M' rs cs->rs[0]?=some x->(∀ r∈rs,jt H [x] r=none)->Q .bH H'
section
variable{P:Fr}{w:Fa}{K:Frag}{mg:Str->Option AT}{base:EQ}
theorem RA{x qual:Str}{st:FM}{f C:AC}{fd:GT}{N ps:!Str}{k nos:Nat}{t:MQ}(F:rH K x qual st f fd)(S:au N ps (ai st))(len:∀ ds R,t ds R->ds.length+1=ps.length)(hb:∀ (br:AT) (A:Fk) (outer:!Env) (s:Da) (H:Hp) (E:XK) (M:AC->Prop) (x:AC),cx k (A.deeper (envOfC qual (ai st) ↑s f br)) ->
   ∃ tb,Ii (kB aP P w K mg base N qual (ai st) f br A outer s H E).y8 M (jt H [x]) [x] (aT st) tb/\∀ ds R,t ds R->tb (λrs s=>rs[0]?=some x/\∃ cs,xk (s.os.take rs.length)=some cs/\R rs cs) (nT N.length nos (.cb x::ds) [.ob C [] []])):bN P w K mg base aP (k+1) f fd ps (Kr K C t):=by
 show F.ok S (λvs H Q E h=>?_) λbr A outer s H vs Q E hr h=>?_
 .let(x,dx,M,ds,R,ws,rfl,_,_,_,r,q,_):=h;rw[SG,r.length];exact len ds R q
 .let(x,dx,M,ds,R,ws,rfl,hx,B,nm,r,q,kk):=h;let(tb,h1,h2):=hb br A outer s H E M x hr;show#[_,h1.ps,M,_,_,_,lW (nos:=nos) (rs:=[x]) (cs:=[.ob C [] []]) (ds:=.cb x::ds) B #[λk l r e1 e2=>?_,U,λk r d e1 e2=>?_] #[_,_,U,U,r],h2 ds R q,λrs s as M' σ H' z L=>?_]
  .match k,l,e1,e2 with
   | 0,0,_,_=>rfl
  .match k,e1,e2 with
   | 0,e1,e2 =>
    cases e1;cases e2;exact#[nm,_,hx,U,U,U]
  .let(hx0,cs,hc,hR):=z;show kk rs cs hR M' H' L.base.ym (L.held U hc) hx0 λr hr=>?_;let(k,hk):=Ur hr;let(d,_,q2,q3):=L.at_ U hc hk;exact (L.obj k d r q2 q3).2.2.2
end
section
variable{X:Cx}{k m i nos:Nat}{M0:AC->Prop}{H0:Hp}{q:D3}{x y:Str}{p p2 p3 pos:Pos}{e:Cl}{es:!Cl}{ta:eF}{t:MQ}{C f:AC}{fd:GT}{ps:!Str}{pG:!FM}{u:!AC->jc}
theorem D0(nos:Nat)(Rm:L2.Mk X.K C f)(F:bN X.prog X.w X.K X.mg X.base aP k f fd ps (Kr X.K C t))(hr:cx (k+1) X.A)(hm:X.mg x=some (.ref C))(hb:Binds X.K fd ps [])(hN:X.N.Nodup)(ha:DA X #[.no,M0,H0] (e::es) ta)(h2:∀ rs,sL X #[gO rs,M0,H0] pG (u rs))(hg:(Gl X x)⁻¹)(hi:(X.N[i]?=some y)⁻¹)(hy:Loc X.env.scope y:=by exact Or.inl U)(kJ: ~~~(UU x))(he:(US X.env e es)⁻¹)(ie:((IR p3 (GM es X.env)).any (·.1)=false)⁻¹)(hs:(swapsWith (.Call (.Name x p2) (e::es) [] p3) (some (.Name y p)) pos.line X.env=pure false)⁻¹)(hf:X.fn y=true\/X.env.scope.names.lookup y=some .local:=by ac_nf) :
  sL X #[.no,M0,H0] (.Assign [.Name y p] (.Call (.Name x p2) (e::es) [] p3) pos::pG) (λR s=>ta s λds s1=>s1.os=[]/\t ds λrs cs=>∀ z,rs[0]?=some z->u rs R #[s1.sl.set i (.dat (.cb z)),cs.map some++List.replicate nos none]):=by
 have h3:mK X pG (λE σ H=>∃ rs,tS X.K #[gO rs,M0,H0] (u rs) E σ H):=λSc s σ H E I #[rs,q]=>(h2 rs).ps Sc s σ H E I q;show#[(bF (fE hN hi hy (CQ Rm F hr hg hm hb .nil (E:=E0) lN ha.pa kJ he ie) hs hf) h3).imp λE σ H zz=>cU zz λM s as R L q kk=>#[M,s,as,_,L,q,λds s1 z M1 H1 vs L1 E1 r1 hl x dx hx hdx qT=>?_]];let(uT,q1):=z;have hx':upd H1 dx (.own x) x=none:=by rw[av (Ne.symm qT)];exact hx
 have Ld:=L1.laid (o:=.own x) hdx;let(nm,_):=notM L1 hx;show#[x,dx,M1,ds,_,vs++[],U,ay,(Ld.laid (o:=.ins C dx []) hx').base.xO,nm,by rw[SY];exact pS hx' (pS hdx r1),q1,λrs cs hR M' H' B' hh h0 hz=>#[U,rs,M',_,rs++List.replicate nos 0,R,?_,hR x h0,?_]]
 .rw[sY hx'] at B' hz;have L2:=Ld.after B';exact (L2.hold (nos:=nos) uT hh λr hr=>Ld.base.uR (hz r hr)).B6 i (show Rep X.K H' M' (.cb x) (.ref x) from U)
 .rw[sY hx'] at B';exact (kk.grow (((E1.trans L1.base (Ext.laid hdx)).trans Ld.base (Ext.after B')).grow L)).ym
end
end DL
namespace L2
open PySem PySem.Calls PyProof.Rows PyProof.V PySem.Spec
section
variable{X:Cx}{d:AC}{kvs:!(Str×AT)}
def Jk(X:Cx)(k:Nat)(f:AC)(sp:Sp):Prop:=∃ fd ps,bN X.prog X.w X.K X.mg X.base aP k f fd ps sp/\keepIn X.K (.ref f)=true/\Binds X.K fd ps []
def Hl(X:Cx)(k:Nat)(tf:TE)(t:TA):TE:=λσ H Q=>tf σ H λv H1=>∃ f sp,v=.ref f/\Jk X k f sp/\t σ H1 λvs H2=>sp vs H2 Q E0
end
section
variable{X:Cx}
theorem zu{k:Nat}{x:Str}{e:Cl}{es:!Cl}{p pos:Pos}{tf:TE}{t:TA}(hr:cx k X.A)(hf:PE X (.Name x p) tf)(ha:PA X (e::es) t)(he:(US X.env e es)⁻¹)(ie:(UT X.env pos es)⁻¹) :
  PE X (.Call (.Name x p) (e::es) [] pos) (Hl X k tf t):=by
 intro Sc s σ H Q I h;rw[show eval (.Call (.Name x p) (e::es) [] pos) X.env=(do callWith pos (<- eval (.Name x p) X.env) [] (IR pos (GM (e::es) X.env)) (Rs pos (SC [] X.env))) from U];show Ch (bx (hf Sc s σ H _ I h) λv s1 #[x,H1,I1,r,f,sp,e1,#[fd,ps,F,hk,hb],q]=>?_);subst e1;cases (show v=AT.ref f from r);show UA (h₀:=X.base) I1.ok.mod.Ic hk (bx (ha pos Sc s1 σ H1 _ I1 q) λus s2 zz=>el2 zz λvs H2 I2 r2 q2=>#[I2.xA,?_]) he ie;exact wc F hr hb .nil lN I2 r2 (by rw[SY];exact q2)
end
end L2
namespace Il
open PySem Sem
theorem o6:typeLookup (.type "tuple") "keys"=Pure.pure none:=by rw[typeLookup_type,builtinLookup_eq_fast];kernel_rfl
theorem uk:typeLookup (.type "tuple") "__getattr__"=Pure.pure none:=by rw[typeLookup_type,builtinLookup_eq_fast];kernel_rfl
section
variable{prog:Fr}{w:Fa}{A:Fk}{E:UP}{h:EQ}{g:Array GenState}{d:Drawn}{t:Nat}{os:OsState}{a:AC}{o:Obj}
theorem tX{tk:Tok}{items:Array AT}{n:Nat}{sl:Array (Option AT)}{Q:PySem.Fin->Da->Prop}(hh:A.handled=none)(hx:h.get? a=some #[.type "tuple",none,.seq items n,sl])(hq:∀ h' e t',(∀ b u,h.get? b=some u->h'.get? b=some u)->(∃ u,h'.get? e=some u/\u.cls=.type "AttributeError")->E (.ref e) #[h',g,d,t',os]) :
  Db (model prog w) A (FS.«object.__getattribute__» #[[.ref a,.str "keys" tk],[]]) Q E #[h,g,d,t,os]:=by
 have hT:(#[h,g,d,t,os]:Da).TypeIs (.ref a) "tuple":=#[_,hx,U];have f4:=o6
 repeat (any_goals (first | assumption | with_reducible show wo hh (by decide+kernel) hq | wp_step))
theorem B4{tk:Tok}{items:Array AT}{n:Nat}{sl:Array (Option AT)}{Q:UP}(hh:A.handled=none)(hx:h.get? a=some #[.type "tuple",none,.seq items n,sl])(hq:∀ h' e t',(∀ b u,h.get? b=some u->h'.get? b=some u)->(∃ u,h'.get? e=some u/\u.cls=.type "AttributeError")->E (.ref e) #[h',g,d,t',os]) :
  Db (model prog w) A (getAttrBy (.ref a) (.str "keys" tk) false) Q E #[h,g,d,t,os]:=by
 have hT:(#[h,g,d,t,os]:Da).TypeIs (.ref a) "tuple":=#[_,hx,U];have f2:=F.slot_tuple_getattribute.lookup;have f3:=F.slot_tuple_getattribute.bind (.ref a);have f5:=uk
 repeat (any_goals (first | assumption | wp_step))
 show codeAny_call_builtin F.slot_tuple_getattribute.plain F.entry_tuple_ga (F.slot_tuple_getattribute.check _ _ _ _ _ _ _ _ hT (F.args_tuple_getattribute_2 _ _) (tX hh hx λh' e t' k c=>?_));let(u,hu,hc):=c;have hT2:(#[h',g,d,t',os]:Da).TypeIs (.ref e) "AttributeError":=#[u,hu,hc];have f6:=mQ;change Db _ _ (getattributeRaised (.ref a) (.str "keys" tk) (.type "tuple") (.ref e) none false false) _ _ _;have hE:=hq h' e t' k #[u,hu,hc]
 repeat (any_goals (first | assumption | wp_step))
theorem z7{items:Array AT}{n:Nat}{sl:Array (Option AT)}{Q:Option AT->Da->Prop}(hh:A.handled=none)(hx:h.get? a=some #[.type "tuple",none,.seq items n,sl])(hq:∀ h' t',(∀ b u,h.get? b=some u->h'.get? b=some u)->Q none #[h',g,d,t',os]) :
  Db (model prog w) A (getAttr? (.ref a) "keys") Q E #[h,g,d,t,os]:=by
 unfold getAttr? getAttrBy?;show Ch ?_;have f6:=mQ;unfold mkText
 repeat (any_goals (first | assumption | with_reducible apply B4 hh hx | wp_step))
 intro h' e t' k c;let(u,hu,hc):=c;have hT2:(#[h',g,d,t',os]:Da).TypeIs (.ref e) "AttributeError":=#[u,hu,hc];have hE:=hq h' t' k
 repeat (any_goals (first | assumption | wp_step))
end
end Il
namespace L2
open PySem PySem.Spec
open PyProof.Rows hiding St
section
variable{X:Cx}{Sc:UQ}{σ:St}
def Aw(H:Hp)(x:V)(kv:Key×V):Prop:=∃ p,x=.ref p/\H p=some (.tup [kV kv.1,kv.2])
def jg(m:!(Key×V))(kvs:!(Key×V)):!(Key×V):=kvs.foldl (λm kv=>putK m kv.1 kv.2) m
theorem Aw.up{H:Hp}{x:V}{kv:Key×V}{a:AC}{m m':!(Key×V)}(e:H a=some (.dK m))(h:Aw H x kv):Aw (upd H a (.dK m')) x kv:=by
 let(p,e1,e2):=h;have n1:p≠a:=λz=>by subst z;rw[e] at e2;cases e2
 exact#[p,e1,by rw[av n1];exact e2]
theorem Aw.new{H:Hp}{x:V}{kv:Key×V}{a:AC}{o:HO}(e:H a=none)(h:Aw H x kv):Aw (upd H a o) x kv:=by
 let(p,e1,e2):=h;exact#[p,e1,by rw[av (aE e2 e)];exact e2]
theorem vc{H:Hp}{s:Da}{A:Fk}{E:UP}{a:AC}{k:Key}{v:V}{kr r:AT}{m:!(Key×V)}{Q:Unit->Da->Prop}(I:Inv X Sc σ H s)(e:H a=some (.dK m))(ry:RelV (kV k) kr)(l:m.length < Ev)(rv:RelV v r)(h:∀ s',Inv X Sc σ (upd H a (.dK (putK m k v))) s'->EQ.SameBut a s.heap s'.heap->Q Unit.unit s'):Db (model X.prog X.w) A (dictSet a kr r) Q E s:=by
 let(z,hd,vs,rel,dd):=Ap I.bj e;have hz:vs.length<=Ev:=by rw[<- rel.length];exact z
 have hl:(putK m k v).length<=Ev:=by have:=eE m k v;cbv
 show wpAny_dictSet_pairs (hsz:=hz) (ny ry) dd λh' dd' hs=>h _ ?_ hs;have he:∃ q,h'.get? a=some q:=let #[q,_,_,hq,_]:=dd';#[q,hq];exact mB I (by rw[e];exact True.intro) hs he (ve hl hd (rel.put k rv) dd')
theorem nH{A:Fk}{E:UP}{a it l:AC}{xs:!V}{Q:Da->Prop}(hh:A.in1.handled=none):∀ (rest:!(Key×V)) (i:Nat) (acc:!(Key×V)) (H:Hp) (s:Da),
  Inv X Sc σ H s->H a=some (.dK acc)->H l=some (.tup xs)->Paired (Aw H) (xs.drop i) rest->ee X Sc H it->s.heap.IsTupleIter it l i->acc.length+rest.length < Ev ->
  (∀ s',Inv X Sc σ (upd H a (.dK (jg acc rest))) s'->Q s') ->
  codeAny (model X.prog X.w) A (.builtin "dict.update.loop" #[[.ref a,.ref it,KF i,.none],[]]) (wants (λr s2=>r=.none/\Q s2) E) s
 | [],i,acc,H,s,I,ha,hl,hp,hf,hit,hz,q=>by
  have hx:xs.drop i=[]:=TV (Paired.length hp);let(its,rv,pl,_):=I.tuple (.of hl);have hn:its.toArray[i]?=none:=by
   have:=rv.length;have:=congrArg List.length hx;simp at this ⊢;cbv
  show codeAny_builtin pd ?_;rw[Fk.under_plain U U];change Db _ _ (pyNext (.ref it) >>= _) _ _ _;show Ch (wpAny_pyNext_tuple_end hh hit (show s.heap.IsTuple l its.toArray from pl) hn λh' eb=>?_);have I1:Inv X Sc σ H { s with heap:=h' }:=Inv.iX (t':=s.toks) (fp:=[it]) I (λb o hb z=>eb b o (λy=>hb (by simp[y])) z) λb hb=>by rw[List.mem_singleton.mp hb];exact hf
  change Db _ _ (FS.Dict.addKeywords a [] >>= _) _ _ _;show Ch (FB (FB #[U,q _ ?_]));have e:upd H a (.dK (jg acc []))=H:=by
   funext b
   by_cases hb:b=a
   .subst hb;rw[ay,ha]
    rfl
   .rw[av hb]
  rw[e];exact I1
 | kv::rest,i,acc,H,s,I,ha,hl,hp,hf,hit,hz,q=>by
  have gq:i < xs.length:=by
   have:=Paired.length hp;rw[Ti,SG] at this;cbv
  rw[Tg gq] at hp;cases hp with
  | cons hx hr =>
  let(p,e1,e2):=hx;let(its,rv,pl,_):=I.tuple (.of hl);let(u,hu1,ru):=rv.get (show xs[i]?=some xs[i] from SJ gq);rw[e1] at ru;have ru:u=.ref p:=ru;subst ru;show codeAny_builtin pd ?_;rw[Fk.under_plain U U];change Db _ _ (pyNext (.ref it) >>= _) _ _ _;show Ch (wpAny_pyNext_tuple_item hit (show s.heap.IsTuple l its.toArray from pl) (by simpa using hu1) λh' hit' hs=>?_);have I1:Inv X Sc σ H { s with heap:=h' }:=Inv.iX (t':=s.toks) (fp:=[it]) I (λb o hb z=>(hs.2 b (λy=>hb (by simp[y]))).trans z) λb hb=>by rw[List.mem_singleton.mp hb];exact hf
  let(_,ps,rp,op,g1,g2,nn,g3,_):=(show bQ X.prog X.w H h' p (.tup [kV kv.1,kv.2]) from I1.bj p _ e2);let(kr,vr,rfl,rk,rvv):=Vals.two rp;change Db _ _ (holding [AT.ref p] _ >>= _) _ _ _;show Ch (NE (Ch (wpAny_tryCatch ?_)));have hT:Da.TypeIs { s with heap:=h' } (.ref p) "tuple":=#[op,g1,g2];unfold FS.Dict.pairItems;show Ch (wpAny_typeOf hT ?_);rw[if_pos ()];show Ch (Os g1 g3 (FB ?_));change Db _ _ (holding [kr,vr] (dictSet a kr vr)) _ _ _;have hzl:acc.length+(rest.length+1) < Ev:=hz;show NE (vc I1 ha rk (by cbv) rvv λs2 I2 t5=>?_);have hia:it≠a:=λz=>by
   subst z;rw[hf.1] at ha;cases ha
  have hla:l≠a:=λz=>by
   subst z;rw[hl] at ha;cases ha
  show FB #[Code.quiet_builtin _ (by decide+kernel),?_];have ie:=eE acc kv.1 kv.2;show nH hh rest (i+1) (putK acc kv.1 kv.2) (upd H a (.dK (putK acc kv.1 kv.2))) s2 I2 ay (by rw[av hla];exact hl) (Paired.yJ hr λ_ _ z=>Aw.up ha z) #[by rw[av hia];exact hf.1,hf.2] (hit'.at λo z=>(t5.2 it hia).trans z) (by cbv) λs3 I3=>q s3 ?_;rw[qQ] at I3;exact I3
theorem uP{H:Hp}{s:Da}{E:UP}{l:AC}{xs:!V}{kvs:!(Key×V)}{Q:UP}(hh:X.A.handled=none)(I:Inv X Sc σ H s)(hl:H l=some (.tup xs))(hp:Paired (Aw H) xs kvs)(hz:kvs.length < Ev)(h:∀ a s',H a=none->Inv X Sc σ (upd H a (.dK (jg [] kvs))) s'->Q (.ref a) s'):Db (model X.prog X.w) X.A (call (.type "dict") [.ref l]) Q E s:=by
 show callType_codes (Q₁:=λobj s₁=>obj=.ref ↑s/\s₁={ s with heap:=s.heap.push { cls:=.type "dict",data:=.dict #v[] } }) PySem.F.kt_called_dict (PySem.F.kt_typeCall_dict_1 _) PySem.F.entry_dict_init (kt_code_dict_new _ #[U,U]) λobj s₁ h₁=>?_;let(rfl,rfl):=h₁;have hfr:H ↑s=none:=I.bj.fresh (Sx _);have I1:Inv X Sc σ (upd H ↑s (.dK [])) { s with heap:=s.heap.push { cls:=.type "dict",data:=.dict #v[] } }:=I.laid (a:=↑s) (o:=.dK []) (t':=s.toks) (λ_ _ q=>Su _ q) (Sx _) (tM s.heap I.big);have hT:Da.TypeIs { s with heap:=s.heap.push { cls:=.type "dict",data:=.dict #v[] } } (.ref ↑s) "dict":=#[_,SH _ U,U];show#[hT,PySem.F.args_dict_init_2 _ _,?_];unfold FS.«dict.__init__»;show Ch ?_;unfold FS.Dict.selfAndRest;show Ch (wpAny_notOrdered_dict hT ?_);show FB ?_;change Db _ _ (FS.Dict.updateFrom "dict.__init__" ↑s (.ref l) [] .none) _ _ _;have zo:upd H ↑s (.dK []) l=some (.tup xs):=by rw[av (aE hl hfr)];exact hl
 let(_,its,rv,(cl,od,dt,sl),x1,x2,nn,x4,x3):=(show bQ X.prog X.w _ _ l (.tup xs) from I1.bj l _ zo)
 replace x2:cl=.type "tuple":=x2
 replace x3:od=none:=x3
 replace x4:dt=.seq its.toArray nn:=x4
 subst x2 x3 x4;have hTl:Da.TypeIs { s with heap:=s.heap.push { cls:=.type "dict",data:=.dict #v[] } } (.ref l) "tuple":=#[_,x1,U];unfold FS.Dict.updateFrom;show Ch (wpAny_typeOf hTl ?_);rw[if_pos ()];have hhn:(X.A.in1.in1).handled=none:=hh;show Ch (Il.z7 hhn x1 λh' t' k=>?_);have I2:Inv X Sc σ (upd H ↑s (.dK [])) { s with heap:=h',toks:=t' }:=I1.kept (t':=t') k;have hL2:EQ.IsTuple h' l its.toArray:=#[_,k l _ x1,U,nn,U];change Db _ _ (rule _ >>= _) _ _ _;show Ch (wpAny_rule ?_);show Ch (wpAny_pyIter_tuple (s:={ s with heap:=h',toks:=t' }) hL2 ?_);have I3:=I2.kept (h':=h'.push { cls:=.type "tuple_iterator",data:=.fields #v[.ref l,.int 0 0] }) (t':=t') λb u z=>Su _ z;have gq:↑s < h'.objs.size:=SE (k _ _ (SH _ U));have Ih:upd H ↑s (.dK []) h'.objs.size=none:=by
  rw[av (Ui gq)];exact I.bj.fresh (Nat.le_of_lt gq)
 show FB #[Code.quiet_builtin _ (by decide+kernel),?_];show nH (A:=X.A.in1) hh kvs 0 [] (upd H ↑s (.dK [])) _ I3 ay zo (by rw[List.drop_zero];exact Paired.yJ hp λ_ _ z=>z.new hfr) (I2.mq (Nat.le_refl _) Ih) #[_,EQ.get?_push_size _ U,U,U] (by simpa using hz) λs' I4=>h _ s' hfr ?_;rw[qQ] at I4;exact I4
def A0:!V->Hp->VK->Prop:=λvs H Q=>∃ l xs kvs,vs=[.ref l]/\H l=some (.tup xs)/\Paired (Aw H) xs kvs/\kvs.length < Ev/\∀ a,H a=none->Q (.ref a) (upd H a (.dK (jg [] kvs)))
theorem vn(hc:X.calm=true):dW X (.type "dict") A0:=by
 intro Sc s σ H xs us Q I r h;let(l,ys,kvs,rfl,hl,hp,hz,q):=h;let(u,rfl,ru):=Vals.one r;cases ru;exact uP (I.ok.hd hc) I hl hp hz λa s' hn I2=>#[.ref a,_,I2,U,q a hn]
end
end L2
namespace DL
open PySem PySem.Spec L2
section
variable{X:Cx}{c:Ent}
theorem vm{kvs:!(Key×V)}{acc:!(Key×V)}(h:((acc++kvs).map (·.1)).Nodup):jg acc kvs=acc++kvs:=by
 induction kvs generalizing acc with
 | nil=>rw[SY];rfl
 | cons kv r ih =>
  change jg (putK acc kv.1 kv.2) r=_;have hv:fO acc kv.1=none:=by
   rw[Sz,To] at h;cases e:fO acc kv.1 with
   | none=>rfl
   | some v =>
    exfalso;have:kv.1∈acc.map (·.1):=CN e;exact h.2.2 _ this _ (by simp) U
  rw[j9 kv.2 hv,ih (by rw[S0];exact h),S0]
  rfl
def FA(ds:!D)(k:D->Prop):Prop:=∃ qs:!(Str×D),ds=[.tup (qs.map λq=>.tup [.str q.1,q.2])]/\(qs.map (·.1)).Nodup/\qs.length < Ev/\k (.sQ (qs.map λq=>.inr q.1) (qs.map (·.2)))
theorem Bc{K:Frag}{H:Hp}{M:AC->Prop}:∀ {qs:!(Str×D)} {xs:!V},aw K H M (qs.map λq=>.tup [.str q.1,q.2]) xs->∃ kvs:!(Key×V),Paired (Aw H) xs kvs/\kvs.map (·.1)=qs.map (λq=>.inr q.1)/\aw K H M (qs.map (·.2)) (kvs.map (·.2))
 | [],xs,r=>by
  have r:xs=[]:=r;subst r;exact#[[],.nil,U,U]
 | q::qs,xs,r=>by
  let(x,xr,rfl,(p,ys,rfl,t,r1),r2):=r;let(v,w,rfl,rv,rw'):=p8 r1;have rv:v=.str q.1:=rv;subst rv;let(kvs,h1,h2,h3):=Bc r2;exact#[(.inr q.1,w)::kvs,.cons #[p,U,t.2] h1,by rw[SA,SA,h2],#[w,_,U,rw',h3]]
theorem Aj:DD X c A0 FA:=λM s as σ H xs ds k Q L r z3r q=>by
 let(qs,e,hn,hz,hk):=z3r;subst e;let(v,rfl,p,ys,rfl,t,r1):=cJ r;let(kvs,h1,h2,h3):=Bc r1;have hl:kvs.length=qs.length:=by simpa using congrArg List.length h2
 show#[p,ys,kvs,U,t.2,h1,by cbv,λa ha=>?_];rw[vm (acc:=[]) (by rw[SX,h2];exact List.Pairwise.map _ (λa b hab z=>hab (Sum.inr.inj z)) (List.Pairwise.of_map _ (λa b hab=>hab) hn))];exact q _ hk a (.dK kvs) ha #[h2,h3]
end
section
variable{X:Cx}{c:Ent}{k i:Nat}{f:AC}{fd:GT}{ps:!Str}{t:UR}{x:Str}{p pos:Pos}{e:Cl}{es:!Cl}{ta:eF}
def Cn(i:Nat)(f:AC)(t:UR)(ta:eF):aW:=λs Q=>s.sl[i]?=some (.dat (.cb f))/\ta s λds s1=>t ds λd=>Q d s1
theorem tu(hr:cx k X.A)(hv:PE X (.Name x p) (bB i))(hk:keepIn X.K (.ref f)=true)(hb:Binds X.K fd ps [])(ha:DA X c (e::es) ta)(F:bN X.prog X.w X.K X.mg X.base aP k f fd ps (bf X.K .no t))(he:(US X.env e es)⁻¹)(ie:(UT X.env pos es)⁻¹) :
  DE X c (.Call (.Name x p) (e::es) [] pos) (Cn i f t ta):=#[(zu hr hv ha.pa he ie).imp λσ H Q z4r=>by
 let(M,s,as,R,L,(hi,q),kk):=z4r;let(v,h1,h2):=L.dat i _ hi;show#[v,h1,f,_,h2,#[fd,ps,F,hk,hb],M,s,as,_,L,q,λds s1 q1 M1 H1 vs L1 E1 r1 hl=>?_];exact#[M1,ds,_,L1.base.xO,r1,q1,λd rd M' H' v B rv=>kk d s1 rd M' H' v (L1.after (L1.base.CG B)) (E1.trans L1.base (Ext.after (L1.base.CG B))) rv]]
end
end DL
namespace DF
open PySem PyProof.Rows
variable{prog:Fr}{w:Fa}{A:Fk}{E:UP}{s:Da}{it d:AC}{i ep:Nat}{es:Array SZ}{od:Obj}
end DF
namespace L2
open PySem PySem.Spec PyProof.Rows DL
section
variable{X:Cx}
end
end L2
namespace L2
open PySem PySem.Spec DL
open PyProof.Rows hiding St
section
variable{X:Cx}
end
end L2
namespace DL
open PySem PySem.Spec L2
open PyProof.Rows hiding St
section
variable{K:Frag}{c:Ent}{M M' M1:AC->Prop}{s s' s1:DS}{as:!AC}{σ:St}{H H' H1:Hp}{a q:AC}{o:HO}
end
section
variable{X:Cx}{c:Ent}{e:Cl}{te:aW}
end
section
variable{X:Cx}{c:Ent}
end
end DL
namespace L2
open PySem PySem.Spec
open PyProof.Rows hiding St
section
variable{X:Cx}
theorem qf:∀ {ns:!Nat} {us:!AT},Vals (ns.map λn:Nat=>V.int n) us->∃ l:!(Int×Tok),us=l.map (λp=>AT.int p.1 p.2)/\l.map (·.1)=ns.map λn:Nat=>(n:Int)
 | [],us,h=>by
  cases h;exact#[[],U,U]
 | n::ns,us,h=>by
  cases h with
  | cons r t =>
   let(l,e1,e2):=qf t;let(tk,e):=(show ∃ t,_=AT.int (n:Int) t from r);exact#[((n:Int),tk)::l,by rw[e1,e];rfl,by rw[SA,e2];rfl]
theorem iF{l:!(Int×Tok)}{ns:!Nat}(h:l.map (·.1)=ns.map λn:Nat=>(n:Int)):∀ k,preSum (numAt l.toArray) k=(((ns.take k).sum:Nat):Int)
 | 0=>by simp[preSum]
 | k+1=>by
  have hk:=iF h k;have hn:numAt l.toArray k=(((ns[k]?).getD 0:Nat):Int):=by
   have:=congrArg (λl=>l[k]?) h;simp only[List.getElem?_map] at this;unfold numAt;rw[List.getElem?_toArray,this];cases ns[k]?<;>rfl
  rw[preSum,hk,hn,Ug,List.sum_append];cases ns[k]?<;>simp
theorem l3(ns:!Nat)(k:Nat):(ns.take k).sum<=ns.sum:=by
 have:=congrArg List.sum (T3 k ns);rw[List.sum_append] at this;cbv
theorem Bo(hc:X.calm=true):dW X (.builtin "sum") (λxs H Q=>∃ (p:AC) (ns:!Nat),xs=[.ref p]/\dR X.K H p (ns.map λn:Nat=>V.int n)/\ns.sum<=1000000/\Q (.int (ns.sum:Nat)) H):=by
 intro Sc s σ H xs us Q I r h;let(p,ns,rfl,hq,hs,q):=h;let(u,rfl,rx):=vals1 r;cases rx;let(its,rv,pl,hz):=I.list hq;let(l,e1,e2):=qf rv;have ei:its.toArray=intItems l.toArray:=by rw[e1];simp[intItems]
 have hll:l.length=ns.length:=by simpa using congrArg List.length e2
 show sum_intList (xs:=l.toArray) (I.ok.hd hc) (by rw[<- ei];exact pl.isList) (λj hj=>#[?_,?_]) λh' tk t' kp=>?_
 .have hn:numAt l.toArray j=(((ns[j]?).getD 0:Nat):Int):=by
   have:=congrArg (λl=>l[j]?) e2;simp only[List.getElem?_map] at this;unfold numAt;rw[List.getElem?_toArray,this];cases ns[j]?<;>rfl
  have hle:(ns[j]?).getD 0<=ns.sum:=by
   have h1:=l3 ns (j+1);rw[Ug,List.sum_append] at h1;cases e:ns[j]? with
   | none=>exact S3 _
   | some v=>rw[e] at h1;simp at h1 ⊢;cbv
  rw[hn];exact#[by cbv,by cbv]
 .rw[iF e2];have:=l3 ns (j+1);exact#[by cbv,by cbv]
 .have hsum:preSum (numAt l.toArray) l.toArray.size=((ns.sum:Nat):Int):=by
   rw[iF e2,SQ,hll,List.take_length]
  rw[hsum];exact#[.int (ns.sum:Nat),H,I.kept (t':=tk) kp,#[t',U],q]
end
end L2
namespace DL
open PySem PySem.Spec L2
open PyProof.Rows hiding St
section
variable{X:Cx}{c:Ent}
def Oa:UR:=λas k=>∃ ns:!Nat,as=[.lst (ns.map λn:Nat=>D.int n)]/\ns.sum<=1000000/\k (.int (ns.sum:Nat))
theorem tH{K:Frag}{H:Hp}{M:AC->Prop}:∀ {ns:!Nat} {vs:!V},aw K H M (ns.map λn:Nat=>D.int n) vs->vs=ns.map λn:Nat=>V.int n
 | [],vs,r=>r
 | n::ns,vs,r=>by
  let(x,xr,rfl,r1,r2):=r;have r1:x=.int n:=r1;rw[r1,tH r2,SA]
theorem LF:xH X c (λxs H Q=>∃ (p:AC) (ns:!Nat),xs=[.ref p]/\dR X.K H p (ns.map λn:Nat=>V.int n)/\ns.sum<=1000000/\Q (.int (ns.sum:Nat)) H) Oa:=λM s as σ H xs ds k Q L r h kk=>by
 let(ns,e,hs,hk):=h;subst e;let(v,rfl,p,ys,rfl,(m,h),r'):=cJ r;rw[tH r'] at h;exact#[p,ns,U,.of h,hs,kk _ hk M H _ L .refl U]
end
end DL
namespace L2
open PySem PySem.Spec
open PyProof.Rows hiding St
def dj:Option Int->!Int->Option Int
 | b,[]=>b
 | none,n::r=>dj (some n) r
 | some m,n::r=>dj (some (if n > m then n else m)) r
theorem yz(a d:AT):argsOk "max" #[[a],[("default",d)]]:=by unfold argsOk;kernel_rfl
section
variable{X:Cx}{Sc:UQ}{σ:St}{H:Hp}
theorem Cq{A:Fk}{E:UP}{s:Da}{a b:Int}{t u:Tok}{Q:UP}(h:Q (.bool (decide (a > b))) s):Db (model X.prog X.w) A (richCompare .Gt (.int a t) (.int b u)) Q E s :=
 CmpOf.ints_gt (P:=λi v=>v=if i=0 then .int a t else .int b u) (λi=>if i=0 then a else b) (λi v hv=>by subst hv;by_cases e:i=0<;>simp[e]) 0 1 _ _ s Q E rfl rfl h
theorem yD{A:Fk}{E:UP}{it l S:AC}{ns:!Int}{d:AT}{Q:UP}(hh:A.in1.handled=none)(Rg:ee X Sc H it)(RL:ee X Sc H S)(qT:it≠S)(hl:dR X.K H l (ns.map V.int))(q:∀ v s',Inv X Sc σ H s'->(match dj none ns with | none=>v=d | some m=>RelV (.int m) v)->Q v s'):∀ (k i:Nat) (b:Option Int) (old:!AT) (c:Nat) (s:Da),ns.length - i=k->i<=ns.length->dj none ns=dj b (ns.drop i) ->
  (old=[]/\b=none\/∃ m t,old=[.int m t,.int m t]/\b=some m)->Inv X Sc σ H s->s.heap.IsListIter it l i->s.heap.get? S=some { cls:=.type "list",data:=.seq old.toArray c } ->
  codeAny (model X.prog X.w) A (.builtin "max.loop" #[[.ref it,.none,.ref S],[("default",d)]]) (wants Q E) s:=by
 intro k;have nm:(toString "max"++toString ".loop":String)="max.loop":=by decide
 have turned:∀ {s:Da} {h':EQ} {t':Nat},Inv X Sc σ H s->(∀ b o,b≠it->b≠S->s.heap.get? b=some o->h'.get? b=some o)->Inv X Sc σ H { s with heap:=h',toks:=t' }:=λ{s h' t'} I kp=>Inv.iX (fp:=[it,S]) I (λb o hb z=>kp b o (λe=>hb (by simp[e])) (λe=>hb (by simp[e])) z) λb hb=>by
  rcases SO.mp hb with rfl | hb
  .exact Rg
  .rw[SF.mp hb];exact RL
 induction k with
 | zero =>
  intro i b old c s hk hi hb ho I hit hS;have hie:i=ns.length:=by cbv
  let(its,rv,pl,_):=I.list hl;have hn:its.toArray[i]?=none:=by
   have:=rv.length;rw[Ss] at this;simp;cbv
  rw[hie,UJ] at hb;show codeAny_builtin F.entry_max_loop ?_;rw[Fk.under_plainId F.plain_max_loop _];show Ch (m:=seqItems? (.ref S)) (Os hS U ?_);show Ch (m:=tryCatch (pyNext (.ref it)) _) (wpAny_tryCatch (wpAny_pyNext_list_end hh hit pl.isList hn λh' eb=>?_));have hS':=eb S _ (Ne.symm qT) hS;rcases ho with ⟨rfl,rfl⟩ | ⟨m,t,rfl,rfl⟩
  .refine Ch (m:=rule _) (wpAny_rule (FB ?_));exact q d _ (turned (t':=s.toks) I λb o h1 _ e=>eb b o h1 e) (by rw[hb];rfl)
  .refine Ch (m:=updateSeq S _) (wpAny_updateSeq hS' U (Ch (wpAny_letGo (FB ?_))));exact q _ _ (turned (s:=s) (t':=s.toks) I λb o h1 h2 e=>(S9 _ _ (Ne.symm h2)).trans (eb b o h1 e)) (by rw[hb];exact#[t,U])
 | succ k ih =>
  intro i b old c s hk hi hb ho I hit hS;have gq:i < ns.length:=by cbv
  let(its,rv,pl,_):=I.list hl;let(u,hu,ru):=rv.get (show (ns.map V.int)[i]?=some (.int ns[i]) by rw[Tb,SJ gq];rfl);let(tk,rfl):=(show ∃ t,u=AT.int ns[i] t from ru);rw[Tg gq] at hb;show codeAny_builtin F.entry_max_loop ?_;rw[Fk.under_plainId F.plain_max_loop _];show Ch (m:=seqItems? (.ref S)) (Os hS U ?_);show Ch (m:=tryCatch (pyNext (.ref it)) _) (wpAny_tryCatch (wpAny_pyNext_list_item hit pl.isList (x:=.int ns[i] tk) (by simpa using hu) λh' hit' eb=>?_));have hS':=(eb.2 S (Ne.symm qT)).trans hS;have I1:Inv X Sc σ H { s with heap:=h' }:=turned (t':=s.toks) I λb o h1 _ e=>(eb.2 b h1).trans e;rcases ho with ⟨rfl,rfl⟩ | ⟨m,t,rfl,rfl⟩
  .refine Ch (m:=updateSeq S _) (wpAny_updateSeq hS' U ?_);rw[nm];show FB #[plainId_quiet F.plain_max_loop _,ih (i+1) (some ns[i]) [.int ns[i] tk,.int ns[i] tk] _ _ (by cbv) gq hb (.inr #[_,tk,U,U]) (turned (t':=s.toks) I1 λb o _ h2 e=>(S9 _ _ (Ne.symm h2)).trans e) (hit'.at λo e=>(S9 _ _ (Ne.symm qT)).trans e) (Tf _ hS' U)]
  .refine Ch (m:=tryCatch (holding [AT.int ns[i] tk,AT.int ns[i] tk] (richCompare .Gt (AT.int ns[i] tk) (AT.int m t) >>= _)) _) (wpAny_tryCatch (NE (Ch (Cq ?_))));show Ch (NE (wpAny_truthy_bool ?_));show Ch (wpAny_letGo (FB ?_));by_cases hg:ns[i] > m
   .rw[decide_eq_true hg];simp only[if_true];show Ch (m:=updateSeq S _) (wpAny_updateSeq hS' U (Ch (wpAny_letGo ?_)));rw[nm];show FB #[plainId_quiet F.plain_max_loop _,ih (i+1) (some ns[i]) [.int ns[i] tk,.int ns[i] tk] _ _ (by cbv) gq (by rw[hb,dj,if_pos hg]) (.inr #[_,tk,U,U]) (turned (t':=s.toks) I1 λb o _ h2 e=>(S9 _ _ (Ne.symm h2)).trans e) (hit'.at λo e=>(S9 _ _ (Ne.symm qT)).trans e) (Tf _ hS' U)]
   .rw[decide_eq_false hg];simp only[Bool.false_eq_true,if_false];show Ch (wpAny_letGo ?_);rw[nm];exact FB #[plainId_quiet F.plain_max_loop _,ih (i+1) (some m) [.int m t,.int m t] c _ (by cbv) gq (by rw[hb,dj,if_neg hg]) (.inr #[m,t,U,U]) I1 hit' hS']
theorem Hq{A:Fk}{E:UP}{s:Da}{a d:AT}{Q:UP}(h:Db (model X.prog X.w) A.in1 (FS.«max» #[[a],[("default",d)]]) (λfin s2=>match fin with
   | .done f=>(match (Except.ok f:Result) with | .ok (.ret v)=>Q v s2 | .ok _=>False | .error e=>E e s2)
   | .again c=>c.quiet=true/\codeAny (model X.prog X.w) A c (wants Q E) s2) E s):Db (model X.prog X.w) A (call (.builtin "max") [a] [("default",d)]) Q E s:=by
 show wpAny_call (codeAny_call_builtin F.plain_max F.entry_max ?_);have ha:=yz a d;simp only[checkBuiltinCall,F.kind_max];cases hg:Manifest.signature? "max" with
 | none=>exact FB h
 | some g =>
  simp only[argsOk,hg] at ha;show wpAny_of_eq (show Bind.checkArgs "max" g #[[a],[("default",d)]]=pure Unit.unit from ha) h
theorem yX{E:UP}{s:Da}{l:AC}{ns:!Int}{d:AT}{Q:UP}(hh:X.A.handled=none)(I:Inv X Sc σ H s)(hl:dR X.K H l (ns.map V.int))(q:∀ v s',Inv X Sc σ H s'->(match dj none ns with | none=>v=d | some m=>RelV (.int m) v)->Q v s') :
  Db (model X.prog X.w) X.A (call (.builtin "max") [.ref l] [("default",d)]) Q E s:=by
 let(its,rv,pl,_):=I.list hl;have nm:(toString "max"++toString ".loop":String)="max.loop":=by decide
 show Hq ?_;change Db _ _ (FS.Builtins.bindParams "max" ["key","default"] 0 #[[],[("default",d)]] >>= _) _ _ _;show Ch (wpAny_of_eq (show FS.Builtins.bindParams "max" ["key","default"] 0 #[[],[("default",d)]]=pure [none,some d] from U) (Ch (FB (Ch (wpAny_pyIter_list pl.isList (Ch (PP ?_)))))));rw[nm];have I1:=I.kept (h':=s.heap.push { cls:=.type "list_iterator",data:=.fields #v[.ref l,.int 0 0] }) (t':=s.toks) λb u z=>Su _ z;have I2:=I1.kept (h':=(s.heap.push { cls:=.type "list_iterator",data:=.fields #v[.ref l,.int 0 0] }).push { cls:=.type "list",data:=.seq #v[] }) (t':=s.toks) λb u z=>Su _ z;have hz:(s.heap.push { cls:=.type "list_iterator",data:=.fields #v[.ref l,.int 0 0] }).objs.size=↑s+1:=Th _ _;show FB #[plainId_quiet F.plain_max_loop _,yD (A:=X.A) hh (I.mq (Sx _) (I.bj.fresh (Sx _))) (I.mq (by change _<=(s.heap.push _).objs.size;rw[hz];cbv) (I.bj.fresh (by change _<=(s.heap.push _).objs.size;rw[hz];cbv))) (by change _≠(s.heap.push _).objs.size;rw[hz];cbv) hl q _ 0 none [] 0 _ U (S3 _) U (.inl #[U,U]) I2 #[_,Su _ (SH _ U),U,U] (SH _ U)]
def Lg(K:Frag)(t:TA)(u:TE):TE:=λσ H Q=>t σ H λvs H1=>u σ H1 λdv H2=>∃ (a:AC) (ns:!Int) (i:Int),vs=[.ref a]/\dv=.int i/\dR K H2 a (ns.map V.int)/\Q (.int ((dj none ns).getD i)) H2
theorem DV{p pos kp:Pos}{a e:Cl}{t:TA}{u:TE}(hc:X.calm=true)(hg:Gl X "max")(hm:X.mg "max"=none)(ha:PA X [a] t)(he:PE X e u)(hs:(GM [a] X.env=[(false,eval a X.env)])⁻¹):PE X (.Call (.Name "max" p) [a] [#[some "default",e,kp]] pos) (Lg X.K t u):=by
 intro Sc s σ H Q I h;show II (gj I hg hm (u:=.builtin "max") PyProof.Rows.boot_max ?_);have hb:IR pos (GM [a] X.env)=(false,eval a X.env)::IR pos (GM [] X.env):=by rw[hs];rfl
 show PyProof.Rows.callWith_kw (bx (ha pos Sc s σ H _ I h) λus s1 zz=>el2 zz λvs H1 I1 r1 q1=>?_) hb (by rw[hb];rfl) U U;show kws_cons (bx (he Sc s1 σ H1 _ I1 q1) λcu s2 zz=>el2 zz λcv H2 I2 rc q2=>kws_nil ?_);let(b,ns,i,rfl,rfl,hq,q):=q2;let(u0,rfl,ru):=Vals.one r1;cases ru;let(tk,rfl):=rc;show yX (I2.ok.hd hc) I2 hq λv s3 I3 hv=>#[.int ((dj none ns).getD i),H2,I3,?_,q];cases hbI:dj none ns with
 | none=>rw[hbI] at hv;rw[show v=_ from hv];exact#[tk,U]
 | some m=>rw[hbI] at hv;exact hv
end
end L2
namespace DL
open PySem PySem.Spec L2
section
variable{X:Cx}{c:Ent}
def LW(ta:eF)(te:aW):aW:=λs Q=>ta s λds s1=>te s1 λd s2=>∃ (ns:!Int) (i:Int),ds=[.lst (ns.map .int)]/\d=.int i/\Q (.int ((dj none ns).getD i)) s2
theorem uo{K:Frag}{H:Hp}{M:AC->Prop}:∀ {ns:!Int} {vs:!V},aw K H M (ns.map .int) vs->vs=ns.map V.int
 | [],vs,r=>r
 | n::ns,vs,r=>by
  let(x,xr,rfl,r1,r2):=r;have r1:x=.int n:=r1;rw[r1,uo r2,SA]
theorem Az{p pos kp:Pos}{a e:Cl}{ta:eF}{te:aW}(hm:X.mg "max"=none)(ha:DA X c [a] ta)(he:DE X c e te)(hc:(X.calm=true)⁻¹)(hg:(Gl X "max")⁻¹)(hs:(GM [a] X.env=[(false,eval a X.env)])⁻¹):DE X c (.Call (.Name "max" p) [a] [#[some "default",e,kp]] pos) (LW ta te) :=
 #[(DV hc hg hm ha.pa he.pe hs).imp λσ H Q zz=>cU zz λM s as R L q k=>#[M,s,as,_,L,q,λds s1 q1 M1 H1 vs L1 E1 r1 hl=>#[M1,s1,as,_,L1,q1,λd s2 z M2 H2 v Lb E2 rv=>by
   let(ns,i,rfl,rfl,q2):=z;let(w,rfl,p,ys,rfl,(m,h),r'):=cJ r1;rw[uo r'] at h;have rv:v=.int i:=rv;subst rv;exact#[p,ns,i,U,U,.of ((E2.xY L1) p _ m h),k _ s2 q2 M2 H2 _ Lb (E1.trans L1.base E2) U]]]]
end
end DL
namespace L2
open PySem PySem.Calls PyProof.Rows PyProof.V PySem.Spec
theorem CK(n:Nat):FS.Slice.sliceAdjust none none (-1) (n:Int)=((n:Int) - 1,-1):=by
 unfold FS.Slice.sliceAdjust;simp
theorem HC(n:Nat):FS.Slice.slicePlaces ((n:Int) - 1) (-1) (-1)=n:=by
 unfold FS.Slice.slicePlaces;have h1:¬ ((-1:Int) > 0):=by cbv
 simp only[h1,if_false];rw[show (- -1:Int)=1 by decide,Int.ediv_one];split<;>cbv
theorem By(xs:Array AT):((List.range xs.size).filterMap λ(k:Nat)=>xs[(((xs.size:Int) - 1)+(k:Int) * (-1)).toNat]?).toArray=xs.toList.reverse.toArray:=by
 congr 1
 have go:∀ l:!Nat,(∀ k∈l,k < xs.size)->l.filterMap (λ(k:Nat)=>xs[(((xs.size:Int) - 1)+(k:Int) * (-1)).toNat]?)=l.map λk=>xs.toList.reverse.getD k .none:=by
  intro l
  induction l with
  | nil=>intro _;rfl
  | cons k l ih =>
   intro h;have hk:=h k (SD ..);have e1:(((xs.size:Int) - 1)+(k:Int) * (-1)).toNat=xs.size - 1 - k:=by cbv
   rw[List.filterMap_cons,e1,Array.getElem?_eq_getElem (by cbv),SA,ih λj hj=>h j (Sy _ hj)];simp[List.getElem?_reverse,hk]
 have e:=go (List.range xs.size) λk hk=>T8.mp hk;rw[e];apply List.ext_getElem?;intro i;rw[Tb];by_cases hi:i < xs.size
 .rw[List.getElem?_range hi];have hl:i < xs.toList.reverse.length:=by simpa using hi
  rw[SJ hl];simp[hi]
 .rw[List.getElem?_eq_none (by simpa using hi),List.getElem?_eq_none (by simpa using hi)]
  rfl
section
variable{X:Cx}
def JX(K:Frag)(te:TE):TE:=λσ H Q=>te σ H λx H1=>∃ a xs,x=.ref a/\jS K H1 a xs/\∀ l,H1 l=none->Q (.ref l) (upd H1 l (.tup xs.reverse))
theorem Dw{e st:Cl}{te:TE}{p2 pos:Pos}(he:PE X e te)(lQ:PE X st (tC (.int (-1)))):PE X (.Subscript e (.Slice none none (some st) p2) pos) (JX X.K te):=by
 intro Sc s σ H Q I h;show Subscript_ (bx (he Sc s σ H _ I h) λv s1 #[x,H1,I1,r1,a,xs,ex,hq,q]=>?_);subst ex;cases r1;show wpAny_Slice ?_;rw[evalPart_none];show FB ?_;show FB ?_;rw[evalPart_some];show bx (lQ Sc s1 σ H1 (λx H'=>x=.int (-1)/\H'=H1) I1 #[U,U]) λu s2 #[x,H2,I2,r2,ex,eH]=>?_;subst ex eH;let(t,rfl):=r2;let(its,r,ht,hz):=I2.tuple hq;have hlen:=r.length;have I3:Inv X Sc σ H2 { s2 with heap:=s2.heap.push { cls:=.type "slice",data:=.fields #v[.none,.none,.int (-1) t] } }:=I2.kept (t':=s2.toks) λb ob q=>Su _ q;have ht':IsTup (s2.heap.push { cls:=.type "slice",data:=.fields #v[.none,.none,.int (-1) t] }) a its.toArray:=ht.keeps λ_ _ e=>Su _ e;have hS:(s2.heap.push { cls:=.type "slice",data:=.fields #v[.none,.none,.int (-1) t] }).get? ↑s2=some { cls:=.type "slice",data:=.fields #v[.none,.none,.int (-1) t] }:=SH _ U;change Db (model X.prog X.w) X.A (subscriptTail e (.Slice none none (some st) p2) (.ref a) (.ref ↑s2)) (EP X Sc σ Q) X.xe { s2 with heap:=s2.heap.push { cls:=.type "slice",data:=.fields #v[.none,.none,.int (-1) t] } };show tail_any (ops:=[.ref a,.ref ↑s2]) ht'.typeIs slot_tuple_getitem.lookup ?_ (by with_unfolding_all rfl);unfold getItem
 try with_reducible show NE ?_
 first | show Ch (FB ?_) | skip
 show Ch (wpAny_sequenceKey ht'.typeIs () ?_);show Ch (wpAny_callSpecial?_slot (name:=Str.ofString "__getitem__") ht'.typeIs slot_tuple_getitem (SL slot_tuple_getitem ht'.typeIs entry_tuple_getitem ?_ (args_tuple_getitem _ _)));show Ch (m:=FS.Tuple.tupleItemsOf (.ref a)) (tupleItemsOf_ ht' ?_);show Ch (wpAny_typeOf (#[_,hS,U]:Da.TypeIs { s2 with heap:=s2.heap.push { cls:=.type "slice",data:=.fields #v[.none,.none,.int (-1) t] } } (.ref ↑s2) "slice") ?_);rw[if_pos ()];show Ch ?_;unfold FS.Slice.sliceApplied FS.Slice.sliceFields;show Ch (Ch (KB hS U (x:=.none) U (Ch (KB hS U (x:=.none) U (Ch (KB hS U (x:=.int (-1) t) U (FB ?_)))))));show Ch (slicePart_int ?_);show wpAny_ite_split (λz=>absurd z ()) (λ_=>?_);show Ch (slicePart_none (Ch (slicePart_none (Ch (FB ?_)))));show (show Db _ _ (match FS.Slice.sliceAdjust none none (-1) ((its.toArray.size:Nat):Int) with | (lo,hi)=>pure (lo,(-1:Int),FS.Slice.slicePlaces lo hi (-1))) _ _ _ from ?_);rw[CK];show FB ?_;rw[HC];show wpAny_ite_split (λz=>absurd z (by simp)) (λ_=>?_);rw[By];have fin:EP X Sc σ Q (.ref (s2.heap.push { cls:=.type "slice",data:=.fields #v[.none,.none,.int (-1) t] }).objs.size) { s2 with heap:=(s2.heap.push { cls:=.type "slice",data:=.fields #v[.none,.none,.int (-1) t] }).push { cls:=.type "tuple",data:=.seq its.toArray.toList.reverse.toArray } } :=
  #[.ref _,_,I3.laid (t':=s2.toks) (o:=.tup xs.reverse) (λb ob q=>EQ.get?_push_of_some _ q) (Nat.le_refl _) #[by rw[List.length_reverse];exact hz,its.reverse,r.reverse,_,EQ.get?_push_size _ U,U,0,by simp],U,q _ (I3.bj.fresh (Nat.le_refl _))]
 have hsz:sizeOk (.seq its.toArray.toList.reverse.toArray):=by
  change its.toArray.toList.reverse.toArray.size<=Ev;simp;cbv
 first
  | exact Ch (m:=FS.Tuple.tupleExact _) (PP (FB #[_,U,FB fin]) hsz)
  | exact Ch (Ch (m:=FS.Tuple.tupleExact _) (PP (FB (FB #[_,U,FB fin])) hsz))
  | exact Ch (Ch (m:=FS.Tuple.tupleExact _) (PP (FB #[_,U,FB fin]) hsz))
end
end L2
namespace DL
open PySem PySem.Spec L2
open PyProof.Rows hiding St
section
variable{X:Cx}{c:Ent}
def JO:D->(D->Prop)->Prop:=λa k=>∃ ds,a=.tup ds/\k (.tup ds.reverse)
theorem G9{e st:Cl}{te:aW}{p2 pos:Pos}(he:DE X c e te)(lQ:PE X st (tC (.int (-1)))):DE X c (.Subscript e (.Slice none none (some st) p2) pos) (O0 JO te):=#[(Dw he.pe lQ).imp λσ H Q zz=>cU zz λM s as R L q k =>
 #[M,s,as,_,L,q,λd s1 z5r M1 H1 v L1 E1 rv=>by
  let(ds,e,q1):=z5r;subst e;let(p,xs,rfl,t,r):=rv;exact#[p,xs,U,t.sq,λb hb=>k _ s1 q1 _ _ _ (L1.fresh hb) (E1.trans L1.base (Ext.fresh hb)) #[b,_,U,#[.inr U,ay],iV hb r.reverse]]]]
end
end DL
namespace L2
open PySem PySem.Spec
open PyProof.Rows hiding St
section
variable{X:Cx}{e:Cl}{es:!Cl}{te:TE}{pos:Pos}
abbrev TJ:=Str->St->Hp->(Str->Hp->Prop)->Prop
def PJ(X:Cx)(es:!Cl)(t:TJ):Prop:=∀ (Sc:UQ) (s:Da) (σ:St) (H:Hp) (acc:Str) (Q:Str->Hp->Prop),Inv X Sc σ H s->t acc σ H Q->Joins (model X.prog X.w) X.A X.xe (evalEach es X.env) acc (λout s1=>∃ H',Inv X Sc σ H' s1/\Q out H') s
theorem HI:PJ X [] λacc _ H Q=>Q acc H:=λSc s σ H acc Q I h=>#[H,I,h]
theorem C7{t:TJ}(he:PE X e te)(hr:PJ X es t):PJ X (e::es) λacc σ H Q=>te σ H λv H1=>∃ y,v=.str y/\(acc++y).length<=Ev/\t (acc++y) σ H1 Q:=λSc s σ H acc Q I h=>bx (he Sc s σ H _ I h) λu s1 z=>by
 let(x,H1,I1,r,y,rfl,hl,q):=z;let(t,rfl):=(show ∃ t,u=AT.str y t from r);exact#[y,t,U,hl,hr Sc s1 σ H1 _ Q I1 q]
theorem yT{e2:Cl}{t:TJ}(h:PJ X (e::e2::es) t):PE X (.JoinedStr (e::e2::es) pos) λσ H Q=>t Str.empty σ H λout H1=>out.length<=Ev/\Q (.str out) H1:=λSc s σ H Q I q=>wpAny_JoinedStr (by
 have:=h Sc s σ H _ _ I q;show oq this λout s1 z=>?_;let(H1,I1,hl,q1):=z;exact#[hl,.str out,H1,I1.tok _,#[_,U],q1])
where oq {M:Model} {A:Fk} {E:UP}:∀ {l:!(Sem AT)} {acc:Str} {Q Q':Str->Da->Prop} {s:Da},Joins M A E l acc Q s->(∀ o s,Q o s->Q' o s)->Joins M A E l acc Q' s
 | [],acc,Q,Q',s,h,k=>k _ _ h
 | x::l,acc,Q,Q',s,h,k=>bx (show Db M A x _ E s from h) λv s1 z=>by
  let(y,t,e,hl,q):=z;exact#[y,t,e,hl,oq q k]
def Nh(te:TE):TE:=λσ H Q=>te σ H λv H1=>(∃ i:Int,v=.int i/\i.natAbs.log2 < 1920/\Q (.str (toString i)) H1)\/∃ x,v=.str x/\x.length<=Ev/\Q (.str x) H1
theorem Fl(he:PE X e te):PE X (.FormattedValue e (-1) none pos) (Nh te):=λSc s σ H Q I h=>wpAny_FormattedValue_plain (bx (he Sc s σ H _ I h) λu s1 z=>by
 let(v,H1,I1,r,z):=z;rcases z with ⟨i,rfl,hi,q⟩ | ⟨x,rfl,hx,q⟩
 .let(t,rfl):=(show ∃ t,u=AT.int i t from r);exact wpAny_formatField_int hi #[.str (toString i),H1,I1.tok _,#[_,U],q]
 .let(t,rfl):=(show ∃ t,u=AT.str x t from r);exact wpAny_formatField_str #[.str x,H1,I1,#[_,U],q] #[.str x,H1,I1.tok _,#[_,U],q] hx)
end
end L2
namespace DL
open PySem PySem.Spec L2
open PyProof.Rows hiding St
section
variable{X:Cx}{c:Ent}{e:Cl}{es:!Cl}{te:aW}{pos:Pos}
abbrev EC:=Str->DS->(Str->DS->Prop)->Prop
def Q9(K:Frag)(c:Ent)(t:EC):TJ:=λacc σ H Q=>∃ M s as R,aA K c M s as σ H/\t acc s R/\∀ o s',R o s'->∀ M' H',aA K c M' s' as σ H'->Ext c as M s H M' s' H'->Q o H'
structure DJ(X:Cx)(c:Ent)(es:!Cl)(t:EC):Prop where
 pj:PJ X es (Q9 X.K c t)
def LD:EC:=λacc s Q=>Q acc s
def Hc(te:aW)(t:EC):EC:=λacc s Q=>te s λd s1=>∃ y,d=.str y/\(acc++y).length<=Ev/\t (acc++y) s1 Q
theorem F8:DJ X c [] LD:=#[λSc s σ H acc Q I zz=>cU zz λM s0 as R L q k=>HI Sc s σ H acc Q I (k acc s0 q M H L .refl)]
theorem rL{t:EC}(he:DE X c e te)(hr:DJ X c es t):DJ X c (e::es) (Hc te t):=#[λSc s σ H acc Q I zz=>cU zz λM s0 as R L q k=>C7 he.pe hr.pj Sc s σ H acc Q I
 #[M,s0,as,_,L,q,λd s1 z M1 H1 v L1 E1 rv=>by
  let(y,rfl,hl,q1):=z;exact#[y,rv,hl,M1,s1,as,_,L1,q1,λo s2 r M2 H2 L2 E2=>k o s2 r M2 H2 L2 (E1.trans L1.base E2)]]]
def Fg(t:EC):aW:=λs Q=>t Str.empty s λo s1=>o.length<=Ev/\Q (.str o) s1
theorem A8{e2:Cl}{t:EC}(h:DJ X c (e::e2::es) t):DE X c (.JoinedStr (e::e2::es) pos) (Fg t):=#[(yT h.pj).imp λσ H Q zz=>cU zz λM s as R L q k =>
 #[M,s,as,_,L,q,λo s1 z M1 H1 L1 E1=>#[z.1,k _ s1 z.2 M1 H1 _ L1 E1 U]]]
def Pg:D->(D->Prop)->Prop:=λd k=>(∃ i:Int,d=.int i/\i.natAbs.log2 < 1920/\k (.str (toString i)))\/∃ x,d=.str x/\x.length<=Ev/\k (.str x)
theorem Es(he:DE X c e te):DE X c (.FormattedValue e (-1) none pos) (O0 Pg te):=#[(Fl he.pe).imp λσ H Q zz=>cU zz λM s as R L q k =>
 #[M,s,as,_,L,q,λd s1 z M1 H1 v L1 E1 rv=>by
  rcases z with ⟨i,rfl,hi,r⟩ | ⟨x,rfl,hx,r⟩
  .exact .inl #[i,rv,hi,k _ s1 r M1 H1 _ L1 E1 U]
  .exact .inr #[x,rv,hx,k _ s1 r M1 H1 _ L1 E1 U]]]
end
end DL
namespace DL
open PySem L2
section
variable{X:Cx}{c:Ent}{a b e:Cl}{pos:Pos}{ta tb tc:aW}
def xx(C C':D->D->(D->Prop)->Prop)(ta tb tc:aW):aW:=λs Q=>ta s λa s1=>tb s1 λb s2=>C a b λd=>∃ k,d=.bl k/\if k=true then tc s2 λe s3=>C' b e λz=>Q z s3 else Q (.bl false) s2
theorem G3{r r':R2}{C C':D->D->(D->Prop)->Prop}(k:mG X c r C)(k':mG X c r' C'){σ:St}{H:Hp}{Q:VK}:tE X.K c (xx C C' ta tb tc) σ H Q->vW r r' (tE X.K c ta) (tE X.K c tb) (tE X.K c tc) σ H Q:=λzz=>cU zz λM s as R L q kk =>
 #[M,s,as,_,L,q,λda s1 q1 M1 H1 x L1 E1 r1=>#[M1,s1,as,_,L1,q1,λdb s2 q2 M2 H2 y Lb E2 r2 =>
  k M2 s2 as σ H2 x y da db _ _ Lb (E2.rep L1 r1) r2 q2 λd rd M' H' v L' E' rv=>by
   let(kb,rfl,rd):=rd;show#[kb,rv,?_];have E4:=(E1.trans L1.base E2).trans Lb.base E';cases kb with
   | false=>exact kk (.bl false) s2 rd M' H' _ L' E4 U
   | true=>exact#[M',s2,as,_,L',rd,λde s3 q3 M3 H3 w Lc E3 r3=>k' M3 s3 as σ H3 y w db de (λd=>R d s3) Q Lc (E3.rep L' (E'.rep Lb r2)) r3 q3 λd rd M4 H4 v L4 E5 rv=>kk d s3 rd M4 H4 v L4 ((E4.trans L'.base E3).trans Lc.base E5) rv]]]
theorem Bw{op Ao:CmpOp}{r r':R2}{C C':D->D->(D->Prop)->Prop}(ho:gQ X (IN op) r)(yV:gQ X (IN Ao) r')(k:mG X c r C)(k':mG X c r' C')(ha:DE X c a ta)(hb:DE X c b tb)(hc:DE X c e tc)(hm:lastMarks [op,Ao] [b,e]=false:=by with_unfolding_all rfl):DT X c (.Compare a [op,Ao] [b,e] pos) (EX (xx C C' ta tb tc)):=#[(tU ho yV ha.pe hb.pe hc.pe hm).imp λ_ _ _=>gX (G3 k k')]
end
end DL
namespace DL
open PySem PySem.Spec L2
open PyProof.Rows hiding St
section
variable{X:Cx}{c:Ent}
theorem Dl{ty td:aW}{σ:St}{H:Hp}{Q:VK}:tE X.K c (xo true ty td) σ H Q->wR (tE X.K c ty) (tE X.K c td) σ H Q:=λzz=>cU zz λM s as R L q kk =>
 #[M,s,as,_,L,q,λdy s1 q1 M1 H1 y L1 E1 ry=>#[M1,s1,as,_,L1,q1,λd s2 z6r M2 H2 v Lb E2 rv=>by
  let(hd,q2):=z6r;let(a,o,rfl,f1,f2):=rv.dc hd;let(ov,od,w1,w2,w3):=qM q2 f1 f2 (E2.rep L1 ry);show#[a,ov,U,w1,?_];have e:ov.isSome=od.isSome:=by
   rcases w3 with ⟨rfl,rfl⟩ | ⟨v,x,rfl,rfl,rx⟩<;>rfl
  rw[e];exact kk _ s2 w2 M2 H2 _ Lb (E1.trans L1.base E2) U]]
theorem C8{i o:Cl}{pos:Pos}{ty td:aW}(hu:X.A.units+1 < cLine)(hi:DE X c i ty)(ho:DE X c o td)(h1:(behindInMarks .NotIn o=false)⁻¹):DT X c (.Compare i [.NotIn] [o] pos) (EX (xo true ty td)) :=
 #[(BD (yj hu hi.pe ho.pe) h1).imp λσ H Q q=>gX Dl q]
def OZ:D->D->(D->Prop)->Prop:=λa b k=>∃ i j,a=.str i/\b=.str j/\k (.bl (not (decide (j.cps.toList < i.cps.toList))))
theorem Ej:mG X c (λx y H Q=>∃ i j,x=.str i/\y=.str j/\Q (.bl (not (decide (j.cps.toList < i.cps.toList)))) H) OZ:=λM s as σ H x y dx dy k Q L rx ry z7r kk=>by
 let(i,j,e1,e2,hk):=z7r;subst e1 e2;exact#[i,j,rx,ry,kk _ hk M H _ L .refl U]
end
end DL
namespace DL
open PySem L2
section
variable{X:Cx}{c:Ent}
def Mh(i j:Nat)(ta:eF):jc:=λR s=>ta s λds s1=>∃ x y,ds=[x,y]/\R.nx ((s1.set i (.dat x)).set j (.dat y))
theorem Je{i j:Nat}{st:FM}{ta:eF}(h:PS X st (KZ i j (tA X.K c 2 ta))):o5 X c st (Mh i j ta):=#[h.imp λE σ H zz=>cU zz λM s as R L q k =>
 #[M,s,as,_,L,q,λds s1 z8r M' H' vs L' E' rv hl=>by
  let(x,y,e,r):=z8r;subst e;let(v,us,rfl,r1,r2):=rv;let(w,rfl,r3):=cJ r2;exact#[v,w,U,k.nx _ as M' _ H' r ((L'.B6 i r1).B6 j r3) (E'.grow L)]]]
end
inductive Vn where
 | w (x:Str) | p (a b:Int)
inductive Vl where
 | num (i:Int) | ff (k:Bool) (n:Vn) (as:!Vl)
def Ei:Vn->D
 | .w x=>.str x
 | .p a b=>.tup [.int a,.int b]
mutual
noncomputable def vD:Vl->D
 | .num i=>.int i
 | .ff k n as=>.tup [.str (a9 k),Ei n,.tup (BH as)]
noncomputable def BH:!Vl->!D
 | []=>[]
 | v::r=>vD v::BH r
end
mutual
noncomputable def Vl.th:Vl->Nat
 | .num _=>0
 | .ff _ _ as=>1+jU as
noncomputable def jU:!Vl->Nat
 | []=>0
 | v::r=>v.th+jU r
end
mutual
noncomputable def Vl.dp:Vl->Nat
 | .num _=>0
 | .ff _ _ as=>1+kE as
noncomputable def kE:!Vl->Nat
 | []=>0
 | v::r=>max v.dp (kE r)
end
mutual
noncomputable def Vl.sz:Vl->Nat
 | .num _=>1
 | .ff _ _ as=>1+fe as
noncomputable def fe:!Vl->Nat
 | []=>0
 | v::r=>v.sz+fe r
end
def bZ(c:Nat):!(!Nat)->!Nat
 | []=>[]
 | a::l=>a++l.flatMap (c::·)
def ig:Vn->!Nat
 | .w x=>cd x
 | .p a b=>cd (cH a)++46::cd (cH b)
def HX(k:Bool)(n:!Nat)(ts:!(!Nat)):!Nat:=if k=true then 91::(bZ 32 (n::ts)++[93]) else n++40::(bZ 44 ts++[41])
mutual
noncomputable def Vl.T:Vl->!Nat
 | .num i=>cd (cH i)
 | .ff k n as=>HX k (ig n) (eK as)
noncomputable def eK:!Vl->!(!Nat)
 | []=>[]
 | v::r=>v.T::eK r
end
def Vn.G:Vn->Prop
 | .w x=>x.length<=8/\GE.strOk x=true
 | .p a b=>(0<=a/\a < 1000000)/\0<=b/\b < 1000000
mutual
noncomputable def Vl.G:Vl->Prop
 | .num i=>0<=i/\i < 1000000
 | .ff _ n as=>n.G/\as.length<=3/\zc as
noncomputable def zc:!Vl->Prop
 | []=>True
 | v::r=>v.G/\zc r
end
theorem c9:∀ as:!Vl,BH as=as.map vD
 | []=>rfl
 | v::r=>by rw[BH,c9 r];rfl
theorem j0:∀ as:!Vl,eK as=as.map Vl.T
 | []=>rfl
 | v::r=>by rw[eK,j0 r];rfl
theorem rJ:∀ as:!Vl,jU as=(as.map Vl.th).sum
 | []=>rfl
 | v::r=>by rw[jU,rJ r];rfl
theorem jX:∀ {as:!Vl},zc as->∀ v∈as,v.G
 | [],_,v,h=>nomatch h
 | u::r,h,v,hv=>by
  rcases SO.mp hv with rfl | hv
  .exact h.1
  .exact jX h.2 v hv
theorem AX:∀ {as:!Vl},(∀ v∈as,v.G)->zc as
 | [],_=>trivial
 | u::r,h=>#[h u SD,AX λv hv=>h v (Sy _ hv)]
theorem rF:∀ {as:!Vl} {v:Vl},v∈as->v.sz<=fe as
 | [],v,h=>nomatch h
 | u::r,v,h=>by
  change _<=u.sz+fe r;rcases SO.mp h with rfl | h
  .cbv
  .have:=rF h;cbv
theorem rh(v:Vl):1<=v.sz:=by cases v<;>(unfold Vl.sz;cbv)
theorem qC:∀ as:!Vl,as.length<=fe as
 | []=>Sx _
 | u::r=>by
  change r.length+1<=u.sz+fe r;have:=qC r;have:=rh u;cbv
theorem wz:∀ a b:!Vl,fe (a++b)=fe a+fe b
 | [],b=>by rw[List.nil_append];simp[fe]
 | u::r,b=>by
  change u.sz+fe (r++b)=u.sz+fe r+fe b;rw[wz r b];cbv
theorem xa:∀ a b:!Vl,jU (a++b)=jU a+jU b
 | [],b=>by rw[List.nil_append];simp[jU]
 | u::r,b=>by
  change u.th+jU (r++b)=u.th+jU r+jU b;rw[xa r b];cbv
mutual
theorem B5:∀ v:Vl,v.G->v.sz<=4 * v.th+1/\v.th<=v.sz/\v.dp<=v.th
 | .num _,_=>#[Sx _,S3 _,Sx _]
 | .ff k n as,h=>by
  let(h1,h2,h3):=qF as h.2.2;have:=h.2.1;change 1+fe as<=4 * (1+jU as)+1/\1+jU as<=1+fe as/\1+kE as<=1+jU as;cbv
theorem qF:∀ as:!Vl,zc as->fe as<=4 * jU as+as.length/\jU as<=fe as/\kE as<=jU as
 | [],_=>#[Sx _,Sx _,Sx _]
 | v::r,h=>by
  let(h1,h2,h3):=B5 v h.1;let(h4,h5,h6):=qF r h.2;change v.sz+fe r<=4 * (v.th+jU r)+(r.length+1)/\v.th+jU r<=v.sz+fe r/\max v.dp (kE r)<=v.th+jU r;cbv
end
theorem rV:∀ {as:!Vl} {v:Vl},v∈as->v.dp<=kE as
 | [],v,h=>nomatch h
 | u::r,v,h=>by
  change _<=max u.dp (kE r);rcases SO.mp h with rfl | h
  .cbv
  .have:=rV h;cbv
theorem rP{n:Vn}(h:n.G):(ig n).length<=17:=by
 cases n with
 | w x =>
  rw[ig,k7];exact SI h.1 ()
 | p a b =>
  have h1:=eA h.1.1 h.1.2;have h2:=eA h.2.1 h.2.2;rw[ig,Sv,SG,k7,k7];cbv
theorem uO(c:Nat):∀ ts:!(!Nat),(ts.flatMap (c::·)).length=(ts.map List.length).sum+ts.length
 | []=>rfl
 | t::r=>by
  rw[TU,Sv,uO c r,SA,T5,SG,SG];cbv
theorem fj(c:Nat)(ts:!(!Nat)):(bZ c ts).length<=(ts.map List.length).sum+ts.length:=by
 cases ts with
 | nil=>exact Sx _
 | cons t r =>
  rw[bZ,Sv,uO,SA,T5,SG];cbv
theorem Cp(k:Bool)(n:!Nat)(ts:!(!Nat)):(HX k n ts).length<=n.length+(ts.map List.length).sum+ts.length+3:=by
 unfold HX;cases k with
 | true =>
  rw[if_pos U,SG,Sv];have:=fj 32 (n::ts);rw[SA,T5,SG] at this;simp only[List.length_cons,List.length_nil];cbv
 | false =>
  rw[if_neg (),Sv,SG,Sv];have:=fj 44 ts;simp only[List.length_cons,List.length_nil];cbv
mutual
theorem Ek:∀ v:Vl,v.G->v.T.length<=30 * v.sz
 | .num i,h=>by
  change (cd (cH i)).length<=30 * 1;rw[k7];exact SI (eA h.1 h.2) ()
 | .ff k n as,h=>by
  have h1:=rP h.1;have h2:=nE as h.2.2;have h3:=h.2.1;have h4:=Cp k (ig n) (eK as);have h5:(eK as).length=as.length:=by rw[j0,Ss]
  change (HX k (ig n) (eK as)).length<=30 * (1+fe as);cbv
theorem nE:∀ as:!Vl,zc as->((eK as).map List.length).sum<=30 * fe as
 | [],_=>Sx _
 | v::r,h=>by
  have h1:=Ek v h.1;have h2:=nE r h.2;change v.T.length+((eK r).map List.length).sum<=30 * (v.sz+fe r);cbv
end
theorem kZ(c:Nat):∀ zs:!(!Nat),Txt.join (bA [c]) (zs.map bA)=bA (bZ c zs)
 | []=>rfl
 | a::l=>by
  show eZ ?_;change cd (FS.Str.glued (bA [c]) ((a::l).map bA))=_;rw[StrLaws.glued_eq_join]
  induction l generalizing a with
  | nil=>simp[PySem.Str.join,bZ]
  | cons b l ih =>
   change cd (bA a++bA [c]++PySem.Str.join (bA [c]) ((b::l).map bA))=_;rw[c8,c8,ih b];change a++[c]++(b++l.flatMap (c::·))=a++(c::b++l.flatMap (c::·));simp
inductive Itm where
 | val (k:Str) (v:Vl) | sg (c:!Nat) | gB (k:Bool) (m:Str) (as:!Vl)
def D7(c:!Nat):D:=.tup [.str "sign",.str (bA c)]
def FP(k:Str):D:=.tup [.str "value",.str k]
def rX:Itm->D
 | .val k _=>FP k
 | .sg c=>D7 c
 | .gB k m as=>.tup [.str "thing",.str (a9 k),.str m,.int as.length]
def Fi:Itm->!Nat
 | .val _ v=>v.T
 | .sg c=>c
 | .gB _ _ _=>[]
def txt(st:!Itm):!Nat:=st.flatMap Fi
def stop(c:Nat):Prop:=c < 48\/(57 < c/\c < 97)\/122 < c
def ko:!Itm->Prop
 | []=>True
 | .val _ _::r=>((∃ c r',r=.sg [c]::r'/\stop c)\/r=[.sg []])/\ko r
 | .sg c::r=>((∃ a,c=[a])\/c=[]/\r=[])/\ko r
 | .gB _ _ _::r=>ko r
mutual
noncomputable def VK(W:bW):Str->Vl->Prop
 | k,.num i=>k="number"/\0<=i/\i < 1000000
 | k,.ff b n as=>∃ kd∈W.kinds,∃ m∈kd.bJ,kd.name=k/\b=kd.asked/\n=.w m.name/\Dx W (m.fs.map (·.2)) as
noncomputable def Dx(W:bW):!Str->!Vl->Prop
 | ks,[]=>ks=[]
 | ks,v::r=>∃ k ks',ks=k::ks'/\VK W k v/\Dx W ks' r
end
theorem hV{W:bW}:∀ {ks:!Str} {as:!Vl},Dx W ks as->as.length=ks.length
 | ks,[],h=>by have h:ks=[]:=h;rw[h];rfl
 | ks,v::r,h=>by
  let(k,ks',rfl,_,h2):=h;rw[SG,SG,hV h2]
theorem qJ{W:bW}:∀ {ks:!Str} {as:!Vl},Dx W ks as->∀ x∈ks.zip as,VK W x.1 x.2
 | ks,[],h,x,hx=>by simp at hx
 | ks,v::r,h,x,hx=>by
  let(k,ks',rfl,h1,h2):=h;rcases List.mem_cons.mp (by simpa using hx) with rfl | hx
  .exact h1
  .exact qJ h2 x hx
mutual
theorem HF{W:bW}(w:gr W):∀ {k:Str} (v:Vl),VK W k v->v.G
 | k,.num i,h=>h.2
 | k,.ff b n as,h=>by
  let(kd,hkd,m,hm,_,_,rfl,hs):=h;let((lw,h1,h8,_),hp):=w.mo kd hkd m hm;show#[#[h8,lw.strOk],?_,Bb w as hs];rw[hV hs,Ss];exact hp.1
theorem Bb{W:bW}(w:gr W):∀ {ks:!Str} (as:!Vl),Dx W ks as->zc as
 | ks,[],h=>trivial
 | ks,v::r,h=>by
  let(k,ks',_,h1,h2):=h;exact#[HF w v h1,Bb w r h2]
end
def vC(g:!D):!Itm->!D->Prop
 | [],ds=>ds=g
 | .val _ v::r,ds=>vC g r (ds++[vD v])
 | .sg _::r,ds=>vC g r ds
 | .gB k m as::r,ds=>∃ d0,ds=d0++as.map vD/\vC g r (d0++[vD (.ff k (.w m) as)])
mutual
noncomputable def Vl.ms:Vl->Nat
 | .num _=>1
 | .ff _ _ as=>5+B8 as
noncomputable def B8:!Vl->Nat
 | []=>0
 | v::r=>1+v.ms+B8 r
end
def Ht:Itm->Nat
 | .val _ v=>v.ms
 | _=>1
def mP(st:!Itm):Nat:=(st.map Ht).sum
theorem F9(v:Vl):1<=v.ms:=by cases v<;>(unfold Vl.ms;cbv)
theorem wZ(i:Itm):1<=Ht i:=by cases i with | val k v=>exact F9 v | _=>exact Sx _
theorem wF:∀ st:!Itm,st.length<=mP st
 | []=>Sx _
 | i::r=>by
  have:=wF r;have:=wZ i;change r.length+1<=Ht i+mP r;cbv
theorem eo(a b:!Itm):mP (a++b)=mP a+mP b:=by simp[mP]
mutual
theorem Er:∀ v:Vl,v.ms+1<=6 * v.sz
 | .num _=>by change 1+1<=6 * 1;cbv
 | .ff _ _ as=>by
  have:=xp as;change 5+B8 as+1<=6 * (1+fe as);cbv
theorem xp:∀ as:!Vl,B8 as<=6 * fe as
 | []=>Sx _
 | v::r=>by
  have:=Er v;have:=xp r;change 1+v.ms+B8 r<=6 * (v.sz+fe r);cbv
end
def y6(k:Bool)(fs:!(Str×Str)):!D:=if k=true then fs.flatMap (λf=>[D7 [32],FP f.2]) else match fs with
 | []=>[]
 | f::r=>FP f.2::r.flatMap (λf=>[D7 [44],FP f.2])
theorem BO(k:Bool)(dn:!(Str×Str))(f:Str×Str):y6 k (dn++[f])=y6 k dn++(if k=true then [D7 [32]] else if dn.isEmpty=true then [] else [D7 [44]])++[FP f.2]:=by
 unfold y6;cases k with
 | true=>simp
 | false =>
  cases dn with
  | nil=>simp
  | cons a r=>simp
theorem CV(dn:!(Str×Str)):(y6 false dn).isEmpty=dn.isEmpty:=by cases dn<;>rfl
theorem qO{α β:Type}{a b:α->β}:∀ l:!α,(l.flatMap λx=>[a x,b x]).length=2 * l.length
 | []=>rfl
 | x::r=>by
  rw[TU,Sv,qO r];change 2+2 * r.length=2 * (r.length+1);cbv
theorem sI(k:Bool)(dn:!(Str×Str)):(y6 k dn).length<=2 * dn.length:=by
 unfold y6;cases k with
 | true=>rw[if_pos U,qO];exact Sx _
 | false =>
  cases dn with
  | nil=>exact Sx _
  | cons a r =>
   change (r.flatMap _).length+1<=2 * (r.length+1);rw[qO];cbv
def Ab(k:Bool)(fs:!(Str×Str)):!D:=if k=true then y6 k fs++[D7 [93]] else D7 [40]::(y6 k fs++[D7 [41]])
def kQ(k:Bool)(zs:!(Str×Vl)):!Itm:=if k=true then zs.flatMap (λx=>[.sg [32],.val x.1 x.2]) else match zs with
 | []=>[]
 | x::r=>.val x.1 x.2::r.flatMap (λx=>[.sg [44],.val x.1 x.2])
def oH(k:Bool)(m:Str)(ks:!Str)(as:!Vl):!Itm:=(if k=true then kQ k (ks.zip as)++[.sg [93]] else .sg [40]::(kQ k (ks.zip as)++[.sg [41]]))++[.gB k m as]
theorem Gs(c:Nat):∀ (fs:!(Str×Str)) (as:!Vl),as.length=fs.length->(((fs.map (·.2)).zip as).flatMap (λx=>[Itm.sg [c],Itm.val x.1 x.2])).map rX=fs.flatMap λf=>[D7 [c],FP f.2]
 | [],as,h=>by simp
 | f::fs,[],h=>by simp at h
 | f::fs,v::as,h=>by
  have:=Gs c fs as (by simpa using h);simp only[List.map_cons,List.zip_cons_cons,List.flatMap_cons,List.map_append,this]
  rfl
theorem zT(k:Bool)(fs:!(Str×Str))(as:!Vl)(h:as.length=fs.length):(kQ k ((fs.map (·.2)).zip as)).map rX=y6 k fs:=by
 unfold kQ y6;cases k with
 | true=>exact Gs 32 fs as h
 | false =>
  match fs,as,h with
  | [],_,_=>rfl
  | f::fs,v::as,h=>exact congrArg (FP f.2::·) (Gs 44 fs as (by simpa using h))
theorem NQ(k:Bool)(m:Str)(fs:!(Str×Str))(as:!Vl)(h:as.length=fs.length):(oH k m (fs.map (·.2)) as).map rX=Ab k fs++[.tup [.str "thing",.str (a9 k),.str m,.int fs.length]]:=by
 have e:rX (.gB k m as)=.tup [.str "thing",.str (a9 k),.str m,.int fs.length]:=by rw[rX,h]
 unfold oH Ab;cases k with
 | true=>rw[if_pos U,if_pos U,Sz,Sz,zT true fs as h,UD,UD,e];rfl
 | false=>rw[if_neg (),if_neg (),Sz,SA,Sz,zT false fs as h,UD,UD,e];rfl
theorem Fc(c:Nat):∀ (ks:!Str) (as:!Vl),as.length=ks.length->txt ((ks.zip as).flatMap (λx=>[Itm.sg [c],Itm.val x.1 x.2]))=(eK as).flatMap (c::·)
 | [],as,h=>by
  have:as=[]:=List.eq_nil_of_length_eq_zero (by simpa using h);rw[this];rfl
 | k::ks,[],h=>by simp at h
 | k::ks,v::as,h=>by
  have:=Fc c ks as (by simpa using h);unfold txt at this ⊢;simp only[List.zip_cons_cons,List.flatMap_cons,List.flatMap_append,this,eK];simp[Fi]
theorem Bi(k:Bool)(ks:!Str)(as:!Vl)(h:as.length=ks.length):txt (kQ k (ks.zip as))=if k=true then (eK as).flatMap (32::·) else bZ 44 (eK as):=by
 unfold kQ;cases k with
 | true=>exact Fc 32 ks as h
 | false =>
  match ks,as,h with
  | [],as,h =>
   have:as=[]:=List.eq_nil_of_length_eq_zero (by simpa using h);rw[this];rfl
  | k::ks,v::as,h =>
   change v.T++txt ((ks.zip as).flatMap _)=v.T++(eK as).flatMap (44::·);rw[Fc 44 ks as (by simpa using h)]
theorem kF(a b:!Itm):txt (a++b)=txt a++txt b:=by simp[txt]
theorem NI(k:Bool)(m:Str)(ks:!Str)(as:!Vl)(h:as.length=ks.length):(Vl.ff k (.w m) as).T=(if k=true then [91] else [])++(cd m++txt (oH k m ks as)):=by
 change HX k (cd m) (eK as)=_;unfold HX oH;cases k with
 | true =>
  rw[if_pos U,if_pos U,if_pos U,kF,kF,Bi true ks as h,if_pos U];simp[bZ,txt,Fi]
 | false =>
  rw[if_neg (),if_neg (),if_neg (),kF];change _=[]++(cd m++((40::txt (kQ false (ks.zip as)++[Itm.sg [41]]))++_));rw[kF,Bi false ks as h,if_neg ()];simp[txt,Fi]
theorem A9{g:!D}(c:Nat){r:!Itm}:∀ (zs:!(Str×Vl)) (ds:!D),vC g (zs.flatMap (λx=>[Itm.sg [c],Itm.val x.1 x.2])++r) ds↔vC g r (ds++zs.map λx=>vD x.2)
 | [],ds=>by simp
 | x::zs,ds=>by
  change vC g (zs.flatMap _++r) (ds++[vD x.2])↔_;rw[A9 c zs,S0]
  rfl
theorem wO{g:!D}(k:Bool){r:!Itm}(zs:!(Str×Vl))(ds:!D):vC g (kQ k zs++r) ds↔vC g r (ds++zs.map λx=>vD x.2):=by
 unfold kQ;cases k with
 | true=>exact A9 32 zs ds
 | false =>
  cases zs with
  | nil=>simp
  | cons x zs =>
   change vC g (zs.flatMap _++r) (ds++[vD x.2])↔_;rw[A9 44 zs,S0]
   rfl
theorem sy:∀ (ks:!Str) (as:!Vl),as.length=ks.length->((ks.zip as).map λx=>vD x.2)=as.map vD
 | [],as,h=>by
  have:as=[]:=List.eq_nil_of_length_eq_zero (by simpa using h);rw[this];rfl
 | k::ks,[],h=>by simp at h
 | k::ks,v::as,h=>by
  have:=sy ks as (by simpa using h);simp only[List.zip_cons_cons,List.map_cons,this]
theorem IV{g:!D}(k:Bool)(m:Str)(ks:!Str)(as:!Vl)(r:!Itm)(ds:!D)(h:as.length=ks.length)(q:vC g r (ds++[vD (.ff k (.w m) as)])):vC g (oH k m ks as++r) ds:=by
 unfold oH;cases k with
 | true =>
  rw[if_pos U,S0,S0];show (wO true _ ds).mpr ?_;exact#[ds,by rw[sy ks as h],q]
 | false =>
  rw[if_neg (),S0];change vC g ((kQ false (ks.zip as)++[Itm.sg [41]])++([Itm.gB false m as]++r)) ds;rw[S0];show (wO false _ ds).mpr ?_;exact#[ds,by rw[sy ks as h],q]
theorem wk{c e:Nat}{r:!Itm}(hc:stop c)(he:stop e)(hr:ko r):∀ zs:!(Str×Vl),ko (zs.flatMap (λx=>[Itm.sg [c],Itm.val x.1 x.2])++Itm.sg [e]::r)
 | []=>#[.inl #[e,U],hr]
 | x::zs=>by
  show#[.inl #[c,U],?_,wk hc he hr zs];cases zs with
  | nil=>exact .inl #[e,r,U,he]
  | cons y zs=>exact .inl #[c,_,U,hc]
theorem GS(k:Bool)(m:Str)(ks:!Str)(as:!Vl){r:!Itm}(hr:ko r):ko (oH k m ks as++r):=by
 unfold oH kQ;have h3:ko (Itm.gB k m as::r):=hr;cases k with
 | true =>
  rw[if_pos U,if_pos U,S0,S0];exact wk (c:=32) (e:=93) (.inl ()) (.inr (.inl ())) h3 _
 | false =>
  rw[if_neg (),if_neg (),S0];show#[.inl #[40,U],?_];change ko ((_++[Itm.sg [41]])++(Itm.gB false m as::r));rw[S0];cases ks.zip as with
  | nil=>exact#[.inl #[41,U],h3]
  | cons x zs =>
   show#[?_,wk (c:=44) (e:=41) (.inl ()) (.inl ()) h3 zs];cases zs with
   | nil=>exact .inl #[41,_,U,.inl ()]
   | cons y zs=>exact .inl #[44,_,U,.inl ()]
theorem Af(c:Nat):∀ (ks:!Str) (as:!Vl),mP ((ks.zip as).flatMap (λx=>[Itm.sg [c],Itm.val x.1 x.2]))<=B8 as
 | [],as=>by simp[mP]
 | k::ks,[]=>by simp[mP]
 | k::ks,v::as=>by
  have:=Af c ks as;rw[List.zip_cons_cons,TU,eo];change (1+(v.ms+0))+_<=1+v.ms+B8 as;cbv
theorem JP(k:Bool)(m:Str)(ks:!Str)(as:!Vl):mP (oH k m ks as)<=B8 as+3:=by
 unfold oH kQ;have s1:∀ i:!Nat,mP [Itm.sg i]=1:=λ_=>rfl;have s2:mP [Itm.gB k m as]=1:=rfl;cases k with
 | true =>
  rw[if_pos U,if_pos U,eo,eo,s1,s2];have:=Af 32 ks as;cbv
 | false =>
  rw[if_neg (),if_neg (),eo,s2,show ∀ l:!Itm,Itm.sg [40]::l=[Itm.sg [40]]++l from λ_=>rfl]
  match ks,as with
  | [],as=>rw[eo,s1];change 1+(0+1)+1<=_;cbv
  | k::ks,[]=>rw[eo,s1];change 1+(0+1)+1<=_;cbv
  | k::ks,v::as =>
   have:=Af 44 ks as;rw[eo,s1,eo,s1];change 1+((v.ms+mP ((ks.zip as).flatMap _))+1)+1<=1+v.ms+B8 as+3;cbv
def p7(W:bW):Itm->Prop
 | .val k v=>VK W k v
 | .sg _=>True
 | .gB _ m as=>GE.strOk m=true/\as.length<=3/\zc as
theorem Em{W:bW}(c:Nat){zs:!(Str×Vl)}(h:∀ x∈zs,VK W x.1 x.2):∀ i∈zs.flatMap (λx=>[Itm.sg [c],Itm.val x.1 x.2]),p7 W i:=λi hi=>by
 let(x,hx,hi):=UM.mp hi;rcases SO.mp hi with rfl | hi
 .trivial
 .rw[SF.mp hi];exact h x hx
theorem K4{W:bW}(k:Bool)(m:Str)(ks:!Str)(as:!Vl)(h:Dx W ks as)(hm:GE.strOk m=true/\as.length<=3/\zc as):∀ i∈oH k m ks as,p7 W i:=λi hi=>by
 have hz:=qJ h;unfold oH kQ at hi;rcases SN.mp hi with hi | hi
 .cases k with
  | true =>
   rw[if_pos U,if_pos U] at hi;rcases SN.mp hi with hi | hi
   .exact Em 32 hz i hi
   .rw[SF.mp hi];trivial
  | false =>
   rw[if_neg (),if_neg ()] at hi;rcases SO.mp hi with rfl | hi
   .trivial
   rcases SN.mp hi with hi | hi
   .cases e:ks.zip as with
    | nil=>rw[e] at hi;cases hi
    | cons x zs =>
     rw[e] at hi hz;rcases SO.mp hi with rfl | hi
     .exact hz x SD
     .exact Em 44 (λy hy=>hz y (Sy _ hy)) i hi
   .rw[SF.mp hi];trivial
 .rw[SF.mp hi];exact hm
end DL
namespace DL
open PySem L2
open PySem.Builtin.Str
theorem xP(l:!Nat):∀ m:Nat,(List.range m).filterMap (λk=>l[k]?)=l.take m
 | 0=>rfl
 | m+1=>by
  rw[List.range_succ,List.filterMap_append,xP l m,List.take_succ];rw[List.filterMap_cons];cases l[m]?<;>rfl
theorem Kz{l:!Nat}{u:Option Int}{i m:Nat}(h:strSliceIndices (some (i:Int)) u 1 l.length=(List.range m).map (·+i))(hm:i+m<=l.length):Txt.slice (bA l) (some (i:Int)) u=bA ((l.drop i).take m):=by
 unfold Txt.slice;rw[gm,h];split
 .rename_i e
  have e2:m=l.length:=by simpa using e
  have e3:i=0:=by cbv
  subst e3;rw[Uk,List.take_of_length_le (by cbv)]
 .refine eZ ?_;change ((List.range m).map (·+i)).filterMap (l.toArray[·]?)=_;rw[List.filterMap_map];rw[show ((l.toArray[·]?)∘(·+i))=λk=>(l.drop i)[k]? from funext λk=>by simp[Nat.add_comm]];rw[xP]
theorem Gp{a b:Nat}(h:a<=b):sliceRange (a:Int) (b:Int) 1=(List.range (b - a)).map (·+a):=by
 have hc:(if (a:Int) < (b:Int) then ((b:Int) - a+1 - 1) / 1 else 0).toNat=b - a:=by
  split
  .rw[Int.ediv_one];cbv
  .cbv
 change (List.range (if (a:Int) < (b:Int) then ((b:Int) - a+1 - 1) / 1 else 0).toNat).map (λ(k:Nat)=>((a:Int)+1 * (k:Int)).toNat)=_;rw[hc];show Uu λk _=>?_;cbv
theorem E9{l:!Nat}{i j:Nat}(hi:i<=l.length)(hj:i<=j):Txt.slice (bA l) (some (i:Int)) (some (j:Int))=bA ((l.drop i).take (j - i)):=by
 rw[Kz (m:=min j l.length - i) ?_ (by cbv)]
 .rw[List.take_eq_take_iff.mpr (show min (min j l.length - i) (l.drop i).length=min (j - i) (l.drop i).length by rw[Ti];cbv)]
 .show sliceRange (max 0 (min (i:Int) (l.length:Nat))) (max 0 (min (j:Int) ((l.length:Nat):Int))) 1=_;rw[show max 0 (min (i:Int) ((l.length:Nat):Int))=(i:Int) by cbv,show max 0 (min (j:Int) ((l.length:Nat):Int))=((min j l.length:Nat):Int) by cbv];exact Gp (by cbv)
end DL
section
local macro_rules
 | `(tactic|left)=>`(tactic|first|show#[U,?_]|show#[#[U,U],?_]|show#[#[U,U,U],?_]|show#[.inl U,?_]|show#[.inr U,?_]|show#[DL.bE,?_]|show#[DL.jd,?_]|show#[DL.qz,?_]|(apply Exists.intro;left)|(show Or.inl ?_;left)|(show Or.inr ?_;left))
local macro_rules
 | `(tactic|right)=>`(tactic|repeat (first|show DL.eQ (by decide+kernel) ?_|show DL.gU (by decide+kernel) ?_|left))
section
local macro_rules
 | `(tactic|trivial)=>`(tactic|repeat (first | show DL.eQ (by decide+kernel) ?_ | show DL.gU (by decide+kernel) ?_  | show#[_,U,?_] | show#[_,_,_,U,U,U,?_] | show#[_,_,_,U,U,DL.bE,?_] | show#[_,_,U,U,?_] | show#[#[U,U,U],?_] | show#[_,.inr U,#[U,U],?_] | show#[_,.inl U,#[U,U],?_] | show#[_,.inr U,?_] | show#[_,.inl U,?_] | show#[_,_,U,U,U,?_] | show .inl #[_,U,?_] | show .inr #[_,_,U,U,?_] | show#[_,_,_,U,U,?_] | show#[#[U,U],?_]))
namespace Js
open PySem L2 DL
abbrev aa0(P w K mg base e n t):=DL.C4 P w K mg base aP e n (DL.bf K .no t)
def top(i:Nat):FM:=PySem.Challenge.pw_sideturn_k16_values_and_their_texts.main.body.getD i (.Pass #[0,0,0,0])
abbrev lL:FM:=top 4
abbrev fQ:D3:=("makers_in",lL,["kind"])
theorem sA:au ["kind"] ["kind"] (ai lL):=eG
abbrev jA:FM:=top 5
abbrev dA:D3:=("kind_called",jA,["program","name"])
theorem iP:au ["program","name","kind"] ["program","name"] (ai jA):=eG
abbrev lX:FM:=top 6
abbrev fT:D3:=("makers_of",lX,["program","name"])
theorem ka:au ["program","name","kind"] ["program","name"] (ai lX):=eG
abbrev qu:FM:=top 7
abbrev i9:D3:=("side_of",qu,["program","name"])
theorem m8:au ["program","name","kind"] ["program","name"] (ai qu):=eG
abbrev qj:FM:=top 9
abbrev fh:D3:=("told_of",qj,["value","of_number","of_thing"])
theorem d8:au ["value","of_number","of_thing","done","ahead","part","is_entered","inside"] ["value","of_number","of_thing"] (ai qj):=eG
abbrev qp:FM:=top 10
abbrev d9:D3:=("none_of",qp,["number"])
theorem oM:au ["number"] ["number"] (ai qp):=eG
abbrev ip:FM:=top 11
abbrev dB:D3:=("size_of_thing",ip,["word","name","sizes"])
theorem lE:au ["word","name","sizes"] ["word","name","sizes"] (ai ip):=eG
abbrev il:FM:=top 12
abbrev dC:D3:=("deep_of_thing",il,["word","name","deeps"])
theorem lA:au ["word","name","deeps"] ["word","name","deeps"] (ai il):=eG
abbrev Bd:FM:=top 13
abbrev qP:D3:=("size",Bd,["value"])
theorem DR:au ["value"] ["value"] (ai Bd):=eG
abbrev Bl:FM:=top 14
abbrev qE:D3:=("deep",Bl,["value"])
theorem Dh:au ["value"] ["value"] (ai Bl):=eG
abbrev dX:FM:=top 17
abbrev nF:D3:=("lies_between",dX,["text","first","last"])
theorem mj:au ["text","first","last"] ["text","first","last"] (ai dX):=eG
abbrev iE:FM:=top 18
abbrev iB:D3:=("is_number",iE,["text"])
theorem r9:au ["text"] ["text"] (ai iE):=eG
abbrev lR:FM:=top 20
abbrev gc:D3:=("show_name",lR,["name"])
theorem gT:au ["name","row","number"] ["name"] (ai lR):=eG
abbrev kI:FM:=top 21
abbrev eX:D3:=("show_thing",kI,["word","name","texts"])
theorem oZ:au ["word","name","texts"] ["word","name","texts"] (ai kI):=eG
abbrev jH:FM:=top 22
abbrev er:D3:=("show_number",jH,["number"])
theorem nK:au ["number"] ["number"] (ai jH):=eG
abbrev jY:FM:=top 23
abbrev eR:D3:=("show_value",jY,["value"])
theorem o7:au ["value"] ["value"] (ai jY):=eG
abbrev jv:FM:=top 25
abbrev eh:D3:=("read_number",jv,["reading"])
theorem iO:au ["reading","figures"] ["reading"] (ai jv):=eG
abbrev iA:FM:=top 26
abbrev dY:D3:=("tasks_behind",iA,["side","fields"])
theorem dF:au ["side","fields","tasks","name","kind"] ["side","fields"] (ai iA):=eG
abbrev kR:FM:=top 27
abbrev eS:D3:=("read_thing",kR,["reading","program","kind"])
theorem dq:au ["reading","program","kind","side","maker","makers","fields"] ["reading","program","kind"] (ai kR):=eG
abbrev jy:FM:=top 28
abbrev et:D3:=("build_thing",jy,["reading","side","maker","many"])
theorem iU:au ["reading","side","maker","many","inside"] ["reading","side","maker","many"] (ai jy):=eG
abbrev ki:FM:=top 29
abbrev eW:D3:=("read_value",ki,["program","kind","text"])
theorem gf:au ["program","kind","text","reading","task"] ["program","kind","text"] (ai ki):=eG
abbrev nB:FM:=top 31
abbrev gR:D3:=("_law_deal",nB,["_law_script","_law_base"])
abbrev oA:FM:=top 32
abbrev aR:D3:=("_law_draw",oA,["_law_deal_here","_law_many"])
abbrev bT:FM:=top 33
abbrev fZ:D3:=("_law_words",bT,["_law_deal_here","_law_many"])
theorem aU:au ["_law_deal_here","_law_many","_law_letters","_law_core","_law_at","_law_turn","_law_found","_law_k","_law_own","_law_word","_law_near"] ["_law_deal_here","_law_many"] (ai bT):=eG
abbrev l0:FM:=top 34
abbrev fY:D3:=("_law_pairs",l0,["_law_deal_here","_law_names","_law_some","_law_most"])
theorem kC:au ["_law_deal_here","_law_names","_law_some","_law_most","_law_many"] ["_law_deal_here","_law_names","_law_some","_law_most"] (ai l0):=eG
abbrev l7:FM:=top 35
abbrev fV:D3:=("_law_heads",l7,["_law_deal_here","_law_words_here","_law_most"])
theorem aO:au ["_law_deal_here","_law_words_here","_law_most","_law_found","_law_names","_law_shift","_law_makers_left","_law_askers_left","_law_kk","_law_makers","_law_k","_law_some","_law_askers","_law_params"] ["_law_deal_here","_law_words_here","_law_most"] (ai l7):=eG
abbrev oi:FM:=top 36
abbrev hU:D3:=("_law_leaf",oi,["_law_deal_here","_law_world_here","_law_scope","_law_kind"])
theorem iH:au ["_law_deal_here","_law_world_here","_law_scope","_law_kind","_law_own","_law_first"] ["_law_deal_here","_law_world_here","_law_scope","_law_kind"] (ai oi):=eG
abbrev pW:FM:=top 37
abbrev gF:D3:=("_law_all",pW,["_law_deal_here","_law_world_here","_law_scope","_law_some","_law_room"])
theorem vv:au ["_law_deal_here","_law_world_here","_law_scope","_law_some","_law_room"] ["_law_deal_here","_law_world_here","_law_scope","_law_some","_law_room"] (ai pW):=eG
abbrev qg:FM:=top 38
abbrev jh:D3:=("_law_ask",qg,["_law_deal_here","_law_world_here","_law_scope","_law_kind","_law_room"])
theorem bU:au ["_law_deal_here","_law_world_here","_law_scope","_law_kind","_law_room","_law_some","_law_side","_law_kk","_law_makers","_law_askers","_law_f","_law_params","_law_terms"] ["_law_deal_here","_law_world_here","_law_scope","_law_kind","_law_room"] (ai qg):=eG
abbrev lG:FM:=top 39
abbrev dO:D3:=("_law_bound",lG,["_law_deal_here","_law_world_here","_law_scope","_law_many"])
theorem ij:au ["_law_deal_here","_law_world_here","_law_scope","_law_many","_law_some","_law_at"] ["_law_deal_here","_law_world_here","_law_scope","_law_many"] (ai lG):=eG
abbrev mZ:FM:=top 40
abbrev hZ:D3:=("_law_case",mZ,["_law_deal_here","_law_world_here","_law_scope","_law_kind","_law_room"])
theorem bo:au ["_law_deal_here","_law_world_here","_law_scope","_law_kind","_law_room","_law_some","_law_side","_law_kk","_law_makers","_law_askers","_law_a","_law_found","_law_c","_law_fields","_law_names","_law_more"] ["_law_deal_here","_law_world_here","_law_scope","_law_kind","_law_room"] (ai mZ):=eG
abbrev qb:FM:=top 41
abbrev iY:D3:=("_law_new",qb,["_law_deal_here","_law_world_here","_law_scope","_law_kind","_law_room"])
theorem cA:au ["_law_deal_here","_law_world_here","_law_scope","_law_kind","_law_room","_law_some","_law_askers","_law_found","_law_f","_law_params","_law_result","_law_names","_law_more"] ["_law_deal_here","_law_world_here","_law_scope","_law_kind","_law_room"] (ai qb):=eG
abbrev ou:FM:=top 42
abbrev dJ:D3:=("_law_term",ou,["_law_deal_here","_law_world_here","_law_scope","_law_kind","_law_room"])
theorem aI:au ["_law_deal_here","_law_world_here","_law_scope","_law_kind","_law_room","_law_form","_law_found","_law_a","_law_b","_law_some","_law_other","_law_x","_law_makers","_law_c","_law_fields"] ["_law_deal_here","_law_world_here","_law_scope","_law_kind","_law_room"] (ai ou):=eG
abbrev lT:FM:=top 43
abbrev fU:D3:=("_law_world",lT,["_law_deal_here","_law_most","_law_tables"])
theorem kP:au ["_law_deal_here","_law_most","_law_tables","_law_words_here"] ["_law_deal_here","_law_most","_law_tables"] (ai lT):=eG
abbrev lJ:FM:=top 44
abbrev f7:D3:=("_law_cells",lJ,["_law_deal_here","_law_world_here","_law_room"])
theorem aY:au ["_law_deal_here","_law_world_here","_law_room","_law_found","_law_side","_law_kk","_law_makers","_law_askers","_law_own","_law_c","_law_fields","_law_f","_law_params","_law_result"] ["_law_deal_here","_law_world_here","_law_room"] (ai lJ):=eG
abbrev jF:FM:=top 45
abbrev en:D3:=("_law_program",jF,["_law_deal_here","_law_world_here","_law_room"])
theorem aD:au ["_law_deal_here","_law_world_here","_law_room","_law_found","_law_one","_law_cells_here","_law_side","_law_kk","_law_makers","_law_askers","_law_way","_law_blocks","_law_f","_law_params","_law_result","_law_rows","_law_c","_law_fields"] ["_law_deal_here","_law_world_here","_law_room"] (ai jF):=eG
abbrev pX:FM:=top 46
abbrev i8:D3:=("_law_any",pX,["_law_deal_here","_law_names","_law_room"])
theorem dI:au ["_law_deal_here","_law_names","_law_room","_law_name","_law_word","_law_many","_law_some","_law_k"] ["_law_deal_here","_law_names","_law_room"] (ai pX):=eG
abbrev lV:FM:=top 47
abbrev fW:D3:=("_law_chain",lV,["_law_deal_here","_law_names","_law_many"])
theorem dU:au ["_law_deal_here","_law_names","_law_many","_law_found","_law_k","_law_some"] ["_law_deal_here","_law_names","_law_many"] (ai lV):=eG
abbrev kT:FM:=top 48
abbrev cz:D3:=("_law_things",kT,["_law_world_here"])
theorem oY:au ["_law_world_here"] ["_law_world_here"] (ai kT):=eG
abbrev kU:FM:=top 49
abbrev e8:D3:=("_law_depths",kU,["_law_value"])
theorem dz:au ["_law_value","_law_found","_law_left","_law_one","_law_far"] ["_law_value"] (ai kU):=eG
abbrev nh:FM:=top 50
abbrev fC:D3:=("_law_text",nh,["_law_value"])
theorem f9:au ["_law_value","_law_name","_law_some"] ["_law_value"] (ai nh):=eG
abbrev lK:FM:=top 51
abbrev eB:D3:=("_law_whole",lK,["_law_found"])
theorem sx:au ["_law_found"] ["_law_found"] (ai lK):=eG
abbrev n5:FM:=top 52
abbrev fK:D3:=("_law_told",n5,["_law_value"])
theorem fS:au ["_law_value","_law_met","_law_many","_law_far","_law_text_here"] ["_law_value"] (ai n5):=eG
abbrev lS:FM:=top 53
abbrev gb:D3:=("_law_thing",lS,["_law_deal_here","_law_world_here","_law_kind","_law_room"])
theorem bG:au ["_law_deal_here","_law_world_here","_law_kind","_law_room","_law_side","_law_kk","_law_makers","_law_askers","_law_c","_law_fields","_law_some","_law_field"] ["_law_deal_here","_law_world_here","_law_kind","_law_room"] (ai lS):=eG
abbrev nG:FM:=top 54
abbrev gY:D3:=("_law_same",nG,["_law_found","_law_due"])
theorem uS:au ["_law_found","_law_due"] ["_law_found","_law_due"] (ai nG):=eG
abbrev og:FM:=top 55
abbrev g8:D3:=("_law_read",og,["_law_program_here","_law_kind","_law_value"])
theorem tD:au ["_law_program_here","_law_kind","_law_value"] ["_law_program_here","_law_kind","_law_value"] (ai og):=eG
abbrev kj:FM:=top 56
theorem g0:au ["_law_script","_law_deal_here","_law_world_here","_law_program_here","_law_names","_law_some","_law_value","_law_kinds","_law_kind"] ["_law_script"] (ai kj):=eG
structure Txt(K:Frag)(mg:Str->Option AT):Prop where
 all:mg "all"=none
 bool:mg "bool"=none
 dict:mg "dict"=none
 int:mg "int"=none
 yO:mg "isinstance"=none
 len:mg "len"=none
 list:mg "list"=none
 max:mg "max"=none
 min:mg "min"=none
 range:mg "range"=none
 rev:mg "reversed"=none
 str:mg "str"=none
 sum:mg "sum"=none
 tuple:mg "tuple"=none
 zip:mg "zip"=none
section
variable{P:Fr}{w:Fa}{K:Frag}{mg:Str->Option AT}{base:EQ}
theorem aL{b b':Bool}{A B:Prop}(h:b=b')(q1:b'=true->A)(q2:b'=false->B):if b=true then A else B:=by
 subst h;cases b with
 | true=>exact mh (q1 U)
 | false=>exact rB (q2 U)
theorem yP{ws:!Str}:(ws.map D.str).all gE=true:=by
 rw[List.all_map];exact TH.mpr λ_ _=>rfl
theorem CY{ws:!Str}:(ws.map D.str).map fv=ws.map V.str:=by
 rw[S6]
 rfl
theorem qI{zs:!Str}{r:Int}(h0:0<=r)(h1:r < zs.length):∃ z∈zs,iw (zs.map D.str) r=some (.str z):=by
 have hj:r.toNat < zs.length:=by cbv
 show#[zs[r.toNat],UI hj,?_];have e:(r.toNat:Int)=r:=Uv h0;have q:=eY (xs:=zs.map D.str) (j:=r.toNat) (v:=.str zs[r.toNat]) (by simp[hj]);rw[e] at q;exact q
theorem uJ:∀ (ys:!D),(∀ y∈ys,∃ ch,(97<=ch/\ch<=122)/\y=D.str #[#v[ch]])->∃ cs:!Nat,ys=(cs.map λc=>(#[#v[c]]:Str)).map D.str/\(∀ c∈cs,97<=c/\c<=122)/\cs.length=ys.length
 | [],_=>#[[],U,λ_ h=>absurd h (by simp),U]
 | y::ys,h=>by
  let(ch,hc,e):=h y SD;let(cs,e2,h2,h3):=uJ ys λz hz=>h z (Sy _ hz);subst e;show#[ch::cs,by rw[e2];simp,λc hm=>?_,by simp[h3]];rcases SO.mp hm with rfl | hm
  .exact hc
  .exact h2 c hm
theorem zp{d l:AC}(cQ:C4 P w K mg base aP aR 1 (bf K (aN d l) (eP d)))(F:Own K mg fZ)(T:Txt K mg):C4 P w K mg base aP fZ 2 (bf K (aN d l) (BL d)):=by
 show F.d (nos:=1) aU (λds R h=>?_) λf br A outer s H E M hr=>?_
 .let(m,rfl,_):=h
  rfl
 have hb:aT bT=Lo (aT bT) 6 (BM ((aT bT).getD 6 yK)):=rfl;have ha:su (BM ((aT bT).getD 6 yK))=true:=rfl;have hz:xI (BM ((aT bT).getD 6 yK))=cC.near:=rfl;have hl3:(BM ((aT bT).getD 6 yK)).length=cC.near.length:=rfl;generalize BM ((aT bT).getD 6 yK)=es at hb ha hz hl3;have hn:(es.length<=1000:Bool)=true:=by rw[hl3];decide
 rw[hb];show#[_,(af (lO (fE (i:=2) aU.nd U (Or.inr U) (DE.pe aq)))
 (af (sS 3 aU.nd (nO aq (aa (DN.de (nC ["_law_k"] [2,0] (cV U T.range (aa (ak hr cQ (aa (vd 0) (aa ag ae))) ae)) (λ_ _ _ _=>(gM 0 ["_law_k","_law_letters","_law_deal_here"])) (λ_ _ _ _=>cj)
 (λ_ _ _ _=>(AB qH AS (vd 1) (ak hr cQ (aa (vd 2) (aa ag ae))) (λ_ _=>rfl))))) ae)))
 (af (sS 4 aU.nd (ak hr cQ (aa (vd 0) (aa (aZ bX eI (bC j3 Hu U T.len Ul (aa (vd 3) ae)) ag) ae))))
 (af (sS 5 aU.nd (ak hr cQ (aa (vd 0) (aa ag ae))))
 (af (sN 0 6 aU.nd (aH ae))
 (af (sF (cV U T.range (aa (vd 1) ae)) (gN 7 aU.nd)
 (af (sS 8 aU.nd (AB qH AS (vd 2) (aZ fF uD (aZ bX eI (vd 5) (aZ iN uD ag (vd 7))) ag) (λ_ _=>rfl)))
 (af (sS 9 aU.nd (aZ aQ cO (aZ aQ cO (aZ aQ cO (aZ aQ cO (iR (vd 3) dk (bc (vd 4))) (vd 8)) (iR (vd 3) (bc (vd 4)) dk)) (aZ nQ Bk aq (aZ fF uD (vd 7) ag))) (aZ nQ Bk aq (aZ cn uD (vd 7) ag))))
 (af (bD (aB qc okIn (vd 9) (aJ (aa aq (aa aq (aa aq (aa aq (aa aq (aa aq (aa aq ae)))))))) U)
 (aj (sS 9 aU.nd (aZ aQ cO (vd 9) aq)))
 aK)
 (af (bD (aB qc okIn (vd 9) (aJ (aa aq (aa aq (aa aq (aa aq (aa aq (aa aq ae))))))) U)
 (aj (sS 9 aU.nd (aZ aQ cO (vd 9) aq)))
 aK)
 (aj (oS 6 (aa (vd 9) ae))))))))
 (af (sS 10 aU.nd (DN.de (aH (Ck ha hz hl3) hn)))
 (af (sS 9 aU.nd (je (vd 10) (ak hr cQ (aa (vd 0) (aa ag ae)))))
 (af (bD (DW.dt (jR (aB ba cF (ak hr cQ (aa (vd 0) (aa ag ae))) ag (ax _)) (g7 (Hd kz (vd 9) (pv 6) U))))
 (aj (Cu (A1 (DE.pe (vd 9)) (GQ (pv 6) (DE.pe (ak hr cQ (aa (vd 0) (aa (vd 1) ae)))) set_list))))
 aK)
 (aj (aG (sM (pv 6))))))))))))),λds R h=>?_]
 .let(m,rfl,(hm0,hm1),q):=h;trivial;show#[#[by decide,by decide],λr r0 r1=>?_];show#[r,U,#[by cbv,by cbv],?_];show nj (λy=>∃ ch,(97<=ch/\ch<=122)/\y=D.str #[#v[ch]]) _ (λx hx k hk=>?_) λys hyl hyp=>?_
  .refine#[_,U,_,U,_,U,#[by decide,by decide],λa a0 a1=>?_];exact#[_,_,_,U,U,by decide+kernel,xF a0 a1,hk _ _ #[_,#[by cbv,by cbv],U] rfl]
  let(cs,e1,hcs,hcl):=uJ ys hyp;subst e1;have hcl':cs.length<=4:=by
   have:(c7 0 r.toNat).length=r.toNat:=by simp[c7]
   rw[hcl,hyl,this];cbv
  show#[cs.map λc=>(#[#v[c]]:Str),U,?_,?_]
  .rw[cC.uq,Ss];change cs.length+cs.length * 0<=16777216;cbv
  have hcore:(Txt.join ("":Str) (cs.map λc=>(#[#v[c]]:Str))).length<=4:=by
   have:=cC.join_ones cs;cbv
  have hlw:Lw (Txt.join ("":Str) (cs.map λc=>(#[#v[c]]:Str))):=λc hc=>by
   rw[sR] at hc;exact hcs c hc
  generalize Txt.join ("":Str) (cs.map λc=>(#[#v[c]]:Str))=core at hcore hlw;have hsz:(1000:Nat)<=Ev:=by decide
  show#[_,U,_,U,_,U,by omega,_,_,U,U,_,U,#[by omega,by omega],λat_' a0 a1=>?_];show#[_,U,_,U,#[by decide,by decide],λtn t0 t1=>?_];show#[#[U,U],_,U,m,U,#[by cbv,by cbv],?_];have h2s:=yU (x:=core) (i:=at_') a0 (by cbv);have hL1:=hlw.slice none (some at_');have hL2:=hlw.slice (some at_') none;generalize yZ:Txt.slice core none (some at_')=pre at h2s hL1;generalize hpost:Txt.slice core (some at_') none=post at h2s hL2;show cq (λxs s=>∃ (ws:!Str) (a b e:Sl),(∀ (i:Nat) (x:D),xs[i]?=some x->x=D.int ((ws.length+i:Nat):Int))/\ws.length+xs.length=m.toNat/\ud pre.cps.toList post.cps.toList tn.toNat ws/\s=#[[.dat (.cb d),.dat (.int m),.dat (.str cC.KI),.dat (.str core),.dat (.int at_'),.dat (.int tn),.own 0,a,b,e,.no],[some (.lst (ws.map D.str))]]) ?_ ?_ _ _ #[[],.no,.no,.no,?_,?_,λ_ _ h=>absurd h (by simp),U]
  .rintro s ⟨ws,a,b,e,h1,h2,h3,rfl⟩
   replace h2:ws.length=m.toNat:=h2
   trivial;show#[#[by decide,by decide],λr r0 r1=>?_];let(z,hz2,ez):=qI (zs:=cC.near) r0 r1;have hzw:=CZ z hz2;show#[_,_,_,U,U,ez,?_];show#[_,U,_,U,#[by decide,by decide],λr2 r20 r21=>?_];show#[#[U,U,U],_,U,?_];show aL U (λ_=>?_) λ_=>?_
   .refine#[_,U,0,_,U,U,#[U,yP],_,U,?_];show aL U (λhni=>?_) λ_=>?_
    .refine#[_,U,0,U,_,U,_,U,_,U,#[by cbv,by cbv],λr3 r30 r31=>?_];have hj:BF (ws.map D.str).length r3=some r3.toNat:=by
      rw[Ss];unfold BF;rw[if_pos (by cbv),if_pos (by cbv)]
     show#[_,_,_,U,U,hj,?_];show .inr #[0,_,U,U,?_];change R (.lst ((ws.map D.str).set r3.toNat (.str z)));rw[<- List.map_set];have hnz:z∉ws:=λhm=>by
      replace hni:(not (yL (.str z) ((ws.map D.str).map fv)))=true:=hni
      rw[CY,eu,decide_eq_true hm] at hni;cases hni
     show q _ (by simpa using h2) (pK _ h3.nodup hnz) λy hy=>?_;rcases List.mem_or_eq_of_mem_set hy with hy | rfl
     .exact h3.nm y hy
     .exact hzw
    .exact .inr #[0,_,U,U,q ws h2 h3.nodup h3.nm]
   .exact .inr #[0,_,U,U,q ws h2 h3.nodup h3.nm]
  .rintro x xs s N ⟨ws,a,b,e,h1,h2,h3,rfl⟩ hN hE_;have hx:=h1 0 x U;subst hx
   replace h2:ws.length+(xs.length+1)=m.toNat:=h2
   have hk:ws.length < 60:=by cbv
   trivial;show#[.inl #[by decide,by decide],?_];show#[_,_,U,U,?_];show#[_,_,U,U,(show (0:Int) < 26 by decide),?_];have ea:=xF (r:=(tn+7 * ((ws.length+0:Nat):Int)) % 26) (TR _ ()) (TN _ ());show#[_,_,_,U,U,by decide+kernel,ea,?_];rw[show ((tn+7 * ((ws.length+0:Nat):Int)) % 26).toNat=(tn.toNat+7 * ws.length) % 26 by cbv];have xn:97<=97+(tn.toNat+7 * ws.length) % 26/\97+(tn.toNat+7 * ws.length) % 26<=122:=#[by cbv,by cbv];let(mx,ox):=wH (c:=120) (n:=((ws.length+0:Nat):Int) % 2) (TR _ ()) (by cbv);let(my,oy):=wH (c:=121) (n:=((ws.length+0:Nat):Int) / 26) (by cbv) (by cbv);rw[show (((ws.length+0:Nat):Int) % 2).toNat=ws.length % 2 by cbv] at mx;rw[show (((ws.length+0:Nat):Int) / 26).toNat=ws.length / 26 by cbv] at my;generalize hmx:Txt.mul (#[#v[120]]:Str) (((ws.length+0:Nat):Int) % 2)=tx at mx;generalize hmy:Txt.mul (#[#v[121]]:Str) (((ws.length+0:Nat):Int) / 26)=ty at my;have lx:tx.length=ws.length % 2:=by rw[show tx.length=tx.cps.toList.length by simp[Str.length],mx,List.length_replicate]
   have ly:ty.length=ws.length / 26:=by rw[show ty.length=ty.cps.toList.length by simp[Str.length],my,List.length_replicate]
   have wx:Lw tx:=λc hc=>by rw[mx] at hc;have:=List.eq_of_mem_replicate hc;cbv
   have wy:Lw ty:=λc hc=>by rw[my] at hc;have:=List.eq_of_mem_replicate hc;cbv
   have hL:Lw (pre++(#[#v[97+(tn.toNat+7 * ws.length) % 26]]:Str)++post++tx++ty) :=
    (((hL1.app (λc hc'=>by simp at hc';subst hc';exact xn)).app hL2).app wx).app wy
   have zo:(pre++(#[#v[97+(tn.toNat+7 * ws.length) % 26]]:Str)++post++tx++ty).length<=8/\1<=(pre++(#[#v[97+(tn.toNat+7 * ws.length) % 26]]:Str)++post++tx++ty).length:=by
    rw[cC.b9,cC.b9,cC.b9,cC.b9,cC.jj];cbv
   have hcp:(pre++(#[#v[97+(tn.toNat+7 * ws.length) % 26]]:Str)++post++tx++ty).cps.toList=wl pre.cps.toList post.cps.toList tn.toNat ws.length 0:=by
    rw[kK,kK,kK,kK,mx,my];simp[wl]
   show#[_,U,_,U,_,U,_,U,by cbv,?_];rw[yZ];show#[_,U,_,_,U,U,by rw[cC.jj];cbv,?_];show#[_,U,_,U,_,U,_,U,by cbv,?_];rw[hpost];show#[_,_,U,U,by rw[cC.b9,cC.jj];cbv,?_];show#[_,U,_,_,U,U,(show (0:Int) < 2 by decide),?_];show#[_,_,U,U,ox,?_];rw[show Txt.mul (Str.ofString "x") (((ws.length+0:Nat):Int) % 2)=tx from hmx];show#[_,_,U,U,by rw[cC.b9,cC.b9,cC.jj];cbv,?_];show#[_,U,_,_,U,U,#[by decide,by decide],?_];show#[_,_,U,U,oy,?_];rw[show Txt.mul (Str.ofString "y") (((ws.length+0:Nat):Int) / 26)=ty from hmy];show#[_,_,U,U,by rw[cC.b9,cC.b9,cC.b9,cC.jj];cbv,?_];generalize pre++(#[#v[97+(tn.toNat+7 * ws.length) % 26]]:Str)++post++tx++ty=wd at hL zo hcp;have hLq:Lw ("q":Str):=by decide+kernel
   have hq1:("q":Str).length=1:=rfl;have hcq:(wd++("q":Str)).cps.toList=wl pre.cps.toList post.cps.toList tn.toNat ws.length 1:=by
    rw[kK,hcp];simp[wl]
    rfl
   have fin:∀ (u:Str) (a b:Sl) (e:Nat),Nm u->u.cps.toList=wl pre.cps.toList post.cps.toList tn.toNat ws.length e->N.nx #[[.dat (.cb d),.dat (.int m),.dat (.str cC.KI),.dat (.str core),.dat (.int at_'),.dat (.int tn),.own 0,a,b,.dat (.str u),.no],[some (.lst (ws.map D.str++[D.str u]))]]:=λu a b e hu he=>by
    show hN _ #[ws++[u],a,b,.dat (.str u),λi z hz=>?_,?_,h3.snoc hu he,by simp]
    .have:=h1 (i+1) z hz;rw[this];simp;cbv
    .rw[Sv];simp;cbv
   have nk:(ws.map D.str).length < Ev:=by
    rw[Ss];cbv
   show#[_,U,?_];show#[_,.inr U,#[U,U],_,U,?_];show aL (b':=yL (.str wd) (sW.map V.str)) U (λc1=>?_) λc1=>?_
   .rw[eu] at c1;have c1:=Dr wd (of_decide_eq_true c1);show#[_,U,_,_,U,U,by cbv,?_];show#[_,U,?_];show#[_,.inr U,#[U,U],_,U,?_];show aL (b':=yL (.str (wd++("q":Str))) (pF.map V.str)) U (λc2=>?_) λc2=>?_
    .rw[eu] at c2;exact absurd (of_decide_eq_true c2) c1.2.1
    .have nm:Nm (wd++("q":Str)):=#[hL.app hLq,by rw[cC.b9];cbv,by rw[cC.b9];cbv,c1.1,c1.2.1];exact#[0,_,U,U,U,_,U,_,U,_,_,U,U,nk,fin _ _ _ 1 nm hcq]
   .rw[eu] at c1;have c1:=of_decide_eq_false c1;show#[_,U,?_];show#[_,.inr U,#[U,U],_,U,?_];show aL (b':=yL (.str wd) (pF.map V.str)) U (λc2=>?_) λc2=>?_
    .rw[eu] at c2;have c2:=Dt wd (of_decide_eq_true c2);have nm:Nm (wd++("q":Str)):=#[hL.app hLq,by rw[cC.b9];cbv,by rw[cC.b9];cbv,c2.1,c2.2.1];show#[_,U,_,_,U,U,by cbv,?_];exact#[0,_,U,U,U,_,U,_,U,_,_,U,U,nk,fin _ _ _ 1 nm hcq]
    .rw[eu] at c2;exact#[0,_,U,U,U,_,U,_,U,_,_,U,U,nk,fin _ _ _ 0 #[hL,zo.2,zo.1,c1,of_decide_eq_false c2] hcp]
  .intro i x hx;unfold c7 at hx;rw[Tb] at hx;let(j,hj,rfl):=Te.mp hx;let(_,e):=Sw.mp hj;simp at e;subst e;simp
  .simp[c7]
def P5(d:AC):UR:=λds R=>∃ ns ss:!Str,ds=[.cb d,.lst (ns.map .str),.lst (ss.map .str),.int 3]/\(3<=ns.length/\0 < ss.length/\ss.length<=100)/\∀ ps,Cb ns ss ps->R (dQ ps)
theorem Kj{d l:AC}(cQ:C4 P w K mg base aP aR 1 (bf K (aN d l) (eP d)))(F:Own K mg fY)(T:Txt K mg):C4 P w K mg base aP fY 2 (bf K (aN d l) (P5 d)):=by
 show F.d (nos:=0) kC (λds R h=>?_) λf br A outer s H E M hr=>#[_,(af (sS 4 kC.nd (je (DN.de (aH (aa ag (aa ag (aa ag (aa ag (aa (vd 3) ae))))))) (ak hr cQ (aa (vd 0) (aa ag ae)))))
 (aj (aG (iq T.tuple (aa (DN.de (nC ["_law_k"] [1,2,0] (cV U T.range (aa (bC (yq U) La U T.min (by decide+kernel) (aa (vd 4) (aa (vd 3) ae))) ae)) (λ_ _ _ _=>(gM 0 ["_law_k","_law_names","_law_some","_law_deal_here"])) (λ_ _ _ _=>cj)
 (λ_ _ _ _=>(aJ (aa (je (vd 1) (vd 0)) (aa (je (vd 2) (ak hr cQ (aa (vd 3) (aa (d7 T.len (aa (vd 2) ae)) ae)))) ae)))))) ae))))),λds R h=>?_]
 .let(ns,ss,rfl,_):=h
  rfl
 .let(ns,ss,rfl,(hn,hs0,MA),q):=h;trivial;show#[#[by decide,by decide],λr r0 r1=>?_];have hm:∃ m:Int,iw [D.int 0,D.int 1,D.int 1,D.int 2,D.int 3] r=some (.int m)/\0<=m/\m<=3:=by
   have:r=0\/r=1\/r=2\/r=3\/r=4:=by cbv
   rcases this with rfl | rfl | rfl | rfl | rfl
   .exact#[0,U,by decide,by decide]
   .exact#[1,U,by decide,by decide]
   .exact#[1,U,by decide,by decide]
   .exact#[2,U,by decide,by decide]
   .exact#[3,U,by decide,by decide]
  let(m,em,hm0,hm1):=hm;show#[_,_,_,U,U,em,?_];show#[_,U,_,U,?_];have e3:(if (3:Int) < m then 3 else m)=m:=if_neg (by cbv);show#[_,_,U,?_];rw[e3];show#[m,U,#[by cbv,by cbv],?_];rw[gS];show fg (λi:Nat=>D.int (i:Int)) pairD (λi p=>ns[i]?=some p.1/\p.2∈ss) _ (λi hi k hk=>?_) λps hps=>?_
  .have qk:i < 3:=by have:=T8.mp hi;cbv
   let(x,hx,ex):=nY (f:=D.str) (xs:=ns) (r:=(i:Int)) (by cbv) (by cbv);rw[Uh] at hx;show#[_,U,_,U,_,_,_,U,U,ex,?_];show#[_,U,_,U,_,U,_,.inl U,?_];show#[_,U,#[by rw[Ss];cbv,by rw[Ss];cbv],λr2 r20 r21=>?_];let(y,hy,ey):=iG (f:=D.str) (xs:=ss) r20 (by simpa using r21);show#[_,_,_,U,U,ey,?_];exact hk (x,y) _ #[hx,hy] rfl
  .refine#[_,.inl U,?_];have hl:=fz hps;rw[T6] at hl;show q ps #[by cbv,?_,λp hp=>?_]
   .exact qx (λi y h=>h.1) hps
   .let(i,_,h):=fk hps p hp;exact h.2
def QB(d:AC):UR:=λds R=>∃ (ws:!Str) (most:Int),ds=[.cb d,.lst (ws.map .str),.int most]/\(ws.length=45/\ws.Nodup/\(∀ x∈ws,Nm x)/\1<=most/\most<=3)/\∀ ks,wG ws ks->R (.lst (ks.map jo))
theorem LN{d l:AC}(cQ:C4 P w K mg base aP aR 1 (bf K (aN d l) (eP d)))(Ny:C4 P w K mg base aP fY 2 (bf K (aN d l) (P5 d)))(F:Own K mg fV)(T:Txt K mg):C4 P w K mg base aP fV 3 (bf K (aN d l) (QB d)):=by
 show F.d (nos:=5) aO (λds R h=>?_) λf br A outer s H E M hr=>#[_,(af (sN 0 3 aO.nd (aH ae))
 (af (lO (p6 (lD (i:=4) aO.nd U U (ts:=["_law_k"]) (us:=[1]) #[U,U,U,U,U,U] rfl (cV U T.range (aa (aZ bX eI ag (ak hr cQ (aa (vd 0) (aa (vd 2) ae)))) ae)) (λ_ _ _ _=>(gM 0 ["_law_k","_law_words_here"])) (λ_ _ _ _=>cj)
 (λ_ _ _ _=>(je (vd 1) (vd 0))))))
 (af (sS 5 aO.nd (je (DN.de (aH (aa ag (aa ag ae)))) (ak hr cQ (aa (vd 0) (aa ag ae)))))
 (af (sN 1 6 aO.nd (dw bV bY (DN.de (cD (vd 1) (bc ag) dk)) (DN.de (cD (vd 1) dk (bc ag)))))
 (af (sN 2 7 aO.nd (dw bV bY (DN.de (cD (vd 1) (bc (aZ gw eI ag (vd 5))) dk)) (DN.de (cD (vd 1) dk (bc (aZ gw eI ag (vd 5)))))))
 (af (sF (bg (vd 4)) (gN 8 aO.nd)
 (af (sN 3 9 aO.nd (aH ae))
 (af (sF (cV U T.range (aa (aZ bX eI ag (ak hr cQ (aa (vd 0) (aa (je (DN.de (aH (aa ag (aa ag ae)))) (cW gK mW U T.int (by decide+kernel) (aa (lI ba cF (d7 T.len (aa (vd 4) ae)) ag (ax _)) ae))) ae)))) ae)) (gN 10 aO.nd)
 (af (sS 11 aO.nd (je (DN.de (aH (aa (DN.de (dw bV bY (vd 4) (DN.de (aH (aa aq ae))))) (aa (DN.de (aH (aa aq ae))) ae)))) (cW gK mW U T.int (by decide+kernel) (aa (lI ba cF (vd 10) ag (ax _)) ae))))
 (aj (oS 9 (aa (aJ (aa (wj Tc Td oh qN (pv 6) (aa ag ae)) (aa (ak hr Ny (aa (vd 0) (aa (DN.de (cD (vd 1) (bc ag) (bc ag))) (aa (vd 11) (aa ag ae))))) ae))) ae)))))
 (af (sN 4 12 aO.nd (aH ae))
 (af (sF (cV U T.range (aa (ak hr cQ (aa (vd 0) (aa (je (DN.de (aH (aa ag (aa ag ae)))) (cW gK mW U T.int (by decide+kernel) (aa (lI ba cF (d7 T.len (aa (vd 4) ae)) ag (ax _)) ae))) ae))) ae)) (gN 10 aO.nd)
 (af (sS 13 aO.nd (ak hr Ny (aa (vd 0) (aa (DN.de (cD (vd 1) (bc ag) (bc ag))) (aa (DN.de (dw bV bY (vd 4) (DN.de (aH (aa aq ae))))) (aa ag ae))))))
 (aj (oS 12 (aa (aJ (aa (wj Tc Td oh qN (pv 7) (aa ag ae)) (aa (vd 13) (aa (je (DN.de (dw bV bY (vd 4) (DN.de (aH (aa aq ae))))) (ak hr cQ (aa (vd 0) (aa (aZ bX eI (d7 T.len (aa (vd 4) ae)) ag) ae)))) ae)))) ae)))))
 (aj (oS 3 (aa (aJ (aa (je (DN.de (aH (aa aq (aa aq ae)))) (ak hr cQ (aa (vd 0) (aa ag ae)))) (aa (vd 8) (aa (iq T.tuple (aa (sM (pv 9)) ae)) (aa (iq T.tuple (aa (sM (pv 12)) ae)) ae))))) ae))))))))
 (af (bD (aB ba cF (ak hr cQ (aa (vd 0) (aa ag ae))) ag (ax _))
 (af (sN 4 12 aO.nd (aH ae))
 (af (sF (cV U T.range (aa (ak hr cQ (aa (vd 0) (aa ag ae))) ae)) (gN 10 aO.nd)
 (aj (oS 12 (aa (aJ (aa (wj Tc Td oh qN (pv 7) (aa ag ae)) (aa (ak hr Ny (aa (vd 0) (aa (DN.de (cD (vd 1) (bc ag) (bc ag))) (aa (DN.de (aH (aa aq ae))) (aa ag ae))))) (aa aq ae)))) ae))))
 (aj (oS 3 (aa (aJ (aa (je (DN.de (aH (aa aq (aa aq ae)))) (ak hr cQ (aa (vd 0) (aa ag ae)))) (aa (je (vd 1) ag) (aa (aJ ae) (aa (iq T.tuple (aa (sM (pv 12)) ae)) ae))))) ae)))))
 aK)
 (aj (aG (sM (pv 3))))))))))),λds R h=>?_]
 .let(ns,ss,rfl,_):=h
  rfl
 .let(ws,most,rfl,(nk,J8,hwm,hm0,hm1),q):=h;trivial;show#[#[by cbv,by cbv],λr r0 r1=>?_];show#[_,_,U,U,?_];show#[_,U,#[by cbv,by cbv],?_];rw[gS];show fg (λi:Nat=>D.int (i:Int)) D.str (λi x=>ws[i]?=some x) _ (λi hi k hk=>?_) λns n9=>?_
  .have qk:i < 3:=by have:=T8.mp hi;cbv
   let(x,hx,ex):=nY (f:=D.str) (xs:=ws) (r:=(i:Int)) (by cbv) (by cbv);rw[Uh] at hx;exact#[_,U,_,U,_,_,_,U,U,ex,hk x _ hx U]
  have hnl:ns.length=(1+r).toNat:=by have:=fz n9;rwa [T6] at this
  have HY:ns=ws.take ns.length:=by
   have:=qx (v:=id) (ns:=ws) (λi y h=>h) n9;simpa using this
  rw[SX];trivial;show#[#[by decide,by decide],λr2 r20 r21=>?_];have hsh:∃ m:Int,iw [D.int 0,D.int 20] r2=some (.int m)/\(m=0\/m=20):=by
   have:r2=0\/r2=1:=by cbv
   rcases this with rfl | rfl
   .exact#[0,U,.inl U]
   .exact#[20,U,.inr U]
  let(sh,esh,hsh):=hsh;show#[_,_,_,U,U,esh,?_];let(ML,eML,pML):=vN (f:=D.str) (ws:=ws) (n:=4) () (by cbv);let(AL,eAL,pAL):=vN (f:=D.str) (ws:=ws) (n:=20 - sh) (by cbv) (by cbv);have hsz:=aV;show#[_,U,_,U,_,U,_,U,_,U,_,U,_,_,U,U,?_,?_]
  .rw[<- Sv,eML,Ss,pML.length_eq];cbv
  rw[eML];show#[#[U,U],?_];show#[_,U,_,U,_,_,U,U,_,U,_,U,_,U,_,U,_,_,U,U,_,U,_,U,_,_,U,U,?_,?_]
  .rw[<- Sv,eAL,Ss,pAL.length_eq];cbv
  rw[eAL];show#[#[U,U],?_];show#[_,U,_,.inl U,?_];have e24:cutD (ws.map D.str) (some 24) (some 27)=((ws.drop 24).take 3).map D.str:=by rw[fu,nk];rfl
  have e27:cutD (ws.map D.str) (some 27) (some 30)=((ws.drop 27).take 3).map D.str:=by rw[fu,nk];rfl
  have mlL:ML.length=45:=by rw[pML.length_eq,nk]
  have alL:AL.length=45:=by rw[pAL.length_eq,nk]
  show cq (λxs s=>∃ (ks:!Kd) (x8 x9 i7 gy fG gx:Sl),((x8.pl=true/\x9.pl=true/\i7.pl=true)/\gy.pl=true/\fG.pl=true/\gx.pl=true)/\CA ws ns ML AL ks/\xs=(ns.drop ks.length).map .str/\s=#[[.dat (.cb d),.dat (.lst (ws.map .str)),.dat (.int most),.own 0,.dat (.lst (ns.map .str)),.dat (.int sh),.own 1,.own 2,x8,x9,i7,gy,fG,gx],[some (.lst (ks.map jo)),some (.lst ((ML.drop (dG ks).length).map .str)),some (.lst ((AL.drop (cY ks).length).map .str)),none,none]]) ?_ ?_ _ _ #[[],.no,.no,.no,.no,.no,.no,#[#[U,U,U],U,U,U],CA.nil,U,U]
  .rintro s ⟨ks,x8,x9,i7,gy,fG,gx,⟨⟨h8,h9,h10⟩,h11,h12,h13⟩,hI,hx,rfl⟩;have hkl:ks.length=ns.length:=by
    have:=congrArg List.length hx;simp at this;have:=hI.kl;cbv
   trivial;show#[#[by decide,by decide],λr3 r30 r31=>?_];show#[#[U,U,U],_,U,?_];show aL U (λ_=>?_) λ_=>?_
   rotate_left
   .refine .inr #[_,_,U,U,q ks #[ns,ML,AL,ks,HY,by cbv,by cbv,pML,pAL,hkl,hI,.inl U]]
   show#[#[U,(show noRef 4 4 [x8,x9,i7,gy,fG,gx]=true by rw[bP h8,bP h9,bP h10,bP h11];change noRef 4 2 [gx]=true;rw[bP h13];rfl)],?_];trivial;show#[#[by decide,by decide],λr4 r40 r41=>?_];show#[_,U,#[by cbv,by cbv],?_];generalize hn4:r4.toNat=n4;have hn45:n4<=2:=by cbv
   have hAL:(cY ks).length+2 < AL.length:=by have:=hI.ab;cbv
   generalize hna:(cY ks).length=na at hAL;show cq (λxs s=>∃ (as:!iu) (zL:Sl),(zL.pl=true)/\zV ws [] (AL.drop na) as/\yG xs as.length n4/\s=#[[.dat (.cb d),.dat (.lst (ws.map .str)),.dat (.int most),.own 0,.dat (.lst (ns.map .str)),.dat (.int sh),.own 1,.own 2,x8,x9,zL,gy,.own 4,gx],[some (.lst (ks.map jo)),some (.lst ((ML.drop (dG ks).length).map .str)),some (.lst ((AL.drop (na+as.length)).map .str)),none,some (.lst (as.map d6))]]) ?_ ?_ _ _ #[[],i7,h10,zV.nil,yG.init _,U]
   .rintro s ⟨as,z10,f10,hA,hR3,rfl⟩;have hR3:=hR3.nil;trivial;show#[U,?_];show#[_,U,?_];show#[_,U,#[by decide,by decide],λr5 r50 r51=>?_];let(sd,esd):=mE r50 r51;show#[_,_,_,U,U,esd,?_];let(x44,h44,e44):=nY (f:=D.str) (xs:=ws) (r:=3) () (by cbv);show#[_,U,_,_,_,U,U,e44,?_];show .inr #[_,_,U,U,?_];show#[_,.inl U,?_];show#[_,U,_,_,U,U,by rw[Ss];cbv,?_];show .inr #[_,_,U,U,?_];have:=q (ks++[#[sd,x44,[],as]]) #[ns,ML,AL,ks,HY,by cbv,by cbv,pML,pAL,hkl,hI,.inr #[#[sd,x44,[],as],U,U,h44,by change as.length<=2;cbv,by rw[hna];exact hA]];rw[Sz] at this;exact this
   .rintro x xs s N3 ⟨as,z10,f10,hA,hR3,rfl⟩ hN3 hE_3;let(rfl,hj,hR4):=hR3.cons;let(nx,p1,p2,p3,p4,p5):=FV (L:=AL) (n:=na) (j:=as.length) (by cbv);show#[4,_,U,U,U,?_];show#[2,_,U,U,U,_,U,?_];show#[_,_,_,_,U,U,#[by decide,by decide],p3,p4,?_];rw[p5];show#[_,U,_,U,_,U,_,U,_,U,?_];show#[(ws.drop 27).take 3,gD,by rw[<- e27]<;>rfl,#[by simp;cbv,by decide,by decide],λps hps=>?_];show#[_,U,_,_,U,U,by rw[Ss];cbv,?_];show hN3 _ #[as++[#[nx,ps,"number"]],.dat (.int as.length),U,hA.snoc (a:=#[nx,ps,"number"]) p2 hps (SF.mpr U),by rw[Sv];exact hR4,?_];rw[Sz,Sv]
    rfl
  .rintro x xs s N ⟨ks,x8,x9,i7,gy,fG,gx,⟨⟨h8,h9,h10⟩,h11,h12,h13⟩,hI,hx,rfl⟩ hN hE_;have hkl:ks.length < ns.length:=by
    have:=congrArg List.length hx;simp at this;cbv
   rw[Tg hkl,SA] at hx;injection hx with hx1 hx2;subst hx1;show#[#[U,(show noRef 3 5 [i7,gy,fG,gx]=true by rw[bP h10,bP h11,bP h12,bP h13];rfl)],?_];trivial;have hwide:∃ m:Int,iw [D.int 3,D.int 5] (if decide (V.int (ns.map D.str).length=V.int 1) then 1 else 0)=some (.int m)/\1<=m/\m<=5:=by
    split
    .exact#[5,U,by decide,by decide]
    .exact#[3,U,by decide,by decide]
   let(mw,emw,hmw0,hmw1):=hwide;show .inr #[_,U,?_];show#[_,_,_,U,U,emw,?_];show#[_,U,#[by cbv,by cbv],λr3 r30 r31=>?_];show#[_,_,U,U,?_];show#[_,U,#[by cbv,by cbv],?_];have hML:(dG ks).length+5 < ML.length:=by have:=hI.mb;cbv
   have hAL:(cY ks).length+5 < AL.length:=by have:=hI.ab;cbv
   generalize hnm:(dG ks).length=nm at hML;generalize hna:(cY ks).length=na at hAL;generalize hn3:(1+r3).toNat=n3;have hn30:1<=n3:=by cbv
   have hn35:n3<=5:=by cbv
   show cq (λxs s=>∃ (ms:!ia) (i7 gy:Sl),(i7.pl=true/\gy.pl=true)/\Gd ws ns (ML.drop nm) ms/\yG xs ms.length n3/\s=#[[.dat (.cb d),.dat (.lst (ws.map .str)),.dat (.int most),.own 0,.dat (.lst (ns.map .str)),.dat (.int sh),.own 1,.own 2,.dat (.str ns[ks.length]),.own 3,i7,gy,fG,gx],[some (.lst (ks.map jo)),some (.lst ((ML.drop (nm+ms.length)).map .str)),some (.lst ((AL.drop na).map .str)),some (.lst (ms.map cS)),none]]) ?_ ?_ _ _ #[[],i7,gy,#[h10,h11],Gd.nil,yG.init _,U]
   .rintro s ⟨ms,zL,y11,⟨g10,g11⟩,hM,hR,rfl⟩;have hR:=hR.nil;show#[#[U,(show noRef 4 2 [zL,y11,fG,gx]=true by rw[bP g10,bP g11];change noRef 4 2 [gx]=true;rw[bP h13];rfl)],?_];trivial;have hwide:∃ m:Int,iw [D.int 4,D.int 6] (if decide (V.int (ns.map D.str).length=V.int 1) then 1 else 0)=some (.int m)/\1<=m/\m<=6:=by
     split
     .exact#[6,U,by decide,by decide]
     .exact#[4,U,by decide,by decide]
    let(mw2,emw2,hmw20,hmw21):=hwide;show .inr #[_,U,?_];show#[_,_,_,U,U,emw2,?_];show#[_,U,#[by cbv,by cbv],λr4 r40 r41=>?_];show#[_,U,#[by cbv,by cbv],?_];generalize hn4:r4.toNat=n4;have hn45:n4<=5:=by cbv
    show cq (λxs s=>∃ (as:!iu) (zL Eo:Sl),(zL.pl=true/\Eo.pl=true)/\zV ws ns (AL.drop na) as/\yG xs as.length n4/\s=#[[.dat (.cb d),.dat (.lst (ws.map .str)),.dat (.int most),.own 0,.dat (.lst (ns.map .str)),.dat (.int sh),.own 1,.own 2,.dat (.str ns[ks.length]),.own 3,zL,y11,.own 4,Eo],[some (.lst (ks.map jo)),some (.lst ((ML.drop (nm+ms.length)).map .str)),some (.lst ((AL.drop (na+as.length)).map .str)),some (.lst (ms.map cS)),some (.lst (as.map d6))]]) ?_ ?_ _ _ #[[],zL,gx,#[g10,h13],zV.nil,yG.init _,U]
    .rintro s ⟨as,z10,z13,⟨f10,f13⟩,hA,hR3,rfl⟩;have hR3:=hR3.nil;trivial;show#[U,?_];show#[_,U,?_];show#[_,U,#[by decide,by decide],λr5 r50 r51=>?_];let(sd,esd):=mE r50 r51;show#[_,_,_,U,U,esd,?_];show#[_,U,?_];show .inr #[_,_,U,U,?_];show#[_,.inl U,?_];show .inr #[_,_,U,U,?_];show#[_,.inl U,?_];show#[_,U,_,_,U,U,by rw[Ss];cbv,?_];have hkd:CA ws ns ML AL (ks++[#[sd,ns[ks.length],ms,as]]):=hI.snoc #[?_,?_,?_,hM.mp,hM.mf,hA.ap] (SJ hkl) (by rw[hnm];exact hM.nm) (by rw[hna];exact hA.nm);show hN _ #[ks++[#[sd,ns[ks.length],ms,as]],.dat (.str ns[ks.length]),.dat (.lst (ms.map cS)),(ja 4 (.lst (as.map d6)) (ja 3 (.lst (ms.map cS)) z10)),(ja 4 (.lst (as.map d6)) (ja 3 (.lst (ms.map cS)) y11)),.dat (.lst (as.map d6)),(ja 4 (.lst (as.map d6)) (ja 3 (.lst (ms.map cS)) z13)),#[#[U,U,bK (bK f10)],bK (bK g11),U,bK (bK f13)],hkd,?_,?_]
     .rw[Sv];exact hx2
     .rw[fX,fP,Sv,Sv,Ss,Ss,hnm,hna,Sz]
      rfl
     .intro e;have e:ms=[]:=e;rw[e] at hR;simp at hR;cbv
     .show ms.length<=5;cbv
     .show as.length<=5;cbv
    .rintro x xs s N3 ⟨as,z10,z13,⟨f10,f13⟩,hA,hR3,rfl⟩ hN3 hE_3;let(rfl,hj,hR4):=hR3.cons;trivial;show#[by simp;cbv,?_];show#[(ws.drop 27).take 3,ns++gD,by rw[<- e27,List.map_append]<;>rfl,#[by simp;cbv,by simp,by simp;cbv],λps hps=>?_];let(nx,p1,p2,p3,p4,p5):=FV (L:=AL) (n:=na) (j:=as.length) (by cbv);show#[4,_,U,U,U,?_];show#[2,_,U,U,U,_,U,?_];show#[_,_,_,_,U,U,#[by decide,by decide],p3,p4,?_];rw[p5];show#[_,U,?_];show#[_,U,_,_,U,U,by simp;cbv,?_];show#[_,U,_,U,_,.inl U,_,_,U,U,_,U,#[by cbv,by simp;cbv],λr6 r60 r61=>?_];let(rs,hrs,ers):=iG (f:=D.str) (xs:=ns++gD) r60 (by simpa using r61);rw[Sz] at ers;show#[_,_,_,U,U,ers,?_];show#[_,U,_,_,U,U,by rw[Ss];cbv,?_];show hN3 _ #[as++[#[nx,ps,rs]],.dat (.int as.length),.dat (dQ ps),#[U,U],hA.snoc p2 hps hrs,by rw[Sv];exact hR4,?_];rw[Sz,Sv]
     rfl
   .rintro x xs s N2 ⟨ms,zL,y11,⟨g10,g11⟩,hM,hR,rfl⟩ hN2 hE_2;let(rfl,hj,hR2):=hR.cons;trivial;show#[by simp;cbv,?_];show#[_,U,#[U,U,U],?_];show .inr #[_,U,?_];have hSS:∃ SS:!Str,iw [D.lst (ns.map D.str++[D.str "number"]),D.lst [D.str "number"]] (if decide (V.int (ms.length:Nat)=V.int 0) then 1 else 0)=some (.lst (SS.map D.str))/\(∀ x∈SS,x∈ns++gD)/\(ms=[]->SS=gD)/\0 < SS.length/\SS.length<=100:=by
     by_cases h0:ms=[]
     .subst h0;exact#[gD,U,λx hx=>S5 _ hx,λ_=>rfl,by decide,by decide]
     .have qT:¬ (V.int (ms.length:Nat)=V.int 0):=λe=>by
       injection e with e;exact h0 (TV (by cbv))
      show#[ns++gD,?_,λx hx=>hx,λe=>absurd e h0,by simp,by simp;cbv];rw[decide_eq_false qT,Sz]
      rfl
    let(SS,eSS,hSS1,hSS2,hSS3,hSS4):=hSS;show#[_,_,_,U,U,eSS,?_];let(nx,p1,p2,p3,p4,p5):=FV (L:=ML) (n:=nm) (j:=ms.length) (by cbv);show#[3,_,U,U,U,?_];show#[1,_,U,U,U,_,U,?_];show#[_,_,_,_,U,U,#[by decide,by decide],p3,p4,?_];rw[p5];show#[_,U,_,U,_,U,_,U,_,U,_,U,?_];show#[(ws.drop 24).take 3,SS,by rw[<- e24],#[by simp;cbv,hSS3,hSS4],λps hps=>?_];show#[_,U,_,_,U,U,by rw[Ss];cbv,?_];show hN2 _ #[ms++[#[nx,ps]],.dat (.int ms.length),.dat (.lst (SS.map .str)),#[U,U],hM.snoc p2 (hps.sub hSS1) (λh p hp=>?_),by rw[Sv];exact hR2,?_]
    .have:=hps.2.2 p hp;rw[hSS2 h] at this;exact SF.mp this
    .rw[Sz,Sv]
     rfl
def K3:UR:=λds R=>∃ W:bW,ds=[jM W]/\gr W/\R (.lst ((things W).map jo))
theorem Lx(F:Own K mg cz)(T:Txt K mg):aa0 P w K mg base cz 1 K3:=by
 show F.d (nos:=0) oY (λds R h=>?_) λf br A outer s H E M hr=>#[_,(aj (aG (DN.de (nC ["_law_one"] [] (bg (fJ (bq (dN hr) (DE.pe (vd 0)) (DE.pe aq) (λ_ _=>rfl)))) (λ_ _ _ _=>(gM 0 ["_law_one"])) (λ_ _ _ _=>fD (aB (u3 (oK hr)) qh (d5 (vd 0) ag) (aJ ae) (ax _)))
 (λ_ _ _ _=>(vd 0)))))),λds R h=>?_]
 .let(W,rfl,_):=h
  rfl
 .let(W,rfl,bp,q):=h;show#[_,U,?_];show dH #[_,U,_,.inl U,?_];show bh jo jo (λk=>(not k.bJ.isEmpty)) _ (λk hk kk N h1 h2=>?_) ?_
  .refine#[_,U,_,_,_,U,U,U,#[xc bp hk,U,.inr ()],?_];show#[_,U,?_];cases hm:k.bJ with
   | nil=>exact eQ U (h2 (by rw[hm];rfl) _ U)
   | cons m r=>exact gU U #[_,U,h1 (by rw[hm];rfl) _ U]
  .exact q
def My(d:AC):UR:=λds R=>∃ (W:bW) (sc:!(Str×Str)) (m:Nat),ds=[.cb d,jM W,.lst (sc.map pairD),.int m]/\(gr W/\jL W sc/\m<=3/\sc.length+m<=15)/\∀ ns:!Str,ns.length=m->wq W sc ns->R (.tup (ns.map .str))
theorem IW{d l:AC}(cQ:C4 P w K mg base aP aR 1 (bf K (aN d l) (eP d)))(F:Own K mg dO)(T:Txt K mg):C4 P w K mg base aP dO 2 (bf K (aN d l) (My d)):=by
 show F.d (nos:=0) ij (λds R h=>?_) λf br A outer s H E M hr=>#[_,(af (lO (p6 (lD (i:=4) ij.nd U U (ts:=["_law_x"]) (us:=[2]) #[U,U,U,U,U,U] rfl (bg (fJ (bq (dN hr) (DE.pe (vd 1)) (DE.pe aq) (λ_ _=>rfl)))) (λ_ _ _ _=>(gM 0 ["_law_x","_law_scope"])) (λ_ _ _ _=>fD (aB kz okIn (vd 0) (DN.de (nC ["_law_pair"] [] (bg (vd 1)) (λ_ _ _ _=>(gM 0 ["_law_pair"])) (λ_ _ _ _=>cj)
 (λ_ _ _ _=>(d5 (vd 0) ag)))) U))
 (λ_ _ _ _=>(vd 0)))))
 (af (bD (DW.dt (jR (aB ba cF (ak hr cQ (aa (vd 0) (aa ag ae))) ag (ax _)) (g7 (aB Ea nz (d7 T.len (aa (vd 4) ae)) (vd 3) (ax _)))))
 (af (sS 5 ij.nd (ak hr cQ (aa (vd 0) (aa (aZ bX eI (d7 T.len (aa (vd 4) ae)) ag) ae))))
 (aj (aG (iq T.tuple (aa (DN.de (cD (DN.de (dw bV bY (DN.de (cD (vd 4) (bc (vd 5)) dk)) (DN.de (cD (vd 4) dk (bc (vd 5)))))) dk (bc (vd 3)))) ae)))))
 aK)
 (aj (aG (iq T.tuple (aa (DN.de (nC ["_law_k"] [1,2] (cV U T.range (aa (vd 3) ae)) (λ_ _ _ _=>(gM 0 ["_law_k","_law_world_here","_law_scope"])) (λ_ _ _ _=>cj)
 (λ_ _ _ _=>(je (fJ (bq (dN hr) (DE.pe (vd 1)) (DE.pe aq) (λ_ _=>rfl))) (aZ bX eI (d7 T.len (aa (vd 2) ae)) (vd 0)))))) ae)))))),λds R h=>?_]
 .let(W,sc,m,rfl,_):=h
  rfl
 .let(W,sc,m,rfl,(bp,sok,hm,hl),q):=h;show#[_,U,?_];show vo #[_,U,_,.inl U,?_];show bh D.str D.str (λx=>(not (decide (x∈sc.map (·.1))))) _ (λx hx kk N h1 h2=>?_) ?_
  .refine#[_,U,_,U,_,.inl U,?_];show bw pairD (λp=>D.str p.1) _ (λp hp k2 hk2=>#[_,U,_,_,_,U,U,U,hk2 _ U]) ?_;rw[SX,show sc.map (λp=>D.str p.1)=(sc.map (·.1)).map D.str by rw[S6];rfl];show#[_,.inl U,#[U,yn],_,U,?_];show aL (b':=(not (decide (x∈sc.map (·.1))))) (congrArg (not ·) Dn) (λe=>?_) λe=>?_
   .exact#[_,U,h1 e _ U]
   .exact h2 e _ U
  .rw[SX];have hvars:Ef (kO GP (rK (oO ["_law_k"].length [1,2] (En (rK (HV 3) xw)) (rN 0) cN (BE Fe (Eu (HV 1) (Ib (D.str "vars"))) (BE (QU HAdd.hAdd) (kO Hz (rK (HV 2) xw)) (HV 0)))) xw)) { nx:=λ_=>R D.bH,rt:=R } #[[.dat (.cb d),.dat (jM W),.dat (.lst (sc.map pairD)),.dat (.int m),.dat (.lst ((W.heads.filter λx=>(not (decide (x∈sc.map (·.1))))).map D.str)),.no],[]]:=by
    show#[_,U,m,U,#[by cbv,by cbv],?_];rw[Uh,gS];show fg (λi:Nat=>D.int (i:Int)) D.str (λk x=>W.vars[sc.length+k]?=some x) _ (λi hi k hk=>?_) λns n9=>?_
    .have qk:=T8.mp hi;have hv:=bp.vl;let(x,hx,ex):=nY (f:=D.str) (xs:=W.vars) (r:=((sc.map pairD).length:Int)+(i:Int)) (by cbv) (by rw[Ss];cbv);show#[_,U,?_];show pQ #[_,U,?_];show#[_,U,_,.inl U,_,U,_,_,U,U,?_];show#[_,_,_,U,U,ex,hk x _ ?_ U];rw[Ss] at hx
     rwa [show ((sc.length:Int)+(i:Int)).toNat=sc.length+i by cbv] at hx
    .refine#[_,.inl U,?_];exact q ns (by have:=fz n9;rwa [T6] at this) (wq.vars bp sok n9)
   show#[_,U,_,U,#[by decide,by decide],λr r0 r1=>?_];show#[#[U,U,U],_,U,?_];show aL U (λ_=>?_) λ_=>?_
   rotate_left
   .exact hvars
   show#[_,U,_,.inl U,_,U,_,_,U,U,_,U,?_];show aL U (λhge=>?_) λ_=>?_
   rotate_left
   .exact hvars
   generalize hsm:(W.heads.filter λx=>(not (decide (x∈sc.map (·.1)))))=sm at hge;have hsl:sm.length<=6:=by
    rw[<- hsm,<- bp.hl];exact Tj _ _
   have hge:m<=sm.length:=by simpa using hge
   have hsz:=aV;show#[_,U,_,U,_,.inl U,_,_,U,U,_,U,#[by cbv,by simp;cbv],λa a0 a1=>?_];let(al,eal,pal):=vN (f:=D.str) (ws:=sm) (n:=a) a0 (by simp at a1;cbv);show#[_,U,_,U,_,U,_,U,_,U,_,U,_,U,_,U,_,_,U,U,?_,?_]
   .rw[<- Sv,eal,Ss,pal.length_eq];cbv
   rw[eal];show#[_,U,_,U,_,U,_,.inl U,?_];have hal:al.length=sm.length:=pal.length_eq;have e9:cutD (al.map D.str) none (some (m:Int))=(al.take m).map D.str:=by
    rw[fu]
    congr 1
    have e1:HT.bO al.length 0 none=0:=rfl;have e2:HT.bO al.length al.length (some (m:Int))=m:=by
     unfold HT.bO;simp only[]
     repeat' split
     all_goals cbv
    rw[e1,e2,Uk,Nat.sub_zero]
   change R (.tup (cutD (al.map D.str) none (some (m:Int))));rw[e9];exact q _ (by rw[Ts];cbv) (wq.heads bp (by rw[hsm];exact pal) m)
def QK(d:AC):Nat->UR
 | 0=>λ_ _=>False
 | n+1=>λds R=>∃ (W:bW) (sc:!(Str×Str)) (k:Str),ds=[.cb d,jM W,.lst (sc.map pairD),.str k]/\(gr W/\jL W sc/\oX W k/\(n=0->k="number"))/\∀ t:Tm,Ty W sc k t->t.lf (n+1) k->R (toD t)
theorem EB{d l:AC}(cQ:C4 P w K mg base aP aR 1 (bf K (aN d l) (eP d)))(HZ:Own K mg hU)(T:Txt K mg):∀ n,C4 P w K mg base aP hU (n+1) (bf K (aN d l) (QK d n))
 | 0=>HZ.c λ_ _ _=>gG
 | n+1=>by
  have MS:=EB cQ HZ T n;show HZ.c λfLe fdLe F_=>?_;show Mq (nos:=0) F_ iH (λds R h=>?_) λbr A outer s H E M hr=>#[_,(af (lO (p6 (lD (i:=4) iH.nd U U (ts:=["_law_x","_law_other"]) (us:=[3]) #[U,U,U,U,U,U] rfl (bg (vd 2)) (λ_ _ _ _=>(cK (m:=2) U (az (gM 0 ["_law_x","_law_other","_law_kind"]) (az (gM 1 ["_law_x","_law_other","_law_kind"]) cG)))) (λ_ _ _ _=>fD (aB ba cF (vd 1) (vd 2) (ax _)))
 (λ_ _ _ _=>(vd 0)))))
 (af (bD (DW.dt (jR (aB (u3 (oK hr)) qh (vd 4) (DN.de (aH ae)) (ax _)) (g7 (aB ku nz (ak hr cQ (aa (vd 0) (aa ag ae))) ag (ax _)))))
 (aj (aG (aJ (aa aq (aa (je (vd 4) (bC (la U) Ee U T.max PyProof.Rows.boot_max (aa (ak hr cQ (aa (vd 0) (aa (d7 T.len (aa (vd 4) ae)) ae))) (aa (ak hr cQ (aa (vd 0) (aa (d7 T.len (aa (vd 4) ae)) ae))) ae)))) ae)))))
 aK)
 (af (bD (aB ba cF (vd 3) aq (ax _))
 (aj (aG (aJ (aa aq (aa (ak hr cQ (aa (vd 0) (aa (je (DN.de (aH (aa ag (aa ag (aa ag ae))))) (ak hr cQ (aa (vd 0) (aa ag ae)))) ae))) ae)))))
 aK)
 (af (sS 5 iH.nd (je (DN.de (nC ["_law_one"] [3] (bg (fJ (bq (dN hr) (DE.pe (vd 1)) (DE.pe aq) (λ_ _=>rfl)))) (λ_ _ _ _=>(gM 0 ["_law_one","_law_kind"])) (λ_ _ _ _=>fD (aB ba cF (d5 (vd 0) ag) (vd 1) (ax _)))
 (λ_ _ _ _=>(d5 (d5 (vd 0) ag) ag)))) ag))
 (aj (aG (aJ (aa aq (aa (d5 (vd 5) ag) (aa (iq T.tuple (aa (DN.de (nC ["_law_field"] [0,1,2] (bg (d5 (vd 5) ag)) (λ_ _ _ _=>(gM 0 ["_law_field","_law_deal_here","_law_world_here","_law_scope"])) (λ_ _ _ _=>cj)
 (λ_ _ _ _=>(ak hr MS (aa (vd 1) (aa (vd 2) (aa (vd 3) (aa aq ae)))))))) ae)) ae)))))))))),λds R h=>?_]
  .let(W,sc,k,rfl,_):=h
   rfl
  .let(W,sc,k,rfl,(bp,sok,hk,hk0),q):=h;show#[_,U,_,.inl U,?_];show bh pairD (λp=>D.str p.1) (λp=>decide (p.2=k)) _ (λp hp kk N h1 h2=>?_) ?_
   .refine#[_,U,U,_,_,U,_,_,U,U,?_];show#[_,U,_,U,#[U,U,U],_,U,?_];exact aL (b':=decide (p.2=k)) ck (λe=>#[_,U,h1 e _ U]) λe=>h2 e _ U
   .rw[SX];show#[_,U,#[eC λp hp=>?_,U,.inr ()],_,U,?_]
    .exact (sok.nm bp p ((TB.mp hp).1)).ok
    refine' jn ?dh λdh=>?main
    case main =>
     by_cases how:sc.filter (λp=>decide (p.2=k))=[]
     .exact eQ (by rw[how];rfl) dh
     have hol:0 < (sc.filter λp=>decide (p.2=k)).length:=Ub.mpr how;have hol2:(sc.filter λp=>decide (p.2=k)).length<=15:=SI (Tj _ _) sok.len;show gU ?_ ?_
     .let(p0,r0,e):=Tu how;rw[e]
      rfl
     show#[_,U,_,U,#[by decide,by decide],λr r0 r1=>?_];show#[_,_,U,U,_,U,?_];show aL U (λ_=>?_) λ_=>dh;show#[_,U,?_];show#[_,U,_,U,_,.inl U,_,U,#[by rw[Ss];cbv,by rw[Ss];cbv],λa a0 a1=>?_];show#[_,U,_,U,_,.inl U,_,U,#[by rw[Ss];cbv,by rw[Ss];cbv],λb b0 b1=>?_];show#[_,_,U,?_];rw[Ss] at a1 b1;let(p,hp,ep):=iG (f:=λp:Str×Str=>D.str p.1) (xs:=sc.filter λp=>decide (p.2=k)) (r:=if a < b then b else a) (by split<;>cbv) (by split<;>cbv);show#[_,_,_,U,U,ep,?_];let(hp1,hp2):=TB.mp hp;have hp2:p.2=k:=by simpa using hp2
     exact q (.node (.nm p.1) []) (Ty.mk (.nm (hp2▸hp1)) eM.nil) xf
    case dh =>
     show#[_,U,#[U,U,U],_,U,?_];show aL (b':=decide (k="number")) ck (λe=>?_) λe=>?_
     .have e:k="number":=by simpa using e
      show#[_,U,_,U,_,U,#[by decide,by decide],λr r0 r1=>?_];have h3:∃ m:Int,iw [D.int 3,D.int 10,D.int 1000000] r=some (.int m)/\1<=m/\m<=1000000:=by
       have:r=0\/r=1\/r=2:=by cbv
       rcases this with rfl | rfl | rfl
       .exact#[3,U,by decide,by decide]
       .exact#[10,U,by decide,by decide]
       .exact#[1000000,U,by decide,by decide]
      let(m,em,hm0,hm1):=h3;show#[_,_,_,U,U,em,?_];show#[_,U,#[by cbv,by cbv],λi i0 i1=>?_];exact q (.node (.num i) []) (e▸Ty.mk (.num i0 (by cbv)) eM.nil) xf
     .have e:k≠"number":=by simpa using e
      let(kd,hkd,hmk,hnm,nn,Ca):=kinds_of bp hk e;let(m0,mr,hms):=Tu hmk;show#[_,U,?_];show dH #[_,U,_,.inl U,?_];show bh jo (λk=>(k.bJ.map cS).headD .bH) (λx=>decide (x.name=k)) _ (λx hx kk N h1 h2=>?_) ?_
      .refine#[_,U,_,_,_,U,U,U,_,U,#[U,U,U],_,U,?_];show aL (b':=decide (x.name=k)) ck (λe=>?_) λe=>h2 e _ U;have ex:x=kd:=qK bp hx hkd (by rw[hnm];simpa using e);subst ex;show#[_,U,_,_,_,U,U,U,?_];have h1':=h1 e;rw[hms] at h1' ⊢;exact#[_,_,_,U,U,bE,h1' _ U]
      rw[Ca,List.replicate_succ,SA,SX,hms];show#[_,_,_,U,U,bE,?_];obtain⟨n',rfl⟩:∃ n',n=n'+1:=#[n - 1,by have:=mt hk0 e;cbv];show#[_,U,_,_,_,U,U,U,?_];show#[_,U,_,_,_,U,U,U,_,.inr U,?_];show fg pairD toD (λp t=>Ty W sc "number" t/\t.lf (n'+1) "number") _ (λp hp k hk=>?_) λts hts=>?_
      .exact#[_,U,_,U,_,U,W,sc,"number",U,#[bp,sok,.inl U,λ_=>rfl],λt ht hd=>hk t _ #[ht,hd] rfl]
      .refine#[_,.inl U,?_];have hm0:m0∈kd.bJ:=by rw[hms];exact SD
       have:=q (.node (.mk m0.name) ts) (hnm▸Ty.mk (.mk hkd hm0) ?_) ?_
       .rw[toD,toDs_map] at this;exact this
       .have hf:=bp.ft kd hkd m0 mr hms;show v9 hts λp hp t ht=>?_;rw[hf p hp];exact ht.1
       .refine CJ e (by have:=fz hts;have:=(bp.mo kd hkd m0 hm0).2.1;cbv) λt ht=>?_;let(_,_,h):=fk hts t ht;exact h.2
def LL(d:AC):Nat->UR
 | 0=>λ_ _=>False
 | n+1=>λds R=>∃ (W:bW) (sc:!(Str×Str)) (k:Str) (room:Int),ds=[.cb d,jM W,.lst (sc.map pairD),.str k,.int room]/\(gr W/\jL W sc/\oX W k/\0<=room/\room<=n+1/\room<=16)/\∀ t:Tm,Ty W sc k t->t.rq (n+2) room.toNat->R (toD t)
def P7(d:AC):Nat->UR
 | 0=>λ_ _=>False
 | n+1=>λds R=>∃ (W:bW) (sc:!(Str×Str)) (ks:!Str) (room:Int),ds=[.cb d,jM W,.lst (sc.map pairD),.lst (ks.map .str),.int room]/\(gr W/\jL W sc/\(∀ k∈ks,oX W k)/\ks.length<=100/\0<=room/\room<=n+1/\room<=16)/\∀ ts:!Tm,eM W sc (ks.map λk=>([],k)) ts->(∀ t∈ts,t.rq (n+2) (room.toNat / max 1 ts.length))->R (.tup (ts.map toD))
theorem Ls{d l:AC}{n lv:Nat}(uE:C4 P w K mg base aP dJ lv (bf K (aN d l) (LL d n)))(F:Own K mg gF)(T:Txt K mg):C4 P w K mg base aP gF (lv+1) (bf K (aN d l) (P7 d n)):=by
 show F.c λf fd F=>?_;cases n with
 | zero=>exact gG
 | succ n =>
 show Mq (nos:=0) F vv (λds R h=>?_) λbr A outer s H E M hr=>#[_,(aj (aG (iq T.tuple (aa (DN.de (nC ["_law_kind"] [0,1,2,4,3] (bg (vd 3)) (λ_ _ _ _=>(gM 0 ["_law_kind","_law_deal_here","_law_world_here","_law_scope","_law_room","_law_some"])) (λ_ _ _ _=>cj)
 (λ_ _ _ _=>(ak hr uE (aa (vd 1) (aa (vd 2) (aa (vd 3) (aa (vd 0) (aa (aZ cn uD (vd 4) (bC (la U) Ee U T.max PyProof.Rows.boot_max (aa ag (aa (d7 T.len (aa (vd 5) ae)) ae)))) ae))))))))) ae)))),λds R h=>?_]
 .let(W,sc,ks,room,rfl,_):=h
  rfl
 .let(W,sc,ks,room,rfl,(bp,sok,yf,hl,h0,h1,y3),q):=h;have em:(if ((ks.map D.str).length:Int) > 1 then ((ks.map D.str).length:Int) else 1)=((max 1 ks.length:Nat):Int):=by
   rw[Ss];split<;>cbv
  have hmx:1<=max 1 ks.length/\max 1 ks.length<=100:=by cbv
  generalize hM:max 1 ks.length=m at em hmx;have hq:(room / (m:Int)).toNat=room.toNat / m:=by
   let(r,rfl):=UG h0
   rfl
  have hle:=UN (m:Int) h0;show#[_,U,_,.inl U,?_];show fg D.str toD (λk t=>Ty W sc k t/\t.rq (n+2) (room.toNat / m)) _ (λk hk kk hkk=>?_) λts hts=>?_
  .refine#[_,U,_,U,_,U,_,U,_,U,?_];show#[_,U,_,.inl U,_,_,U,?_];rw[em];show#[_,_,U,U,#[by cbv,by cbv],?_];show#[W,sc,k,room / m,U,#[bp,sok,yf k hk,Uy h0 (by cbv),by cbv,by cbv],λt ht hd=>hkk t _ #[ht,by rw[<- hq];exact hd] rfl]
  .refine#[_,.inl U,?_];show q ts (v9 hts λk _ t ht=>ht.1) λt ht=>?_;rw[show ts.length=ks.length by have:=fz hts;cbv,hM];let(_,_,h):=fk hts t ht;exact h.2
def O7(d:AC)(n:Nat):UR:=λds R=>∃ (W:bW) (sc:!(Str×Str)) (k:Str) (room:Int),ds=[.cb d,jM W,.lst (sc.map pairD),.str k,.int room]/\(gr W/\jL W sc/\oX W k/\sc.length<=12/\2<=room/\room<=n+1/\room<=16)/\R .bH/\∀ t:Tm,Ty W sc k t->t.rq (n+2) room.toNat->R (toD t)
def Ax(c:Kd×iu):D:=.tup [.str c.1.name,.str c.2.name,dQ c.2.ps]
theorem JM{d l:AC}(cQ:C4 P w K mg base aP aR 1 (bf K (aN d l) (eP d))){n lv:Nat}(Cf:aa0 P w K mg base cz 1 K3)(Kv:C4 P w K mg base aP gF lv (bf K (aN d l) (P7 d n)))(F:Own K mg jh)(T:Txt K mg)(MT:1<=lv):C4 P w K mg base aP jh (lv+1) (bf K (aN d l) (O7 d n)):=by
 show F.d (nos:=1) bU (λds R h=>?_) λf br A outer s H E M hr=>#[_,(af (sN 0 5 bU.nd (aH ae))
 (af (sF (bg (aF hr Cf (aa (vd 1) ae))) (cK (m:=4) U (az (gN 6 bU.nd) (az (iT (dD (i:=7) bU.nd U (Or.inr U)) ()) (az (gN 8 bU.nd) (az (gN 9 bU.nd) cG)))))
 (aj (dS (wj T9 Ua jb wX (pv 5) (aa (DN.de (nC ["_law_f","_law_params","_law_result"] [7,3] (bg (vd 9)) (λ_ _ _ _=>(cK (m:=3) U (az (gM 0 ["_law_f","_law_params","_law_result","_law_kk","_law_kind"]) (az (gM 1 ["_law_f","_law_params","_law_result","_law_kk","_law_kind"]) (az (gM 2 ["_law_f","_law_params","_law_result","_law_kk","_law_kind"]) cG))))) (λ_ _ _ _=>fD (aB ba cF (vd 2) (vd 4) (ax _)))
 (λ_ _ _ _=>(aJ (aa (vd 3) (aa (vd 0) (aa (vd 1) ae))))))) ae)))))
 (af (bD (F4 (rb (oK hr)) (pv 5) (DN.de (aH ae)) (ax _))
 (aj (aG jW))
 aK)
 (af (jG (n:=1000) (IP (zt wD (pv 5) (DE.pe (ak hr cQ (aa (vd 0) (aa (AU (fH eU U T.len Ul (cR (pv 5) gd))) ae)))) (λ_ _=>rfl))) (cK (m:=3) U (az (iT (dD (i:=7) bU.nd U (Or.inr U)) ()) (az (gN 10 bU.nd) (az (gN 11 bU.nd) cG)))))
 (af (sS 12 bU.nd (ak hr Kv (aa (vd 0) (aa (vd 1) (aa (vd 2) (aa (DN.de (dw bV bY (DN.de (aH (aa (vd 7) ae))) (DN.de (nC ["_law_param"] [] (bg (vd 11)) (λ_ _ _ _=>(gM 0 ["_law_param"])) (λ_ _ _ _=>cj)
 (λ_ _ _ _=>(d5 (vd 0) ag)))))) (aa (aZ gw eI (vd 4) ag) ae)))))))
 (aj (aG (aJ (aa aq (aa (d5 (vd 12) ag) (aa (vd 10) (aa (mT (vd 12) (bc ag) dk) ae)))))))))))),λds R h=>?_]
 .let(W,sc,ks,room,rfl,_):=h
  rfl
 .let(W,sc,k,room,rfl,(bp,sok,hk,hsl,h0,h1,y3),qn,q):=h;obtain⟨n',rfl⟩:∃ n',n=n'+1:=#[n - 1,by cbv];have hsz:=aV;show#[#[U,U],?_];show#[_,U,W,U,bp,_,.inl U,?_];show cq (λxs s=>∃ (ks:!Kd) (cs:!(Kd×iu)) (x6 x7 x8 x9 i7 gy fG:Sl),xs=ks.map jo/\(∀ c∈ks,c∈things W)/\(∀ c∈cs,c.1∈things W/\c.2∈c.1.cT/\c.2.res=k)/\cs.length+5 * ks.length<=25/\s=#[[.dat (.cb d),.dat (jM W),.dat (.lst (sc.map pairD)),.dat (.str k),.dat (.int room),.own 0,x6,x7,x8,x9,i7,gy,fG],[some (.lst (cs.map Ax))]]) ?_ ?_ _ _ #[things W,[],.no,.no,.no,.no,.no,.no,.no,U,λ_ h=>h,λ_ h=>(nomatch h),?_,U]
  .rintro s ⟨ks,cs,x6,x7,x8,x9,i7,gy,fG,hx,_,hcs,hcl,rfl⟩;show#[0,_,U,U,_,U,#[eC λc hc=>?_,U,.inr ()],_,U,?_]
   .let(c1,c2,c3):=hcs c hc;have c1:=(fq.mp c1).1;let(a1,a2,a3):=bp.ao c.1 c1 c.2 c2;change (GE.strOk c.1.name&&(GE.strOk c.2.name&&(lH (dQ c.2.ps)&&true)))=true;rw[(bp.kw c.1 c1).1.ok,a1.ok,rA bp (λx hx=>bp.nm x (Tp _ (Up hx))) a2]
    rfl
   by_cases hcn:cs=[]
   .exact gU (by rw[hcn];rfl) qn
   show eQ ?_ ?_
   .let(c0,r0,e):=Tu hcn;rw[e]
    rfl
   have hc0:0 < cs.length:=Ub.mpr hcn;show#[0,U,_,U,0,_,U,U,_,U,#[by rw[Ss];omega,by rw[Ss];omega],λr r0 r1=>?_];let(c,hc,ec):=iG (f:=Ax) (xs:=cs) r0 (by simpa using r1);show#[_,_,_,U,U,ec,?_];let(c1,c2,c3):=hcs c hc;let(c1,c4):=fq.mp c1;let(a1,a2,a3):=bp.ao c.1 c1 c.2 c2;show#[_,U,U,_,_,U,_,_,U,_,_,U,U,?_];show#[_,U,_,U,_,U,_,U,_,U,_,.inr U,?_];show bw pairD (λp=>D.str p.2) _ (λp hp k2 hk2=>#[_,U,_,_,_,U,U,U,hk2 _ U]) ?_;have hps:=a2.1;show#[_,_,U,U,by simp;cbv,?_];show#[_,U,_,_,U,U,?_];show#[W,sc,c.1.name::c.2.ps.map (·.2),room - 1,?_,#[bp,sok,λx hx=>?_,by simp;cbv,by cbv,by cbv,by cbv],λts hts hd=>?_]
   .rw[SA,S6]
    rfl
   .rcases SO.mp hx with rfl | hx
    .exact .inr #[c.1,c1,c4,U]
    .let(p,hp,rfl):=SV.mp hx;exact a2.2.2 p hp
   have hl:=hts.len;let(t0,tr,rfl):=Cz (l:=ts) (by rw[hl];simp);show#[_,U,_,_,_,U,U,bE,?_];show#[_,U,_,U,_,U,_,U,?_];change R (.tup [.str "ask",toD t0,.str c.2.name,.tup (cutD (toD t0::tr.map toD) (some 1) none)]);rw[yi];have:=q (.node (.ask c.2.name) (t0::tr)) (c3▸Ty.mk (.ask c1 c4 c2) (by rw[List.map_cons,List.map_map] at hts;exact hts)) (ji (q:=(room.toNat - 1) / max 1 (t0::tr).length) (λt ht=>by have:=hd t ht;rw[show (room - 1).toNat=room.toNat - 1 by cbv] at this;exact this) (u5 (by cbv) (by cbv) (by rw[hl];simp;cbv)));rw[toD,toDs_map] at this;exact this
  .rintro x xs s N ⟨ks,cs,x6,x7,x8,x9,i7,gy,fG,hx,yf,hcs,hcl,rfl⟩ hN hE_;cases ks with
   | nil=>cases hx
   | cons kd ks =>
   injection hx with e1 e2;subst e1 e2;have hkd:=fq.mp (yf kd SD);show#[_,U,U,_,_,U,_,_,U,_,_,U,_,_,U,U,?_];show#[0,_,U,U,U,?_];show#[_,U,_,.inr U,?_];show bh d6 (λa=>Ax (kd,a)) (λa=>decide (a.res=k)) _ (λa ha kk N2 g1 g2=>?_) ?_
   .refine#[_,U,U,_,_,U,_,_,U,_,_,U,U,?_];show#[_,U,_,U,#[U,U,U],_,U,?_];exact aL (b':=decide (a.res=k)) ck (λe=>#[_,U,_,U,_,U,g1 e _ U]) λe=>g2 e _ U
   have hal:(kd.cT.filter λa=>decide (a.res=k)).length<=5:=SI (Tj _ _) (bp.kw kd hkd.1).2.2;rw[SX];have hcl2:cs.length+5 * (ks.length+1)<=25:=hcl;show#[_,U,_,_,U,U,by rw[Ss,Ss];cbv,?_];show hN _ #[ks,cs++(kd.cT.filter λa=>decide (a.res=k)).map λa=>(kd,a),.dat (.str (a9 kd.asked)),.dat (.str kd.name),.dat (.tup (kd.bJ.map cS)),.dat (.tup (kd.cT.map d6)),i7,gy,fG,U,λc hc=>yf c (Sy _ hc),λc hc=>?_,by rw[Sv,Ss];cbv,?_]
   .rcases SN.mp hc with hc | hc
    .exact hcs c hc
    .let(a,ha,rfl):=SV.mp hc;let(ha1,ha2):=TB.mp ha;exact#[yf kd List.mem_cons_self,ha1,by simpa using ha2]
   .rw[Sz,S6]
    rfl
  .have h2:(things W).length<=W.kinds.length:=Tj _ _;have:=bp.kl;simp;cbv
theorem Et{room:Int}{c:Nat}(h0:2<=room):((room - 1) / (1+(c:Int))).toNat=(room.toNat - 1) / (1+c):=by
 obtain⟨r,rfl⟩:∃ r:Nat,room=r+1:=#[(room - 1).toNat,by cbv];have e0:((r:Int)+1 - 1) / (1+(c:Int))=((r / (1+c):Nat):Int):=by
  rw[Int.add_sub_cancel]
  rfl
 rw[e0,Uh]
 rfl
theorem AV{f:Fm}{ta:Tm}{ts:!Tm}{n c:Nat}{room:Int}(hl:ts.length<=c)(hc:c<=5)(h0:2<=room)(y3:room<=16)(h1:ta.rq n (room / 3).toNat)(h:∀ t∈ts,t.rq n ((room - 1) / (1+(c:Int))).toNat):(Tm.node f (ta::ts)).rq (n+1) room.toNat:=by
 rw[show (room / 3).toNat=room.toNat / 3 by cbv] at h1;exact GJ h1 (λt ht=>by have:=h t ht;rw[Et h0] at this;exact this) hl hc (by cbv) (by cbv)
theorem Cs{f:Fm}{ts:!Tm}{n c:Nat}{room:Int}(hl:ts.length<=c)(hc:c<=5)(h0:2<=room)(y3:room<=16)(h:∀ t∈ts,t.rq n ((room - 1) / (1+(c:Int))).toNat):(Tm.node f ts).rq (n+1) room.toNat :=
 HE (λt ht=>by have:=h t ht;rw[Et h0] at this;exact this) hl hc (by cbv) (by cbv)
def RJ(W:bW)(sc:!(Str×Str))(k:Str)(n q:Nat)(ms:!ia)(sub:!(ia×!Str))(ts:!Tm):Prop :=
 (sub.map (·.1)).Sublist ms/\(∀ p∈sub,p.2.length=p.1.fs.length/\wq W sc p.2)/\eM W sc (sub.map λp=>(p.2.zip (p.1.fs.map (·.2)),k)) ts/\∀ t∈ts,t.rq (n+2) q
theorem p9{ns:!Str}:∀ {ps:!(Str×Str)},lz (ns.map D.str) (ps.map λp=>D.str p.2)=(ns.zip (ps.map (·.2))).map pairD:=by
 induction ns with
 | nil=>intro ps;rfl
 | cons x xs ih =>
  intro ps;cases ps with
  | nil=>rfl
  | cons p ps =>
   have:=ih (ps:=ps);unfold lz at this ⊢;rw[SA,SA,List.zipWith_cons_cons,this]
   rfl
theorem jQ:∀ (hs:!(Str×!Str)) (ts:!D) (h:Str×!Str) (k:D),hs.length=ts.length->eD (hs++[h]) (ts++[k])=eD hs ts++[Dq h k]
 | [],[],h,k,_=>rfl
 | [],_::_,h,k,e=>by simp at e
 | _::_,[],h,k,e=>by simp at e
 | a::hs,t::ts,h,k,e=>by
  rw[List.cons_append,List.cons_append,eD,jQ hs ts h k (by simpa using e)]
  rfl
theorem k8:∀ (hs:!(Str×!Str)) (l:!D),(eD hs l).length<=l.length
 | [],[]=>by simp[eD]
 | [],_::_=>by simp[eD]
 | _::_,[]=>by simp[eD]
 | _::hs,_::l=>by simpa [eD] using k8 hs l
theorem Ir{d l:AC}(cQ:C4 P w K mg base aP aR 1 (bf K (aN d l) (eP d))){n lv:Nat}(Cf:aa0 P w K mg base cz 1 K3)(uE:C4 P w K mg base aP dJ lv (bf K (aN d l) (LL d n)))(Eb:C4 P w K mg base aP dO 2 (bf K (aN d l) (My d)))(F:Own K mg hZ)(T:Txt K mg)(MT:2<=lv):C4 P w K mg base aP hZ (lv+1) (bf K (aN d l) (O7 d n)):=by
 show F.d (nos:=1) bo (λds R h=>?_) λf br A outer s H E M hr=>#[_,(af (lO (p6 (lD (i:=5) bo.nd U U (ts:=["_law_one"]) (us:=[]) #[U,U,U,U,U,U] rfl (bg (aF hr Cf (aa (vd 1) ae))) (λ_ _ _ _=>(gM 0 ["_law_one"])) (λ_ _ _ _=>fD (aB ba cF (d5 (vd 0) ag) aq (ax _)))
 (λ_ _ _ _=>(vd 0)))))
 (af (bD (aB (rb (oK hr)) qh (vd 5) (DN.de (aH ae)) (ax _))
 (aj (aG jW))
 aK)
 (af (jG (n:=1000) (je (vd 5) (ak hr cQ (aa (vd 0) (aa (d7 T.len (aa (vd 5) ae)) ae)))) (cK (m:=4) U (az (gN 6 bo.nd) (az (gN 7 bo.nd) (az (gN 8 bo.nd) (az (gN 9 bo.nd) cG))))))
 (af (sS 10 bo.nd (ak hr uE (aa (vd 0) (aa (vd 1) (aa (vd 2) (aa (vd 7) (aa (aZ cn uD (vd 4) ag) ae)))))))
 (af (sN 0 11 bo.nd (aH ae))
 (af (sF (bg (vd 8)) (cK (m:=2) U (az (gN 12 bo.nd) (az (gN 13 bo.nd) cG)))
 (af (sS 14 bo.nd (ak hr Eb (aa (vd 0) (aa (vd 1) (aa (vd 2) (aa (d7 T.len (aa (vd 13) ae)) ae))))))
 (af (sS 15 bo.nd (DN.de (dw bV bY (vd 2) (DN.de (ph U U T.list U T.zip (aa (vd 14) (aa (DN.de (nC ["_law_field"] [] (bg (vd 13)) (λ_ _ _ _=>(gM 0 ["_law_field"])) (λ_ _ _ _=>cj)
 (λ_ _ _ _=>(d5 (vd 0) ag)))) ae)))))))
 (aj (bD (aB ku nz (ak hr cQ (aa (vd 0) (aa ag ae))) ag (ax _))
 (aj (oS 11 (aa (aJ (aa (vd 12) (aa (vd 14) (aa (ak hr uE (aa (vd 0) (aa (vd 1) (aa (vd 15) (aa (vd 3) (aa (aZ cn uD (aZ gw eI (vd 4) ag) (aZ bX eI ag (d7 T.len (aa (vd 8) ae)))) ae)))))) ae)))) ae)))
 aK)))))
 (aj (aG (aJ (aa aq (aa (vd 10) (aa (vd 3) (aa (iq T.tuple (aa (sM (pv 11)) ae)) ae))))))))))))),λds R h=>?_]
 .let(W,sc,ks,room,rfl,_):=h
  rfl
 .let(W,sc,k,room,rfl,(bp,sok,hk,hsl,h0,h1,y3),qn,q):=h;obtain⟨n',rfl⟩:∃ n',n=n'+1:=#[n - 1,by cbv];have hsz:=aV;show#[_,U,W,U,bp,_,.inl U,?_];show bh jo jo (λx=>decide (a9 x.asked="made")) _ (λx hx kk N g1 g2=>?_) ?_
  .refine#[_,U,_,_,_,U,U,U,#[U,U,U],_,U,?_];exact aL (b':=decide (a9 x.asked="made")) ck (λe=>#[_,U,g1 e _ U]) λe=>g2 e _ U
  rw[SX];generalize hsm:(things W).filter (λx=>decide (a9 x.asked="made"))=sm;have hmem:∀ x∈sm,x∈W.kinds/\x.bJ≠[]/\x.asked=false:=λx hx=>by
   rw[<- hsm] at hx;let(a,b):=TB.mp hx;let(c1,c2):=fq.mp a;show#[c1,c2,?_];cases e:x.asked with
   | false=>rfl
   | true=>rw[e] at b;revert b;decide+kernel
  have hsml:sm.length<=5:=by
   rw[<- hsm];show SI (Tj _ _) (SI (Tj _ _) bp.kl)
  have hpk:lH (.lst (sm.map jo))=true:=eC λx hx=>zW bp (hmem x hx).1;show#[_,U,#[hpk,U,.inr ()],_,U,?_];by_cases hsn:sm=[]
  .exact gU (by rw[hsn];rfl) qn
  show eQ ?_ ?_
  .let(c0,r0,e):=Tu hsn;rw[e]
   rfl
  have hs0:0 < sm.length:=Ub.mpr hsn;show#[_,U,_,U,_,U,_,.inl U,_,U,#[by rw[Ss];omega,by rw[Ss];omega],λr r0 r1=>?_];let(kd,hkd,ekd):=iG (f:=jo) (xs:=sm) r0 (by simpa using r1);let(k1,k2,k3):=hmem kd hkd;show#[_,_,_,U,U,ekd,?_];show#[_,U,U,_,_,U,_,_,U,_,_,U,_,_,U,U,?_];show#[_,U,_,U,_,U,_,U,_,U,_,_,U,U,#[by decide,by decide],?_];show#[W,sc,kd.name,room / 3,U,#[bp,sok,.inr #[kd,k1,k2,U],by cbv,by cbv,by cbv],λta hta hda=>?_];show#[#[U,U],?_];show#[_,U,_,.inr U,?_];have B9:=(bp.kw kd k1).2.1;show cq (λxs s=>∃ (dn td:!ia) (sub:!(ia×!Str)) (ts:!Tm) (fG gx uV uW:Sl),kd.bJ=dn++td/\xs=td.map cS/\RJ W sc k n' ((room - 1) / (1+((kd.bJ.map cS).length:Int))).toNat dn sub ts/\s=#[[.dat (.cb d),.dat (jM W),.dat (.lst (sc.map pairD)),.dat (.str k),.dat (.int room),.dat (.lst (sm.map jo)),.dat (.str (a9 kd.asked)),.dat (.str kd.name),.dat (.tup (kd.bJ.map cS)),.dat (.tup (kd.cT.map d6)),.dat (toD ta),.own 0,fG,gx,uV,uW],[some (.lst (eD (sub.map λp=>(p.1.name,p.2)) (ts.map toD)))]]) ?_ ?_ _ _ #[[],kd.bJ,[],[],.no,.no,.no,.no,U,U,#[T7 _,λ_ h=>(nomatch h),eM.nil,λ_ h=>(nomatch h)],U]
  .rintro s ⟨dn,td,sub,ts,fG,gx,uV,uW,hdt,hx,⟨i1,i2,i3,i4⟩,rfl⟩;have htd:td=[]:=by
    cases td with
    | nil=>rfl
    | cons a b=>cases hx
   rw[htd,SY] at hdt;show#[_,U,_,U,?_];show .inr #[_,_,U,U,?_];show#[_,.inl U,?_];have:=q (.node (.B0 k (sub.map λp=>(p.1.name,p.2))) (ta::ts)) (Ty.mk (.B0 k1 k2 k3 (hdt▸i1) i2) (eM.pC hta i3)) ?_
   .rw[toD,toDs_map] at this;exact this
   .have e1:ts.length=sub.length:=by rw[i3.len,Ss]
    have e2:=i1.length_le;rw[Ss] at e2;have e3:=congrArg List.length hdt;exact AV (SI (Uz e1) (SI e2 (Uz e3.symm))) B9 h0 y3 hda (by rw[Ss] at i4;exact i4)
  .rintro x xs s N ⟨dn,td,sub,ts,fG,gx,uV,uW,hdt,hx,⟨i1,i2,i3,i4⟩,rfl⟩ hN hE_;cases td with
   | nil=>cases hx
   | cons m td =>
   injection hx with e1 e2;subst e1 e2;have hm:m∈kd.bJ:=by rw[hdt];simp
   let(m1,m2,m3,m4):=bp.mo kd k1 m hm;show#[_,U,U,_,_,U,_,_,U,U,?_];show#[_,U,_,U,_,U,_,U,_,.inr U,?_];show#[W,sc,m.fs.length,by rw[Ss],#[bp,sok,m2,by cbv],λns n9 hb=>?_];show#[_,U,_,U,_,U,_,.inr U,?_];show bw pairD (λp=>D.str p.2) _ (λp hp k2 hk2=>#[_,U,_,_,_,U,U,U,hk2 _ U]) ?_;rw[SX];show#[_,_,_,_,U,#[U,U],?_];rw[p9];show#[_,_,U,U,by simp;cbv,?_];rw[<- Sz];show#[_,U,_,U,#[by decide,by decide],λr2 r20 r21=>?_];show#[_,_,U,U,_,U,?_];show aL U (λ_=>?_) λ_=>?_
   rotate_left
   .exact hN _ #[dn++[m],td,sub,ts,.dat (.str m.name),.dat (dQ m.fs),.dat (.tup (ns.map D.str)),_,by rw[hdt];simp,U,#[i1.trans (List.sublist_append_left _ _),i2,i3,i4],U]
   show#[0,_,U,U,U,?_];show#[_,U,_,U,?_];show#[_,U,_,U,_,U,_,U,?_];show#[_,U,_,_,U,U,?_];show#[_,U,_,.inr U,_,_,U,U,?_];show#[_,_,U,U,#[by rw[Ss];cbv,by rw[Ss];cbv],?_];have hdl:0<=(room - 1) / (1+((kd.bJ.map cS).length:Int))/\(room - 1) / (1+((kd.bJ.map cS).length:Int))<=room - 1:=#[Uy (by cbv) (by cbv),UN _ (by cbv)];show#[W,sc++ns.zip (m.fs.map (·.2)),k,_,U,#[bp,sok.more hb (by rw[n9,Ss]) (λx hx=>?_) (by cbv),hk,hdl.1,by have:=hdl.2;cbv,by have:=hdl.2;cbv],λt ht hd=>?_]
   .let(p,hp,rfl):=SV.mp hx;exact m4 p hp
   have htl:ts.length=sub.length:=by rw[i3.len,Ss]
   have hsub:=i1.length_le;have hdl2:=congrArg List.length hdt;rw[Sv] at hdl2;rw[Ss] at hsub;show#[_,U,_,_,U,U,?_,?_]
   .have:=k8 (sub.map λp=>(p.1.name,p.2)) (ts.map toD);rw[Ss] at this;cbv
   show hN _ #[dn++[m],td,sub++[(m,ns)],ts++[t],.dat (.str m.name),.dat (dQ m.fs),.dat (.tup (ns.map D.str)),.dat (.lst ((sc++ns.zip (m.fs.map (·.2))).map pairD)),by rw[hdt];simp,U,#[?_,λp hp=>?_,?_,λu hu=>?_],?_]
   rotate_right
   .have e:eD ((sub++[(m,ns)]).map λp=>(p.1.name,p.2)) ((ts++[t]).map toD)=eD (sub.map λp=>(p.1.name,p.2)) (ts.map toD)++[Dq (m.name,ns) (toD t)]:=by
     rw[Sz,Sz];exact jQ _ _ _ _ (by rw[Ss,Ss];exact htl.symm)
    rw[e]
    rfl
   .rw[Sz];exact Uw i1 (T7 _)
   .rcases SN.mp hp with hp | hp
    .exact i2 p hp
    .rw[SF.mp hp];exact#[n9,hb]
   .rw[Sz];exact eM.app i3 (eM.cons ht eM.nil)
   .rcases SN.mp hu with hu | hu
    .exact i4 u hu
    .rw[SF.mp hu];exact hd
def RK(W:bW)(sc:!(Str×Str))(n q:Nat)(ms:!iu)(sub:!(iu×!Str))(ts:!Tm):Prop :=
 (sub.map (·.1)).Sublist ms/\(∀ p∈sub,p.2.length=p.1.ps.length/\wq W sc p.2)/\eM W sc (sub.map λp=>(p.2.zip (p.1.ps.map (·.2)),p.1.res)) ts/\∀ t∈ts,t.rq (n+2) q
theorem KW{d l:AC}(cQ:C4 P w K mg base aP aR 1 (bf K (aN d l) (eP d))){n lv:Nat}(uE:C4 P w K mg base aP dJ lv (bf K (aN d l) (LL d n)))(Eb:C4 P w K mg base aP dO 2 (bf K (aN d l) (My d)))(F:Own K mg iY)(T:Txt K mg)(MT:2<=lv):C4 P w K mg base aP iY (lv+1) (bf K (aN d l) (O7 d n)):=by
 show F.d (nos:=1) cA (λds R h=>?_) λf br A outer s H E M hr=>#[_,(af (lO (p6 (lD (i:=5) cA.nd U U (ts:=["_law_one"]) (us:=[3]) #[U,U,U,U,U,U] rfl (bg (fJ (bq (dN hr) (DE.pe (vd 1)) (DE.pe aq) (λ_ _=>rfl)))) (λ_ _ _ _=>(gM 0 ["_law_one","_law_kind"])) (λ_ _ _ _=>fD (DW.dt (jR (aB ba cF (d5 (vd 0) ag) aq (ax _)) (g7 (aB ba cF (d5 (vd 0) ag) (vd 1) (ax _))))))
 (λ_ _ _ _=>(vd 0)))))
 (af (bD (aB (rb (oK hr)) qh (vd 5) (DN.de (aH ae)) (ax _))
 (aj (aG jW))
 aK)
 (af (sS 6 cA.nd (d5 (je (vd 5) ag) ag))
 (af (sN 0 7 cA.nd (aH ae))
 (af (sF (bg (vd 6)) (cK (m:=3) U (az (gN 8 cA.nd) (az (gN 9 cA.nd) (az (gN 10 cA.nd) cG))))
 (af (sS 11 cA.nd (ak hr Eb (aa (vd 0) (aa (vd 1) (aa (vd 2) (aa (d7 T.len (aa (vd 9) ae)) ae))))))
 (af (sS 12 cA.nd (DN.de (dw bV bY (vd 2) (DN.de (ph U U T.list U T.zip (aa (vd 11) (aa (DN.de (nC ["_law_param"] [] (bg (vd 9)) (λ_ _ _ _=>(gM 0 ["_law_param"])) (λ_ _ _ _=>cj)
 (λ_ _ _ _=>(d5 (vd 0) ag)))) ae)))))))
 (aj (bD (aB ku nz (ak hr cQ (aa (vd 0) (aa ag ae))) ag (ax _))
 (aj (oS 7 (aa (aJ (aa (vd 8) (aa (vd 11) (aa (ak hr uE (aa (vd 0) (aa (vd 1) (aa (vd 12) (aa (vd 10) (aa (aZ cn uD (aZ gw eI (vd 4) ag) (aZ bX eI ag (d7 T.len (aa (vd 6) ae)))) ae)))))) ae)))) ae)))
 aK)))))
 (aj (aG (aJ (aa aq (aa (vd 3) (aa (iq T.tuple (aa (sM (pv 7)) ae)) ae))))))))))),λds R h=>?_]
 .let(W,sc,ks,room,rfl,_):=h
  rfl
 .let(W,sc,k,room,rfl,(bp,sok,hk,hsl,h0,h1,y3),qn,q):=h;obtain⟨n',rfl⟩:∃ n',n=n'+1:=#[n - 1,by cbv];have hsz:=aV;show#[_,U,?_];show dH #[_,U,_,.inl U,?_];show bh jo jo (λx=>decide (a9 x.asked="asked")&&decide (x.name=k)) _ (λx hx kk N g1 g2=>?_) ?_
  .refine#[_,U,_,_,_,U,U,U,#[U,U,U],_,U,?_];show aL (b':=decide (a9 x.asked="asked")) ck (λe=>?_) λe=>g2 (by rw[e];rfl) _ U;show#[_,U,_,_,_,U,U,U,_,U,#[U,U,U],_,U,?_];exact aL (b':=decide (x.name=k)) ck (λe2=>#[_,U,g1 (by rw[e,e2];rfl) _ U]) λe2=>g2 (by rw[e,e2];rfl) _ U
  rw[SX];generalize hsm:W.kinds.filter (λx=>decide (a9 x.asked="asked")&&decide (x.name=k))=sm;have hmem:∀ x∈sm,x∈W.kinds/\x.asked=true/\x.name=k:=λx hx=>by
   rw[<- hsm] at hx;let(a,b):=TB.mp hx;rw[Tr] at b;show#[a,?_,by simpa using b.2];have b:=b.1;cases e:x.asked with
   | true=>rfl
   | false=>rw[e] at b;revert b;decide+kernel
  have hpk:lH (.lst (sm.map jo))=true:=eC λx hx=>zW bp (hmem x hx).1;show#[_,U,#[hpk,U,.inr ()],_,U,?_];by_cases hsn:sm=[]
  .exact gU (by rw[hsn];rfl) qn
  let(kd,sr,rfl):=Tu hsn;show eQ U ?_;let(k1,k3,k4):=hmem kd SD;have k2:=BW bp hk k1 k4;show#[_,U,_,_,_,U,U,bE,_,_,_,U,U,U,?_];show#[#[U,U],?_];show#[_,U,_,.inr U,?_];have B9:=(bp.kw kd k1).2.2;show cq (λxs s=>∃ (dn td:!iu) (sub:!(iu×!Str)) (ts:!Tm) (x8 x9 i7 gy fG:Sl),kd.cT=dn++td/\xs=td.map d6/\RK W sc n' ((room - 1) / (1+((kd.cT.map d6).length:Int))).toNat dn sub ts/\s=#[[.dat (.cb d),.dat (jM W),.dat (.lst (sc.map pairD)),.dat (.str k),.dat (.int room),.dat (.lst ((kd::sr).map jo)),.dat (.tup (kd.cT.map d6)),.own 0,x8,x9,i7,gy,fG],[some (.lst (eD (sub.map λp=>(p.1.name,p.2)) (ts.map toD)))]]) ?_ ?_ _ _ #[[],kd.cT,[],[],.no,.no,.no,.no,.no,U,U,#[T7 _,λ_ h=>(nomatch h),eM.nil,λ_ h=>(nomatch h)],U]
  .rintro s ⟨dn,td,sub,ts,x8,x9,i7,gy,fG,hdt,hx,⟨i1,i2,i3,i4⟩,rfl⟩;have htd:td=[]:=by
    cases td with
    | nil=>rfl
    | cons a b=>cases hx
   rw[htd,SY] at hdt;show#[_,U,?_];show .inr #[_,_,U,U,?_];show#[_,.inl U,?_];have:=q (.node (.new kd.name (sub.map λp=>(p.1.name,p.2))) ts) (k4▸Ty.mk (.new k1 k2 k3 (hdt▸i1) i2) i3) (by
    have e1:ts.length=sub.length:=by rw[i3.len,Ss]
    have e2:=i1.length_le;rw[Ss] at e2;have e3:=congrArg List.length hdt;rw[Ss] at i4;exact Cs (SI (Uz e1) (SI e2 (Uz e3.symm))) B9 h0 y3 i4)
   rw[toD,toDs_map] at this;rw[<- k4];exact this
  .rintro x xs s N ⟨dn,td,sub,ts,x8,x9,i7,gy,fG,hdt,hx,⟨i1,i2,i3,i4⟩,rfl⟩ hN hE_;cases td with
   | nil=>cases hx
   | cons m td =>
   injection hx with e1 e2;subst e1 e2;have hm:m∈kd.cT:=by rw[hdt];simp
   let(m1,(m2,m3,m4),m5):=bp.ao kd k1 m hm;show#[_,U,U,_,_,U,_,_,U,_,_,U,U,?_];show#[_,U,_,U,_,U,_,U,_,.inr U,?_];show#[W,sc,m.ps.length,by rw[Ss],#[bp,sok,m2,by cbv],λns n9 hb=>?_];show#[_,U,_,U,_,U,_,.inr U,?_];show bw pairD (λp=>D.str p.2) _ (λp hp k2 hk2=>#[_,U,_,_,_,U,U,U,hk2 _ U]) ?_;rw[SX];show#[_,_,_,_,U,#[U,U],?_];rw[p9];show#[_,_,U,U,by simp;cbv,?_];rw[<- Sz];show#[_,U,_,U,#[by decide,by decide],λr2 r20 r21=>?_];show#[_,_,U,U,_,U,?_];show aL U (λ_=>?_) λ_=>?_
   rotate_left
   .exact hN _ #[dn++[m],td,sub,ts,.dat (.str m.name),.dat (dQ m.ps),.dat (.str m.res),.dat (.tup (ns.map D.str)),_,by rw[hdt];simp,U,#[i1.trans (List.sublist_append_left _ _),i2,i3,i4],U]
   show#[0,_,U,U,U,?_];show#[_,U,_,U,?_];show#[_,U,_,U,_,U,_,U,?_];show#[_,U,_,_,U,U,?_];show#[_,U,_,.inr U,_,_,U,U,?_];show#[_,_,U,U,#[by rw[Ss];cbv,by rw[Ss];cbv],?_];have hdl:0<=(room - 1) / (1+((kd.cT.map d6).length:Int))/\(room - 1) / (1+((kd.cT.map d6).length:Int))<=room - 1:=#[Uy (by cbv) (by cbv),UN _ (by cbv)];show#[W,sc++ns.zip (m.ps.map (·.2)),m.res,_,U,#[bp,sok.more hb (by rw[n9,Ss]) (λx hx=>?_) (by cbv),m5,hdl.1,by have:=hdl.2;cbv,by have:=hdl.2;cbv],λt ht hd=>?_]
   .let(p,hp,rfl):=SV.mp hx;exact m4 p hp
   have htl:ts.length=sub.length:=by rw[i3.len,Ss]
   have hsub:=i1.length_le;have hdl2:=congrArg List.length hdt;rw[Sv] at hdl2;rw[Ss] at hsub;show#[_,U,_,_,U,U,?_,?_]
   .have:=k8 (sub.map λp=>(p.1.name,p.2)) (ts.map toD);rw[Ss] at this;cbv
   show hN _ #[dn++[m],td,sub++[(m,ns)],ts++[t],.dat (.str m.name),.dat (dQ m.ps),.dat (.str m.res),.dat (.tup (ns.map D.str)),.dat (.lst ((sc++ns.zip (m.ps.map (·.2))).map pairD)),by rw[hdt];simp,U,#[?_,λp hp=>?_,?_,λu hu=>?_],?_]
   rotate_right
   .have e:eD ((sub++[(m,ns)]).map λp=>(p.1.name,p.2)) ((ts++[t]).map toD)=eD (sub.map λp=>(p.1.name,p.2)) (ts.map toD)++[Dq (m.name,ns) (toD t)]:=by
     rw[Sz,Sz];exact jQ _ _ _ _ (by rw[Ss,Ss];exact htl.symm)
    rw[e]
    rfl
   .rw[Sz];exact Uw i1 (T7 _)
   .rcases SN.mp hp with hp | hp
    .exact i2 p hp
    .rw[SF.mp hp];exact#[n9,hb]
   .rw[Sz];exact eM.app i3 (eM.cons ht eM.nil)
   .rcases SN.mp hu with hu | hu
    .exact i4 u hu
    .rw[SF.mp hu];exact hd
theorem Dm{r:Int}(h0:0<=r)(h1:r < 3):∃ ch,iw ("+-*":Str).cps.toList r=some ch/\(#[#v[ch]]:Str)∈(["+","-","*"]:!Str):=by
 have:r=0\/r=1\/r=2:=by cbv
 rcases this with rfl | rfl | rfl
 .exact#[43,U,by decide+kernel]
 .exact#[45,U,by decide+kernel]
 .exact#[42,U,by decide+kernel]
theorem Eg{d l:AC}(cQ:C4 P w K mg base aP aR 1 (bf K (aN d l) (eP d)))(Cf:aa0 P w K mg base cz 1 K3)(Eb:C4 P w K mg base aP dO 2 (bf K (aN d l) (My d)))(MS:C4 P w K mg base aP hU 3 (bf K (aN d l) (QK d 2)))(Jh:Own K mg gF)(IK:Own K mg jh)(Jj:Own K mg hZ)(Ln:Own K mg iY)(Ik:Own K mg dJ)(T:Txt K mg):∀ n,C4 P w K mg base aP dJ (3 * n+2) (bf K (aN d l) (LL d n))
 | 0=>Ik.c λ_ _ _=>gG
 | n+1=>by
  have uE:=Eg cQ Cf Eb MS Jh IK Jj Ln Ik T n;have Kv:=Ls uE Jh T;have GAs:=JM cQ Cf Kv IK T (by cbv);have GCa:=Ir cQ Cf uE Eb Jj T (by cbv);have GNe:=KW cQ uE Eb Ln T (by cbv);show Ik.c λfTe fdTe F_=>?_;show Mq (nos:=0) F_ aI (λds R h=>?_) λbr A outer s H E M hr=>#[_,(af (sS 5 aI.nd (ak hr cQ (aa (vd 0) (aa ag ae))))
 (af (sS 6 aI.nd jW)
 (af (bD (DW.dt (jD (aB BR nz (vd 4) ag (ax _)) (jD (aB ba cF (vd 5) ag (ax _)) (mY (aB ku nz (d7 T.len (aa (vd 2) ae)) ag (ax _))))))
 (aj (aG (ak hr MS (aa (vd 0) (aa (vd 1) (aa (vd 2) (aa (vd 3) ae)))))))
 aK)
 (af (bD (aB BR nz (vd 5) ag (ax _))
 (aj (sS 6 aI.nd (ak hr GAs (aa (vd 0) (aa (vd 1) (aa (vd 2) (aa (vd 3) (aa (vd 4) ae))))))))
 (aj (bD (DW.dt (jR (aB ba cF (vd 5) ag (ax _)) (g7 (cL (fJ (bq (dN hr) (DE.pe (vd 1)) (DE.pe aq) (λ_ _=>rfl)))))))
 (aj (sS 6 aI.nd (ak hr GCa (aa (vd 0) (aa (vd 1) (aa (vd 2) (aa (vd 3) (aa (vd 4) ae))))))))
 (aj (bD (DW.dt (jR (aB ba cF (vd 5) ag (ax _)) (g7 (cL (fJ (bq (dN hr) (DE.pe (vd 1)) (DE.pe aq) (λ_ _=>rfl)))))))
 (aj (sS 6 aI.nd (ak hr GNe (aa (vd 0) (aa (vd 1) (aa (vd 2) (aa (vd 3) (aa (vd 4) ae))))))))
 (aj (bD (aB ba cF (vd 5) ag (ax _))
 (af (sS 7 aI.nd (ak hr uE (aa (vd 0) (aa (vd 1) (aa (vd 2) (aa aq (aa (aZ cn uD (vd 4) ag) ae)))))))
 (af (sS 8 aI.nd (ak hr uE (aa (vd 0) (aa (vd 1) (aa (vd 2) (aa (vd 3) (aa (aZ cn uD (vd 4) ag) ae)))))))
 (aj (sS 6 aI.nd (aJ (aa aq (aa (vd 7) (aa (vd 8) (aa (ak hr uE (aa (vd 0) (aa (vd 1) (aa (vd 2) (aa (vd 3) (aa (aZ cn uD (vd 4) ag) ae)))))) ae)))))))))
 (aj (bD (aB ba cF (vd 5) ag (ax _))
 (af (sS 9 aI.nd (DN.de (dw bV bY (DN.de (nC ["_law_one"] [] (bg (aF hr Cf (aa (vd 1) ae))) (λ_ _ _ _=>(gM 0 ["_law_one"])) (λ_ _ _ _=>cj)
 (λ_ _ _ _=>(d5 (vd 0) ag)))) (DN.de (aH (aa aq ae))))))
 (af (sS 10 aI.nd (je (vd 9) (ak hr cQ (aa (vd 0) (aa (d7 T.len (aa (vd 9) ae)) ae)))))
 (af (sS 11 aI.nd (d5 (ak hr Eb (aa (vd 0) (aa (vd 1) (aa (vd 2) (aa ag ae))))) ag))
 (af (sS 7 aI.nd (ak hr uE (aa (vd 0) (aa (vd 1) (aa (vd 2) (aa (vd 10) (aa (aZ cn uD (vd 4) ag) ae)))))))
 (aj (sS 6 aI.nd (aJ (aa aq (aa (vd 11) (aa (vd 7) (aa (ak hr uE (aa (vd 0) (aa (vd 1) (aa (DN.de (dw bV bY (vd 2) (DN.de (aH (aa (aJ (aa (vd 11) (aa (vd 10) ae))) ae))))) (aa (vd 3) (aa (aZ cn uD (vd 4) ag) ae)))))) ae)))))))))))
 aK)))))))))
 (af (bD (aB Cv HK (vd 6) jW (ax _))
 (aj (aG (vd 6)))
 aK)
 (af (bD (aB ba cF (vd 3) aq (ax _))
 (af (jG (n:=1000) (ak hr Kv (aa (vd 0) (aa (vd 1) (aa (vd 2) (aa (DN.de (aH (aa aq (aa aq ae)))) (aa (aZ gw eI (vd 4) ag) ae)))))) (cK (m:=2) U (az (gN 7 aI.nd) (az (gN 8 aI.nd) cG))))
 (aj (aG (aJ (aa aq (aa (AB qH AS aq (ak hr cQ (aa (vd 0) (aa ag ae))) (λ_ _=>rfl)) (aa (vd 7) (aa (vd 8) ae))))))))
 aK)
 (af (sS 12 aI.nd (je (DN.de (nC ["_law_one"] [3] (bg (fJ (bq (dN hr) (DE.pe (vd 1)) (DE.pe aq) (λ_ _=>rfl)))) (λ_ _ _ _=>(gM 0 ["_law_one","_law_kind"])) (λ_ _ _ _=>fD (aB ba cF (d5 (vd 0) ag) (vd 1) (ax _)))
 (λ_ _ _ _=>(d5 (vd 0) ag)))) ag))
 (af (jG (n:=1000) (d5 (vd 12) (ak hr cQ (aa (vd 0) (aa (d7 T.len (aa (vd 12) ae)) ae)))) (cK (m:=2) U (az (gN 13 aI.nd) (az (gN 14 aI.nd) cG))))
 (aj (aG (aJ (aa aq (aa (vd 13) (aa (ak hr Kv (aa (vd 0) (aa (vd 1) (aa (vd 2) (aa (DN.de (nC ["_law_field"] [] (bg (vd 14)) (λ_ _ _ _=>(gM 0 ["_law_field"])) (λ_ _ _ _=>cj)
 (λ_ _ _ _=>(d5 (vd 0) ag)))) (aa (aZ gw eI (vd 4) ag) ae)))))) ae)))))))))))))),λds R h=>?_]
  .let(W,sc,k,room,rfl,_):=h
   rfl
  .let(W,sc,k,room,rfl,(bp,sok,hk,h0,h1,y3),q):=h;show#[_,U,_,U,#[by decide,by decide],λfm f0 f1=>?_];refine' jn ?hleaf λhleaf=>?main
   case main =>
    show#[_,U,_,_,U,U,_,U,?_];show aL U (λ_=>mh hleaf) λc1=>?_;show#[_,U,#[U,U,U],_,U,?_];show aL U (λ_=>mh hleaf) λc2=>?_;show#[_,U,_,.inl U,_,_,U,U,_,U,?_];show aL U (λ_=>hleaf) λc3=>?_;have c1:¬ room < 2:=by simpa using c1
    have c3:¬ (12:Int) < sc.length:=by simpa using c3
    obtain⟨n',rfl⟩:∃ n',n=n'+1:=#[n - 1,by cbv];refine' jn ?hnone λhnone=>?main2
    case main2 =>
     show#[_,U,_,_,U,U,_,U,?_];show aL U (λ_=>?_) λ_=>?_
     .refine#[_,U,_,U,_,U,_,U,_,U,W,sc,k,room,U,#[bp,sok,hk,by cbv,by cbv,by cbv,by cbv],hnone,λt ht hd=>?_];exact#[_,U,U,_,U,gU (AY t) #[_,U,q t ht hd]]
     show#[_,U,#[U,U,U],_,U,?_];refine' jn ?h5 λh5=>?main3
     case main3 =>
      show aL U (λ_=>?_) λ_=>h5;show#[_,U,?_];show om #[_,U,_,U,?_];show aL U (λ_=>?_) λ_=>h5;show#[_,U,_,U,_,U,_,U,_,U,W,sc,k,room,U,#[bp,sok,hk,by cbv,by cbv,by cbv,by cbv],hnone,λt ht hd=>?_];exact#[_,U,U,_,U,gU (AY t) #[_,U,q t ht hd]]
     case h5 =>
      show#[_,U,#[U,U,U],_,U,?_];refine' jn ?h6 λh6=>?main4
      case main4 =>
       show aL U (λ_=>?_) λ_=>h6;show#[_,U,?_];show om #[_,U,_,U,?_];show aL U (λ_=>?_) λ_=>h6;show#[_,U,_,U,_,U,_,U,_,U,W,sc,k,room,U,#[bp,sok,hk,by cbv,by cbv,by cbv,by cbv],hnone,λt ht hd=>?_];exact#[_,U,U,_,U,gU (AY t) #[_,U,q t ht hd]]
      case h6 =>
       show#[_,U,#[U,U,U],_,U,?_];show aL U (λ_=>?_) λ_=>?_
       .refine#[_,U,_,U,_,U,_,U,_,_,U,U,#[by decide,by decide],W,sc,"number",room / 3,U,#[bp,sok,.inl U,by cbv,by cbv,by cbv],λta hta hda=>?_];show#[_,U,_,U,_,U,_,U,_,U,_,_,U,U,#[by decide,by decide],W,sc,k,room / 3,U,#[bp,sok,hk,by cbv,by cbv,by cbv],λtb htb kJ=>?_];show#[_,U,_,U,?_];show#[_,U,_,U,_,U,_,U,_,U,_,_,U,U,#[by decide,by decide],W,sc,k,room / 3,U,#[bp,sok,hk,by cbv,by cbv,by cbv],λtc htc hdc=>?_];show#[_,U,U,_,U,gU U #[_,U,?_]];exact q (.node .Aa [ta,tb,tc]) (Ty.mk .Aa (.pC hta (.pC htb (.pC htc .nil)))) (ji (q:=room.toNat / 3) (λt ht=>by
         rw[show (room / 3).toNat=room.toNat / 3 by cbv] at hda kJ hdc;simp at ht;rcases ht with rfl | rfl | rfl<;>assumption) (Gy (by cbv) (by cbv)))
       show#[_,U,#[U,U,U],_,U,?_];show aL U (λ_=>?_) λ_=>hnone;show#[_,U,W,U,bp,_,.inl U,?_];show bw jo (λk=>D.str k.name) _ (λk hk k2 hk2=>#[_,U,_,_,_,U,U,U,hk2 _ U]) ?_;have hsz:=aV;have htl:(things W).length<=5:=SI (Tj _ _) bp.kl;have enm:(things W).map (λk=>D.str k.name)++[D.str "number"]=((things W).map Kd.name++gD).map D.str:=by
        rw[Sz,S6]
        rfl
       rw[SX];show#[_,_,U,U,by simp;cbv,?_];rw[enm];show#[_,U,_,U,_,U,_,.inl U,_,U,#[by simp,by simp;cbv],λr2 r20 r21=>?_];let(ot,hot,eot):=iG (f:=D.str) (xs:=(things W).map Kd.name++gD) r20 (by simpa using r21);show#[_,_,_,U,U,eot,?_];have bj:oX W ot:=by
        rcases SN.mp hot with h | h
        .let(kd,hkd,rfl):=SV.mp h;let(a,b):=fq.mp hkd;exact .inr #[kd,a,b,U]
        .exact .inl (SF.mp h)
       show#[_,U,_,U,_,U,W,sc,1,U,#[bp,sok,by decide,by cbv],λns n9 hb=>?_];obtain⟨x,rfl⟩:∃ x,ns=[x]:=by
        let(x,r,rfl):=Cz (l:=ns) (by cbv);cases r with
        | nil=>exact#[x,U]
        | cons y r=>simp at n9
       show#[_,_,_,U,U,bE,?_];show#[_,U,_,U,_,U,_,U,_,U,_,_,U,U,#[by decide,by decide],W,sc,ot,room / 2,U,#[bp,sok,bj,by cbv,by cbv,by cbv],λta hta hda=>?_];show#[_,U,_,U,?_];show#[_,U,_,U,_,U,_,U,_,U,_,_,U,U,by simp;cbv,?_];show#[_,U,_,U,_,_,U,U,#[by decide,by decide],?_];show#[W,sc++[(x,ot)],k,room / 2,by rw[List.map_append]<;>rfl,#[bp,sok.more (ns:=[x]) (ks:=[ot]) hb U (λy hy=>List.mem_singleton.mp hy▸bj) (by simp;cbv),hk,by cbv,by cbv,by cbv],λtb htb kJ=>?_];show#[_,U,U,_,U,gU U #[_,U,?_]];exact q (.node (.lt x) [ta,tb]) (Ty.mk (.lt hb bj) (.pC hta (.cons htb .nil))) (ji (q:=room.toNat / 2) (λt ht=>by
        rw[show (room / 2).toNat=room.toNat / 2 by cbv] at hda kJ;simp at ht;rcases ht with rfl | rfl<;>assumption) (Gb (by cbv) (by cbv)))
    case hnone =>
     show#[_,U,U,_,U,eQ U ?_];show#[_,U,#[U,U,U],_,U,?_];show aL (b':=decide (k="number")) ck (λe=>?_) λe=>?_
     .have e:k="number":=by simpa using e
      show#[_,U,_,U,_,U,_,U,_,_,U,U,?_];show#[W,sc,["number","number"],room - 1,U,#[bp,sok,λx hx=>?_,by decide,by cbv,by cbv,by cbv],λts hts hd=>?_]
      .simp at hx;exact .inl hx
      have hl:=hts.len;let(ta,tb,rfl):=Nt (l:=ts) hl;show#[_,U,U,_,_,U,_,_,U,U,?_];show#[_,U,_,U,#[by decide,by decide],λr2 r20 r21=>?_];let(ch,ech,xn):=Dm r20 r21;show#[_,_,_,U,U,by decide+kernel,ech,?_];show#[_,U,_,U,?_];exact q (.node (.op #[#v[ch]]) [ta,tb]) (e▸Ty.mk (.op xn) hts) (ji (q:=(room.toNat - 1) / max 1 2) (λt ht=>by have:=hd t ht;rw[show (room - 1).toNat=room.toNat - 1 by cbv] at this;exact this) (u5 (n:=2) (by cbv) (by cbv) ()))
     .have e:k≠"number":=by simpa using e
      let(kd,hkd,hmk,hnm,nn,Ca):=kinds_of bp hk e;show#[_,U,?_];show dH #[_,U,_,.inl U,?_];show bh jo (λk=>D.tup (k.bJ.map cS)) (λx=>decide (x.name=k)) _ (λx hx kk N g1 g2=>?_) ?_
      .refine#[_,U,_,_,_,U,U,U,_,U,#[U,U,U],_,U,?_];exact aL (b':=decide (x.name=k)) ck (λe=>#[_,U,_,_,_,U,U,U,g1 e _ U]) λe=>g2 e _ U
      rw[Ca,List.replicate_succ,SA,SX];show#[_,_,_,U,U,bE,?_];have hm0:0 < kd.bJ.length:=Ub.mpr hmk;have hm5:=(bp.kw kd hkd).2.1;show#[_,U,_,U,_,U,_,.inr U,_,U,#[by rw[Ss];cbv,by rw[Ss];cbv],λr2 r20 r21=>?_];let(m,hm,em):=iG (f:=cS) (xs:=kd.bJ) r20 (by simpa using r21);let(m1,m2,m3,m4):=bp.mo kd hkd m hm;show#[_,_,_,U,U,em,?_];show#[_,U,U,_,_,U,_,_,U,U,?_];show#[_,U,_,U,_,U,_,U,_,U,_,.inr U,?_];show bw pairD (λp=>D.str p.2) _ (λp hp k2 hk2=>#[_,U,_,_,_,U,U,U,hk2 _ U]) ?_;rw[SX];show#[_,U,_,_,U,U,?_];show#[W,sc,m.fs.map (·.2),room - 1,by rw[S6]<;>rfl,#[bp,sok,λx hx=>?_,by rw[Ss];cbv,by cbv,by cbv,by cbv],λts hts hd=>?_]
      .let(p,hp,rfl):=SV.mp hx;exact m4 p hp
      have:=q (.node (.mk m.name) ts) (hnm▸Ty.mk (.mk hkd hm) (by rw[S6] at hts;exact hts)) (ji (q:=(room.toNat - 1) / max 1 ts.length) (λt ht=>by have:=hd t ht;rw[show (room - 1).toNat=room.toNat - 1 by cbv] at this;exact this) (u5 (by cbv) (by cbv) (by have:=hts.len;rw[Ss,Ss] at this;cbv)));rw[toD,toDs_map] at this;exact this
   case hleaf =>
    exact#[_,U,_,U,_,U,_,U,W,sc,k,U,#[bp,sok,hk,λe=>absurd e ()],λt ht hd=>q t ht (Tm.lf.rq (n:=2) hd (by cbv) (by cbv))]
def QJ(d:AC):UR:=λds R=>∃ (most:Int) (b:Bool),ds=[.cb d,.int most,.bl b]/\(1<=most/\most<=3)/\∀ (ws:!Str) (ks:!Kd),ws.length=45->ws.Nodup->(∀ x∈ws,Nm x)->wG ws ks->R (jM (dg ws ks b))
theorem JD{d l:AC}(RE:C4 P w K mg base aP fZ 2 (bf K (aN d l) (BL d)))(Se:C4 P w K mg base aP fV 3 (bf K (aN d l) (QB d)))(F:Own K mg fU)(T:Txt K mg):C4 P w K mg base aP fU 4 (bf K (aN d l) (QJ d)):=by
 show F.d (nos:=0) kP (λds R h=>?_) λf br A outer s H E M hr=>#[_,(af (sS 3 kP.nd (ak hr RE (aa (vd 0) (aa ag ae))))
 (aj (aG (DN.de (Gq (j5 (ak hr Se (aa (vd 0) (aa (vd 3) (aa (vd 1) ae)))) (j5 (DN.de (cD (vd 3) (bc ag) dk)) (j5 (DN.de (cD (vd 3) (bc ag) (bc ag))) (j5 (vd 2) CP)))) (show List.Nodup [(Sum.inr ("kinds":Str):Key),(Sum.inr ("vars":Str):Key),(Sum.inr ("heads":Str):Key),(Sum.inr ("inner":Str):Key)] by decide+kernel)))))),λds R h=>?_]
 .let(most,b,rfl,_):=h
  rfl
 .let(most,b,rfl,(h1,h3),q):=h;show#[_,U,45,U,#[by decide,by decide],λws nk J8 hwm=>?_];have nk:ws.length=45:=nk;show#[_,U,_,U,_,U,ws,most,U,#[nk,J8,hwm,h1,h3],λks yf=>?_];have e30:cutD (ws.map D.str) (some 30) none=(ws.drop 30).map D.str:=by
   rw[fu,nk,show HT.bO 45 0 (some 30)=30 from U,show HT.bO 45 45 none=45 from U,List.take_of_length_le (by simp[nk])]
  have e24:cutD (ws.map D.str) (some 24) (some 30)=((ws.drop 24).take 6).map D.str:=by rw[fu,nk];rfl
  show#[_,U,_,U,_,U,?_];show#[_,U,_,U,_,U,_,U,?_];rw[e30,e24];show#[_,U,?_];exact q ws ks nk J8 hwm yf
end
end Js
namespace DL
open PySem PySem.Spec L2
def Tm.tq(n:Nat)(t:Tm):Prop:=t.dep<=n/\t.size<=207/\t.Ey<=63/\t.gt
theorem Tm.rq.tq{n r:Nat}{t:Tm}(h:t.rq n r)(hr:r<=16)(hg:t.gt):t.tq n:=#[h.1,SI h.2.1 (mJ hr (Sx _)).1,SI h.2.2 (mJ hr (Sx _)).2,hg]
end DL
namespace Js
open PySem L2 DL
structure sD(W:bW)(n:Nat)(p:PK):Prop where
 tl:p.tabs.length=if p.asked=true then p.kd.bJ.length else p.kd.cT.length
 tm:∀ e∈ents p,e.2.wf=true/\e.2.FR=true/\e.2.tq n
 nd:((ents p).map (·.1)).Nodup
 nm:∀ e∈ents p,e.1.1∈p.kd.bJ.map ia.name/\e.1.2∈p.kd.cT.map iu.name
 ln:(ents p).length<=1000
structure Cj(W:bW)(n:Nat)(ps:!PK):Prop where
 bp:gr W
 kd:ps.map PK.kd=W.kinds
 ok:∀ p∈ps,sD W n p
theorem Cj.mem{W:bW}{n:Nat}{ps:!PK}(h:Cj W n ps){p:PK}(hp:p∈ps):p.kd∈W.kinds:=h.kd▸SU hp
def k9(W:bW)(kd:Kd)(n:Nat)(ks:!(!Key))(vs:!D):Prop:=ks.length=vs.length/\∀ q x,b6 ks vs q=some x->∃ m∈kd.bJ,∃ a∈kd.cT,∃ t:Tm,q=[.inr m.name,.inr a.name]/\x=toD t/\Ty W (m.fs++a.ps) a.res t/\t.tq n
theorem k9.nil{W:bW}{kd:Kd}{n:Nat}:k9 W kd n [] []:=#[U,λq x h=>by cases h]
theorem k9.put{W:bW}{kd:Kd}{n:Nat}{ks:!(!Key)}{vs:!D}(h:k9 W kd n ks vs){m:ia}(hm:m∈kd.bJ){a:iu}(ha:a∈kd.cT){t:Tm}(ht:Ty W (m.fs++a.ps) a.res t)(hd:t.tq n):k9 W kd n (gh ks [.inr m.name,.inr a.name]) (hJ ks vs [.inr m.name,.inr a.name] (toD t)):=by
 show#[(xT h.1).1,λq x hx=>?_];rw[AJ q h.1] at hx;by_cases e:q=[.inr m.name,.inr a.name]
 .rw[if_pos e] at hx;cases hx;exact#[m,hm,a,ha,t,e,U,ht,hd]
 .rw[if_neg e] at hx;exact h.2 q x hx
structure qy(other:!Str)(n:Nat)(rs:!(Str×Tm)):Prop where
 ln:rs.length<=5
 nd:(rs.map (·.1)).Nodup
 ok:∀ r∈rs,r.1∈other/\r.2.wf=true/\r.2.FR=true/\r.2.tq n
theorem qy.perm{other:!Str}{n:Nat}{rs qs:!(Str×Tm)}(h:qy other n rs)(p:qs.Perm rs):qy other n qs :=
 #[by rw[p.length_eq];exact h.ln,(p.map _).nodup_iff.mpr h.nd,λr hr=>h.ok r (p.mem_iff.mp hr)]
theorem sD.of{W:bW}(w:gr W){kd:Kd}(hk:kd∈W.kinds){n:Nat}{b:Bool}{ts:!(!(Str×Tm))}(hl:ts.length=if b=true then kd.bJ.length else kd.cT.length)(hr:∀ rs∈ts,qy (if b=true then kd.cT.map iu.name else kd.bJ.map ia.name) n rs):sD W n #[b,kd,ts]:=by
 let(_,k5,a5):=w.kw kd hk;have key:∀ (ns:!Str),ns.Nodup->ns.length=ts.length->ns.length<=5->CD #[b,kd,ts]=ns.zip ts->(∀ x∈ns.zip ts,x.1∈ns/\x.2∈ts)/\(((ents #[b,kd,ts]).map (·.1)).Nodup)/\(ents #[b,kd,ts]).length<=1000:=λns hn hln h5 eb=>by
  have mem:∀ x∈ns.zip ts,x.1∈ns/\x.2∈ts:=λx hx=>TK (a:=x.1) (b:=x.2) hx;show#[mem,?_,?_]
  .show (((CD #[b,kd,ts]).flatMap (ky b)).map (·.1)).Nodup;rw[eb];show ql ?_ λx hx=>(hr x.2 (mem x hx).2).nd;rw[UL (by cbv)];exact hn
  .show ((CD #[b,kd,ts]).flatMap (ky b)).length<=1000;rw[eb];have:=wW (b:=b) (bs:=ns.zip ts) λx hx=>(hr x.2 (mem x hx).2).ln;rw[UO] at this;cbv
 cases b with
 | true =>
  let(mem,g1,g2):=key (kd.bJ.map ia.name) (rT w hk) (by rw[Ss];exact hl.symm) (by rw[Ss];exact k5) U;show#[hl,λe he=>?_,g1,λe he=>?_,g2]
  .let(x,hx,r,hr2,rfl):=kD (b:=true) he;exact ((hr x.2 (mem x hx).2).ok r hr2).2
  .let(x,hx,r,hr2,rfl):=kD (b:=true) he;exact#[(mem x hx).1,((hr x.2 (mem x hx).2).ok r hr2).1]
 | false =>
  let(mem,g1,g2):=key (kd.cT.map iu.name) (sj w hk) (by rw[Ss];exact hl.symm) (by rw[Ss];exact a5) U;show#[hl,λe he=>?_,g1,λe he=>?_,g2]
  .let(x,hx,r,hr2,rfl):=kD (b:=false) he;exact ((hr x.2 (mem x hx).2).ok r hr2).2
  .let(x,hx,r,hr2,rfl):=kD (b:=false) he;exact#[((hr x.2 (mem x hx).2).ok r hr2).1,(mem x hx).1]
theorem k9.at{W:bW}(w:gr W){kd:Kd}(hk:kd∈W.kinds){n:Nat}{ks:!(!Key)}{vs:!D}(h:k9 W kd n ks vs){m:ia}(hm:m∈kd.bJ){a:iu}(ha:a∈kd.cT){x:D}(e:b6 ks vs [.inr m.name,.inr a.name]=some x):∃ t:Tm,x=toD t/\Ty W (m.fs++a.ps) a.res t/\t.tq n:=by
 let(m',hm',a',ha',t,e1,e2,e3,e4):=h.2 _ _ e;injection e1 with e5 e6;injection e5 with e5;injection e6 with e6 _;injection e6 with e6;have:=map_one (rT w hk) hm hm' e5;subst this;have:=map_one (sj w hk) ha ha' e6;subst this;exact#[t,e2,e3,e4]
theorem ya{α:Type}{nm:α->Str}{l sub:!α}{rs:!(Str×Tm)}{F:α->Tm->Prop}{n:Nat}(hn:(l.map nm).Nodup)(h5:l.length<=5)(hs:sub.Sublist l)(hp:Paired (λm (r:Str×Tm)=>r.1=nm m/\F m r.2) sub rs)(hg:∀ m∈l,∀ t,F m t->t.wf=true/\t.FR=true/\t.tq n):qy (l.map nm) n rs:=by
 have e:rs.map (·.1)=sub.map nm:=Aq (λx y h=>h.1) hp;show#[?_,?_,λr hr=>?_]
 .rw[fz hp];exact SI hs.length_le h5
 .rw[e];exact hn.sublist (hs.map nm)
 .let(m,hm,h1,h2):=fk hp r hr;exact#[h1▸SU (hs.subset hm),hg m (hs.subset hm) r.2 h2]
section
variable{P:Fr}{w:Fa}{K:Frag}{mg:Str->Option AT}{base:EQ}
def Dd(c:!(!Key)×!D):D:=.l6 c.1 c.2
def Qf(d:AC)(n:Nat):UR:=λds R=>∃ (W:bW) (room:Int),ds=[.cb d,jM W,.int room]/\(gr W/\0<=room/\room<=n+1/\room<=16)/\∀ uU:!(!(!Key)×!D),Paired (λkd c=>k9 W kd (n+2) c.1 c.2) W.kinds uU->R (.lst (uU.map Dd))
theorem JB{d l:AC}(cQ:C4 P w K mg base aP aR 1 (bf K (aN d l) (eP d))){n lv:Nat}(uE:C4 P w K mg base aP dJ lv (bf K (aN d l) (LL d (n+1))))(F:Own K mg f7)(T:Txt K mg)(MT:2<=lv):C4 P w K mg base aP f7 (lv+1) (bf K (aN d l) (Qf d n)):=by
 show F.d (nos:=2) aY (λds R h=>?_) λf br A outer s H E M hr=>#[_,(af (sN 0 3 aY.nd (aH ae))
 (af (sF (bg (fJ (bq (dN hr) (DE.pe (vd 1)) (DE.pe aq) (λ_ _=>rfl)))) (cK (m:=4) U (az (gN 4 aY.nd) (az (gN 5 aY.nd) (az (gN 6 aY.nd) (az (gN 7 aY.nd) cG)))))
 (af (sN 1 8 aY.nd DB)
 (af (sF (bg (vd 6)) (cK (m:=2) U (az (gN 9 aY.nd) (az (gN 10 aY.nd) cG)))
 (aj (sF (bg (vd 7)) (cK (m:=3) U (az (gN 11 aY.nd) (az (gN 12 aY.nd) (az (gN 13 aY.nd) cG))))
 (aj (bD (aB ku nz (ak hr cQ (aa (vd 0) (aa ag ae))) ag (ax _))
 (aj (CS (mC (dN hr) (pv 8) (DE.pe (aJ (aa (vd 9) (aa (vd 11) ae)))) (DE.pe (ak hr uE (aa (vd 0) (aa (vd 1) (aa (DN.de (dw bV bY (DN.de (nW kH tj U T.list (by decide+kernel) (aa (vd 10) ae))) (DN.de (nW kH tj U T.list (by decide+kernel) (aa (vd 12) ae))))) (aa (vd 13) (aa (vd 2) ae))))))) U)))
 aK)))))
 (aj (oS 3 (aa (sM (pv 8)) ae))))))
 (aj (aG (sM (pv 3)))))),λds R h=>?_]
 .let(W,room,rfl,_):=h
  rfl
 .let(W,room,rfl,(bp,h0,h1,y3),q):=h;have hsz:=aV;show#[#[U,U],?_];show#[_,U,?_];show dH #[_,U,_,.inl U,?_];show cq (λxs s=>∃ (dn td:!Kd) (uU:!(!(!Key)×!D)) (x4 x5 x6 x7 x8 x9 i7 gy fG gx:Sl),W.kinds=dn++td/\xs=td.map jo/\Paired (λkd c=>k9 W kd (n+2) c.1 c.2) dn uU/\(x9.pl=true/\i7.pl=true/\gy.pl=true/\fG.pl=true/\gx.pl=true)/\s=#[[.dat (.cb d),.dat (jM W),.dat (.int room),.own 0,x4,x5,x6,x7,x8,x9,i7,gy,fG,gx],[some (.lst (uU.map Dd)),none]]) ?_ ?_ _ _ #[[],W.kinds,[],.no,.no,.no,.no,.no,.no,.no,.no,.no,.no,U,U,.nil,#[U,U,U,U,U],U]
  .rintro s ⟨dn,td,uU,x4,x5,x6,x7,x8,x9,i7,gy,fG,gx,hdt,hx,hP,_,rfl⟩;have htd:td=[]:=by
    cases td with
    | nil=>rfl
    | cons a b=>cases hx
   rw[htd,SY] at hdt;exact .inr #[_,_,U,U,q uU (hdt▸hP)]
  .rintro x xs s N ⟨dn,td,uU,x4,x5,x6,x7,x8,x9,i7,gy,fG,gx,hdt,hx,hP,⟨h9,h10,h11,h12,h13⟩,rfl⟩ hN hE_;cases td with
   | nil=>cases hx
   | cons kd td =>
   injection hx with e1 e2;subst e1 e2;have hkd:kd∈W.kinds:=by rw[hdt];simp
   have hkw:=bp.kw kd hkd;show#[_,U,U,_,_,U,_,_,U,_,_,U,_,_,U,U,?_];show#[#[U,(show noRef 1 6 [x9,i7,gy,fG,gx]=true by rw[bP h9,bP h10,bP h11,bP h12,bP h13];rfl)],?_];show#[_,U,_,.inr U,?_];show cq (λxs s=>∃ (ms:!ia) (ks:!(!Key)) (vs:!D) (x9 i7 gy fG gx:Sl),xs=ms.map cS/\(∀ m∈ms,m∈kd.bJ)/\k9 W kd (n+2) ks vs/\ks.length+5 * ms.length<=25/\(x9.pl=true/\i7.pl=true/\gy.pl=true/\fG.pl=true/\gx.pl=true)/\s=#[[.dat (.cb d),.dat (jM W),.dat (.int room),.own 0,.dat (.str (a9 kd.asked)),.dat (.str kd.name),.dat (.tup (kd.bJ.map cS)),.dat (.tup (kd.cT.map d6)),.own 1,x9,i7,gy,fG,gx],[some (.lst (uU.map Dd)),some (.l6 ks vs)]]) ?_ ?_ _ _ #[kd.bJ,[],[],x9,i7,gy,fG,gx,U,λ_ h=>h,k9.nil,by simp;cbv,#[h9,h10,h11,h12,h13],U]
   .rintro s ⟨ms,ks,vs,y9,zL,y11,y12,Eo,hx,_,hC,_,⟨g9,g10,g11,g12,g13⟩,rfl⟩;show#[0,_,U,U,U,?_];show .inr #[_,_,U,U,?_];have hcl:uU.length=dn.length:=fz hP;have hdl:=congrArg List.length hdt;rw[Sv] at hdl;have hkl:=bp.kl;show#[_,U,_,_,U,U,by rw[Ss];cbv,?_];show hN _ #[dn++[kd],td,uU++[(ks,vs)],_,_,_,_,.dat (.l6 ks vs),_,_,_,_,_,by rw[hdt];simp,U,w9 hP hC,#[bK (k:=1) (d:=.l6 ks vs) g9,bK (k:=1) (d:=.l6 ks vs) g10,bK (k:=1) (d:=.l6 ks vs) g11,bK (k:=1) (d:=.l6 ks vs) g12,bK (k:=1) (d:=.l6 ks vs) g13],by rw[List.map_append];rfl]
   .rintro x xs s N2 ⟨ms,ks,vs,y9,zL,y11,y12,Eo,hx,hms,hC,hcl,⟨g9,g10,g11,g12,g13⟩,rfl⟩ hN2 hE_2;cases ms with
    | nil=>cases hx
    | cons m ms =>
    injection hx with e1 e2;subst e1 e2;have hm:=hms m SD;have hcl:ks.length+5 * (ms.length+1)<=25:=hcl;show#[_,U,U,_,_,U,_,_,U,U,?_];show#[_,U,_,.inr U,?_];show cq (λxs s=>∃ (as:!iu) (ks:!(!Key)) (vs:!D) (gy fG gx:Sl),xs=as.map d6/\(∀ a∈as,a∈kd.cT)/\k9 W kd (n+2) ks vs/\ks.length+as.length+5 * ms.length<=25/\(gy.pl=true/\fG.pl=true/\gx.pl=true)/\s=#[[.dat (.cb d),.dat (jM W),.dat (.int room),.own 0,.dat (.str (a9 kd.asked)),.dat (.str kd.name),.dat (.tup (kd.bJ.map cS)),.dat (.tup (kd.cT.map d6)),.own 1,.dat (.str m.name),.dat (dQ m.fs),gy,fG,gx],[some (.lst (uU.map Dd)),some (.l6 ks vs)]]) ?_ ?_ _ _ #[kd.cT,ks,vs,y11,y12,Eo,U,λ_ h=>h,hC,by cbv,#[g11,g12,g13],U]
    .rintro s ⟨as,ks,vs,z11,z12,z13,hx,_,hC,hcl,⟨f11,f12,f13⟩,rfl⟩;exact hN2 _ #[ms,ks,vs,_,_,z11,z12,z13,U,λa ha=>hms a (Sy _ ha),hC,by cbv,#[U,U,f11,f12,f13],U]
    .rintro x xs s N3 ⟨as,ks,vs,z11,z12,z13,hx,has,hC,hcl,⟨f11,f12,f13⟩,rfl⟩ hN3 hE_3;cases as with
     | nil=>cases hx
     | cons a as =>
     injection hx with e1 e2;subst e1 e2;have ha:=has a SD;have hcl:ks.length+(as.length+1)+5 * ms.length<=25:=hcl;show#[_,U,U,_,_,U,_,_,U,_,_,U,U,?_];show#[_,U,_,U,#[by decide,by decide],λr r0 r1=>?_];show#[_,_,U,U,_,U,?_];show aL U (λ_=>?_) λ_=>?_
     rotate_left
     .exact hN3 _ #[as,ks,vs,_,_,_,U,λb hb=>has b (Sy _ hb),hC,by cbv,#[U,U,U],U]
     let(_,m2,_):=bp.mo kd hkd m hm;let(_,(a2,_),ar):=bp.ao kd hkd a ha;have hm3:=m2;show#[_,U,_,U,?_];show#[_,U,?_];show#[_,.inr U,?_];show#[_,U,_,.inr U,?_];show#[_,_,U,U,by rw[Ss,Ss];cbv,?_];show#[_,U,_,U,?_];show#[W,m.fs++a.ps,a.res,room,by rw[Sz],#[bp,DL.qA bp hkd hm ha,ar,h0,h1,y3],λt ht hd=>?_];have hd:=hd.tq (by cbv) (Ty.JG bp t _ _ (jL.Rh bp (DL.qA bp hkd hm ha)) (ar.JU bp) ht);show#[1,U,_,U,_,U,_,U,?_];show .inr #[_,_,_,[.inr m.name,.inr a.name],U,U,U,by cbv,?_];have hp:=xT (x:=toD t) (q:=[.inr m.name,.inr a.name]) hC.1;exact hN3 _ #[as,_,_,_,_,_,U,λb hb=>has b (Sy _ hb),hC.put hm ha ht hd,by cbv,#[U,U,U],U]
def QO(d:AC)(n:Nat):UR:=λds R=>∃ (W:bW) (room:Int),ds=[.cb d,jM W,.int room]/\(gr W/\0<=room/\room<=n+1/\room<=16)/\∀ ps:!PK,Cj W (n+2) ps->(∀ p∈ps,p.asked=p.kd.asked)->R (.tup (ps.map oR))
theorem A2{α β:Type}{F:α->β->Prop}{f:α->D}{h:β->D}:∀ {l₁:!α} {l₂:!β},Paired F l₁ l₂->lz (l₁.map f) (l₂.map h)=(l₁.zip l₂).map λx=>D.tup [f x.1,h x.2]
 | _,_,.nil=>rfl
 | _,_,.cons r t=>by
  have:=A2 (f:=f) (h:=h) t;unfold lz at this ⊢;rw[SA,SA,List.zipWith_cons_cons,this]
  rfl
theorem zG{α β:Type}{F:α->β->Prop}:∀ {l₁:!α} {l₂:!β},Paired F l₁ l₂->∀ x∈l₁.zip l₂,F x.1 x.2
 | _,_,.nil,x,h=>by cases h
 | _,_,.cons r t,x,h=>by
  rcases SO.mp h with rfl | h
  .exact r
  .exact zG t x h
theorem GB{r:Int}(h0:0<=r)(h1:r < 2):∃ w:Int,iw [D.int 1,D.int (-1)] r=some (.int w)/\(w=1\/w=-1):=by
 have:r=0\/r=1:=by cbv
 rcases this with rfl | rfl
 .exact#[1,U,.inl U]
 .exact#[-1,U,.inr U]
theorem IC{d l:AC}(cQ:C4 P w K mg base aP aR 1 (bf K (aN d l) (eP d))){n lv:Nat}(R5:C4 P w K mg base aP f7 lv (bf K (aN d l) (Qf d n)))(F:Own K mg en)(T:Txt K mg)(MT:2<=lv):C4 P w K mg base aP en (lv+1) (bf K (aN d l) (QO d n)):=by
 show F.d (nos:=2) aD (λds R h=>?_) λf br A outer s H E M hr=>#[_,(af (sN 0 3 aD.nd (aH ae))
 (af (sF (Ep U T.zip (aa (fJ (bq (dN hr) (DE.pe (vd 1)) (DE.pe aq) (λ_ _=>rfl))) (aa (ak hr R5 (aa (vd 0) (aa (vd 1) (aa (vd 2) ae)))) ae))) (cK (m:=2) U (az (gN 4 aD.nd) (az (iT (dD (i:=5) aD.nd U (Or.inr U)) ()) cG)))
 (af (jG (n:=1000) (vd 4) (cK (m:=4) U (az (gN 6 aD.nd) (az (gN 7 aD.nd) (az (gN 8 aD.nd) (az (gN 9 aD.nd) cG))))))
 (af (sS 10 aD.nd (je (DN.de (aH (aa ag (aa (dc (d:=.int (-1)) kW U) ae)))) (ak hr cQ (aa (vd 0) (aa ag ae)))))
 (af (sN 1 11 aD.nd (aH ae))
 (af (sF (bg (vd 9)) (cK (m:=3) U (az (iT (dD (i:=12) aD.nd U (Or.inr U)) ()) (az (gN 13 aD.nd) (az (gN 14 aD.nd) cG))))
 (af (sS 15 aD.nd (DN.de (El (DN.de (nC ["_law_c","_law_fields"] [5,12] (bg (vd 8)) (λ_ _ _ _=>(cK (m:=2) U (az (gM 0 ["_law_c","_law_fields","_law_cells_here","_law_f"]) (az (gM 1 ["_law_c","_law_fields","_law_cells_here","_law_f"]) cG)))) (λ_ _ _ _=>fD (zZ (dN hr) (aJ (aa (vd 0) (aa (vd 3) ae))) (vd 2)))
 (λ_ _ _ _=>(aJ (aa (vd 0) (aa (fJ (bq (dN hr) (DE.pe (vd 2)) (DE.pe (aJ (aa (vd 0) (aa (vd 3) ae)))) (λ_ _=>rfl))) ae)))))) (vd 10))))
 (aj (oS 11 (aa (aJ (aa (vd 12) (aa (vd 13) (aa (vd 14) (aa (iq T.tuple (aa (vd 15) ae)) ae))))) ae)))))
 (af (bD (aB ba cF (vd 6) aq (ax _))
 (af (sN 1 11 aD.nd (aH ae))
 (aj (sF (bg (vd 8)) (cK (m:=2) U (az (iT (dD (i:=16) aD.nd U (Or.inr U)) ()) (az (gN 17 aD.nd) cG)))
 (af (sS 15 aD.nd (DN.de (El (DN.de (nC ["_law_f","_law_params","_law_result"] [5,16] (bg (vd 9)) (λ_ _ _ _=>(cK (m:=3) U (az (gM 0 ["_law_f","_law_params","_law_result","_law_cells_here","_law_c"]) (az (gM 1 ["_law_f","_law_params","_law_result","_law_cells_here","_law_c"]) (az (gM 2 ["_law_f","_law_params","_law_result","_law_cells_here","_law_c"]) cG))))) (λ_ _ _ _=>fD (zZ (dN hr) (aJ (aa (vd 4) (aa (vd 0) ae))) (vd 3)))
 (λ_ _ _ _=>(aJ (aa (vd 0) (aa (fJ (bq (dN hr) (DE.pe (vd 3)) (DE.pe (aJ (aa (vd 4) (aa (vd 0) ae)))) (λ_ _=>rfl))) ae)))))) (vd 10))))
 (aj (oS 11 (aa (aJ (aa (vd 16) (aa (vd 17) (aa (iq T.tuple (aa (vd 15) ae)) ae)))) ae)))))))
 aK)
 (aj (oS 3 (aa (aJ (aa (vd 6) (aa (vd 7) (aa (je (DN.de (aH (aa (vd 8) (aa (vd 9) ae)))) (cW gK mW U T.int (by decide+kernel) (aa (lI ba cF (vd 6) aq (ax _)) ae))) (aa (iq T.tuple (aa (sM (pv 11)) ae)) ae))))) ae)))))))))
 (aj (aG (iq T.tuple (aa (sM (pv 3)) ae)))))),λds R h=>?_]
 .let(W,room,rfl,_):=h
  rfl
 .let(W,room,rfl,(bp,h0,h1,y3),q):=h;have hsz:=aV;show#[#[U,U],?_];show#[_,U,?_];show dH #[_,U,?_];show#[_,U,_,U,_,U,W,room,U,#[bp,h0,h1,y3],λuU rR=>?_];show#[_,_,_,_,U,#[U,U],?_];rw[A2 rR];have hzl:(W.kinds.zip uU).map (·.1)=W.kinds:=UL (by rw[fz rR];exact Sx _);have hzp:=zG rR;have hzk:∀ x∈W.kinds.zip uU,x.1∈W.kinds:=λx hx=>(TK (a:=x.1) (b:=x.2) hx).1;generalize W.kinds.zip uU=zs0 at hzl hzp hzk;show cq (λxs s=>∃ (td:!(Kd×(!(!Key)×!D))) (ps:!PK) (x4 x5 x6 x7 x8 x9 i7 gy fG gx uV uW zi y4:Sl),xs=td.map (λx=>D.tup [jo x.1,Dd x.2])/\(∀ x∈td,x∈zs0)/\ps.map PK.kd++td.map (·.1)=W.kinds/\(∀ p∈ps,sD W (n+2) p/\p.asked=p.kd.asked)/\(fG.pl=true/\gx.pl=true/\uV.pl=true/\uW.pl=true/\zi.pl=true/\y4.pl=true)/\s=#[[.dat (.cb d),.dat (jM W),.dat (.int room),.own 0,x4,x5,x6,x7,x8,x9,i7,gy,fG,gx,uV,uW,zi,y4],[some (.lst (ps.map oR)),none]]) ?_ ?_ _ _ #[zs0,[],.no,.no,.no,.no,.no,.no,.no,.no,.no,.no,.no,.no,.no,.no,U,λ_ h=>h,hzl,λ_ h=>(nomatch h),#[U,U,U,U,U,U],U]
  .rintro s ⟨td,ps,x4,x5,x6,x7,x8,x9,i7,gy,fG,gx,uV,uW,zi,y4,hx,_,hps,bj,_,rfl⟩;have htd:td=[]:=by
    cases td with
    | nil=>rfl
    | cons a b=>cases hx
   rw[htd,Tt,SY] at hps;show .inr #[_,_,U,U,_,.inl U,?_];exact q ps #[bp,hps,λp hp=>(bj p hp).1] λp hp=>(bj p hp).2
  .rintro x xs s N ⟨td,ps,x4,x5,x6,x7,x8,x9,i7,gy,fG,gx,uV,uW,zi,y4,hx,htd,hps,bj,⟨g12,g13,g14,g15,g16,g17⟩,rfl⟩ hN hE_;cases td with
   | nil=>cases hx
   | cons z td =>
   injection hx with e1 e2;subst e1 e2;let(kd,ks,vs):=z;have hz0:=htd _ SD;have hkd:kd∈W.kinds:=hzk _ hz0;have hC:k9 W kd (n+2) ks vs:=hzp _ hz0;show#[_,U,U,_,_,U,_,_,U,U,?_];show#[_,U,?_];show#[_,U,U,_,_,U,_,_,U,_,_,U,_,_,U,U,?_];show#[_,U,_,U,#[by decide,by decide],λr r0 r1=>?_];let(wy,ewy,hwy):=GB r0 r1;show#[_,_,_,U,U,ewy,?_];show#[#[U,(show noRef 1 7 [fG,gx,uV,uW,zi,y4]=true by rw[bP g12,bP g13,bP g14,bP g15,bP g16,bP g17];rfl)],?_];show#[_,U,_,.inr U,?_];let(_,k5,a5):=bp.kw kd hkd;show cq (λxs s=>∃ (dn td:!iu) (tabs:!(!(Str×Tm))) (fG gx uV uW zi y4:Sl),kd.cT=dn++td/\xs=td.map d6/\tabs.length=dn.length/\(∀ rs∈tabs,qy (kd.bJ.map ia.name) (n+2) rs)/\(fG.pl=true/\gx.pl=true/\uV.pl=true/\uW.pl=true/\zi.pl=true/\y4.pl=true)/\s=#[[.dat (.cb d),.dat (jM W),.dat (.int room),.own 0,.dat (jo kd),.dat (Dd (ks,vs)),.dat (.str (a9 kd.asked)),.dat (.str kd.name),.dat (.tup (kd.bJ.map cS)),.dat (.tup (kd.cT.map d6)),.dat (.int wy),.own 1,fG,gx,uV,uW,zi,y4],[some (.lst (ps.map oR)),some (.lst ((dn.zip tabs).map j6))]]) ?_ ?_ _ _ #[[],kd.cT,[],fG,gx,uV,uW,zi,y4,U,U,U,λ_ h=>(nomatch h),#[g12,g13,g14,g15,g16,g17],U]
   rotate_left
   .rintro x xs s N2 ⟨dn,td,tabs,y12,Eo,y14,y15,y16,y17,hdt,hx,htl,hro,⟨p12,p13,p14,p15,p16,p17⟩,rfl⟩ hN2 hE_2;cases td with
    | nil=>cases hx
    | cons b0 td =>
    injection hx with e1 e2;subst e1 e2;have hb0:b0∈kd.cT:=by rw[hdt];simp
    show#[_,U,U,_,_,U,_,_,U,_,_,U,U,?_];show#[_,U,_,.inr U,?_];show g6 cS ua (λr0 (r:Str×Tm)=>r.1=r0.name/\(λt=>Ty W (r0.fs++b0.ps) b0.res t/\t.tq (n+2)) r.2) _ (λr0 hr0 k N0 g1 g2=>?_) λsub rs hsub hprs=>?_
    .refine#[_,U,U,_,_,U,_,_,U,U,?_];show#[_,U,_,U,_,U,U,.inr #[_,_,_,[.inr r0.name,.inr b0.name],U,U,U,?_]];cases hl:b6 ks vs [.inr r0.name,.inr b0.name] with
     | none=>exact#[_,U,eQ U (g2 _ U)]
     | some v =>
      let(t,rfl,ht1,ht2):=hC.at bp hkd hr0 hb0 hl;exact#[_,U,gU U #[_,U,_,U,_,U,_,U,U,.inr #[_,_,_,[.inr r0.name,.inr b0.name],U,U,U,_,hl,g1 (r0.name,t) _ #[U,ht1,ht2] rfl]]]
    have hrw:qy (kd.bJ.map ia.name) (n+2) rs:=ya (F:=λr0 t=>Ty W (r0.fs++b0.ps) b0.res t/\t.tq (n+2)) (rT bp hkd) k5 hsub hprs λr0 hr0 t ht=>#[(jf bp hkd hr0 hb0 ht.1).1,(jf bp hkd hr0 hb0 ht.1).2,ht.2];have hrw2:=hrw.perm (qr wy rs);rw[SX];show#[_,U,_,wy,U,U,hwy,?_];rw[sP];have hdl:=congrArg List.length hdt;rw[Sv] at hdl;show#[1,_,U,U,U,?_];show#[_,U,_,U,_,U,_,U,_,.inl U,?_];show#[_,U,_,_,U,U,?_,?_]
    .rw[Ss,UO];cbv
    show hN2 _ #[dn++[b0],td,tabs++[kc wy rs],.dat (.str b0.name),.dat (dQ b0.ps),.dat (.str b0.res),.dat (.lst ((kc wy rs).map ua)),y16,y17,by rw[hdt];simp,U,by rw[List.length_append,List.length_append,htl];rfl,λq hq=>?_,#[U,U,U,U,p16,p17],?_]
    .rcases SN.mp hq with hq | hq
     .exact hro q hq
     .rw[SF.mp hq];exact hrw2
    .rw[tF htl,Sz]
     rfl
   .rintro s ⟨dn,td2,tabs,z12,z13,z14,z15,z16,z17,hdt,hx,htl,hro,⟨f12,f13,f14,f15,f16,f17⟩,rfl⟩;have htd2:td2=[]:=by
     cases td2 with
     | nil=>rfl
     | cons a b=>cases hx
    rw[htd2,SY] at hdt;subst hdt;show#[_,U,#[U,U,U],_,U,?_];show aL (b':=kd.asked) (cB _) (λhask=>?_) λhask=>?_
    rotate_left
    .refine#[0,_,U,U,U,?_];show#[_,U,_,U,?_];show#[_,U,_,U,_,U,#[U,U,U],?_];show .inr #[_,U,?_];rw[cB,hask];show#[_,_,_,U,U,U,?_];show .inr #[_,_,U,U,?_];show#[_,.inl U,?_];show#[_,U,_,_,U,U,?_,?_]
     .have:=congrArg List.length hps;rw[Sv,Ss] at this;have:=bp.kl;rw[Ss];cbv
     have hpk:sD W (n+2) #[false,kd,tabs]:=sD.of bp hkd (by rw[htl];rfl) hro;show hN _ #[td,ps++[#[false,kd,tabs]],.dat (jo kd),.dat (Dd (ks,vs)),.dat (.str (a9 kd.asked)),.dat (.str kd.name),.dat (.tup (kd.bJ.map cS)),.dat (.tup (kd.cT.map d6)),.dat (.int wy),.dat (D.lst ((kd.cT.zip tabs).map j6)),(ja 1 (D.lst ((kd.cT.zip tabs).map j6)) z12),(ja 1 (D.lst ((kd.cT.zip tabs).map j6)) z13),(ja 1 (D.lst ((kd.cT.zip tabs).map j6)) z14),(ja 1 (D.lst ((kd.cT.zip tabs).map j6)) z15),(ja 1 (D.lst ((kd.cT.zip tabs).map j6)) z16),(ja 1 (D.lst ((kd.cT.zip tabs).map j6)) z17),U,λx hx=>htd x (List.mem_cons_of_mem _ hx),by rw[<- hps];simp,λp hp=>?_,#[bK f12,bK f13,bK f14,bK f15,bK f16,bK f17],?_]
     .rcases SN.mp hp with hp | hp
      .exact bj p hp
      .rw[SF.mp hp];exact#[hpk,hask.symm]
     .rw[Sz];change _=DS.mk _ [some (D.lst (ps.map oR++[D.tup [D.str (a9 false),D.str kd.name,Kf #[false,kd,tabs],D.tup (Au #[false,kd,tabs])]])),none];rw[hask]
      rfl
    show#[#[U,(show noRef 1 7 [z12,z13,z14,z15,z16,z17]=true by rw[bP f12,bP f13,bP f14,bP f15,bP f16,bP f17];rfl)],?_];show#[_,U,_,.inr U,?_];show cq (λxs s=>∃ (dn td:!ia) (tabs:!(!(Str×Tm))) (fG gx uV uW zi y4:Sl),kd.bJ=dn++td/\xs=td.map cS/\tabs.length=dn.length/\(∀ rs∈tabs,qy (kd.cT.map iu.name) (n+2) rs)/\(fG.pl=true/\gx.pl=true/\uV.pl=true/\uW.pl=true/\zi.pl=true/\y4.pl=true)/\s=#[[.dat (.cb d),.dat (jM W),.dat (.int room),.own 0,.dat (jo kd),.dat (Dd (ks,vs)),.dat (.str (a9 kd.asked)),.dat (.str kd.name),.dat (.tup (kd.bJ.map cS)),.dat (.tup (kd.cT.map d6)),.dat (.int wy),.own 1,fG,gx,uV,uW,zi,y4],[some (.lst (ps.map oR)),some (.lst ((dn.zip tabs).map jB))]]) ?_ ?_ _ _ #[[],kd.bJ,[],z12,z13,z14,z15,z16,z17,U,U,U,λ_ h=>(nomatch h),#[f12,f13,f14,f15,f16,f17],U]
    rotate_left
    .rintro x xs s N2 ⟨dn,td,tabs,y12,Eo,y14,y15,y16,y17,hdt,hx,htl,hro,⟨p12,p13,p14,p15,p16,p17⟩,rfl⟩ hN2 hE_2;cases td with
     | nil=>cases hx
     | cons b0 td =>
     injection hx with e1 e2;subst e1 e2;have hb0:b0∈kd.bJ:=by rw[hdt];simp
     show#[_,U,U,_,_,U,_,_,U,U,?_];show#[_,U,_,.inr U,?_];show g6 d6 ua (λr0 (r:Str×Tm)=>r.1=r0.name/\(λt=>Ty W (b0.fs++r0.ps) r0.res t/\t.tq (n+2)) r.2) _ (λr0 hr0 k N0 g1 g2=>?_) λsub rs hsub hprs=>?_
     .refine#[_,U,U,_,_,U,_,_,U,_,_,U,U,?_];show#[_,U,_,U,_,U,U,.inr #[_,_,_,[.inr b0.name,.inr r0.name],U,U,U,?_]];cases hl:b6 ks vs [.inr b0.name,.inr r0.name] with
      | none=>exact#[_,U,eQ U (g2 _ U)]
      | some v =>
       let(t,rfl,ht1,ht2):=hC.at bp hkd hb0 hr0 hl;exact#[_,U,gU U #[_,U,_,U,_,U,_,U,U,.inr #[_,_,_,[.inr b0.name,.inr r0.name],U,U,U,_,hl,g1 (r0.name,t) _ #[U,ht1,ht2] rfl]]]
     have hrw:qy (kd.cT.map iu.name) (n+2) rs:=ya (F:=λr0 t=>Ty W (b0.fs++r0.ps) r0.res t/\t.tq (n+2)) (sj bp hkd) a5 hsub hprs λr0 hr0 t ht=>#[(jf bp hkd hb0 hr0 ht.1).1,(jf bp hkd hb0 hr0 ht.1).2,ht.2];have hrw2:=hrw.perm (qr wy rs);rw[SX];show#[_,U,_,wy,U,U,hwy,?_];rw[sP];have hdl:=congrArg List.length hdt;rw[Sv] at hdl;show#[1,_,U,U,U,?_];show#[_,U,_,U,_,U,_,.inl U,?_];show#[_,U,_,_,U,U,?_,?_]
     .rw[Ss,UO];cbv
     show hN2 _ #[dn++[b0],td,tabs++[kc wy rs],y12,Eo,y14,.dat (.lst ((kc wy rs).map ua)),.dat (.str b0.name),.dat (dQ b0.fs),by rw[hdt];simp,U,by rw[List.length_append,List.length_append,htl];rfl,λq hq=>?_,#[p12,p13,p14,U,U,U],?_]
     .rcases SN.mp hq with hq | hq
      .exact hro q hq
      .rw[SF.mp hq];exact hrw2
     .rw[tF htl,Sz]
      rfl
    .rintro s ⟨dn,td3,tabs,z12,z13,z14,z15,z16,z17,hdt,hx,htl,hro,⟨f12,f13,f14,f15,f16,f17⟩,rfl⟩;have htd3:td3=[]:=by
      cases td3 with
      | nil=>rfl
      | cons a b=>cases hx
     rw[htd3,SY] at hdt;subst hdt;show#[0,_,U,U,U,?_];show#[_,U,_,U,?_];show#[_,U,_,U,_,U,#[U,U,U],?_];show .inr #[_,U,?_];rw[cB,hask];show#[_,_,_,U,U,U,?_];show .inr #[_,_,U,U,?_];show#[_,.inl U,?_];show#[_,U,_,_,U,U,?_,?_]
     .have:=congrArg List.length hps;rw[Sv,Ss] at this;have:=bp.kl;rw[Ss];cbv
     have hpk:sD W (n+2) #[true,kd,tabs]:=sD.of bp hkd (by rw[htl];rfl) hro;show hN _ #[td,ps++[#[true,kd,tabs]],.dat (jo kd),.dat (Dd (ks,vs)),.dat (.str (a9 kd.asked)),.dat (.str kd.name),.dat (.tup (kd.bJ.map cS)),.dat (.tup (kd.cT.map d6)),.dat (.int wy),.dat (D.lst ((kd.bJ.zip tabs).map jB)),(ja 1 (D.lst ((kd.bJ.zip tabs).map jB)) z12),(ja 1 (D.lst ((kd.bJ.zip tabs).map jB)) z13),(ja 1 (D.lst ((kd.bJ.zip tabs).map jB)) z14),(ja 1 (D.lst ((kd.bJ.zip tabs).map jB)) z15),(ja 1 (D.lst ((kd.bJ.zip tabs).map jB)) z16),(ja 1 (D.lst ((kd.bJ.zip tabs).map jB)) z17),U,λx hx=>htd x (List.mem_cons_of_mem _ hx),by rw[<- hps];simp,λp hp=>?_,#[bK f12,bK f13,bK f14,bK f15,bK f16,bK f17],?_]
     .rcases SN.mp hp with hp | hp
      .exact bj p hp
      .rw[SF.mp hp];exact#[hpk,hask.symm]
     .rw[Sz];change _=DS.mk _ [some (D.lst (ps.map oR++[D.tup [D.str (a9 true),D.str kd.name,Kf #[true,kd,tabs],D.tup (Au #[true,kd,tabs])]])),none];rw[hask]
      rfl
def Qh:UR:=λds R=>∃ (W:bW) (n:Nat) (p:PK),ds=[oR p]/\sD W n p/\R (.tup (p.kd.bJ.map cS))
theorem Kh(F:Own K mg fQ)(T:Txt K mg):aa0 P w K mg base fQ 1 Qh:=by
 show F.d (nos:=0) sA (λds R h=>?_) λf br A outer s H E M hr=>#[_,(af (bD (aB ba cF (d5 (vd 0) ag) aq (ax _))
 (aj (aG (d5 (vd 0) ag)))
 aK)
 (aj (aG (iq T.tuple (aa (DN.de (nC ["table"] [] (bg (d5 (vd 0) ag)) (λ_ _ _ _=>(gM 0 ["table"])) (λ_ _ _ _=>cj)
 (λ_ _ _ _=>(aJ (aa (d5 (vd 0) ag) (aa (d5 (vd 0) ag) ae)))))) ae))))),λds R h=>?_]
 .let(W,n,p,rfl,_):=h
  rfl
 .let(W,n,(b,kd,ts),rfl,ok,q):=h;have tl:=ok.tl;show#[_,U,_,_,_,U,U,U,#[U,U,U],_,U,?_];cases b with
  | false=>exact gU (fc false) #[_,U,_,_,_,U,U,U,q]
  | true =>
   show eQ (fc true) ?_;show#[_,U,_,_,_,U,U,U,_,.inr U,?_];show bw jB (λx=>cS x.1) _ (λx hx k hk=>#[_,U,_,_,_,U,U,U,_,U,_,_,_,U,U,U,hk _ U]) ?_;show#[_,.inl U,?_];rw[SX,Bv tl];exact q
theorem Cj.name{W:bW}{n:Nat}{ps:!PK}(h:Cj W n ps){p q:PK}(hp:p∈ps)(hq:q∈ps)(e:p.kd.name=q.kd.name):p=q:=by
 have hn:(ps.map λp=>p.kd.name).Nodup:=by
  have:=h.bp.kn;rw[<- h.kd,S6] at this;exact this
 let(i,hi,rfl):=Tz hp;let(j,hj,rfl):=Tz hq;have h2:(ps.map λp=>p.kd.name)[i]'(by simpa using hi)=(ps.map λp=>p.kd.name)[j]'(by simpa using hj):=by simpa using e
 have:=(Um hn).mp h2;subst this
 rfl
def FK(f:PK->D):UR:=λds R=>∃ (W:bW) (n:Nat) (ps:!PK) (p:PK),ds=[.tup (ps.map oR),.str p.kd.name]/\(Cj W n ps/\p∈ps)/\R (f p)
theorem LV(F:Own K mg dA)(T:Txt K mg):aa0 P w K mg base dA 1 (FK oR):=by
 show F.d (nos:=0) iP (λds R h=>?_) λf br A outer s H E M hr=>#[_,(af (sF (bg (vd 0)) (gN 2 iP.nd)
 (aj (bD (aB ba cF (d5 (vd 2) ag) (vd 1) (ax _))
 (aj (aG (vd 2)))
 aK)))
 (aj (aG jW))),λds R h=>?_]
 .let(W,n,ps,p,rfl,_):=h
  rfl
 .let(W,n,ps,p,rfl,(ok,hp),q):=h;show#[_,U,_,.inr U,?_];show cq (λxs s=>∃ (rs:!PK) (x2:Sl),xs=rs.map oR/\(∀ r∈rs,r∈ps)/\p∈rs/\s=#[[.dat (.tup (ps.map oR)),.dat (.str p.kd.name),x2],[]]) ?_ ?_ _ _ #[ps,.no,U,λ_ h=>h,hp,U]
  .rintro s ⟨rs,x2,hx,_,hr,rfl⟩;cases rs with
   | nil=>cases hr
   | cons a b=>cases hx
  .rintro x xs s N ⟨rs,x2,hx,hrs,hr,rfl⟩ hN hE;cases rs with
   | nil=>cases hx
   | cons r rs =>
   injection hx with e1 e2;subst e1 e2;show#[_,U,_,_,_,U,U,U,_,U,#[U,U,U],_,U,?_];show aL (b':=decide (r.kd.name=p.kd.name)) ck (λe=>?_) λe=>?_
   .have:r=p:=ok.name (hrs r List.mem_cons_self) hp (by simpa using e);subst this;exact#[_,U,hE _ q]
   .refine hN _ #[rs,.dat (oR r),U,λa ha=>hrs a (Sy _ ha),?_,U];rcases SO.mp hr with rfl | hr
    .simp at e
    .exact hr
theorem IT(Oe:aa0 P w K mg base dA 1 (FK oR))(GMI:aa0 P w K mg base fQ 1 Qh)(F:Own K mg fT)(T:Txt K mg):C4 P w K mg base aP fT 2 (bf K .no (FK (λp=>.tup (p.kd.bJ.map cS)))):=by
 show F.d (nos:=0) ka (λds R h=>?_) λf br A outer s H E M hr=>#[_,(af (sS 2 ka.nd (aF hr Oe (aa (vd 0) (aa (vd 1) ae))))
 (aj (aG (xJ (aB zO ET (vd 2) jW (ax _)) (aJ ae) (aF hr GMI (aa (vd 2) ae)))))),λds R h=>?_]
 .let(W,n,ps,p,rfl,_):=h
  rfl
 .let(W,n,ps,p,rfl,(ok,hp),q):=h;show#[_,U,_,U,W,n,ps,p,U,#[ok,hp],?_];show#[_,U,U,_,U,eQ U ?_];exact#[_,U,W,n,p,U,ok.ok p hp,q]
theorem KU(Oe:aa0 P w K mg base dA 1 (FK oR))(F:Own K mg i9)(T:Txt K mg):C4 P w K mg base aP i9 2 (bf K .no (FK (λp=>.str (a9 p.asked)))):=by
 show F.d (nos:=0) m8 (λds R h=>?_) λf br A outer s H E M hr=>#[_,(af (sS 2 m8.nd (aF hr Oe (aa (vd 0) (aa (vd 1) ae))))
 (aj (aG (xJ (aB zO ET (vd 2) jW (ax _)) jW (d5 (vd 2) ag))))),λds R h=>?_]
 .let(W,n,ps,p,rfl,_):=h
  rfl
 .let(W,n,ps,p,rfl,(ok,hp),q):=h;show#[_,U,_,U,W,n,ps,p,U,#[ok,hp],?_];show#[_,U,U,_,U,eQ U ?_];exact#[_,U,_,_,_,U,U,U,q]
def vi(x y:Str):Bool:=(not (decide (y.cps.toList < x.cps.toList)))
def inside(a b:Str)(c:Nat):Bool:=if vi a #[#v[c]]=true then vi #[#v[c]] b else false
def lies(a b z:Str):Bool:=(z.cps.toList.map (inside a b)).all id
def isNum(z:Str):Bool:=if 1<=z.length/\z.length<=6 then lies "0" "9" z&&(decide (z="0")||(not (decide ((#[#v[z.cps.toList.headD 0]]:Str)="0")))) else false
structure Qr(K:Frag)(mg:Str->Option AT):Prop where
 most:∃ t,mg "MOST_FIGURES"=some (.int 6 t)
def AQ:Sp:=λvs H Q _=>∃ z a b:Str,vs=[.str z,.str a,.str b]/\z.length<=1000/\∀ H',dM H H'->Q (.bl (lies a b z)) H'
theorem Gn:(["sign","first","last"]:!Str).Nodup:=by decide+kernel
theorem Cw{f:AC}{fd:GT}(F:rH K "lies_between" "lies_between" dX f fd)(T:Txt K mg):bN P w K mg base aP 1 f fd ["text","first","last"] AQ:=by
 show F.ok mj (λvs H Q E h=>?_) (λbr A outer s H vs Q E hr h=>?_)
 .let(z,a,b,rfl,_):=h
  rfl
 .let(z,a,b,rfl,hz,k):=h;show#[_,eV (iL (fH (iJ U) U T.all PyProof.Rows.boot_all (cR
   (sk (ts:=["sign"]) (us:=[1,2]) #[U,U,U,U,U,U] rfl (Gg (pv 0)) (λ_ _ _ _=>dD (i:=0) Gn U (Or.inl U)) (λ_ _ _ _=>qS)
    (λ_ _ _ _=>Bt iW iW (pv 1) (pv 0) (pv 2))) gd))),?_]
  show#[_,U,z,U,sC (λc=>.bl (inside a b c)) (SI hz ()) () (λc hc H1 k1 q=>?_) (λD hD=>?_)]
  .refine#[_,U,_,U,_,_,U,U,_,U,?_];show uB (λh1=>?_) (λh1=>?_)
   .refine#[_,U,_,_,U,U,?_];have e:inside a b c=vi #[#v[c]] b:=if_pos h1;rw[e] at q;exact q
   .have e:inside a b c=false:=if_neg h1;rw[e] at q;exact q
  .refine#[D,z.cps.toList.map (inside a b),U,?_,k _ (dM.upd hD)];rw[S6];exact dR.of ay
def Qg(g:Str->Bool):Sp:=λvs H Q _=>∃ z:Str,vs=[.str z]/\z.length<=1000/\∀ H',dM H H'->Q (.bl (g z)) H'
theorem yg{f fL:AC}{fd MR:GT}(F:rH K "is_number" "is_number" iE f fd)(T:Txt K mg)(G:Qr K mg)(FL:rH K "lies_between" "lies_between" dX fL MR)(mL:mg "lies_between"=some (.ref fL))(bL:Binds K MR ["text","first","last"] []) :
  bN P w K mg base aP 2 f fd ["text"] (Qg isNum):=by
 have GL:bN P w K mg base aP 1 fL MR ["text","first","last"] AQ:=Cw FL T;let(tk,hmost):=G.most;show F.ok r9 (λvs H Q E h=>?_) (λbr A outer s H vs Q E hr h=>?_)
 .let(z,rfl,_):=h
  rfl
 .let(z,rfl,hz,k):=h;show#[_,bF (zA (Bg (tU EM EM bz (fH j3 U T.len Ul (cR (pv 0) gd)) (hX (v:=.int 6) U hmost #[_,U]))) (eV (iL EJ)) mO)
   (eV (iL (AO (kh GL hr U mL FL.kp bL .nil lN (cR (pv 0) (cR cf (cR cf gd)))) (vV (Jd (r8 ba (pv 0) cf (ax _)) (vV (r8 tY (zt qH (pv 0) bz (λ_ _=>rfl)) cf (ax _)))))))),?_]
  have hzl:z.length<=Ev:=SI hz ();show#[_,U,z,U,hzl,_,_,U,U,_,U,?_];show uB (λh1=>?_) (λh1=>?_)
  .refine#[_,_,U,U,_,U,?_];show uB (λh2=>?_) (λh2=>?_)
   .have e:isNum z=false:=by
     unfold isNum;rw[if_neg];intro hh;rw[decide_eq_true (by cbv)] at h2;exact absurd h2 ()
    have q:=k H (dM.refl _);rw[e] at q;exact q
   .refine#[_,U,z,_,_,U,hz,λH' s'=>#[_,U,?_]];have h1':1<=z.length:=by have:=of_decide_eq_true h1;cbv
    have h2':z.length<=6:=by
     have h2:¬ (not (decide ((z.length:Int)<=6)))=true:=h2;simp at h2;cbv
    have e:isNum z=(lies "0" "9" z&&(decide (z="0")||(not (decide ((#[#v[z.cps.toList.headD 0]]:Str)="0"))))):=by
     unfold isNum;rw[if_pos #[h1',h2']]
    have q:=k H' s';rw[e] at q;show uB (λhl=>?_) (λhl=>?_)
    .rw[hl,Bool.true_and] at q;show#[_,U,U,_,U,?_];have hv:decide (V.str z=V.str "0")=decide (z="0"):=by
      by_cases hh:z="0"
      .rw[hh];simp
      .rw[decide_eq_false hh,decide_eq_false λz'=>hh (V.str.inj z')]
     show uB (λh0=>?_) (λh0=>?_)
     .rw[hv] at h0;rw[h0,Bool.true_or] at q;exact q
     .rw[hv] at h0;rw[show decide (z="0")=false by simpa using h0,Bool.false_or] at q;obtain⟨ch,r,ez⟩:∃ ch r,z.cps.toList=ch::r:=by
       cases hc:z.cps.toList with
       | nil =>
        have:z.length=0:=by rw[<- k7];change z.cps.toList.length=0;rw[hc];rfl
        cbv
       | cons a b=>exact#[a,b,U]
      show#[_,U,z,0,ch,U,U,hzl,by rw[ez];exact bE,U,?_];rw[ez] at q;have hv2:decide (V.str #[#v[ch]]=V.str "0")=decide ((#[#v[ch]]:Str)="0"):=by
       by_cases hh:(#[#v[ch]]:Str)="0"
       .rw[hh];simp
       .rw[decide_eq_false hh,decide_eq_false λz'=>hh (V.str.inj z')]
      rw[hv2];exact q
    .have hl':lies "0" "9" z=false:=by simpa using hl
     rw[hl',Bool.false_and] at q;exact q
  .refine#[_,U,?_];show mh ?_;have e:isNum z=false:=by
    unfold isNum;rw[if_neg];intro hh;exact h1 (decide_eq_true (by cbv))
   have q:=k H (dM.refl _);rw[e] at q;exact q
def Oz(g:Str->Bool):UR:=λds R=>∃ z:Str,ds=[.str z]/\z.length<=1000/\R (.bl (g z))
theorem LZ{k:Nat}{f:AC}{fd:GT}{ps:!Str}{g:Str->Bool}(F:bN P w K mg base aP k f fd ps (Qg g)):bN P w K mg base aP k f fd ps (bf K .no (Oz g)) :=
 F.imp λvs H Q E z9r=>by
  let(M,ds,R,B,r,(z,e,hz,q),kk):=z9r;subst e;let(v,rfl,e1):=cJ r;have e1:v=.str z:=e1;subst e1;show#[z,U,hz,λH' sm=>kk _ q M H' _ #[trivial,λb o e _=>sm b o e,λb m=>?_,λ_ _ h=>h,λ_ m=>m,λ_ m=>.inl m] rfl];let(o,e):=B.md b m;exact#[o,sm b o e]
theorem Mn(a b:Nat):(([a]:!Nat) < [b])↔a < b:=by
 constructor
 .intro h;cases h with
  | rel h=>exact h
  | cons h=>cases h
 .exact λh=>.rel h
theorem vJ(lo hi c:Nat):inside (bA [lo]) (bA [hi]) c=(decide (lo<=c)&&decide (c<=hi)):=by
 have e1:vi (bA [lo]) #[#v[c]]=decide (lo<=c):=by
  change (not (decide (([c]:!Nat) < [lo])))=_;by_cases h:lo<=c
  .rw[decide_eq_true h,decide_eq_false λz=>by have:=(Mn c lo).mp z;cbv];rfl
  .rw[decide_eq_false h,decide_eq_true ((Mn c lo).mpr (by cbv))];rfl
 have e2:vi #[#v[c]] (bA [hi])=decide (c<=hi):=by
  change (not (decide (([hi]:!Nat) < [c])))=_;by_cases h:c<=hi
  .rw[decide_eq_true h,decide_eq_false λz=>by have:=(Mn hi c).mp z;cbv];rfl
  .rw[decide_eq_false h,decide_eq_true ((Mn hi c).mpr (by cbv))];rfl
 unfold inside;rw[e1,e2];cases decide (lo<=c)<;>rfl
theorem JA{c:Nat}(h1:48<=c)(h2:c<=57):inside "0" "9" c=true:=by
 rw[show inside "0" "9" c=_ from vJ 48 57 c,decide_eq_true h1,decide_eq_true h2];rfl
theorem A3{a b z:Str}(h:∀ c∈z.cps.toList,inside a b c=true):lies a b z=true:=by
 unfold lies;rw[List.all_map];exact TH.mpr λc hc=>h c hc
theorem Fb(n:Nat):cd (cH (n:Int))=(Nat.toDigits 10 n).map Char.toNat:=PySem.W.KIN.signs_num n
theorem lead:∀ (m n:Nat),n<=m->0 < n->∃ c r,Nat.toDigits 10 n=c::r/\c≠'0'
 | 0,n,h,h0=>by cbv
 | m+1,n,h,h0=>by
  by_cases hn:n < 10
  .refine#[_,[],Nat.toDigits_of_lt_base hn,?_];have:n=1\/n=2\/n=3\/n=4\/n=5\/n=6\/n=7\/n=8\/n=9:=by cbv
   rcases this with rfl | rfl | rfl | rfl | rfl | rfl | rfl | rfl | rfl<;>decide
  .let(c,r,e,hc):=lead m (n / 10) (by cbv) (by cbv);show#[c,r++[(n % 10).digitChar],?_,hc];rw[Nat.toDigits_of_base_le () (by cbv),e]
   rfl
theorem wV{i:Int}(h0:0<=i):∀ c∈cd (cH i),48<=c/\c<=57:=λc hc=>by
 let(n,rfl):=UG h0;rw[Fb] at hc;let(ch,hm,rfl):=SV.mp hc;have:=Nat.isDigit_of_mem_toDigits () () hm;unfold Char.isDigit at this;simp only[Bool.and_eq_true,decide_eq_true_eq] at this;exact#[this.1,this.2]
theorem yS{i:Int}(h0:0<=i)(h1:i < 1000000):isNum (cH i)=true:=by
 let(n,rfl):=UG h0;have hn:n < 10 ^ 6:=by cbv
 have zo:=PySem.toDigits_len_ge 10 n;have HU:=PySem.toDigits_len_pow (b:=10) (k:=6) (n:=n) () () hn;have hlen:(cH (n:Int)).length=(Nat.toDigits 10 n).length:=by rw[<- k7,Fb,Ss]
 have hdg:∀ c∈(cH (n:Int)).cps.toList,48<=c/\c<=57:=wV h0;unfold isNum;rw[if_pos #[by cbv,by cbv],A3 λc hc=>JA (hdg c hc).1 (hdg c hc).2,Bool.true_and];by_cases hz:n=0
 .subst hz;rw[show cH ((0:Nat):Int)="0" by decide+kernel];decide+kernel
 .let(c,r,e,hc):=lead n n (Sx _) (by cbv);have e2:(cH (n:Int)).cps.toList=c.toNat::r.map Char.toNat:=by
   change cd (cH (n:Int))=_;rw[Fb,e]
   rfl
  rw[e2,List.headD_cons];have qT:(#[#v[c.toNat]]:Str)≠"0":=λz=>by
   have z2:cd (#[#v[c.toNat]]:Str)=cd "0":=congrArg cd z;have z3:c.toNat=48:=by
    have:[c.toNat]=[48]:=z2;injection this
   exact hc (Char.ext (UInt32.toNat_inj.mp z3))
  rw[decide_eq_false qT];simp
def zj(x:Vl×Bool):D:=.tup [vD x.1,.bl x.2]
def wt:!(Vl×Bool)->Nat
 | []=>0
 | (v,false)::r=>v.sz+wt r
 | (_,true)::r=>1+wt r
def yb:!(Vl×Bool)->Nat
 | []=>0
 | (v,false)::r=>3 * v.sz+yb r
 | (_,true)::r=>1+yb r
section
variable(fo:Vl->D)(g:D)
def Fq:!(Vl×Bool)->!D->Prop
 | [],ds=>ds=[g]
 | (v,false)::r,ds=>Fq r (ds++[fo v])
 | (.num _,true)::_,_=>False
 | (.ff k n as,true)::r,ds=>∃ d0,ds=d0++as.map fo/\Fq r (d0++[fo (.ff k n as)])
end
theorem wU{fo:Vl->D}{g:D}{r:!(Vl×Bool)}:∀ (as:!Vl) (ds:!D),Fq fo g (as.map (λv=>(v,false))++r) ds=Fq fo g r (ds++as.map fo)
 | [],ds=>by simp
 | v::as,ds=>by
  change Fq fo g (as.map _++r) (ds++[fo v])=_;rw[wU as,S0]
  rfl
theorem Bs:∀ (as:!Vl) (r:!(Vl×Bool)),wt (as.map (λv=>(v,false))++r)=fe as+wt r
 | [],r=>by simp[fe]
 | v::as,r=>by
  change v.sz+wt (as.map _++r)=(v.sz+fe as)+wt r;rw[Bs as];cbv
theorem BI:∀ (as:!Vl) (r:!(Vl×Bool)),yb (as.map (λv=>(v,false))++r)=3 * fe as+yb r
 | [],r=>by simp[fe]
 | v::as,r=>by
  change 3 * v.sz+yb (as.map _++r)=3 * (v.sz+fe as)+yb r;rw[BI as];cbv
theorem vP:∀ r:!(Vl×Bool),r.length<=wt r
 | []=>Sx _
 | (v,false)::r=>by
  change r.length+1<=v.sz+wt r;have:=vP r;have:=rh v;cbv
 | (v,true)::r=>by
  change r.length+1<=1+wt r;have:=vP r;cbv
theorem xM{α:Type}{l:!α}{j:Nat}(h:j < l.length):∃ y,l.take (l.length - j)=l.take (l.length - j - 1)++[y]/\l.drop (l.length - j - 1)=y::l.drop (l.length - j):=by
 obtain⟨p,hp⟩:∃ p,l.length - j=p+1:=#[l.length - j - 1,by cbv];have hi:p < l.length:=by cbv
 rw[hp,Nat.add_sub_cancel];show#[l[p],?_,Tg hi];rw[List.take_succ,SJ hi]
 rfl
def FX(fo:Vl->D):UR:=λds R=>∃ i:Int,ds=[.int i]/\(Vl.num i).G/\R (fo (.num i))
def F7(fo:Vl->D):UR:=λds R=>∃ (k:Bool) (n:Vn) (as:!Vl),ds=[.str (a9 k),Ei n,.lst (as.map fo)]/\((Vl.ff k n as).G/\fe as<=400)/\R (fo (.ff k n as))
def Rz(fo:Vl->D)(fN fR:AC):UR:=λds R=>∃ v:Vl,ds=[vD v,.cb fN,.cb fR]/\(v.G/\v.sz<=400)/\R (fo v)
theorem zx{fo:Vl->D}{Mv Mw:AC}{LQ KN:GT}{pn pt:!Str}(RT:bN P w K mg base aP 3 Mv LQ pn (bf K .no (FX fo)))(Rv:keepIn K (.ref Mv)=true)(Rt:Binds K LQ pn [])(Sg:bN P w K mg base aP 3 Mw KN pt (bf K .no (F7 fo)))(RG:keepIn K (.ref Mw)=true)(RX:Binds K KN pt [])(F:Own K mg fh)(T:Txt K mg):aa0 P w K mg base fh 4 (Rz fo Mv Mw):=by
 show F.d (nos:=2) d8 (λds R h=>?_) λf br A outer s H E M hr=>#[_,(af (zF (k:=0) (fE (i:=3) d8.nd U (Or.inr U) (DN.pe (aH ae))))
 (af (sN 1 4 d8.nd (aH (aa (aJ (aa (vd 0) (aa oW ae))) ae)))
 (af (mM PassesOwn.never (wu (pv 4))
 (af (jG (n:=1000) (xC Tc Td iz m7 (pv 4)) (cK (m:=2) U (az (gN 5 d8.nd) (az (gN 6 d8.nd) cG))))
 (aj (bD (cL (bC cp gC U T.yO PyProof.Rows.boot_isinstance (aa (vd 5) (aa (dc (d:=.ty "int") (df (v:=.ty "int") U T.int (by decide+kernel) U) U) ae))))
 (aj (oS 3 (aa (tu (hr.mono (by ac_rfl)) (pv 1) Rv Rt (aa (vd 5) ae) RT) ae)))
 (aj (bD (cL (vd 6))
 (af (sS 7 d8.nd (DN.de (Ai (DN.de (nC ["one"] [3] (bg (d5 (vd 5) ag)) (λ_ _ _ _=>(gM 0 ["one","done"])) (λ_ _ _ _=>cj)
 (λ_ _ _ _=>(xC Tc Td iz m7 (pv 1))))) kW)))
 (aj (oS 3 (aa (tu (hr.mono (by ac_rfl)) (pv 2) RG RX (aa (d5 (vd 5) ag) (aa (d5 (vd 5) ag) (aa (vd 7) ae))) Sg) ae))))
 (af (oS 4 (aa (aJ (aa (vd 5) (aa oW ae))) ae))
 (aj (dS (wj T9 Ua jb wX (pv 4) (aa (DN.de (nC ["one"] [] (bg (G9 (d5 (vd 5) ag) kW)) (λ_ _ _ _=>(gM 0 ["one"])) (λ_ _ _ _=>cj)
 (λ_ _ _ _=>(aJ (aa (vd 0) (aa oW ae)))))) ae)))))))))))
 (aj (aG (xC Tc Td iz m7 (pv 3))))))),λds R h=>?_]
 .let(v,rfl,_):=h
  rfl
 .let(v,rfl,(gv,hsz),q):=h;have c5:=aV;show#[#[U,U],_,U,#[U,U],?_];show#[λm s=>∃ (dn:!D) (st:!(Vl×Bool)) (x5 x6 x7:Sl),s=#[[.dat (vD v),.dat (.cb Mv),.dat (.cb Mw),.own 0,.own 1,x5,x6,x7],[some (.lst dn),some (.lst (st.reverse.map zj))]]/\m=yb st/\Fq fo (fo v) st dn/\dn.length+wt st<=400/\∀ it∈st,it.1.G/\it.1.sz<=400,#[_,[],[(v,false)],.no,.no,.no,U,U,U,?_,?_],?_]
  .show 0+(v.sz+0)<=400;cbv
  .intro it hit;rw[SF.mp hit];exact#[gv,hsz]
  .rintro m s ⟨dn,st,x5,x6,x7,rfl,rfl,e,hle,hg⟩;show#[1,_,U,U,?_];cases st with
   | nil =>
    show eQ U ?_;have e:dn=[fo v]:=e;subst e;exact#[0,_,U,U,U,_,U,[],_,U,U,q]
   | cons it r =>
    let(u,b):=it;let(hgu,hzu):=hg _ SD;have Lp:∀ it∈r,it.1.G/\it.1.sz<=400:=λit hit=>hg it (Sy _ hit);have ed:(((u,b)::r).reverse.map zj)=r.reverse.map zj++[zj (u,b)]:=by rw[Tw,Sz];rfl
    have nk:=vP r;show gU (by rw[ed];simp) ?_;show#[1,_,U,U,U,_,U,r.reverse.map zj,zj (u,b),by rw[ed],U,?_];show#[_,U,U,_,_,U,_,_,U,U,?_];cases u with
    | num i =>
     cases b with
     | true=>exact (show False from e).elim
     | false =>
      show#[_,U,_,_,_,U,U,_,U,gU U ?_];show#[0,_,U,U,U,U,_,U,i,U,hgu,_,U,_,_,U,U,by cbv,?_];exact#[yb r,by change _ < 3 * 1+yb r;cbv,dn++[fo (.num i)],r,_,_,x7,U,U,e,by
       have h:dn.length+(1+wt r)<=400:=hle;rw[Sv];simp;cbv,Lp]
    | ff wd nm as =>
     let(gn,gl,ga):=id hgu;show#[_,U,_,_,_,U,U,_,U,eQ U ?_];have hla:=qC as;cases b with
     | true =>
      let(d0,rfl,e2):=(show ∃ d0,dn=d0++as.map fo/\Fq fo (fo v) r (d0++[fo (.ff wd nm as)]) from e);have h250:(d0++as.map fo).length+(1+wt r)<=400:=hle;rw[Sv,Ss] at h250;show#[_,U,_,U,gU U ?_];show#[_,U,_,_,_,U,U,U,_,.inr U,?_];show lr (λxs acc os=>∃ j,j+xs.length=as.length/\acc=((as.drop (as.length - j)).map fo).reverse/\os=[some (.lst (d0++(as.take (as.length - j)).map fo)),some (.lst (r.reverse.map zj))]) ?_ ?_ _ [] _ #[0,by rw[c9,List.length_map];cbv,by simp,by rw[Nat.sub_zero,List.take_length];rfl]
      .rintro x xs acc os ⟨j,hj,rfl,rfl⟩ k hk2;rw[SG] at hj;let(y,h1,h2):=xM (l:=as) (j:=j) (by cbv);show#[0,_,U,U,U,_,U,d0++(as.take (as.length - j - 1)).map fo,fo y,by rw[h1,Sz,<- S0];rfl,U,?_];show hk2 _ _ #[j+1,by cbv,?_,U];rw[show as.length - (j+1)=as.length - j - 1 by cbv,h2,SA,Tw]
      .rintro acc os ⟨j,hj,rfl,rfl⟩;have hj:j=as.length:=by simpa using hj
       subst hj;rw[Nat.sub_self,Uk,List.take_zero,Tt,SY];show#[_,U,?_];show#[0,_,U,U,U,U,_,U,_,_,_,U,U,U,_,U,_,_,_,U,U,U,_,U,?_];show#[wd,nm,as,by rw[List.reverse_reverse],#[hgu,?_],_,U,_,_,U,U,by cbv,?_]
       .have hx:1+fe as<=400:=hzu;cbv
       .refine#[yb r,by change _ < 1+yb r;cbv,_,r,_,_,_,U,U,e2,?_,Lp];rw[Sv];simp;cbv
     | false =>
      have hw:dn.length+(1+fe as+wt r)<=400:=hle;show#[_,U,_,U,eQ U ?_];show#[1,_,U,U,U,_,U,_,U,_,_,U,U,?_,?_]
      .rw[Ss,Uc];cbv
      show#[1,_,U,U,U,_,U,_,_,_,U,U,U,_,U,_,.inr U,?_];rw[c9,<- Uo];show bw vD (λv=>zj (v,false)) as.reverse (λu hu k hk=>?_) ?_
      .exact#[_,U,hk _ U]
      .refine#[_,U,_,_,U,U,?_,?_]
       .rw[Sv,Ss,Uc,SX,Ss,Uc];simp;cbv
       .refine#[yb (as.map (λv=>(v,false))++(Vl.ff wd nm as,true)::r),?_,dn,as.map (λv=>(v,false))++(Vl.ff wd nm as,true)::r,.dat (vD (.ff wd nm as)),.dat (.bl false),x7,?_,U,?_,?_,?_]
        .rw[BI];change 3 * fe as+(1+yb r) < 3 * (1+fe as)+yb r;cbv
        .have el:(as.map (λv=>(v,false))++(Vl.ff wd nm as,true)::r).reverse.map zj=r.reverse.map zj++[zj (Vl.ff wd nm as,true)]++([]++as.reverse.map (λv=>zj (v,false))):=by
          rw[List.reverse_append,Sz,Tw,Sz,SX,<- Uo,S6]
          rfl
         rw[el]
         rfl
        .rw[wU];exact#[dn,U,e]
        .rw[Bs];change dn.length+(fe as+(1+wt r))<=400;cbv
        .intro it hit;rcases SN.mp hit with hit | hit
         .let(u,hu,rfl):=SV.mp hit;have h1:1+fe as<=400:=hzu;have h2:=rF hu;exact#[jX ga u hu,by change u.sz<=400;cbv]
         .rcases SO.mp hit with rfl | hit
          .exact#[hgu,hzu]
          .exact Lp it hit
end
section
variable{P:Fr}{w:Fa}{K:Frag}{mg:Str->Option AT}{base:EQ}
def Fy(v:Vl):D:=.int (v.th:Nat)
def F1(v:Vl):D:=.int (v.dp:Nat)
def yt(v:Vl):D:=.str (bA v.T)
def HQ(fo:Vl->D):UR:=λds R=>∃ v:Vl,ds=[vD v]/\(v.G/\v.sz<=400)/\R (fo v)
theorem IB(F:Own K mg d9)(T:Txt K mg):aa0 P w K mg base d9 1 (FX Fy):=by
 show F.d (nos:=0) oM (λds R h=>?_) λf br A outer s H E M hr=>#[_,(aj (aG ag)),λds R h=>?_]
 .let(i,rfl,_):=h
  rfl
 .let(i,rfl,_,q):=h;exact q
theorem JE(F:Own K mg d9)(T:Txt K mg):aa0 P w K mg base d9 1 (FX F1):=by
 show F.d (nos:=0) oM (λds R h=>?_) λf br A outer s H E M hr=>#[_,(aj (aG ag)),λds R h=>?_]
 .let(i,rfl,_):=h
  rfl
 .let(i,rfl,_,q):=h;exact q
theorem xK(as:!Vl):(as.map Vl.th).sum=jU as:=(rJ as).symm
theorem Lr(F:Own K mg dB)(T:Txt K mg):aa0 P w K mg base dB 1 (F7 Fy):=by
 show F.d (nos:=0) lE (λds R h=>?_) λf br A outer s H E M hr=>#[_,(aj (aG (aZ bX eI ag (bC (Bo U) LF U T.sum (by decide+kernel) (aa (vd 2) ae))))),λds R h=>?_]
 .let(k,n,as,rfl,_):=h
  rfl
 .let(k,n,as,rfl,(gv,hz),q):=h;have h3:=(qF as gv.2.2).2.1;show#[_,U,as.map Vl.th,by rw[S6];rfl,by rw[xK];cbv,?_];show#[_,_,U,U,?_];rw[xK];exact (show Fy (.ff k n as)=.int (1+((jU as:Nat):Int)) from congrArg D.int (Ue 1 (jU as)))▸q
theorem tp:∀ (as:!Vl) (b:Nat),dj (some (b:Int)) (as.map λv=>((v.dp:Nat):Int))=some ((max b (kE as):Nat):Int)
 | [],b=>by change some (b:Int)=_;rw[show max b (kE [])=b from Nat.max_eq_left (S3 _)]
 | v::r,b=>by
  change dj (some (if ((v.dp:Nat):Int) > (b:Int) then ((v.dp:Nat):Int) else (b:Int))) _=_;have e:(if ((v.dp:Nat):Int) > (b:Int) then ((v.dp:Nat):Int) else (b:Int))=((max b v.dp:Nat):Int):=by split<;>cbv
  rw[e,tp r];change _=some ((max b (max v.dp (kE r)):Nat):Int);rw[Nat.max_assoc]
theorem Hb(as:!Vl):(dj none (as.map λv=>((v.dp:Nat):Int))).getD 0=((kE as:Nat):Int):=by
 cases as with
 | nil=>rfl
 | cons v r=>rw[show dj none ((v::r).map λv=>((v.dp:Nat):Int))=dj (some ((v.dp:Nat):Int)) (r.map λv=>((v.dp:Nat):Int)) from U,tp r];rfl
theorem J9(F:Own K mg dC)(T:Txt K mg):aa0 P w K mg base dC 1 (F7 F1):=by
 show F.d (nos:=0) lA (λds R h=>?_) λf br A outer s H E M hr=>#[_,(aj (aG (aZ bX eI ag (Az T.max (aa (vd 2) ae) ag)))),λds R h=>?_]
 .let(k,n,as,rfl,_):=h
  rfl
 .let(k,n,as,rfl,_,q):=h;show#[_,U,as.map λv=>((v.dp:Nat):Int),0,by rw[S6];rfl,U,?_];rw[Hb];show#[_,_,U,U,?_];exact (show F1 (.ff k n as)=.int (1+((kE as:Nat):Int)) from congrArg D.int (Ue 1 (kE as)))▸q
def QY:UR:=λds R=>∃ n:Vn,ds=[Ei n]/\n.G/\R (.str (bA (ig n)))
theorem LJ(F:Own K mg gc)(T:Txt K mg):aa0 P w K mg base gc 1 QY:=by
 show F.d (nos:=0) gT (λds R h=>?_) λf br A outer s H E M hr=>#[_,(af (bD (cL (bC cp gC U T.yO PyProof.Rows.boot_isinstance (aa (vd 0) (aa (dc (d:=.ty "str") (df (v:=.ty "str") U T.str (by decide+kernel) U) U) ae))))
 (aj (aG (vd 0)))
 aK)
 (af (jG (n:=1000) (vd 0) (cK (m:=2) U (az (gN 1 gT.nd) (az (gN 2 gT.nd) cG))))
 (aj (aG (A8 (rL (Es (vd 1)) (rL aq (rL (Es (vd 2)) F8)))))))),λds R h=>?_]
 .let(n,rfl,_):=h
  rfl
 .let(n,rfl,gn,q):=h;have hsz:=aV;cases n with
  | w x =>
   show#[_,U,_,_,_,U,U,_,U,gU U ?_];show#[_,U,?_];rw[ig,pq] at q;exact q
  | p a b =>
   have h1:=eA gn.1.1 gn.1.2;have h2:=eA gn.2.1 gn.2.2;have e0:Str.empty.length=0:=rfl;have e1:(Str.empty++cH a).length<=8:=by rw[Tn,e0];cbv
   have e2:(Str.empty++cH a++".").length<=9:=by rw[Tn,show ((".":Str)).length=1 from U];cbv
   have e3:(Str.empty++cH a++"."++cH b).length<=17:=by rw[Tn];cbv
   have e:Str.empty++cH a++"."++cH b=bA (ig (.p a b)):=by
    show eZ ?_;rw[c8,c8,c8];change []++cd (cH a)++[46]++cd (cH b)=cd (cH a)++46::cd (cH b);simp
   show#[_,U,_,_,_,U,U,_,U,eQ U ?_];right;show#[lu gn.1.1 gn.1.2,?_];right;show#[SI e1 (by cbv),?_];right;show#[SI e2 (by cbv),?_];right;show#[lu gn.2.1 gn.2.2,?_];right;show#[SI e3 (by cbv),SI e3 (by cbv),?_];rw[<- e] at q;exact q
theorem Lk(F:Own K mg er)(T:Txt K mg):aa0 P w K mg base er 1 (FX yt):=by
 show F.d (nos:=0) nK (λds R h=>?_) λf br A outer s H E M hr=>#[_,(aj (aG (cW iZ qU U T.str (by decide+kernel) (aa (vd 0) ae)))),λds R h=>?_]
 .let(i,rfl,_):=h
  rfl
 .let(i,rfl,gi,q):=h;show#[_,U,.inl #[i,U,lu gi.1 gi.2,?_]];have e:yt (.num i)=.str (cH i):=congrArg D.str (pq _);rw[e] at q;exact q
theorem uF(as:!Vl)(h:zc as):((((eK as).map bA).map (·.length)).sum)<=30 * fe as:=by
 rw[S6,show ((λx:Str=>x.length)∘bA)=List.length from funext λl=>gm l];exact nE as h
theorem xy(as:!Vl):as.map yt=((eK as).map bA).map D.str:=by rw[j0,S6,S6];rfl
theorem LK(Q1:aa0 P w K mg base gc 1 QY)(F:Own K mg eX)(T:Txt K mg):aa0 P w K mg base eX 2 (F7 yt):=by
 show F.d (nos:=0) oZ (λds R h=>?_) λf br A outer s H E M hr=>#[_,(af (bD (aB ba cF (vd 0) aq (ax _))
 (aj (aG (aZ aQ cO (aZ aQ cO (aZ aQ cO (aF hr Q1 (aa (vd 1) ae)) aq) (nO aq (aa (vd 2) ae))) aq)))
 aK)
 (aj (aG (aZ aQ cO (aZ aQ cO aq (nO aq (aa (DN.de (dw bV bY (DN.de (aH (aa (aF hr Q1 (aa (vd 1) ae)) ae))) (vd 2))) ae))) aq)))),λds R h=>?_]
 .let(k,n,as,rfl,_):=h
  rfl
 .let(k,n,as,rfl,(gv,hz),q):=h;have hsz:=aV;have hl:=uF as gv.2.2;have hn:=rP gv.1;have ha:=gv.2.1;have hv:(eK as).length=as.length:=by rw[j0,Ss]
  have h44:=fj 44 (eK as);have h32:=fj 32 (ig n::eK as);have hT:=nE as gv.2.2;have l44:=gm (bZ 44 (eK as));have l32:=gm (bZ 32 (ig n::eK as));have ln:=gm (ig n);rw[SA,T5,SG] at h32;rw[xy];show#[_,U,#[U,U,U],_,U,?_];cases k with
  | false =>
   show gU (fc false) ?_;have e4:Txt.join "," ((eK as).map bA)=bA (bZ 44 (eK as)):=kZ 44 _;have e5:bA (ig n)++"("++bA (bZ 44 (eK as))++")"=bA (Vl.ff false n as).T:=by
    show eZ ?_;rw[c8,c8,c8];change ig n++[40]++bZ 44 (eK as)++[41]=ig n++40::(bZ 44 (eK as)++[41]);simp
   have o1:(bA (ig n)++("(":Str)).length<=18:=by rw[Tn,ln,show (("(":Str)).length=1 from U];cbv
   have o2:(bA (ig n)++"("++bA (bZ 44 (eK as))).length<=13000:=by rw[Tn,l44];cbv
   right;show#[gv.1,?_];right;show#[by rw[ln];change _+1<=_;cbv,?_];right;show#[by rw[Ss,hv];change _+_ * 1<=_;cbv,?_];rw[e4];right;show#[by rw[l44];cbv,?_];right;show#[by change _+1<=_;cbv,?_];rw[e5];exact q
  | true =>
   show eQ (fc true) ?_;have e4:Txt.join " " (bA (ig n)::(eK as).map bA)=bA (bZ 32 (ig n::eK as)):=kZ 32 (ig n::eK as);have e5:("[":Str)++bA (bZ 32 (ig n::eK as))++"]"=bA (Vl.ff true n as).T:=by
    show eZ ?_;rw[c8,c8]
    rfl
   have o2:(("[":Str)++bA (bZ 32 (ig n::eK as))).length<=13000:=by rw[Tn,l32,show (("[":Str)).length=1 from U];cbv
   right;show#[gv.1,?_];right;show#[by rw[Ss,Ss,hv];change 1+_<=_;cbv,?_];right;show#[bA (ig n)::(eK as).map bA,U,by rw[SA,T5,SG,Ss,hv,ln];change _+_+_ * 1<=_;cbv,?_];rw[e4];right;show#[by rw[l32];change 1+_<=_;cbv,?_];right;show#[by change _+1<=_;cbv,?_];rw[e5];exact q
theorem Jr(Rb:aa0 P w K mg base d9 1 (FX Fy))(RD:aa0 P w K mg base dB 1 (F7 Fy))(Cd:Own K mg fh)(F:Own K mg qP)(T:Txt K mg):aa0 P w K mg base qP 5 (HQ Fy):=by
 let(fNS,fdNS,JNS,FNS,mNS,bNS):=Rb;let(fST,fdST,JST,MO,mST,bST):=RD;have GTO:=zx (JNS.mono ()) FNS.kp bNS (JST.mono ()) MO.kp bST Cd T;show F.d (nos:=0) DR (λds R h=>?_) λf br A outer s H E M hr=>#[_,(aj (aG (aF hr GTO (aa (vd 0) (aa (dc (d:=.cb fNS) (hX (v:=.ref fNS) U mNS U) U) (aa (dc (d:=.cb fST) (hX (v:=.ref fST) U mST U) U) ae)))))),λds R h=>?_]
 .let(v,rfl,_):=h
  rfl
 .let(v,rfl,gv,q):=h;exact#[_,U,v,U,gv,q]
theorem LA(RU:aa0 P w K mg base d9 1 (FX F1))(RQ:aa0 P w K mg base dC 1 (F7 F1))(Cd:Own K mg fh)(F:Own K mg qE)(T:Txt K mg):aa0 P w K mg base qE 5 (HQ F1):=by
 let(fND,fdND,JND,FND,mND,bND):=RU;let(fDT,fdDT,JDT,MV,mDT,bDT):=RQ;have GTO:=zx (JND.mono ()) FND.kp bND (JDT.mono ()) MV.kp bDT Cd T;show F.d (nos:=0) Dh (λds R h=>?_) λf br A outer s H E M hr=>#[_,(aj (aG (aF hr GTO (aa (vd 0) (aa (dc (d:=.cb fND) (hX (v:=.ref fND) U mND U) U) (aa (dc (d:=.cb fDT) (hX (v:=.ref fDT) U mDT U) U) ae)))))),λds R h=>?_]
 .let(v,rfl,_):=h
  rfl
 .let(v,rfl,gv,q):=h;exact#[_,U,v,U,gv,q]
theorem Me(Rn:aa0 P w K mg base er 1 (FX yt))(Rk:aa0 P w K mg base eX 2 (F7 yt))(Cd:Own K mg fh)(F:Own K mg eR)(T:Txt K mg):aa0 P w K mg base eR 5 (HQ yt):=by
 let(fSU,fdSU,JSU,MF,mSU,bSU):=Rn;let(fTH,fdTH,JTH,MD,mTH,bTH):=Rk;have GTO:=zx (JSU.mono ()) MF.kp bSU (JTH.mono ()) MD.kp bTH Cd T;show F.d (nos:=0) o7 (λds R h=>?_) λf br A outer s H E M hr=>#[_,(aj (aG (aF hr GTO (aa (vd 0) (aa (dc (d:=.cb fSU) (hX (v:=.ref fSU) U mSU U) U) (aa (dc (d:=.cb fTH) (hX (v:=.ref fTH) U mTH U) U) ae)))))),λds R h=>?_]
 .let(v,rfl,_):=h
  rfl
 .let(v,rfl,gv,q):=h;exact#[_,U,v,U,gv,q]
abbrev fi:FM:=inClass (top 24) 0
theorem u7:au ["self","text"] ["self","text"] (ai fi):=eG
abbrev fb:FM:=inClass (top 24) 1
abbrev gJ:D3:=("plan",fb,["self","tasks"])
theorem vQ:au ["self","tasks"] ["self","tasks"] (ai fb):=eG
abbrev cm:FM:=inClass (top 24) 2
abbrev cX:D3:=("need_sign",cm,["self","sign"])
theorem mi:au ["self","sign"] ["self","sign"] (ai cm):=eG
abbrev cg:FM:=inClass (top 24) 3
abbrev cZ:D3:=("take_word",cg,["self","first","last"])
theorem ik:au ["self","first","last","begin"] ["self","first","last"] (ai cg):=eG
abbrev lb:!Str:=["text","place","ahead","done"]
structure CW(K:Frag)(C:AC):Prop where
 cls:wN K C
 nt:d3 K C "text"
 np:d3 K C "place"
 na:d3 K C "ahead"
 nd:d3 K C "done"
def qW(C:AC)(l:!Nat)(i:Nat)(a b:AC)(ah dn:!D):!D:=[.ob C lb [.str (bA l),.int i,.cb a,.cb b],.lst ah,.lst dn]
def Pc(C:AC):yh:=λrs ds cs R=>∃ (x a b:AC) (l:!Nat) (i:Nat) (ah dn ts:!D),rs=[x,a,b]/\ds=[.cb x,.lst ts]/\cs=qW C l i a b ah dn/\ah.length+ts.length<=100000/\R .bH (qW C l i a b (ah++ts.reverse) dn)
theorem Jt{C:AC}(F:uI K C "ValueRead.plan" gJ)(V:CW K C)(T:Txt K mg):zk P w K mg base C gJ 1 (o8 K (Pc C)):=by
 show F.o (nos:=0) (n:=3) vQ (λrs ds cs R h=>?_) λf br A outer s H E M rs hr hrs=>#[_,(aj (dS (AI 1 T9 Ua jb wX (cM 0 lb 2 V.cls V.na (vd 0)) (aa (DN.de (Ai (vd 1) kW)) ae)))),λds cs R h=>?_]
 .let(x,a,b,l,i,ah,dn,ts,rfl,rfl,_):=h;exact#[U,U]
 .let(x,a,b,l,i,ah,dn,ts,rfl,rfl,rfl,hl,q):=h;have hsz:=aV;right;show#[by rw[Uc];cbv,?_];exact#[_,U,q]
theorem Be{l:!Nat}{i:Nat}(hi:i<=l.length):Txt.slice (bA l) (some (i:Int)) (some ((i:Int)+1))=bA ((l.drop i).take 1):=by
 have:=E9 (l:=l) (i:=i) (j:=i+1) hi (Ut _);rw[show i+1 - i=1 by cbv] at this;exact this
def OF(C:AC):yh:=λrs ds cs R=>∃ (x a b:AC) (l:!Nat) (i:Nat) (ah dn:!D),rs=[x,a,b]/\ds=[.cb x,.str (bA ((l.drop i).take 1))]/\cs=qW C l i a b ah dn/\(l.length<=100000/\i<=l.length)/\R .bH (qW C l (i+1) a b ah dn)
theorem Jn{C:AC}(F:uI K C "ValueRead.need_sign" cX)(V:CW K C)(T:Txt K mg):zk P w K mg base C cX 1 (o8 K (OF C)):=by
 show F.o (nos:=0) (n:=3) mi (λrs ds cs R h=>?_) λf br A outer s H E M rs hr hrs=>#[_,(af (bD (aB tY Dj (iR (cM 0 lb 0 V.cls V.nt (vd 0)) (bc (cM 0 lb 1 V.cls V.np (vd 0))) (bc (aZ bX eI (cM 0 lb 1 V.cls V.np (vd 0)) ag))) (vd 1) (ax _))
 nZ
 aK)
 (aj (zQ 0 lb 1 V.cls V.np (vd 0) (aZ bX eI (cM 0 lb 1 V.cls V.np (vd 0)) ag)))),λds cs R h=>?_]
 .let(x,a,b,l,i,ah,dn,rfl,rfl,_):=h;exact#[U,U]
 .let(x,a,b,l,i,ah,dn,rfl,rfl,rfl,(hl,hi),q):=h;have hsz:=aV;have hz:(bA l).length<=Ev:=by rw[gm];cbv
  right;show#[hz,?_];rw[Be hi];show#[_,U,#[U,U,U],_,U,eQ (by rw[decide_eq_true U];rfl) ?_];right;exact q
def Ph(C:AC):yh:=λrs ds cs R=>∃ (x a b:AC) (l:!Nat) (i lo hi:Nat) (w r:!Nat) (ah dn:!D),rs=[x,a,b]/\ds=[.cb x,.str (bA [lo]),.str (bA [hi])]/\cs=qW C l i a b ah dn/\(l.length<=100000/\i<=l.length/\l.drop i=w++r/\(∀ c∈w,lo<=c/\c<=hi)/\∀ c r',r=c::r'->¬ (lo<=c/\c<=hi))/\R (.str (bA w)) (qW C l (i+w.length) a b ah dn)
theorem Ip{C:AC}(F:uI K C "ValueRead.take_word" cZ)(V:CW K C)(T:Txt K mg):zk P w K mg base C cZ 1 (o8 K (Ph C)):=by
 show F.o (nos:=0) (n:=3) ik (λrs ds cs R h=>?_) λf br A outer s H E M rs hr hrs=>#[_,(af (sS 3 ik.nd (cM 0 lb 1 V.cls V.np (vd 0)))
 (af (mM PassesOwn.never (Bw iW iW Ej Ej (vd 1) (iR (cM 0 lb 0 V.cls V.nt (vd 0)) (bc (cM 0 lb 1 V.cls V.np (vd 0))) (bc (aZ bX eI (cM 0 lb 1 V.cls V.np (vd 0)) ag))) (vd 2))
 (aj (zQ 0 lb 1 V.cls V.np (vd 0) (aZ bX eI (cM 0 lb 1 V.cls V.np (vd 0)) ag))))
 (aj (Fx (iR (cM 0 lb 0 V.cls V.nt (vd 0)) (bc (vd 3)) (bc (cM 0 lb 1 V.cls V.np (vd 0)))))))),λds cs R h=>?_]
 .let(x,a,b,l,i,lo,hi,w,r,ah,dn,rfl,rfl,_):=h;exact#[U,U]
 .let(x,a,b,l,i,lo,hi,w,r,ah,dn,rfl,rfl,rfl,(hl,qk,hd,hw,hr'),q):=h;have hsz:=aV;have hz:(bA l).length<=Ev:=by rw[gm];cbv
  have hlen:l.length=i+(w.length+r.length):=by
   have:=congrArg List.length hd;rw[Ti,Sv] at this;cbv
  right;show#[λm s=>∃ k,k<=w.length/\m=w.length - k/\s=#[[.dat (.cb x),.dat (.str (bA [lo])),.dat (.str (bA [hi])),.dat (.int i)],(qW C l (i+k) a b ah dn).map some],#[_,0,S3 _,U,U],?_];rintro m s ⟨k,hk,rfl,rfl⟩;have hdk:l.drop (i+k)=w.drop k++r:=by rw[<- TZ,hd,List.drop_append_of_le_length hk]
  have e1:Txt.slice (bA l) (some ((i+k:Nat):Int)) (some (((i+k:Nat):Int)+1))=bA ((w.drop k++r).take 1):=by rw[Be (by cbv),hdk]
  right;show#[hz,?_];rw[e1];have leA:∀ (y:!Nat),(not (decide ((bA y).cps.toList < (bA [lo]).cps.toList)))=vi (bA [lo]) (bA y):=λ_=>rfl;have leB:∀ (y:!Nat),(not (decide ((bA [hi]).cps.toList < (bA y).cps.toList)))=vi (bA y) (bA [hi]):=λ_=>rfl;by_cases hkw:k < w.length
  .have hc:=Tg hkw;have ec:(w.drop k++r).take 1=[w[k]]:=by rw[hc];rfl
   rw[ec];let(c1,c2):=hw w[k] (UI hkw);have hin:=vJ lo hi w[k];rw[decide_eq_true c1,decide_eq_true c2] at hin;have i1:vi (bA [lo]) (bA [w[k]])=true:=by
    unfold inside at hin;by_cases e:vi (bA [lo]) #[#v[w[k]]]=true
    .exact e
    .rw[if_neg e] at hin;cases hin
   have i2:vi (bA [w[k]]) (bA [hi])=true:=by
    unfold inside at hin;rw[if_pos i1] at hin;exact hin
   show#[_,_,U,U,_,U,?_];rw[leA,i1];show#[_,U,_,_,U,U,_,U,?_];rw[leB,i2];show gU U ?_;right;exact#[_,by cbv,k+1,hkw,U,U]
  .have ek:k=w.length:=by cbv
   subst ek;rw[UJ,SX];have fin:R (.str (bA w)) (qW C l (i+w.length) a b ah dn)->_:=λq=>q;have es:Txt.slice (bA l) (some (i:Int)) (some ((i+w.length:Nat):Int))=bA w:=by
    rw[E9 qk (UK _ _),hd,Nat.add_sub_cancel_left,List.take_left]
   show#[_,_,U,U,_,U,?_];rw[leA];by_cases hin:vi (bA [lo]) (bA (r.take 1))=true
   .rw[hin];show#[_,U,_,_,U,U,_,U,?_];rw[leB];show eQ ?_ ?_
    .cases r with
     | nil=>exact absurd hin (by change ¬ (not (decide (([]:!Nat) < [lo])))=true;rw[decide_eq_true (show ([]:!Nat) < [lo] from List.Lex.nil)];decide)
     | cons c r' =>
      have h0:=vJ lo hi c;unfold inside at h0;rw[if_pos (show vi (bA [lo]) #[#v[c]]=true from hin)] at h0;change vi (bA [c]) (bA [hi])=false;rw[show vi (bA [c]) (bA [hi])=_ from h0];have:=hr' c r' U;by_cases c1:lo<=c
      .rw[decide_eq_false λc2=>this #[c1,c2],Bool.and_false]
      .rw[decide_eq_false c1];rfl
    .right;show#[hz,?_];rw[es];exact#[_,U,q]
   .rw[show vi (bA [lo]) (bA (r.take 1))=false by simpa using hin];show#[_,U,eQ U ?_];right;show#[hz,?_];rw[es];exact#[_,U,q]
def P8(C:AC):yh:=λrs ds cs R=>∃ (x a b:AC) (l:!Nat) (i:Nat) (n:Int) (r:!Nat) (ah dn:!D),rs=[x,a,b]/\ds=[.cb x]/\cs=qW C l i a b ah dn/\(l.length<=100000/\i<=l.length/\l.drop i=cd (cH n)++r/\(0<=n/\n < 1000000)/\(∀ c r',r=c::r'->stop c)/\dn.length<=100000)/\R .bH (qW C l (i+(cd (cH n)).length) a b ah (dn++[.int n]))
theorem Io{C:AC}(Nz:zk P w K mg base C cZ 1 (o8 K (Ph C)))(RH:aa0 P w K mg base iB 2 (Oz isNum))(F:Own K mg eh)(V:CW K C)(T:Txt K mg):C4 P w K mg base aP eh 3 (o8 K (P8 C)):=by
 show F.o (nos:=0) (n:=3) iO (λrs ds cs R h=>?_) λf br A outer s H E M rs hr hrs=>#[_,(af (sS 1 iO.nd (lh 0 lb V.cls hr Nz (vd 0) (aa aq (aa aq ae))))
 (af (bD (hW (cL (aF hr RH (aa (vd 1) ae))))
 nZ
 aK)
 (aj (dS (AI 2 UB UC i5 zP (cM 0 lb 3 V.cls V.nd (vd 0)) (aa (cW yM Hs U T.int (by decide+kernel) (aa (vd 1) ae)) ae)))))),λds cs R h=>?_]
 .let(x,a,b,l,i,n,r,ah,dn,rfl,rfl,_):=h;exact#[U,U]
 .let(x,a,b,l,i,n,r,ah,dn,rfl,rfl,rfl,(hl,hi,hd,(h0,h1),hr',hdn),q):=h;have hsz:=aV;have hn:=eA h0 h1;have el:bA (cd (cH n))=cH n:=pq _;show#[_,U,x,_,U,U,U,?_];show#[_,U,x,a,b,l,i,48,57,cd (cH n),r,ah,dn,U,U,U,#[hl,hi,hd,λc hc=>wV h0 c hc,λc r' e=>?_],?_]
  .have:=hr' c r' e;unfold stop at this;cbv
  rw[el];show#[_,U,cH n,U,by cbv,?_];rw[yS h0 h1];show#[_,U,eQ U ?_];right;show#[h0,Int.lt_trans h1 (),?_];right;show#[by cbv,?_];exact#[_,U,q]
def QC:UR:=λds R=>∃ (k:Bool) (fs:!(Str×Str)),ds=[.str (a9 k),dQ fs]/\fs.length<=3/\R (.lst (Ab k fs))
theorem KD(F:Own K mg dY)(T:Txt K mg):aa0 P w K mg base dY 1 QC:=by
 show F.d (nos:=1) dF (λds R h=>?_) λf br A outer s H E M hr=>#[_,(af (sN 0 2 dF.nd (aH ae))
 (af (sF (bg (vd 1)) (cK (m:=2) U (az (gN 3 dF.nd) (az (gN 4 dF.nd) cG)))
 (af (bD (aB ba cF (vd 0) aq (ax _))
 (aj (oS 2 (aa (aJ (aa aq (aa aq ae))) ae)))
 (aj (bD (wu (pv 2))
 (aj (oS 2 (aa (aJ (aa aq (aa aq ae))) ae)))
 aK)))
 (aj (oS 2 (aa (aJ (aa aq (aa (vd 4) ae))) ae)))))
 (af (bD (aB ba cF (vd 0) aq (ax _))
 (aj (aG (DN.de (dw bV bY (sM (pv 2)) (DN.de (aH (aa (aJ (aa aq (aa aq ae))) ae)))))))
 aK)
 (aj (aG (DN.de (dw bV bY (DN.de (dw bV bY (DN.de (aH (aa (aJ (aa aq (aa aq ae))) ae))) (sM (pv 2)))) (DN.de (aH (aa (aJ (aa aq (aa aq ae))) ae)))))))))),λds R h=>?_]
 .let(k,fs,rfl,_):=h
  rfl
 .let(k,fs,rfl,hf,q):=h;have hsz:=aV;right;show vZ pairD (λdn s=>∃ x3 x4:Sl,x3.pl=true/\x4.pl=true/\s=#[[.dat (.str (a9 k)),.dat (dQ fs),.own 0,x3,x4],[some (.lst (y6 k dn))]]) ?_ ?_ _ #[.no,.no,U,U,by cases k<;>rfl]
  .rintro s ⟨x3,x4,h3,h4,rfl⟩;have hl:=sI k fs;show#[_,U,#[U,U,U],_,U,?_];cases k with
   | true =>
    show gU (cB true) ?_;right;show#[by change _+1<=_;cbv,?_];exact q
   | false =>
    show eQ (cB false) ?_;right;show#[by change 1+_<=_;cbv,?_];right;show#[by rw[Sv];change 1+_+1<=_;cbv,?_];exact q
  .rintro dn f0 td s E e ⟨x3,x4,h3,h4,rfl⟩ hN hE;have hdl:dn.length<=3:=by rw[e] at hf;simp at hf;cbv
   have hl:=sI k dn;have fin:∀ ys:!D,ys=y6 k (dn++[f0])->E.nx #[[.dat (.str (a9 k)),.dat (dQ fs),.own 0,.dat (.str f0.1),.dat (.str f0.2)],[some (.lst ys)]]:=λys hy=>hN _ #[.dat (.str f0.1),.dat (.str f0.2),U,U,by rw[hy]];have es:=BO k dn f0;right;cases k with
   | true =>
    show gU (cB true) ?_;right;show#[by cbv,?_];right;show#[by rw[Sv];change _+1 < _;cbv,?_];exact fin _ (by rw[es];rfl)
   | false =>
    show eQ (cB false) ?_;show#[0,_,U,U,?_];rw[CV];cases dn with
    | nil =>
     show eQ U ?_;right;show#[by cbv,?_];exact fin _ (by rw[es];rfl)
    | cons d0 dr =>
     show gU U ?_;right;show#[by cbv,?_];right;show#[by rw[Sv];change _+1 < _;cbv,?_];exact fin _ (by rw[es];rfl)
def QH(C:AC):yh:=λrs ds cs R=>∃ (x a b:AC) (l:!Nat) (i:Nat) (k:Bool) (m:Str) (as:!Vl) (ah d0:!D),rs=[x,a,b]/\ds=[.cb x,.str (a9 k),.str m,.int as.length]/\cs=qW C l i a b ah (d0++as.map vD)/\(as.length<=3/\d0.length<=100000)/\R .bH (qW C l i a b ah (d0++[vD (.ff k (.w m) as)]))
theorem KC{C:AC}(F:Own K mg et)(V:CW K C)(T:Txt K mg):C4 P w K mg base aP et 1 (o8 K (QH C)):=by
 show F.o (nos:=0) (n:=3) iU (λrs ds cs R h=>?_) λf br A outer s H E M rs hr hrs=>#[_,(af (sS 4 iU.nd (DN.de (Ai (DN.de (nC ["k"] [0] (cV U T.range (aa (vd 3) ae)) (λ_ _ _ _=>gM 0 ["k","reading"]) (λ_ _ _ _=>cj) (λ_ _ _ _=>(vG 2 Tc Td iz m7 (cM 0 lb 3 V.cls V.nd (vd 1)))))) kW)))
 (aj (dS (AI 2 UB UC i5 zP (cM 0 lb 3 V.cls V.nd (vd 0)) (aa (aJ (aa (vd 1) (aa (vd 2) (aa (iq T.tuple (aa (vd 4) ae)) ae)))) ae))))),λds cs R h=>?_]
 .let(x,a,b,l,i,k,m,as,ah,d0,rfl,rfl,_):=h;exact#[U,U]
 .let(x,a,b,l,i,k,m,as,ah,d0,rfl,rfl,rfl,(hl,hd),q):=h;have hsz:=aV;right;show#[#[by cbv,by cbv],?_];show lr (λxs acc os=>∃ j,j+xs.length=as.length/\acc=((as.drop (as.length - j)).map vD).reverse/\os=(qW C l i a b ah (d0++(as.take (as.length - j)).map vD)).map some) ?_ ?_ _ [] _ #[0,by simp[c7],by simp,by rw[Nat.sub_zero,List.take_length];rfl]
  .rintro y xs acc os ⟨j,hj,rfl,rfl⟩ k' hk2;rw[SG] at hj;let(y,h1,h2):=xM (l:=as) (j:=j) (by cbv);right;show#[d0++(as.take (as.length - j - 1)).map vD,vD y,by rw[h1,Sz,<- S0];rfl,U,?_];show hk2 _ _ #[j+1,by cbv,?_,U];rw[show as.length - (j+1)=as.length - j - 1 by cbv,h2,SA,Tw]
  .rintro acc os ⟨j,hj,rfl,rfl⟩;have hj:j=as.length:=by simpa using hj
   subst hj;rw[Nat.sub_self,Uk,List.take_zero,Tt,SY];right;rw[List.reverse_reverse];show#[by cbv,?_];show#[_,U,?_];rw[vD,c9] at q;exact q
theorem xR{m:ia}:∀ {ms:!ia},(ms.map ia.name).Nodup->m∈ms->b6 (ms.map λm=>(Sum.inr m.name:Key)) (ms.map λm=>dQ m.fs) (Sum.inr m.name)=some (dQ m.fs)
 | [],_,h=>nomatch h
 | a::r,hn,h=>by
  rw[SA,T2] at hn;change (if (Sum.inr a.name:Key)=Sum.inr m.name then some (dQ a.fs) else b6 (r.map λm=>(Sum.inr m.name:Key)) (r.map λm=>dQ m.fs) (Sum.inr m.name))=_;rcases SO.mp h with rfl | h
  .rw[if_pos U]
  .rw[if_neg (λz=>hn.1 (by rw[Sum.inr.inj z];exact SU h)),xR hn.2 h]
theorem CI(k:Bool)(m:Str)(ks:!Str)(as:!Vl):∃ c t,txt (oH k m ks as)=c::t/\stop c:=by
 unfold oH kQ;cases k with
 | true =>
  rw[if_pos U,if_pos U];cases ks.zip as with
  | nil=>exact#[93,_,U,.inr (.inl ())]
  | cons z zs=>exact#[32,_,U,.inl ()]
 | false=>exact#[40,_,U,.inl ()]
def PU(C:AC):yh:=λrs ds cs R=>∃ (x a b:AC) (l:!Nat) (i:Nat) (W:bW) (n:Nat) (ps:!PK) (p:PK) (m:ia) (as:!Vl) (r:!Nat) (ah dn:!D),rs=[x,a,b]/\ds=[.cb x,.tup (ps.map oR),.str p.kd.name]/\cs=qW C l i a b ah dn/\(Cj W n ps/\p∈ps/\m∈p.kd.bJ/\as.length=m.fs.length)/\(l.length<=100000/\i<=l.length/\l.drop i=(Vl.ff p.asked (.w m.name) as).T++r/\ah.length<=10000) /\
 ∀ j,j<=l.length->l.drop j=txt (oH p.asked m.name (m.fs.map (·.2)) as)++r->R .bH (qW C l j a b (ah++((oH p.asked m.name (m.fs.map (·.2)) as).map rX).reverse) dn)
theorem Jo{C:AC}(Rp:C4 P w K mg base aP i9 2 (bf K .no (FK (λp=>.str (a9 p.asked)))))(RV:C4 P w K mg base aP fT 2 (bf K .no (FK (λp=>.tup (p.kd.bJ.map cS)))))(RO:aa0 P w K mg base dY 1 QC)(Po:zk P w K mg base C gJ 1 (o8 K (Pc C)))(NO:zk P w K mg base C cX 1 (o8 K (OF C)))(Nz:zk P w K mg base C cZ 1 (o8 K (Ph C)))(F:Own K mg eS)(V:CW K C)(T:Txt K mg):C4 P w K mg base aP eS 3 (o8 K (PU C)):=by
 show F.o (nos:=0) (n:=3) dq (λrs ds cs R h=>?_) λf br A outer s H E M rs hr hrs=>#[_,(af (sS 3 dq.nd (aF hr Rp (aa (vd 1) (aa (vd 2) ae))))
 (af (bD (aB ba cF (vd 3) aq (ax _))
 (aj (dS (lh 0 lb V.cls hr NO (vd 0) (aa aq ae))))
 aK)
 (af (sS 4 dq.nd (lh 0 lb V.cls hr Nz (vd 0) (aa aq (aa aq ae))))
 (af (sS 5 dq.nd (DN.de (nW (vn U) Aj U T.dict (by decide+kernel) (aa (aF hr RV (aa (vd 1) (aa (vd 2) ae))) ae))))
 (af (bD (C8 (dN hr) (vd 4) (vd 5))
 nZ
 aK)
 (af (sS 6 dq.nd (fJ (bq (dN hr) (DE.pe (vd 5)) (DE.pe (vd 4)) (λ_ _=>rfl))))
 (aj (dS (lh 0 lb V.cls hr Po (vd 0) (aa (DN.de (dw bV bY (aF hr RO (aa (vd 3) (aa (vd 6) ae))) (DN.de (aH (aa (aJ (aa aq (aa (vd 3) (aa (vd 4) (aa (d7 T.len (aa (vd 6) ae)) ae))))) ae))))) ae)))))))))),λds cs R h=>?_]
 .let(x,a,b,l,i,W,n,ps,p,m,as,r,ah,dn,rfl,rfl,_):=h;exact#[U,U]
 .let(x,a,b,l,i,W,n,ps,p,m,as,r,ah,dn,rfl,rfl,rfl,(ok,hp,hm,hal),(hl,hi,hd,hah),q):=h;have hsz:=aV;have hkd:p.kd∈W.kinds:=ok.mem hp;let((lw,n1,n8,_),hfs,_):=ok.bp.mo p.kd hkd m hm;have hmk:=(ok.bp.kw p.kd hkd).2.1;have hmn:(p.kd.bJ.map ia.name).Nodup:=(List.pairwise_flatMap.mp ok.bp.mn).1 p.kd hkd;have hT:=NI p.asked m.name (m.fs.map (·.2)) as (by rw[Ss];exact hal);have hpd:=NQ p.asked m.name m.fs as hal;let(c0,t0,e0,s0):=CI p.asked m.name (m.fs.map (·.2)) as;have hlook:=xR hmn hm;show#[_,U,_,U,W,n,ps,p,U,#[ok,hp],?_];show#[_,U,#[U,U,U],_,U,?_];refine' jn (C:=∀ i':Nat,i'<=l.length->l.drop i'=cd m.name++(txt (oH p.asked m.name (m.fs.map (·.2)) as)++r)->(?G:Nat->Prop) i') ?dh λdh=>?main
  case main =>
   show aL (b':=p.asked) (cB p.asked) (λe=>?_) λe=>?_
   .have hd1:l.drop i=91::(cd m.name++(txt (oH p.asked m.name (m.fs.map (·.2)) as)++r)):=by
     rw[hd,hT,if_pos e];simp
    have hi1:i+1<=l.length:=by
     have:=congrArg List.length hd1;rw[Ti,SG] at this;cbv
    have hd2:l.drop (i+1)=cd m.name++(txt (oH p.asked m.name (m.fs.map (·.2)) as)++r):=by rw[<- TZ,hd1];rfl
    show#[_,U,x,_,U,U,U,?_];show#[_,U,x,a,b,l,i,ah,dn,U,?_,U,#[hl,hi],?_]
    .rw[hd1];rfl
    .revert hi1 hd2
     generalize i+1=i';intro qk hd';exact dh i' qk hd'
   .have hd1:l.drop i=cd m.name++(txt (oH p.asked m.name (m.fs.map (·.2)) as)++r):=by
     rw[hd,hT,if_neg (by rw[e];decide)];simp
    exact dh i hi hd1
  case dh =>
   intro i' qk hd';have hj:i'+(cd m.name).length<=l.length:=by
    have:=congrArg List.length hd';rw[Ti,Sv] at this;cbv
   have hdj:l.drop (i'+(cd m.name).length)=txt (oH p.asked m.name (m.fs.map (·.2)) as)++r:=by rw[<- TZ,hd',List.drop_left]
   have qq:=q _ hj hdj;have eN:bA (cd m.name)=m.name:=pq _;show#[_,U,x,_,U,U,U,?_];show#[_,U,x,a,b,l,i',97,122,cd m.name,_,ah,dn,U,U,U,#[hl,qk,hd',λc hc=>lw c hc,λc r' e=>?_],?_]
   .rw[e0] at e;have e:c0=c:=by injection e
    rw[<- e];unfold stop at s0;cbv
   rw[eN];show#[_,U,_,U,W,n,ps,p,U,#[ok,hp],?_];show#[p.kd.bJ.map λm=>(m.name,dQ m.fs),by rw[S6];rfl,by rw[S6];exact hmn,by rw[Ss];cbv,?_];rw[S6,S6];show#[_,U,_,U,U,.inl #[_,_,_,U,U,?_]];rw[show b6 (p.kd.bJ.map ((λq:Str×D=>(Sum.inr q.1:Key))∘λm=>(m.name,dQ m.fs))) (p.kd.bJ.map ((λq:Str×D=>q.2)∘λm=>(m.name,dQ m.fs))) (Sum.inr m.name)=some (dQ m.fs) from hlook];show#[_,U,eQ U ?_];show#[_,U,_,U,U,.inl #[_,_,_,U,U,_,hlook,?_]];show#[_,U,x,_,U,U,U,?_];show#[_,U,_,U,p.asked,m.fs,U,hfs,?_];have hl7:(Ab p.asked m.fs).length<=8:=by
    have:=sI p.asked m.fs;unfold Ab;split<;>simp<;>cbv
   right;show#[by change _+1<=_;cbv,?_];rw[Ss,<- hpd];show#[_,U,x,a,b,l,_,ah,dn,_,U,U,U,?_,?_]
   .rw[hpd,Sv];change _+(_+1)<=_;cbv
   .exact#[_,U,qq]
def OX(C:AC):MQ:=λds R=>∃ l:!Nat,ds=[.str (bA l)]/\∀ x a b,R [x,a,b] (qW C l 0 a b [] [])
def Qm(P:Fr)(w:Fa)(K:Frag)(mg:Str->Option AT)(base:EQ)(C:AC)(k:Nat)(sp:Sp):Prop:=∃ f fd,bN P w K mg base aP k f fd ["self","text"] sp/\L2.Mk K C f/\Binds K fd ["self","text"] []/\mg "ValueRead"=some (.ref C)
theorem Kc{C f:AC}{fd:GT}(F:rH K "__init__" "ValueRead.__init__" fi f fd)(V:CW K C):bN P w K mg base aP 1 f fd ["self","text"] (Kr K C (OX C)):=by
 show RA (nos:=2) F u7 (λds R h=>?_) λbr A outer s H E M x hr=>#[_,(AA (A5 0 [] V.cls V.nt (vd 0) (vd 1)) (AA (A5 0 ["text"] V.cls V.np (vd 0) ag) (EE 0 ["text","place"] V.cls V.na (pv 0) (aH ae) λ_=>EE 0 ["text","place","ahead"] V.cls V.nd (pv 0) (aH ae) λ_=>IS))),λds R h=>?_]
 .let(l,rfl,_):=h
  rfl
 .let(l,rfl,q):=h;right;intro a;right;intro b;exact#[U,_,U,q x a b]
theorem A7{st:!Itm}{k:Str}{v:Vl}(h:ko (.val k v::st)):∀ c r',txt st=c::r'->stop c:=λc r' e=>by
 rcases h.1 with ⟨c0,r0,rfl,hc⟩ | rfl
 .have e:c0::txt r0=c::r':=e;injection e with e1;rw[<- e1];exact hc
 .cases e
def PM:UR:=λds R=>∃ (W:bW) (n:Nat) (ps:!PK) (k:Str) (v:Vl),ds=[.tup (ps.map oR),.str k,.str (bA v.T)]/\(Cj W n ps/\(∀ p∈ps,p.asked=p.kd.asked)/\VK W k v/\v.sz<=400)/\R (vD v)
theorem Jv{C:AC}(GI:Qm P w K mg base C 1 (Kr K C (OX C)))(Po:zk P w K mg base C gJ 1 (o8 K (Pc C)))(NO:zk P w K mg base C cX 1 (o8 K (OF C)))(RC:C4 P w K mg base aP et 1 (o8 K (QH C)))(Rr:C4 P w K mg base aP eh 3 (o8 K (P8 C)))(Rw:C4 P w K mg base aP eS 3 (o8 K (PU C)))(F:Own K mg eW)(V:CW K C)(T:Txt K mg):aa0 P w K mg base eW 4 PM:=by
 let(fI,fdI,JI,MI,bI,mI):=GI;show F.d (nos:=0) gf (λds R h=>?_) λf br A outer s H E M hr=>#[_,(D0 (i:=3) 0 MI JI (hr.mono ()) mI bI gf.nd (aa (vd 2) ae) λ_=>(af (dS (lh 0 lb V.cls hr Po (vd 3) (aa (DN.de (aH (aa (aJ (aa aq (aa (vd 1) ae))) (aa (aJ (aa aq (aa aq ae))) ae)))) ae)))
 (af (mM PassesOwn.never (Dv 1 (cM 0 lb 2 V.cls V.na (vd 3)))
 (af (sS 4 gf.nd (vG 1 Tc Td iz m7 (cM 0 lb 2 V.cls V.na (vd 3))))
 (aj (bD (aB ba cF (d5 (vd 4) ag) aq (ax _))
 (aj (dS (lh 0 lb V.cls hr NO (vd 3) (aa (d5 (vd 4) ag) ae))))
 (aj (bD (aB ba cF (d5 (vd 4) ag) aq (ax _))
 (aj (dS (nP hr RC (aa (vd 3) (aa (d5 (vd 4) ag) (aa (d5 (vd 4) ag) (aa (d5 (vd 4) ag) ae)))))))
 (aj (bD (aB ba cF (d5 (vd 4) ag) aq (ax _))
 (aj (dS (nP hr Rr (aa (vd 3) ae))))
 (aj (dS (nP hr Rw (aa (vd 3) (aa (vd 0) (aa (d5 (vd 4) ag) ae))))))))))))))
 (aj (aG (vG 2 Tc Td iz m7 (cM 0 lb 3 V.cls V.nd (vd 3)))))))),λds R h=>?_]
 .let(W,n,ps,k,v,rfl,_):=h
  rfl
 .let(W,n,ps,k,v,rfl,(ok,has,hv,hsz),q):=h;have c5:=aV;have hG:=HF ok.bp v hv;have hl:v.T.length<=12000:=by
   have:=Ek v hG;cbv
  have hms:=Er v;show#[_,U,U,v.T,U,λx a b z hz=>?_];have hz:x=z:=S4 hz;subst hz;show#[_,U,x,_,U,U,U,?_];show#[_,U,_,U,x,a,b,v.T,0,[],[],_,U,U,U,by change 0+2<=100000;decide,?_];show#[λm s=>∃ (st:!Itm) (dn:!D) (i:Nat) (x4:Sl),s=#[[.dat (.tup (ps.map oR)),.dat (.str k),.dat (.str (bA v.T)),.dat (.cb x),x4],(qW C v.T i a b (st.reverse.map rX) dn).map some]/\m=mP st/\vC [vD v] st dn/\ko st/\(∀ it∈st,p7 W it)/\v.T.drop i=txt st/\(st=[]\/i<=v.T.length)/\dn.length+mP st<=2410,#[_,[.val k v,.sg []],[],0,.no,U,U,U,#[.inr U,.inr #[U,U],trivial],?_,?_,.inr (S3 _),?_],?_]
  .intro it hit;rcases SO.mp hit with rfl | hit
   .exact hv
   .rw[SF.mp hit];exact True.intro
  .show v.T=v.T++([]++[]);simp
  .show 0+(v.ms+(1+0))<=2410;cbv
  rintro m s ⟨st,dn,i,x4,rfl,rfl,hrn,hsep,bj,htx,hi,hbd⟩;show#[_,U,x,_,_,U,U,U,U,a,_,U,U,U,?_];cases st with
  | nil =>
   show eQ U ?_;have hrn:dn=[vD v]:=hrn;subst hrn;show#[_,U,x,_,_,U,U,U,U,b,_,U,U,U,U,_,U,[],_,U,U,?_];exact q
  | cons it r =>
   have hiT:i<=v.T.length:=hi.resolve_left (by intro z;cases z);have ed:((it::r).reverse.map rX)=r.reverse.map rX++[rX it]:=by rw[Tw,Sz];rfl
   have hit:=bj it SD;have hokr:∀ j∈r,p7 W j:=λj hj=>bj j (Sy _ hj);have hmc:mP (it::r)=Ht it+mP r:=rfl;have hmp:=wZ it;have hrl:=wF r;have hrl2:(r.reverse.map rX).length<=2410:=by rw[Ss,Uc];cbv
   have htx:v.T.drop i=Fi it++txt r:=htx;show gU (by rw[ed];simp) ?_;show#[_,U,x,_,_,U,U,U,U,a,_,U,U,U,U,_,U,r.reverse.map rX,rX it,by rw[ed],U,?_];have next:∀ (i':Nat) (r':!Itm) (LM:!D) (N:DS->Prop),(∀ s',(∃ m',m' < mP (it::r)/\∃ (st:!Itm) (dn:!D) (i:Nat) (x4:Sl),s'=#[[.dat (.tup (ps.map oR)),.dat (.str k),.dat (.str (bA v.T)),.dat (.cb x),x4],(qW C v.T i a b (st.reverse.map rX) dn).map some]/\m'=mP st/\vC [vD v] st dn/\ko st/\(∀ it∈st,p7 W it)/\v.T.drop i=txt st/\(st=[]\/i<=v.T.length)/\dn.length+mP st<=2410)->N s')->mP r' < mP (it::r)->vC [vD v] r' LM->ko r'->(∀ j∈r',p7 W j)->v.T.drop i'=txt r'->(r'=[]\/i'<=v.T.length)->LM.length+mP r'<=2410 ->
     N #[[.dat (.tup (ps.map oR)),.dat (.str k),.dat (.str (bA v.T)),.dat (.cb x),.dat (rX it)],(qW C v.T i' a b (r'.reverse.map rX) LM).map some]:=λi' r' LM N hN h1 h2 h3 h4 h5 h6 h7=>hN _ #[_,h1,r',LM,i',_,U,U,h2,h3,h4,h5,h6,h7]
   cases it with
   | sg c =>
    have hs:((∃ e,c=[e])\/c=[]/\r=[])/\ko r:=hsep;have e1:(v.T.drop i).take 1=c:=by
     rw[htx];rcases hs.1 with ⟨e,rfl⟩ | ⟨rfl,rfl⟩<;>rfl
    show#[_,U,_,_,_,U,U,U,#[U,U,U],_,U,gU (by decide+kernel) ?_];show#[_,U,x,_,U,U,U,_,U,_,_,_,U,U,U,_,U,x,a,b,v.T,i,_,dn,U,?_,U,#[by cbv,hiT],?_]
    .rw[e1]
    show next (i+1) r dn _ (λs' h=>h) (by rw[hmc];cbv) hrn hs.2 hokr ?_ ?_ (by rw[hmc] at hbd;cbv)
    .rw[<- TZ,htx];rcases hs.1 with ⟨e,rfl⟩ | ⟨rfl,rfl⟩<;>rfl
    .rcases hs.1 with ⟨e,rfl⟩ | ⟨rfl,rfl⟩
     .refine .inr ?_;have:=congrArg List.length htx;rw[Ti,Sv] at this;simp[Fi] at this;cbv
     .exact .inl U
   | gB kk m as =>
    let(hm,ha3,_):=hit;let(d0,rfl,hrn):=hrn;show#[_,U,_,_,_,U,U,U,#[U,U,U],_,U,eQ (by decide+kernel) ?_];show#[_,U,_,_,_,U,U,U,#[U,U,U],_,U,gU (by decide+kernel) ?_];show#[_,U,_,U,_,_,_,U,U,U,_,U,_,_,_,U,U,U,_,U,_,_,_,U,U,U,_,U,x,a,b,v.T,i,kk,m,as,_,d0,U,U,U,#[ha3,?_],?_]
    .rw[Sv] at hbd;cbv
    show next i r _ _ (λs' h=>h) (by rw[hmc];cbv) hrn hsep hokr htx (.inr hiT) ?_
    rw[hmc] at hbd;rw[Sv] at hbd ⊢;have:Ht (Itm.gB kk m as)=1:=rfl;simp only[List.length_cons,List.length_nil];cbv
   | val k' v' =>
    have Ho:VK W k' v':=hit;show#[_,U,_,_,_,U,U,U,#[U,U,U],_,U,eQ (by decide+kernel) ?_];show#[_,U,_,_,_,U,U,U,#[U,U,U],_,U,eQ (by decide+kernel) ?_];show#[_,U,_,_,_,U,U,U,#[U,U,U],_,U,?_];cases v' with
    | num j =>
     let(rfl,hj):=Ho;show gU (by decide+kernel) ?_;show#[_,U,_,U,x,a,b,v.T,i,j,txt r,_,dn,U,U,U,#[by cbv,hiT,htx,hj,A7 hsep,by cbv],?_];have hlen:=congrArg List.length htx;rw[Ti,Sv] at hlen;show next _ r _ _ (λs' h=>h) (by rw[hmc];cbv) hrn hsep.2 hokr ?_ (.inr ?_) ?_
     .rw[<- TZ,htx];exact List.drop_left
     .have:(Fi (.val "number" (.num j))).length=(cd (cH j)).length:=rfl;cbv
     .rw[hmc] at hbd;rw[Sv];have:Ht (Itm.val "number" (.num j))=1:=rfl;simp only[List.length_cons,List.length_nil];cbv
    | ff bb nn as =>
     let(kd,hkd,m,hm,rfl,rfl,rfl,hs):=Ho;obtain⟨p,hp,rfl⟩:∃ p∈ps,p.kd=kd:=by
      rw[<- ok.kd] at hkd;let(p,hp,e):=SV.mp hkd;exact#[p,hp,e]
     have hnn:p.kd.name≠"number":=λz=>by
      have:=(ok.bp.kw p.kd hkd).1;rw[z] at this;exact absurd this (by decide+kernel)
     have hal:as.length=m.fs.length:=by rw[hV hs,Ss]
     have hap:=has p hp;have hmpl:=JP p.asked m.name (m.fs.map (·.2)) as;have hmv:Ht (Itm.val p.kd.name (.ff p.kd.asked (.w m.name) as))=5+B8 as:=rfl;let((lw,_),hf3,_):=ok.bp.mo p.kd hkd m hm;show eQ (by rw[ck,decide_eq_false hnn]) ?_;show#[_,U,_,U,_,U,_,_,_,U,U,U,_,U,x,a,b,v.T,i,W,n,ps,p,m,as,txt r,_,dn,U,U,U,#[ok,hp,hm,hal],#[by cbv,hiT,?_,by cbv],?_]
     .rw[hap];exact htx
     intro j hj hdj;have e2:r.reverse.map rX++((oH p.asked m.name (m.fs.map (·.2)) as).map rX).reverse=(oH p.asked m.name (m.fs.map (·.2)) as++r).reverse.map rX:=by rw[List.reverse_append,Sz,<- Uo]
     rw[e2];show next j _ dn _ (λs' h=>h) ?_ ?_ (GS p.asked m.name (m.fs.map (·.2)) as hsep.2) ?_ (by rw[hdj,kF]) (.inr hj) ?_
     .rw[hmc,eo,hmv];cbv
     .refine IV p.asked m.name (m.fs.map (·.2)) as r dn (by rw[Ss];exact hal) ?_;rw[hap];exact hrn
     .intro j hj;rcases SN.mp hj with hj | hj
      .exact K4 p.asked m.name (m.fs.map (·.2)) as hs #[lw.strOk,by cbv,Bb ok.bp as hs] j hj
      .exact hokr j hj
     .rw[hmc,hmv] at hbd;rw[eo];cbv
def Pm:UR:=λds R=>∃ i:Int,ds=[.int i]/\R (.bl true)
theorem IY(F:Own K mg eB)(T:Txt K mg):aa0 P w K mg base eB 1 Pm:=by
 show F.d (nos:=0) sx (λds R h=>?_) λf br A outer s H E M hr=>#[_,(aj (aG (ue (bC cp gC U T.yO PyProof.Rows.boot_isinstance (aa (vd 0) (aa (dc (d:=.ty "int") (df (v:=.ty "int") U T.int (by decide+kernel) U) U) ae))) (ux (Lv (bC cp gC U T.yO PyProof.Rows.boot_isinstance (aa (vd 0) (aa (dc (d:=.ty "bool") (df (v:=.ty "bool") U T.bool (by decide+kernel) U) U) ae)))))))),λds R h=>?_]
 .let(i,rfl,_):=h
  rfl
 .let(i,rfl,q):=h;right;exact q
def sO:!Nat->Nat
 | []=>0
 | n::r=>max n (sO r)
theorem mD:∀ a b:!Nat,sO (a++b)=max (sO a) (sO b)
 | [],b=>by change _=max 0 _;rw[Nat.zero_max];rfl
 | n::r,b=>by
  change max n (sO (r++b))=max (max n (sO r)) (sO b);rw[mD r b,Nat.max_assoc]
theorem xh:∀ (l:!Nat) (b:Nat),dj (some (b:Int)) (l.map λn:Nat=>(n:Int))=some ((max b (sO l):Nat):Int)
 | [],b=>by change some (b:Int)=_;rw[show max b (sO [])=b from Nat.max_eq_left (S3 _)]
 | v::r,b=>by
  change dj (some (if (v:Int) > (b:Int) then (v:Int) else (b:Int))) _=_;have e:(if (v:Int) > (b:Int) then (v:Int) else (b:Int))=((max b v:Nat):Int):=by split<;>cbv
  rw[e,xh r];change _=some ((max b (max v (sO r)):Nat):Int);rw[Nat.max_assoc]
theorem BK(l:!Nat):(dj none (l.map λn:Nat=>(n:Int))).getD 0=((sO l:Nat):Int):=by
 cases l with
 | nil=>rfl
 | cons v r=>rw[show dj none ((v::r).map λn:Nat=>(n:Int))=dj (some (v:Int)) (r.map λn:Nat=>(n:Int)) from U,xh r];rfl
def Bm(x:Vl×Nat):Nat:=if x.1.dp=0 then 0 else x.2+x.1.dp - 1
def Mx(x:Vl×Nat):D:=.tup [vD x.1,.int x.2]
def Cc(st:!(Vl×Nat)):Nat:=(st.map λx=>x.1.th).sum
def vS(st:!(Vl×Nat)):Nat:=(st.map λx=>x.1.sz).sum
def EG(st:!(Vl×Nat)):Nat:=sO (st.map Bm)
theorem xb(f:Nat):∀ as:!Vl,vS (as.map λv=>(v,f))=fe as
 | []=>rfl
 | v::r=>by change v.sz+vS (r.map _)=v.sz+fe r;rw[xb f r]
theorem xW:∀ st:!(Vl×Nat),st.length<=vS st
 | []=>Sx _
 | x::r=>by
  have:=rh x.1;have:=xW r;change r.length+1<=x.1.sz+vS r;cbv
theorem w6(oP:Nat):∀ as:!Vl,max (oP+1) (sO ((as.map λv=>(v,oP+2)).map Bm))=oP+1+kE as
 | []=>by change max (oP+1) 0=oP+1+0;cbv
 | v::r=>by
  have:=w6 oP r;change max (oP+1) (max (Bm (v,oP+2)) (sO ((r.map λv=>(v,oP+2)).map Bm)))=oP+1+max v.dp (kE r);have e:Bm (v,oP+2)=if v.dp=0 then 0 else oP+2+v.dp - 1:=rfl;split at e<;>cbv
def Q5:UR:=λds R=>∃ v:Vl,ds=[vD v]/\(v.G/\v.sz<=400)/\∀ l:!Nat,l.length=v.th->sO l=v.dp->R (.lst (l.map λn:Nat=>.int (n:Int)))
theorem JR(F:Own K mg e8)(T:Txt K mg):aa0 P w K mg base e8 1 Q5:=by
 show F.d (nos:=2) dz (λds R h=>?_) λf br A outer s H E M hr=>#[_,(af (sN 0 1 dz.nd (aH ae))
 (af (sN 1 2 dz.nd (aH (aa (aJ (aa (vd 0) (aa ag ae))) ae)))
 (af (mM PassesOwn.never (aB ku nz (AU (fH eU U T.len Ul (cR (pv 2) gd))) ag (ax _))
 (af (jG (n:=1000) (xC Tc Td iz m7 (pv 2)) (cK (m:=2) U (az (gN 3 dz.nd) (az (iT (dD (i:=4) dz.nd U (Or.inr U)) ()) cG))))
 (aj (bD (cL (bC cp gC U T.yO PyProof.Rows.boot_isinstance (aa (vd 3) (aa (dc (d:=.ty "tuple") (df (v:=.ty "tuple") U T.tuple (by decide+kernel) U) U) ae))))
 (af (oS 1 (aa (vd 4) ae))
 (aj (dS (wj T9 Ua jb wX (pv 2) (aa (DN.de (nC ["_law_part"] [4] (bg (d5 (vd 3) ag)) (λ_ _ _ _=>(gM 0 ["_law_part","_law_far"])) (λ_ _ _ _=>cj)
 (λ_ _ _ _=>(aJ (aa (vd 0) (aa (aZ bX eI (vd 1) ag) ae)))))) ae)))))
 aK))))
 (aj (aG (sM (pv 1))))))),λds R h=>?_]
 .let(v,rfl,_):=h
  rfl
 .let(v,rfl,(gv,hsz),q):=h;have c5:=aV;have hth:=(B5 v gv).2.1;right;show#[λm s=>∃ (l:!Nat) (st:!(Vl×Nat)) (x3 x4:Sl),s=#[[.dat (vD v),.own 0,.own 1,x3,x4],[some (.lst (l.map λn:Nat=>.int (n:Int))),some (.lst (st.map Mx))]]/\m=vS st/\l.length+Cc st=v.th/\max (sO l) (EG st)=v.dp/\(∀ x∈st,x.1.G/\1<=x.2)/\vS st<=400,#[_,[],[(v,1)],.no,.no,U,U,?_,?_,?_,?_],?_]
  .show 0+(v.th+0)=v.th;cbv
  .show max 0 (max (Bm (v,1)) 0)=v.dp;have e:Bm (v,1)=if v.dp=0 then 0 else 1+v.dp - 1:=rfl;split at e<;>cbv
  .intro x hx;rw[SF.mp hx];exact#[gv,Sx _]
  .show v.sz+0<=400;cbv
  rintro m s ⟨l,st,x3,x4,rfl,rfl,h1,h2,h3,h4⟩;right;rcases List.eq_nil_or_concat st with rfl | ⟨st,u,rfl⟩
  .refine eQ () ?_;right;show q l ?_ ?_
   .have:Cc []=0:=rfl;cbv
   .have:EG []=0:=rfl;cbv
  .let(u,oP):=u;rw[List.concat_eq_append] at h1 h2 h3 h4 ⊢;have a1:Cc (st++[(u,oP)])=Cc st+u.th:=by simp[Cc]
   have a2:vS (st++[(u,oP)])=vS st+u.sz:=by simp[vS]
   have a3:EG (st++[(u,oP)])=max (EG st) (Bm (u,oP)):=by
    unfold EG;rw[Sz,mD];change max _ (max _ 0)=_;rw[Nat.max_zero]
   let(gu,hf):=h3 (u,oP) (by simp);have lQ:∀ x∈st,x.1.G/\1<=x.2:=λx hx=>h3 x (by simp[hx]);have hpu:=rh u;show gU (by rw[List.length_map,List.length_append];exact decide_eq_true (by simp)) ?_;rw[Sz];show#[1,_,U,U,U,_,U,st.map Mx,Mx (u,oP),U,U,?_];show#[_,U,U,_,_,U,_,_,U,U,?_];cases u with
   | num i =>
    show#[_,U,_,_,_,U,U,_,U,eQ U ?_];show#[vS st,by rw[a2];cbv,l,st,_,_,U,U,?_,?_,lQ,by cbv]
    .have:(Vl.num i).th=0:=rfl;cbv
    .have:Bm (.num i,oP)=0:=rfl;cbv
   | ff k n as =>
    have e0:(Vl.ff k n as).th=1+jU as:=rfl;have e5:(Vl.ff k n as).sz=1+fe as:=rfl;have hla:=qC as;obtain⟨f0,rfl⟩:∃ f0,oP=f0+1:=#[oP - 1,by cbv];have e1:Bm (.ff k n as,f0+1)=f0+1+kE as:=by
     change (if 1+kE as=0 then 0 else f0+1+(1+kE as) - 1)=_;rw[if_neg (by cbv)];cbv
    have e2:=w6 f0 as;have b1:Cc (as.map λv=>(v,f0+2))=jU as:=by rw[rJ,Cc,S6];rfl
    have b2:vS (as.map λv=>(v,f0+2))=fe as:=xb (f0+2) as;have b3:Cc (st++as.map λv=>(v,f0+2))=Cc st+jU as:=by rw[<- b1];simp[Cc]
    have b4:vS (st++as.map λv=>(v,f0+2))=vS st+fe as:=by rw[<- b2];simp[vS]
    have b5:EG (st++as.map λv=>(v,f0+2))=max (EG st) (sO ((as.map λv=>(v,f0+2)).map Bm)):=by unfold EG;rw[List.map_append,mD]
    have hll:l.length<=400:=by cbv
    have hsl:=xW st;show#[_,U,_,_,_,U,U,_,U,gU U ?_];show#[0,_,U,U,U,_,U,_,U,_,_,U,U,by rw[Ss];cbv,?_];show#[1,_,U,U,U,_,U,_,_,_,U,U,U,_,.inr U,?_];rw[c9];show bw vD (λv=>Mx (v,f0+2)) as (λu hu k hk=>?_) ?_
    .right;exact hk _ U
    .rw[SX];show#[_,U,_,_,U,U,?_,?_]
     .rw[Ss,Ss];cbv
     .refine#[vS (st++as.map λv=>(v,f0+2)),by rw[a2,b4];cbv,l++[f0+1],st++as.map (λv=>(v,f0+2)),.dat (vD (.ff k n as)),.dat (.int ((f0+1:Nat):Int)),?_,U,?_,?_,?_,by cbv]
      .rw[Sz,Sz,S6]
       rfl
      .rw[Sv,b3];simp only[List.length_cons,List.length_nil];cbv
      .rw[mD,b5];change max (max (sO l) (max (f0+1) 0)) _=_;cbv
      .intro x hx;rcases SN.mp hx with hx | hx
       .exact lQ x hx
       .let(u,hu,rfl):=SV.mp hx;exact#[jX gu.2.2 u hu,by change 1<=f0+2;cbv]
theorem E7{k:Nat}{f:AC}{fd:GT}{ps:!Str}{g:yI}{t:UR}(h:∀ ds R,¬ t ds R):bN P w K mg base aP k f fd ps (bf K g t):=(gG (g:=g)).imp λvs H Q E #[M,ds,R,_,_,q,_]=>(h ds R q).elim
def Oo(n:Nat):UR:=λds R=>∃ v:Vl,ds=[vD v]/\(v.G/\v.sz<=400/\v.dp < n)/\R (yt v)
theorem EK(F:Own K mg fC)(T:Txt K mg):∀ n:Nat,aa0 P w K mg base fC (n+1) (Oo n)
 | 0=>F.c λf fd F=>E7 λds R #[v,_,#[_,_,h],_]=>absurd h (Nat.not_lt_zero _)
 | n+1=>by
  have Mc:=EK F T n;show F.d (nos:=0) f9 (λds R h=>?_) λf br A outer s H E M hr=>#[_,(af (bD (cL (bC cp gC U T.yO PyProof.Rows.boot_isinstance (aa (vd 0) (aa (dc (d:=.ty "int") (df (v:=.ty "int") U T.int (by decide+kernel) U) U) ae))))
 (aj (aG (cW iZ qU U T.str (by decide+kernel) (aa (vd 0) ae))))
 aK)
 (af (sS 1 f9.nd (d5 (vd 0) ag))
 (af (bD (cL (bC cp gC U T.yO PyProof.Rows.boot_isinstance (aa (vd 1) (aa (dc (d:=.ty "tuple") (df (v:=.ty "tuple") U T.tuple (by decide+kernel) U) U) ae))))
 (aj (sS 1 f9.nd (aZ aQ cO (aZ aQ cO (cW iZ qU U T.str (by decide+kernel) (aa (d5 (vd 1) ag) ae)) aq) (cW iZ qU U T.str (by decide+kernel) (aa (d5 (vd 1) ag) ae)))))
 aK)
 (af (lO (p6 (lD (i:=2) f9.nd U U (ts:=["_law_part"]) (us:=[]) #[U,U,U,U,U,U] rfl (bg (d5 (vd 0) ag)) (λ_ _ _ _=>(gM 0 ["_law_part"])) (λ_ _ _ _=>cj)
 (λ_ _ _ _=>(aF hr Mc (aa (vd 0) ae))))))
 (af (bD (aB ba cF (d5 (vd 0) ag) aq (ax _))
 (aj (aG (aZ aQ cO (aZ aQ cO (aZ aQ cO (vd 1) aq) (nO aq (aa (vd 2) ae))) aq)))
 aK)
 (aj (aG (aZ aQ cO (aZ aQ cO aq (nO aq (aa (DN.de (dw bV bY (DN.de (aH (aa (vd 1) ae))) (vd 2))) ae))) aq)))))))),λds R h=>?_]
  .let(v,rfl,_):=h
   rfl
  .let(v,rfl,(gv,hsz,hdp),q):=h;have c5:=aV;cases v with
   | num i =>
    show#[_,U,_,_,_,U,U,_,U,gU U ?_];show#[_,U,.inl #[i,U,lu gv.1 gv.2,?_]];have e:yt (.num i)=.str (cH i):=congrArg D.str (pq _);rw[e] at q;exact q
   | ff k nm as =>
    let(gn,hl3,ga):=gv;have hz:1+fe as<=400:=hsz;have hd:1+kE as < n+1:=hdp;have hn:=rP gn;have ln:=gm (ig nm);show#[_,U,_,_,_,U,U,_,U,eQ U ?_];show#[_,U,_,_,_,U,U,U,?_];refine' jn ?dh λdh=>?main
    case main =>
     have hc:(∃ x,nm=.w x)\/∃ a b,nm=.p a b:=by cases nm with | w x=>exact .inl #[x,U] | p a b=>exact .inr #[a,b,U]
     rcases hc with ⟨x,hx⟩ | ⟨a,b,hx⟩
     .have e9:Ei nm=D.str (bA (ig nm)):=by rw[hx];exact congrArg D.str (pq x).symm
      rw[e9];show#[_,U,_,_,_,U,U,_,U,eQ U ?_];exact dh
     .have e9:Ei nm=.tup [.int a,.int b]:=by rw[hx];rfl
      have gp:(Vn.p a b).G:=hx▸gn;have h1:=eA gp.1.1 gp.1.2;have h2:=eA gp.2.1 gp.2.2;have e1:(cH a++".").length<=9:=by rw[Tn,show ((".":Str)).length=1 from U];cbv
      have e:(Str.ofString (toString a)++"."++Str.ofString (toString b):Str)=bA (ig nm):=by
       rw[hx];show eZ ?_;rw[c8,c8];change cd (cH a)++[46]++cd (cH b)=cd (cH a)++46::cd (cH b);simp
      rw[e9];show#[_,U,_,_,_,U,U,_,U,gU U ?_];show#[_,U,_,_,_,U,U,U,.inl #[a,U,lu gp.1.1 gp.1.2,?_]];show#[_,_,U,U,by change (cH a).length+1<=_;cbv,?_];show#[_,U,_,_,_,U,U,U,.inl #[b,U,lu gp.2.1 gp.2.2,?_]];show#[_,_,U,U,SI (Nat.add_le_add e1 h2) (by cbv),?_];rw[e];exact dh
    case dh =>
    have hl:=uF as ga;have hv:(eK as).length=as.length:=by rw[j0,Ss]
    have h44:=fj 44 (eK as);have h32:=fj 32 (ig nm::eK as);have hT:=nE as ga;have l44:=gm (bZ 44 (eK as));have l32:=gm (bZ 32 (ig nm::eK as));rw[SA,T5,SG] at h32;show#[_,U,_,_,_,U,U,U,_,.inr U,?_];rw[c9];show bw vD yt as (λu hu k' hk=>?_) ?_
    .have:=rF hu;have:=rV hu;exact#[_,U,u,U,#[jX ga u hu,by cbv,by cbv],hk _ U]
    rw[SX,xy];show#[_,U,_,_,_,U,U,U,#[U,U,U],_,U,?_];cases k with
    | false =>
     show gU (fc false) ?_;have e4:Txt.join "," ((eK as).map bA)=bA (bZ 44 (eK as)):=kZ 44 _;have e5:bA (ig nm)++"("++bA (bZ 44 (eK as))++")"=bA (Vl.ff false nm as).T:=by
      show eZ ?_;rw[c8,c8,c8];change ig nm++[40]++bZ 44 (eK as)++[41]=ig nm++40::(bZ 44 (eK as)++[41]);simp
     have o1:(bA (ig nm)++("(":Str)).length<=18:=by rw[Tn,ln,show (("(":Str)).length=1 from U];cbv
     have o2:(bA (ig nm)++"("++bA (bZ 44 (eK as))).length<=13000:=by rw[Tn,l44];cbv
     right;show#[by rw[ln];change _+1<=_;cbv,?_];right;show#[by rw[Ss,hv];change _+_ * 1<=_;cbv,?_];rw[e4];right;show#[by rw[l44];cbv,?_];right;show#[by change _+1<=_;cbv,?_];rw[e5];exact q
    | true =>
     show eQ (fc true) ?_;have e4:Txt.join " " (bA (ig nm)::(eK as).map bA)=bA (bZ 32 (ig nm::eK as)):=kZ 32 (ig nm::eK as);have e5:("[":Str)++bA (bZ 32 (ig nm::eK as))++"]"=bA (Vl.ff true nm as).T:=by
      show eZ ?_;rw[c8,c8]
      rfl
     have o2:(("[":Str)++bA (bZ 32 (ig nm::eK as))).length<=13000:=by rw[Tn,l32,show (("[":Str)).length=1 from U];cbv
     right;show#[by rw[Ss,Ss,hv];change 1+_<=_;cbv,?_];right;show#[bA (ig nm)::(eK as).map bA,U,by rw[SA,T5,SG,Ss,hv,ln];change _+_+_ * 1<=_;cbv,?_];rw[e4];right;show#[by rw[l32];change 1+_<=_;cbv,?_];right;show#[by change _+1<=_;cbv,?_];rw[e5];exact q
def OL:UR:=λds R=>∃ v:Vl,ds=[vD v]/\(v.G/\v.sz<=400/\v.dp < 62)/\R (.bl true)
theorem IX(R6:aa0 P w K mg base e8 1 Q5)(R9:aa0 P w K mg base qP 5 (HQ Fy))(Ry:aa0 P w K mg base qE 5 (HQ F1))(Ra:aa0 P w K mg base eR 5 (HQ yt))(Md:aa0 P w K mg base eB 1 Pm)(Mc:aa0 P w K mg base fC 63 (Oo 62))(F:Own K mg fK)(T:Txt K mg):aa0 P w K mg base fK 64 OL:=by
 show F.d (nos:=0) fS (λds R h=>?_) λf br A outer s H E M hr=>#[_,(af (sS 1 fS.nd (aF hr R6 (aa (vd 0) ae)))
 (af (Je (Gx (i:=2) (j:=3) U fS.nd U U () U U (DA.pa (aa (aF hr R9 (aa (vd 0) ae)) (aa (aF hr Ry (aa (vd 0) ae)) ae))) U))
 (af (sS 4 fS.nd (aF hr Ra (aa (vd 0) ae)))
 (af (bD (DW.dt (jD (hW (cL (aF hr Md (aa (vd 2) ae)))) (jD (hW (cL (aF hr Md (aa (vd 3) ae)))) (jD (aB tY Dj (vd 2) (d7 T.len (aa (vd 1) ae)) (ax _)) (mY (aB tY Dj (vd 3) (Az T.max (aa (vd 1) ae) ag) (ax _)))))))
 (aj (aG oW))
 aK)
 (aj (aG (ue (bC cp gC U T.yO PyProof.Rows.boot_isinstance (aa (vd 4) (aa (dc (d:=.ty "str") (df (v:=.ty "str") U T.str (by decide+kernel) U) U) ae))) (ux (lI ba cF (vd 4) (aF hr Mc (aa (vd 0) ae)) (ax _)))))))))),λds R h=>?_]
 .let(v,rfl,_):=h
  rfl
 .let(v,rfl,(gv,hsz,hdp),q):=h;show#[_,U,v,U,#[gv,hsz],λl e1 e2=>?_];show#[_,U,v,U,#[gv,hsz],?_];show#[_,U,v,U,#[gv,hsz],?_];show#[_,_,U,?_];show#[_,U,v,U,#[gv,hsz],?_];show#[_,U,_,U,?_];show#[_,U,eQ U ?_];show#[_,U,_,U,_,U,eQ U ?_];show#[_,U,_,U,_,.inl U,#[U,U,U],_,U,eQ ?_ ?_]
  .rw[Ss,e1];change (not (decide (V.int (v.th:Int)=V.int (v.th:Int))))=false;rw[decide_eq_true U]
   rfl
  show#[_,U,_,U,l.map (λn:Nat=>(n:Int)),0,by rw[S6];rfl,U,?_];rw[BK,e2];show#[#[U,U,U],_,U,eQ ?_ ?_]
  .show (not (decide (V.int (v.dp:Int)=V.int (v.dp:Int))))=false;rw[decide_eq_true U]
   rfl
  show#[_,U,_,_,_,U,U,_,U,gU U ?_];show#[_,U,_,U,v,U,#[gv,hsz,hdp],#[U,U,U],?_];have e:decide (fv (yt v)=fv (yt v))=true:=decide_eq_true U;rw[e];exact q
theorem EI{r:Int}(h0:0<=r)(h1:r < 2):∃ m:Int,iw [D.int 10,D.int 1000000] r=some (.int m)/\(m=10\/m=1000000):=by
 have:r=0\/r=1:=by cbv
 rcases this with rfl | rfl
 .exact#[10,bE,.inl U]
 .exact#[1000000,jd,.inr U]
theorem LO{r:Int}(h0:0<=r)(h1:r < 5):∃ m:Int,iw [D.int 1,D.int 1,D.int 2,D.int 3,D.int 0] r=some (.int m)/\0<=m/\m<=3:=by
 have:r=0\/r=1\/r=2\/r=3\/r=4:=by cbv
 rcases this with rfl | rfl | rfl | rfl | rfl
 .exact#[1,bE,by decide]
 .exact#[1,jd,by decide]
 .exact#[2,qz,by decide]
 .exact#[3,eY (j:=3) U,by decide]
 .exact#[0,eY (j:=4) U,by decide]
theorem LB{x:Str}(h:Nm x):(Vn.w x).G:=#[h.2.2.1,h.1.strOk]
def P6(d:AC):Nat->UR
 | 0=>λ_ _=>False
 | n+1=>λds R=>∃ (ws:!Str) (room:Int),ds=[.cb d,.lst (ws.map .str),.int room]/\(0 < ws.length/\ws.length<=60/\(∀ x∈ws,Nm x)/\0<=room/\room<=n)/\∀ v:Vl,v.G->(v.th:Int)<=room->R (vD v)
theorem ES{d l:AC}(cQ:C4 P w K mg base aP aR 1 (bf K (aN d l) (eP d)))(F:Own K mg i8)(T:Txt K mg):∀ n:Nat,C4 P w K mg base aP i8 (n+2) (bf K (aN d l) (P6 d n))
 | 0=>F.c λ_ _ _=>gG
 | n+1=>by
  have MK:=ES cQ F T n;show F.d (nos:=1) dI (λds R h=>?_) λf br A outer s H E M hr=>#[_,(af (bD (DW.dt (jD (aB BR nz (vd 2) ag (ax _)) (mY (aB ba cF (ak hr cQ (aa (vd 0) (aa ag ae))) ag (ax _)))))
 (aj (aG (ak hr cQ (aa (vd 0) (aa (je (DN.de (aH (aa ag (aa ag ae)))) (ak hr cQ (aa (vd 0) (aa ag ae)))) ae)))))
 aK)
 (af (sS 3 dI.nd (je (vd 1) (ak hr cQ (aa (vd 0) (aa (d7 T.len (aa (vd 1) ae)) ae)))))
 (af (sS 4 dI.nd (je (DN.de (aH (aa aq (aa aq ae)))) (ak hr cQ (aa (vd 0) (aa ag ae)))))
 (af (bD (DW.dt (jR (aB ba cF (vd 4) aq (ax _)) (g7 (aB ba cF (ak hr cQ (aa (vd 0) (aa ag ae))) ag (ax _)))))
 (aj (sS 3 dI.nd (aJ (aa (ak hr cQ (aa (vd 0) (aa ag ae))) (aa (ak hr cQ (aa (vd 0) (aa ag ae))) ae)))))
 aK)
 (af (sS 5 dI.nd (je (DN.de (aH (aa ag (aa ag (aa ag (aa ag (aa ag ae))))))) (ak hr cQ (aa (vd 0) (aa ag ae)))))
 (af (sN 0 6 dI.nd (aH ae))
 (af (sF (cV U T.range (aa (vd 5) ae)) (gN 7 dI.nd)
 (aj (oS 6 (aa (ak hr MK (aa (vd 0) (aa (vd 1) (aa (aZ cn uD (aZ gw eI (vd 2) ag) (vd 5)) ae)))) ae))))
 (aj (aG (aJ (aa (vd 4) (aa (vd 3) (aa (iq T.tuple (aa (sM (pv 6)) ae)) ae))))))))))))),λds R h=>?_]
  .let(ws,room,rfl,_):=h
   rfl
  .let(ws,room,rfl,(h0,h1,h2,h3,h4),q):=h;have c5:=aV;refine' jn ?hnum λhnum=>?main
   case main =>
    right;show aL U (λ_=>?_) λhr1=>?_
    .exact gU U hnum
    have hroom:1<=room:=by have:=of_decide_eq_false hr1;cbv
    show#[_,U,_,U,#[by decide,by decide],λr r0 r1=>?_];show#[#[U,U,U],_,U,?_];show aL U (λ_=>hnum) λ_=>?_;show#[_,U,_,U,_,U,_,.inl U,_,U,#[by rw[Ss];omega,by rw[Ss];omega],λr r0 r1=>?_];rw[Ss] at r1;let(z,hz,ez):=qI (zs:=ws) r0 r1;show#[_,_,_,U,U,ez,?_];show#[_,U,_,U,#[by decide,by decide],λr r0 r1=>?_];let(b,eb):=mE r0 r1;show#[_,_,_,U,U,eb,?_];refine' jn (C:=∀ nm:Vn,nm.G->(?G:Vn->Prop) nm) ?dh λdh=>?main2
    case main2 =>
     have hg:(Vn.w z).G:=LB (h2 z hz);show#[_,U,#[U,U,U],_,U,?_];refine' aL (cB b) ?c1 ?c2
     case c2 =>
      intro _;show eQ U ?_;rw[show D.str z=Ei (.w z) from U]
      revert hg
      generalize Vn.w z=nm;intro hg;exact dh nm hg
     case c1 =>
      intro _;show#[_,U,_,U,#[by decide,by decide],λr r0 r1=>?_];show#[#[U,U,U],_,U,?_];show aL U (λ_=>?_) λ_=>?_
      .refine#[_,U,_,U,#[by decide,by decide],λx x0 x1=>?_];show#[_,U,_,U,#[by decide,by decide],λy y0 y1=>?_];exact dh (.p x y) #[#[x0,by cbv],y0,by cbv]
      .exact dh (.w z) hg
    case dh =>
     intro nm hg;show#[_,U,_,U,#[by decide,by decide],λr r0 r1=>?_];let(many,em,m0,m3):=LO r0 r1;show#[_,_,_,U,U,em,?_];right;show#[#[by cbv,by cbv],?_];have hlr:(c7 0 many.toNat).length=many.toNat:=by simp[c7]
     show cq (λxs s=>∃ (as:!Vl) (x7:Sl),x7.pl=true/\as.length+xs.length=many.toNat/\zc as/\((jU as:Nat):Int)<=((as.length:Nat):Int) * ((room - 1) / many)/\s=#[[.dat (.cb d),.dat (.lst (ws.map .str)),.dat (.int room),.dat (Ei nm),.dat (.str (a9 b)),.dat (.int many),.own 0,x7],[some (.lst (BH as))]]) ?_ ?_ _ _ #[[],.no,U,by rw[hlr];exact Nat.zero_add _,trivial,by change (0:Int)<=0 * _;cbv,U]
     .rintro s ⟨as,x7,hx7,hl,ga,ht,rfl⟩;have hl:as.length=many.toNat:=by simpa using hl
      right;show q (.ff b nm as) #[hg,by cbv,ga] ?_;change ((1+jU as:Nat):Int)<=room;by_cases hz:many=0
      .subst hz;have:as=[]:=List.eq_nil_of_length_eq_zero (by simpa using hl);subst this;change ((1+0:Nat):Int)<=room;cbv
      .have hd2:(room - 1) / many * many<=room - 1:=Int.ediv_mul_le _ hz;rw[hl,Uv m0,Int.mul_comm] at ht;cbv
     .rintro x xs s E2 ⟨as,x7,hx7,hl,ga,ht,rfl⟩ hN hE;rw[SG] at hl;have hpos:0 < many:=by cbv
      have hd0:0<=(room - 1) / many:=Uy (by cbv) (by cbv);have hd1:(room - 1) / many<=room - 1:=UN _ (by cbv);obtain⟨m,rfl⟩:∃ m,n=m+1:=#[n - 1,by cbv];show#[0,_,U,U,U,_,U,_,U,_,U,_,_,U,U,_,U,_,_,U,U,#[by cbv,by cbv],?_];show#[ws,_,U,#[h0,h1,h2,hd0,by cbv],λv hv hvt=>?_];show#[_,U,_,_,U,U,by rw[c9,Ss];cbv,?_];show hN _ #[as++[v],.dat x,U,by rw[List.length_append];simp;cbv,AX λu hu=>?_,?_,?_]
      .rcases SN.mp hu with hu | hu
       .exact jX ga u hu
       .rw[SF.mp hu];exact hv
      .rw[xa,Sv];change ((jU as+(v.th+0):Nat):Int)<=((as.length+1:Nat):Int) * _;rw[Ue as.length 1,Int.add_mul];change _<=_+1 * _;cbv
      .rw[c9,c9,Sz]
       rfl
   case hnum =>
    show#[_,U,_,U,_,U,#[by decide,by decide],λr r0 r1=>?_];let(m,em,hm):=EI r0 r1;show#[_,_,_,U,U,em,_,U,#[by cbv,by cbv],λi i0 i1=>?_];exact q (.num i) #[i0,by cbv] (by change ((0:Nat):Int)<=room;cbv)
def QE(d:AC):UR:=λds R=>∃ (ws:!Str) (many:Int),ds=[.cb d,.lst (ws.map .str),.int many]/\(0 < ws.length/\ws.length<=60/\(∀ x∈ws,Nm x)/\0<=many/\many<=60)/\∀ v:Vl,v.G->v.th<=60->R (vD v)
theorem LR{r:Int}{u:Vl}{k:Int}(h0:0<=r)(h1:r < 4)(gu:u.G)(hk:0<=k/\k < 1000000):∃ as:!Vl,iw [D.tup [vD u],D.tup [vD u,.int k],D.tup [.int k,vD u],D.tup [.int k,vD u,.int k]] r=some (.tup (BH as))/\zc as/\as.length<=3/\jU as=u.th:=by
 have gk:(Vl.num k).G:=hk;have:r=0\/r=1\/r=2\/r=3:=by cbv
 rcases this with rfl | rfl | rfl | rfl
 .exact#[[u],bE,#[gu,trivial],by simp,by change u.th+0=u.th;cbv]
 .exact#[[u,.num k],jd,#[gu,gk,trivial],by simp,by change u.th+(0+0)=u.th;cbv]
 .exact#[[.num k,u],qz,#[gk,gu,trivial],by simp,by change 0+(u.th+0)=u.th;cbv]
 .exact#[[.num k,u,.num k],eY (j:=3) U,#[gk,gu,gk,trivial],by simp,by change 0+(u.th+(0+0))=u.th;cbv]
theorem Ks{d l:AC}(cQ:C4 P w K mg base aP aR 1 (bf K (aN d l) (eP d)))(F:Own K mg fW)(T:Txt K mg):C4 P w K mg base aP fW 2 (bf K (aN d l) (QE d)):=by
 show F.d (nos:=0) dU (λds R h=>?_) λf br A outer s H E M hr=>#[_,(af (sS 3 dU.nd (ak hr cQ (aa (vd 0) (aa ag ae))))
 (af (sF (cV U T.range (aa (vd 2) ae)) (gN 4 dU.nd)
 (af (sS 5 dU.nd (je (DN.de (aH (aa (aJ (aa (vd 3) ae)) (aa (aJ (aa (vd 3) (aa (vd 4) ae))) (aa (aJ (aa (vd 4) (aa (vd 3) ae))) (aa (aJ (aa (vd 4) (aa (vd 3) (aa (vd 4) ae)))) ae)))))) (ak hr cQ (aa (vd 0) (aa ag ae)))))
 (aj (sS 3 dU.nd (aJ (aa (je (DN.de (aH (aa aq (aa aq ae)))) (ak hr cQ (aa (vd 0) (aa ag ae)))) (aa (je (vd 1) (aZ fF uD (vd 4) (d7 T.len (aa (vd 1) ae)))) (aa (vd 5) ae))))))))
 (aj (aG (vd 3))))),λds R h=>?_]
 .let(ws,many,rfl,_):=h
  rfl
 .let(ws,many,rfl,(h0,h1,h2,h3,h4),q):=h;have c5:=aV;show#[_,U,_,U,#[by decide,by decide],λi i0 i1=>?_];show#[_,U,_,U,#[by cbv,by cbv],?_];have hr0:c7 0 many.toNat=(List.range many.toNat).map λj:Nat=>D.int (j:Int):=by
   unfold c7;show Uu λj _=>?_;rw[Int.zero_add]
  rw[hr0];show vZ (λj:Nat=>D.int (j:Int)) (λdn s=>∃ (u:Vl) (x4 x5:Sl),u.G/\u.th=dn.length/\s=#[[.dat (.cb d),.dat (.lst (ws.map .str)),.dat (.int many),.dat (vD u),x4,x5],[]]) ?_ ?_ _ #[.num i,.no,.no,#[i0,i1],U,U]
  .rintro s ⟨u,x4,x5,gu,hu,rfl⟩;right;show q u gu ?_;rw[hu,T6];cbv
  .rintro dn j td s E2 e ⟨u,x4,x5,gu,hu,rfl⟩ hN hE;have hj:j < many.toNat:=List.mem_range.mp (by rw[e];simp);have hw0:(0:Int) < ((ws.map D.str).length:Int):=by rw[Ss];cbv
   right;show#[#[by decide,by decide],λr r0 r1=>?_];let(as,ea,ga,hal,hat):=LR (k:=(j:Int)) r0 r1 gu #[by cbv,by cbv];show#[_,_,_,U,U,ea,?_];right;show#[#[by decide,by decide],λr r0 r1=>?_];let(b,eb):=mE r0 r1;show#[_,_,_,U,U,eb,?_];have hm0:=TR (j:Int) (show ((ws.map D.str).length:Int)≠0 by cbv);have hm1:=TN (j:Int) hw0;let(z,hz,ez):=qI (zs:=ws) hm0 (by rw[Ss] at hm1 ⊢;exact hm1);right;show#[hw0,_,_,_,U,U,ez,?_];right;exact hN _ #[.ff b (.w z) as,.dat (.int (j:Int)),.dat (.tup (BH as)),#[LB (h2 z hz),hal,ga],by rw[Sv,<- hu,<- hat];exact Nat.add_comm 1 _,U]
def PZ(d:AC):Nat->UR
 | 0=>λ_ _=>False
 | n+1=>λds R=>∃ (W:bW) (k:Str) (room:Int),ds=[.cb d,jM W,.str k,.int room]/\(gr W/\oX W k/\(k="number"\/0<=room/\room+1<=n))/\∀ v:Vl,VK W k v->((v.sz:Int)<=max (9 * room+4) 1/\(v.dp:Int)<=max (room+1) 0)->R (vD v)
theorem tW{W:bW}:∀ {ks:!Str} {as:!Vl} {k:Str} {v:Vl},Dx W ks as->VK W k v->Dx W (ks++[k]) (as++[v])
 | ks,[],k,v,h,hv=>by
  have h:ks=[]:=h;subst h;exact#[k,[],U,hv,U]
 | ks,u::r,k,v,h,hv=>by
  let(k0,ks',rfl,h1,h2):=h;exact#[k0,ks'++[k],U,h1,tW h2 hv]
theorem xg:∀ a b:!Vl,kE (a++b)=max (kE a) (kE b)
 | [],b=>by change _=max 0 _;rw[Nat.zero_max];rfl
 | u::r,b=>by
  change max u.dp (kE (r++b))=max (max u.dp (kE r)) (kE b);rw[xg r b,Nat.max_assoc]
theorem Ed{d l:AC}(cQ:C4 P w K mg base aP aR 1 (bf K (aN d l) (eP d)))(F:Own K mg gb)(T:Txt K mg):∀ n:Nat,C4 P w K mg base aP gb (n+2) (bf K (aN d l) (PZ d n))
 | 0=>F.c λ_ _ _=>gG
 | n+1=>by
  have Nb:=Ed cQ F T n;show F.d (nos:=1) bG (λds R h=>?_) λf br A outer s H E M hr=>#[_,(af (bD (aB ba cF (vd 2) aq (ax _))
 (aj (aG (ak hr cQ (aa (vd 0) (aa (je (DN.de (aH (aa ag (aa ag ae)))) (ak hr cQ (aa (vd 0) (aa ag ae)))) ae)))))
 aK)
 (af (jG (n:=1000) (je (DN.de (nC ["_law_one"] [2] (bg (fJ (bq (dN hr) (DE.pe (vd 1)) (DE.pe aq) (λ_ _=>rfl)))) (λ_ _ _ _=>(gM 0 ["_law_one","_law_kind"])) (λ_ _ _ _=>fD (aB ba cF (d5 (vd 0) ag) (vd 1) (ax _)))
 (λ_ _ _ _=>(vd 0)))) ag) (cK (m:=4) U (az (gN 4 bG.nd) (az (gN 5 bG.nd) (az (gN 6 bG.nd) (az (gN 7 bG.nd) cG))))))
 (af (jG (n:=1000) (d5 (vd 6) (aZ iN uD (ak hr cQ (aa (vd 0) (aa (d7 T.len (aa (vd 6) ae)) ae))) (cW gK mW U T.int (by decide+kernel) (aa (lI ku nz (vd 3) ag (ax _)) ae)))) (cK (m:=2) U (az (gN 8 bG.nd) (az (gN 9 bG.nd) cG))))
 (af (sN 0 10 bG.nd (aH ae))
 (af (sF (bg (vd 9)) (gN 11 bG.nd)
 (aj (oS 10 (aa (ak hr Nb (aa (vd 0) (aa (vd 1) (aa (d5 (vd 11) ag) (aa (aZ cn uD (aZ gw eI (vd 3) ag) (d7 T.len (aa (vd 9) ae))) ae))))) ae))))
 (aj (aG (aJ (aa (vd 4) (aa (vd 8) (aa (iq T.tuple (aa (sM (pv 10)) ae)) ae))))))))))),λds R h=>?_]
  .let(W,k,room,rfl,_):=h
   rfl
  .let(W,k,room,rfl,(bp,hk,hroom),q):=h;have c5:=aV;show#[_,U,#[U,U,U],_,U,?_];show aL (b':=decide (k="number")) ck (λe=>?_) λe=>?_
   .have e:k="number":=by simpa using e
    show#[_,U,_,U,_,U,#[by decide,by decide],λr r0 r1=>?_];let(m,em,hm):=EI r0 r1;show#[_,_,_,U,U,em,_,U,#[by cbv,by cbv],λi i0 i1=>?_];exact q (.num i) #[e,i0,by cbv] #[by change ((1:Nat):Int)<=_;cbv,by change ((0:Nat):Int)<=_;cbv]
   .have e:k≠"number":=by simpa using e
    let(h0,h1):=hroom.resolve_left e;obtain⟨m,rfl⟩:∃ m,n=m+1:=#[n - 1,by cbv];let(kd,hkd,hmk,hnm,nn,Ca):=kinds_of bp hk e;have B9:=(bp.kw kd hkd).2.1;have hmpos:0 < kd.bJ.length:=Ub.mpr hmk;show#[_,U,?_];show dH #[_,U,_,.inl U,?_];show bh jo jo (λx=>decide (x.name=k)) _ (λx hx kk N h1 h2=>?_) ?_
    .refine#[_,U,_,_,_,U,U,U,_,U,#[U,U,U],_,U,?_];exact aL (b':=decide (x.name=k)) ck (λe=>#[_,U,h1 e _ U]) λe=>h2 e _ U
    rw[Ca,SX];show#[_,_,_,U,U,bE,_,U,U,_,_,U,_,_,U,_,_,U,_,_,U,U,?_];show#[_,U,_,U,_,U,_,.inr U,_,U,#[by rw[Ss];omega,by rw[Ss];omega],λr r0 r1=>?_];rw[Ss] at r1;show#[_,U,_,_,U,U,.inr #[decide ((1:Int) < room),U,?_]];have hix:∃ mk∈kd.bJ,iw (kd.bJ.map cS) (r * (if decide ((1:Int) < room)=true then 1 else 0))=some (cS mk)/\(room<=1->∀ p∈mk.fs,p.2="number"):=by
     by_cases hb:1 < room
     .rw[decide_eq_true hb,if_pos U,Int.mul_one];let(mk,hmk,em):=iG (f:=cS) (xs:=kd.bJ) r0 r1;exact#[mk,hmk,em,λh=>absurd hb (by cbv)]
     .rw[decide_eq_false hb,if_neg (),Int.mul_zero];let(m0,mr,hms):=Tu hmk;show#[m0,by rw[hms];exact SD,by rw[hms];exact bE,λ_=>bp.ft kd hkd m0 mr hms]
    let(mk,hmkm,em,hft):=hix;let(hmn,hf3,_,hfk):=bp.mo kd hkd mk hmkm;show#[_,_,U,U,?_,_,_,_,U,U,em,_,U,U,_,_,U,_,_,U,U,?_]
    .exact .inr (by split<;>decide)
    right;have hdiv:∀ L:Nat,0 < L->L<=3->(2<=room->0<=(room - 1) / (L:Int))/\(room - 1) / (L:Int)<=max (room - 1) (-1):=λL h1 h3=>by
     have:L=1\/L=2\/L=3:=by cbv
     rcases this with rfl | rfl | rfl<;>cbv
    show vZ pairD (λdn s=>∃ (as:!Vl) (gy:Sl),gy.pl=true/\Dx W (dn.map (·.2)) as/\((fe as:Nat):Int)<=(dn.length:Int) * max (9 * ((room - 1) / (mk.fs.length:Int))+4) 1/\((kE as:Nat):Int)<=max ((room - 1) / (mk.fs.length:Int)+1) 0/\s=#[[.dat (.cb d),.dat (jM W),.dat (.str k),.dat (.int room),.dat (.str (a9 kd.asked)),.dat (.str kd.name),.dat (.tup (kd.bJ.map cS)),.dat (.tup (kd.cT.map d6)),.dat (.str mk.name),.dat (dQ mk.fs),.own 0,gy],[some (.lst (BH as))]]) ?_ ?_ _ #[[],.no,U,U,by change ((0:Nat):Int)<=0 * _;cbv,by change ((0:Nat):Int)<=_;cbv,U]
    .rintro s ⟨as,gy,_,hs,hz,hdp,rfl⟩;right;show q (.ff kd.asked (.w mk.name) as) #[kd,hkd,mk,hmkm,hnm,U,U,hs] ?_;have e1:((Vl.ff kd.asked (.w mk.name) as).sz:Int)=1+((fe as:Nat):Int):=Ue 1 _;have e2:((Vl.ff kd.asked (.w mk.name) as).dp:Int)=1+((kE as:Nat):Int):=Ue 1 _;rw[e1,e2];have hL:mk.fs.length=0\/mk.fs.length=1\/mk.fs.length=2\/mk.fs.length=3:=by cbv
     rcases hL with hL | hL | hL | hL
     .have:as=[]:=TV (by rw[hV hs,Ss,hL]);subst this;change 1+((0:Nat):Int)<=_/\1+((0:Nat):Int)<=_;cbv
     all_goals (rw[hL] at hz hdp;cbv)
    .rintro dn f0 td s E2 e ⟨as,gy,hx,hs,hz,hdp,rfl⟩ hN hE;have hf0:f0∈mk.fs:=by rw[e];simp
     have hLl:dn.length+(td.length+1)=mk.fs.length:=by rw[e];simp
     have hal:as.length=dn.length:=by rw[hV hs,Ss]
     let(d1,d2):=hdiv mk.fs.length (by cbv) hf3;right;rw[Ss];show#[#[by cbv,by cbv],?_];show#[W,f0.2,_,U,#[bp,hfk f0 hf0,?_],λv hv hvs=>?_]
     .by_cases hb:room<=1
      .exact .inl (hft hb f0 hf0)
      .exact .inr #[d1 (by cbv),by cbv]
     right;show#[by rw[c9,Ss];cbv,?_];show hN _ #[as++[v],.dat (pairD f0),U,by rw[Sz];exact tW hs hv,?_,?_,?_]
     .rw[wz,Sv];change ((fe as+(v.sz+0):Nat):Int)<=((dn.length+1:Nat):Int) * _;rw[Ue dn.length 1,Int.add_mul];change _<=_+1 * _;cbv
     .rw[xg];change ((max (kE as) (max v.dp 0):Nat):Int)<=_;cbv
     .rw[c9,c9,Sz]
      rfl
def PX(n:Nat):UR:=λds R=>∃ (W:bW) (k:Str) (v:Vl),ds=[vD v,vD v]/\(gr W/\VK W k v/\v.dp < n)/\R (.bl true)
theorem ub{α:Type}(f:α->D):∀ l:!α,lz (l.map f) (l.map f)=l.map λx=>D.tup [f x,f x]
 | []=>rfl
 | x::r=>by rw[SA,SA];exact congrArg _ (ub f r)
theorem EN:∀ n:Nat,(List.replicate n true).all id=true
 | 0=>rfl
 | n+1=>by rw[List.replicate_succ,UH,EN n];rfl
theorem D9(Md:aa0 P w K mg base eB 1 Pm)(F:Own K mg gY)(T:Txt K mg):∀ n:Nat,aa0 P w K mg base gY (n+2) (PX n)
 | 0=>F.c λf fd F=>E7 λds R #[_,_,v,_,#[_,_,h],_]=>absurd h (Nat.not_lt_zero _)
 | n+1=>by
  have NF:=D9 Md F T n;show F.d (nos:=0) uS (λds R h=>?_) λf br A outer s H E M hr=>#[_,(af (bD (cL (bC cp gC U T.yO PyProof.Rows.boot_isinstance (aa (vd 1) (aa (dc (d:=.ty "tuple") (df (v:=.ty "tuple") U T.tuple (by decide+kernel) U) U) ae))))
 (af (bD (DW.dt (jD (hW (cL (bC cp gC U T.yO PyProof.Rows.boot_isinstance (aa (vd 0) (aa (dc (d:=.ty "tuple") (df (v:=.ty "tuple") U T.tuple (by decide+kernel) U) U) ae))))) (jD (aB tY Dj (d7 T.len (aa (vd 0) ae)) ag (ax _)) (mY (hW (cL (bC cp gC U T.yO PyProof.Rows.boot_isinstance (aa (d5 (vd 0) ag) (aa (dc (d:=.ty "tuple") (df (v:=.ty "tuple") U T.tuple (by decide+kernel) U) U) ae)))))))))
 (aj (aG oW))
 aK)
 (af (bD (DW.dt (jD (hW (cL (bC cp gC U T.yO PyProof.Rows.boot_isinstance (aa (d5 (vd 0) ag) (aa (dc (d:=.ty "str") (df (v:=.ty "str") U T.str (by decide+kernel) U) U) ae))))) (jD (hW (cL (bC cp gC U T.yO PyProof.Rows.boot_isinstance (aa (d5 (vd 0) ag) (aa (dc (d:=.ty "str") (df (v:=.ty "str") U T.str (by decide+kernel) U) U) ae))))) (mY (aB (u3 (oK hr)) qh (mT (vd 0) dk (bc ag)) (mT (vd 1) dk (bc ag)) (ax _))))))
 (aj (aG oW))
 aK)
 (aj (aG (ue (lI ba cF (d7 T.len (aa (d5 (vd 0) ag) ae)) (d7 T.len (aa (d5 (vd 1) ag) ae)) (ax _)) (ux (bC (iJ U) I0 U T.all PyProof.Rows.boot_all (aa (DN.de (nC ["_law_one","_law_other"] [] (Ep U T.zip (aa (d5 (vd 0) ag) (aa (d5 (vd 1) ag) ae))) (λ_ _ _ _=>(cK (m:=2) U (az (gM 0 ["_law_one","_law_other"]) (az (gM 1 ["_law_one","_law_other"]) cG)))) (λ_ _ _ _=>cj)
 (λ_ _ _ _=>(aF hr NF (aa (vd 0) (aa (vd 1) ae)))))) ae))))))))
 aK)
 (aj (aG (ue (aF hr Md (aa (vd 0) ae)) (ux (lI (rb (oK hr)) qh (vd 0) (vd 1) (ax _))))))),λds R h=>?_]
  .let(W,k,v,rfl,_):=h
   rfl
  .let(W,k,v,rfl,(bp,hv,hd),q):=h;have c5:=aV;cases v with
   | num i =>
    show#[_,U,_,_,_,U,U,_,U,eQ U ?_];show#[_,U,i,U,_,U,gU U ?_];show#[_,U,_,U,#[U,U,.inl (by change j8 (.int i)<=150;rw[Ds];exact S3 _)],?_];rw[show D6 (vD (.num i)) (vD (.num i))=true from eqv_refl (vD (.num i))];exact q
   | ff b nm as =>
    let(kd,hkd,m,hm,rfl,rfl,rfl,hs):=hv;have hd:1+kE as < n+1:=hd;have hal:as.length<=3:=by rw[hV hs,Ss];exact (bp.mo kd hkd m hm).2.1
    have hmok:GE.strOk m.name=true:=(bp.mo kd hkd m hm).1.1.strOk;have e2:cutD [D.str (a9 kd.asked),Ei (.w m.name),.tup (BH as)] none (some 2)=[D.str (a9 kd.asked),.str m.name]:=rfl;have p2:lH (.tup [D.str (a9 kd.asked),.str m.name])=true:=by
     change (GE.strOk (a9 kd.asked)&&(GE.strOk m.name&&true))=true;rw[hmok];cases kd.asked<;>decide+kernel
    show#[_,U,_,_,_,U,U,_,U,gU U ?_];show#[_,U,_,_,_,U,U,_,U,eQ U ?_];show#[_,U,_,.inr U,#[U,U,U],_,U,eQ U ?_];show#[_,U,_,_,_,U,U,U,_,_,_,U,U,_,U,eQ U ?_];show#[_,U,_,_,_,U,U,U,_,_,_,U,U,_,U,eQ U ?_];show#[_,U,_,_,_,U,U,U,_,_,_,U,U,_,U,eQ U ?_];show#[_,U,2,U,_,U,_,U,2,U,_,U,?_];rw[e2];show#[#[p2,p2,.inl (by rw[Dk,pN,pN,xQ,xQ,Br];decide)],_,U,eQ ?_ ?_]
    .show (not (D6 _ _))=false;rw[show D6 (.tup [D.str (a9 kd.asked),.str m.name]) (.tup [D.str (a9 kd.asked),.str m.name])=true from eqv_refl _]
     rfl
    show#[_,U,_,_,_,U,U,U,_,.inr U,?_];show#[_,U,_,_,_,U,U,U,_,.inr U,?_];show#[#[U,U,U],_,U,gU (decide_eq_true U) ?_];show#[_,U,_,_,_,U,U,U,_,U,_,_,_,U,U,U,?_];show#[_,_,_,_,U,#[U,U],?_];have ez:lz (BH as) (BH as)=as.map λu=>D.tup [vD u,vD u]:=by rw[c9];exact ub vD as
    rw[ez];show bw (λu=>D.tup [vD u,vD u]) (λ_=>.bl true) as (λu hu k' hk=>?_) ?_
    .have hdu:=rV hu;let(j,hj):=Ur hu;obtain⟨k0,hk0⟩:∃ k0,(m.fs.map (·.2))[j]?=some k0:=#[_,SJ (show j < (m.fs.map (·.2)).length by rw[<- hV hs];exact (Sw.mp hj).1)];have hz:(k0,u)∈(m.fs.map (·.2)).zip as:=Ta (i:=j) (by rw[List.getElem?_zip_eq_some];exact#[hk0,hj]);have hvu:=qJ hs (k0,u) hz;show#[_,U,U,_,_,U,_,_,U,U,?_];exact#[_,U,_,U,W,k0,u,U,#[bp,hvu,by cbv],hk _ U]
    .rw[SX];show#[List.replicate as.length true,?_,?_]
     .rw[List.map_const',List.map_replicate]
     .rw[EN];exact q
def Qq:UR:=λds R=>∃ (W:bW) (n:Nat) (ps:!PK) (k:Str) (v:Vl),ds=[.tup (ps.map oR),.str k,vD v]/\(Cj W n ps/\(∀ p∈ps,p.asked=p.kd.asked)/\VK W k v/\v.sz<=400/\v.dp < 62)/\R (.bl true)
theorem KR(Pk:aa0 P w K mg base fK 64 OL)(NF:aa0 P w K mg base gY 64 (PX 62))(RP:aa0 P w K mg base eW 4 PM)(Mc:aa0 P w K mg base fC 63 (Oo 62))(F:Own K mg g8)(T:Txt K mg):aa0 P w K mg base g8 65 Qq:=by
 show F.d (nos:=0) tD (λds R h=>?_) λf br A outer s H E M hr=>#[_,(aj (aG (ue (aF hr Pk (aa (vd 2) ae)) (ux (aF hr NF (aa (aF hr RP (aa (vd 0) (aa (vd 1) (aa (aF hr Mc (aa (vd 2) ae)) ae)))) (aa (vd 2) ae))))))),λds R h=>?_]
 .let(W,n,ps,k,v,rfl,_):=h
  rfl
 .let(W,n,ps,k,v,rfl,(ok,has,hv,hsz,hdp),q):=h;have gv:=HF ok.bp v hv;show#[_,U,v,U,#[gv,hsz,hdp],_,U,gU U ?_];show#[_,U,_,U,_,U,v,U,#[gv,hsz,hdp],W,n,ps,k,v,U,#[ok,has,hv,hsz],?_];exact#[_,U,W,k,v,U,#[ok.bp,hv,hdp],q]
theorem rW:au ["_law_deal_here","_law_many","_law_number","_law_one","_law_other"] ["_law_deal_here","_law_many"] (ai oA):=eG
theorem Fs(F:Own K mg aR)(T:Txt K mg):C4 P w K mg base aP aR 1 cC.vh:=by
 show F.c λf fd F=>?_;show cC.DX F rW λbr A outer s H E hu=>?_;exact bF (uy PassesOwn.never (PW.pt (pw_and (ib ba (bq hu (pv 0) cf (λ_ _=>rfl)) bz (ax _)) (pw_and1 (ib ku (fH eU U T.len Ul (cR (bq hu (pv 0) cf (λ_ _=>rfl)) gd)) bz (ax _)))))
   (eV (mC hu (pv 0) cf (wg TX Tc Td iz (bq hu (pv 0) cf (λ_ _=>rfl))) U)))
  (bF (fE (i:=2) rW.nd U (Or.inl U) (bq hu (pv 0) cf (λ_ _=>rfl)))
  (bF (zA (ib ku (pv 2) bz (ax _)) (bF (mC hu (pv 0) cf (cP cn (pv 2) (pv 1)) U) (eV (iL (cP fF (pv 2) (pv 1))))) mO)
  (bF (fE (i:=3) rW.nd U (Or.inl U) (cP fF (cP bX (cP iN (bq hu (pv 0) cf (λ_ _=>rfl)) bz) bz) bz))
  (bF (mC hu (pv 0) cf (cP fF (cP bX (cP iN (pv 3) bz) bz) bz) U)
  (bF (fE (i:=4) rW.nd U (Or.inl U) (cP fF (cP iN (bq hu (pv 0) cf (λ_ _=>rfl)) (bq hu (pv 0) cf (λ_ _=>rfl))) bz))
  (eV (iL (cP fF (cP bX (cP iN (cP fF (cP iN (pv 3) (pv 3)) bz) bz) (pv 4)) (pv 1)))))))))
theorem oN:au ["_law_script","_law_base","_law_some","_law_number","_law_one"] ["_law_script","_law_base"] (ai nB):=eG
theorem Qc:(["_law_one"]:!Str).Nodup:=by decide+kernel
theorem GK(F:Own K mg gR)(T:Txt K mg):C4 P w K mg base aP gR 1 (cC.wa K):=by
 show F.c λf fd F=>?_;show cC.Ct F oN λbr A outer s H E=>?_;exact bF (wB (ts:=["_law_one"]) (us:=[]) (i:=2) oN.nd U U #[U,U,U,U,U,U] rfl (qL (j4 xu (pv 0) (sH (pv 1)) (sH bz))) (λ_ _ _ _=>dD (i:=0) Qc U (Or.inl U)) (λ_ _ _ _=>qS)
   (λ_ _ _ _=>fH (la U) U T.max PyProof.Rows.boot_max (cR (pv 0) (cR (cP gw bz (pv 0)) gd))))
  (bF (fE (i:=3) oN.nd U (Or.inl U) (cP bX bz (pv 1)))
  (bF (BS PassesOwn.never U (qL (pv 2)) (dD (i:=4) oN.nd U (Or.inl U)) (eV (fE (i:=3) oN.nd U (Or.inl U) (cP fF (cP bX (cP iN (pv 3) bz) (cP fF (pv 4) bz)) bz))))
  (eV (iL (xS (kx cf (pv 3) (kx cf bz (kx cf (vw U U T.list U T.rev
   (sk (ts:=["_law_one"]) (us:=[]) #[U,U,U,U,U,U] rfl (qL (pv 2)) (λ_ _ _ _=>dD (i:=0) Qc U (Or.inl U)) (λ_ _ _ _=>xX (ib Ea (pv 0) (cP HG bz bz) (ax _))) (λ_ _ _ _=>pv 0))) xG))) U U (by simp) ())))))
theorem LI(l:!D){n:Nat}(h:n<=l.length):cutD l none (some (n:Int))=l.take n:=by
 unfold cutD;rw[HT.Bz,Uk,Nat.sub_zero];have e:HT.bO l.length l.length (some (n:Int))=n:=by
  unfold HT.bO;simp;rw[if_neg (by cbv)];cbv
 rw[e]
theorem GG(cQ:∀ d l,C4 P w K mg base aP aR 1 (bf K (aN d l) (eP d)))(R3:∀ d l,C4 P w K mg base aP fU 4 (bf K (aN d l) (QJ d)))(Ro:∀ d l,C4 P w K mg base aP en 10 (bf K (aN d l) (QO d 1)))(MK:∀ d l,C4 P w K mg base aP i8 64 (bf K (aN d l) (P6 d 62)))(RS:∀ d l,C4 P w K mg base aP fW 2 (bf K (aN d l) (QE d)))(Nb:∀ d l,C4 P w K mg base aP gb 35 (bf K (aN d l) (PZ d 33)))(Cf:aa0 P w K mg base cz 1 K3)(Pk:aa0 P w K mg base fK 64 OL)(Si:aa0 P w K mg base g8 65 Qq)(GL:C4 P w K mg base aP gR 1 (cC.wa K)){f:AC}{fd:GT}(F:rH K "law" "law" kj f fd)(T:Txt K mg):bN P w K mg base aP 126 f fd ["_law_script"] (xD K):=by
 let(fL,MR,GL,FL,mL,bL):=GL;show F.ok g0 (λvs H Q E h=>?_) (λbr A outer s H vs Q E hr h=>?_)
 .let(a,ns,rfl,_):=h
  rfl
 .let(a,ns,rfl,hS,hlen,k):=h;have hrL:cx 1 _:=hr.mono ();show#[_,(bF (fE (i:=1) g0.nd U (Or.inl U) (kh GL hrL U mL FL.kp bL .nil lN (cR (pv 0) (cR bz gd)))) (DK λd l M0 H0=>(af (sS 2 g0.nd (ak hr (R3 d l) (aa (vd 1) (aa ag (aa oW ae)))))
 (af (sS 3 g0.nd (ak hr (Ro d l) (aa (vd 1) (aa (vd 2) (aa ag ae)))))
 (af (sS 4 g0.nd (DN.de (cD (fJ (bq (dN hr) (DE.pe (vd 2)) (DE.pe aq) (λ_ _=>rfl))) dk (bc ag))))
 (af (sN 0 5 g0.nd (aH (aa (ak hr (MK d l) (aa (vd 1) (aa (vd 4) (aa (je (DN.de (aH (aa ag (aa ag ae)))) (ak hr (cQ d l) (aa (vd 1) (aa ag ae)))) ae)))) (aa (ak hr (MK d l) (aa (vd 1) (aa (vd 4) (aa ag ae)))) ae))))
 (af (oS 5 (aa (ak hr (RS d l) (aa (vd 1) (aa (vd 4) (aa (ak hr (cQ d l) (aa (vd 1) (aa ag ae))) ae)))) ae))
 (af (sF (bg (DN.de (dw bV bY (sM (pv 5)) (DN.de (cD (sM (pv 5)) dk (bc ag)))))) (gN 6 g0.nd)
 (aj (bD (hW (cL (aF hr Pk (aa (vd 6) ae))))
 (aj (aG oW))
 aK)))
 (af (sS 7 g0.nd (DN.de (dw bV bY (DN.de (nC ["_law_one"] [] (bg (aF hr Cf (aa (vd 2) ae))) (λ_ _ _ _=>(gM 0 ["_law_one"])) (λ_ _ _ _=>cj)
 (λ_ _ _ _=>(d5 (vd 0) ag)))) (DN.de (aH (aa aq ae))))))
 (af (sF (bg (DN.de (dw bV bY (vd 7) (DN.de (cD (vd 7) dk (bc ag)))))) (gN 8 g0.nd)
 (aj (bD (hW (cL (aF hr Si (aa (vd 3) (aa (vd 8) (aa (ak hr (Nb d l) (aa (vd 1) (aa (vd 2) (aa (vd 8) (aa (je (DN.de (aH (aa ag (aa ag ae)))) (ak hr (cQ d l) (aa (vd 1) (aa ag ae)))) ae))))) ae))))))
 (aj (aG oW))
 aK)))
 (aj (aG oW)))))))))))),?_]
  show#[_,U,a,ns,0,U,hS,hlen,by decide,by decide,λd l H1 hd hl D1 s1=>?_];show Fw (n:=7) (nos:=1) D1 U U ?_ k;have hsz:=aV;right;show#[#[by decide,by decide],λws ks nk J8 hwm yf=>?_];have bp:=yf.bp false nk J8 hwm;right;show#[#[bp,by decide,by decide,by decide],λps hps has=>?_];show#[_,U,?_];show pQ #[_,U,?_];have hvl:(dg ws ks false).vars.length=15:=bp.vl;have e6:cutD ((dg ws ks false).vars.map D.str) none (some 6)=((dg ws ks false).vars.take 6).map D.str:=by
   rw[List.map_take];exact LI (n:=6) _ (by rw[Ss,hvl];decide)
  have hvn:∀ x∈(dg ws ks false).vars.take 6,Nm x:=λx hx=>bp.nm x (S5 _ (Tq hx));have h6:((dg ws ks false).vars.take 6).length=6:=by rw[Ts,hvl];rfl
  generalize (dg ws ks false).vars.take 6=vs6 at e6 hvn h6;show#[6,U,_,U,?_];rw[e6];right;show#[#[by decide,by decide],λr r0 r1=>?_];obtain⟨rm,erm,rm0,rm1⟩:∃ rm:Int,iw [D.int 6,D.int 60] r=some (.int rm)/\0<=rm/\rm<=60:=by
   have:r=0\/r=1:=by cbv
   rcases this with rfl | rfl
   .exact#[6,bE,by decide,by decide]
   .exact#[60,jd,by decide,by decide]
  have good:∀ v:Vl,v.G->v.th<=60->v.G/\v.sz<=400/\v.dp < 62:=λv gv hv=>by
   let(a1,a2,a3):=B5 v gv;exact#[gv,by cbv,by cbv]
  show#[_,_,_,U,U,erm,?_];show#[vs6,rm,U,#[by cbv,by cbv,hvn,rm0,by change rm<=61;cbv],λv1 g1 t1=>?_];right;show#[#[by cbv,by cbv,hvn,by decide,by decide],λv2 g2 t2=>?_];right;show#[#[by decide,by decide],λmn mn0 mn1=>?_];show#[vs6,mn,U,#[by cbv,by cbv,hvn,mn0,by cbv],λv3 g3 t3=>?_];right;show#[by change 2 < _;cbv,?_];right;have ec:cutD ([vD v1,vD v2]++[vD v3]) none (some 1)=[vD v1]:=rfl;rw[ec];show#[by change 3+1<=_;cbv,_,.inl U,?_];show cq (λxs s=>∃ x6:Sl,(∀ x∈xs,∃ v:Vl,x=vD v/\v.G/\v.th<=60)/\s=#[[.no,.dat (.cb d),.dat (jM (dg ws ks false)),.dat (.tup (ps.map oR)),.dat (.lst (vs6.map .str)),.dat (.lst [vD v1,vD v2,vD v3]),x6,.no,.no],[none]]) ?_ ?_ _ _ #[.no,?_,U]
  .rintro s ⟨x6,_,rfl⟩;right;show#[bp,?_];right;show bw jo (λkd:Kd=>D.str kd.name) _ (λkd hkd k' hk=>?_) ?_
   .right;exact hk _ U
   rw[SX];have htl:(things (dg ws ks false)).length<=5:=SI (Tj _ _) bp.kl;right;show#[by rw[Ss];change _+1<=_;cbv,?_];have hcut:cutD ((things (dg ws ks false)).map (λkd:Kd=>D.str kd.name)++[D.str "number"]) none (some 1)=((things (dg ws ks false)).map (λkd:Kd=>D.str kd.name)++[D.str "number"]).take 1:=LI (n:=1) _ (by rw[List.length_append];simp);have ug:∀ x∈(things (dg ws ks false)).map (λkd:Kd=>D.str kd.name)++[D.str "number"],∃ k0,x=.str k0/\oX (dg ws ks false) k0:=λx hx=>by
    rcases SN.mp hx with hx | hx
    .let(kd,hkd,rfl):=SV.mp hx;let(h1,h2):=TB.mp hkd;exact#[kd.name,U,.inr #[kd,h1,(λz=>by rw[z] at h2;cases h2),U]]
    .rw[SF.mp hx];exact#["number",U,.inl U]
   right;rw[hcut];show#[by rw[Sv,Ss,Ts];change _+1+_<=_;cbv,_,.inl U,?_];show cq (λxs s=>∃ x8:Sl,(∀ x∈xs,∃ k0,x=.str k0/\oX (dg ws ks false) k0)/\s=#[[.no,.dat (.cb d),.dat (jM (dg ws ks false)),.dat (.tup (ps.map oR)),.dat (.lst (vs6.map .str)),.dat (.lst [vD v1,vD v2,vD v3]),x6,.dat (.lst ((things (dg ws ks false)).map (λkd:Kd=>D.str kd.name)++[D.str "number"])),x8],[none]]) ?_ ?_ _ _ #[.no,λx hx=>?_,U]
   .rintro s ⟨x8,_,rfl⟩;exact rfl
   .rintro x xs s E2 ⟨x8,hx,rfl⟩ hN hE;let(k0,rfl,hk0):=hx x SD;right;show#[#[by decide,by decide],λr r0 r1=>?_];obtain⟨rm,erm,rm0,rm1⟩:∃ rm:Int,iw [D.int 4,D.int 30] r=some (.int rm)/\0<=rm/\rm<=30:=by
     have:r=0\/r=1:=by cbv
     rcases this with rfl | rfl
     .exact#[4,bE,by decide,by decide]
     .exact#[30,jd,by decide,by decide]
    show#[_,_,_,U,U,erm,?_];show#[_,k0,rm,U,#[bp,hk0,.inr #[rm0,by change rm+1<=32;cbv]],λv hv hvs=>?_];show#[_,_,ps,k0,v,U,#[hps,has,hv,by cbv,by cbv],_,U,eQ U ?_];exact hN _ #[_,λx h=>hx x (Sy _ h),U]
   .rcases SN.mp hx with hx | hx
    .exact ug x hx
    .exact ug x (Tq hx)
  .rintro x xs s E2 ⟨x6,hx,rfl⟩ hN hE;let(v,rfl,gv,hv):=hx x SD;show#[_,U,v,U,good v gv hv,_,U,eQ U ?_];exact hN _ #[_,λx h=>hx x (Sy _ h),U]
  .intro x hx;have hx:x∈[vD v1,vD v2,vD v3,vD v1]:=hx;simp only[List.mem_cons,List.not_mem_nil,or_false] at hx;rcases hx with rfl | rfl | rfl | rfl
   .exact#[v1,U,g1,by cbv]
   .exact#[v2,U,g2,by cbv]
   .exact#[v3,U,g3,t3]
   .exact#[v1,U,g1,by cbv]
end
theorem all_mk{l:PySem.W.OpenLaw}{w:Fa}{K:Frag}{h:EQ}{mg:Str->Option AT}{fa C OR ME Mt Mm Ms:AC}{tm:Tok}(X:K.In h)(G:h.Ns Gc mg)(Q8:mg "law"=some (.ref fa)){PB Ma Pr NU NY MY Ng NL OS NX:Option AC}{O8 OV NK Pb Pq:Array (Option AT)}{OU Im L8 KG Gj LG Ow NM NZ O1 KP NW M7 N1 OO Nr Iq Np Ov Nk Nj PD Mg Pe Ol Pj Ni Pf Lz Om:AT}(QG:Own K mg fQ)(Qe:Own K mg dA)(Qw:Own K mg fT)(Q6:Own K mg i9)(Cd:Own K mg fh)(N4:Own K mg d9)(MO:Own K mg dB)(MV:Own K mg dC)(QP:Own K mg qP)(QT:Own K mg qE)(Qa:Own K mg nF)(Ql:Own K mg iB)(Qk:Own K mg gc)(MD:Own K mg eX)(MF:Own K mg er)(Qb:Own K mg eR)(PR:Own K mg eh)(PF:Own K mg dY)(QS:Own K mg eS)(P4:Own K mg et)(Qt:Own K mg eW)(QX:Own K mg gR)(QM:Own K mg aR)(PL:Own K mg fZ)(Qs:Own K mg fY)(PH:Own K mg fV)(Qp:Own K mg cz)(QR:Own K mg dO)(HZ:Own K mg hU)(Jh:Own K mg gF)(IK:Own K mg jh)(Jj:Own K mg hZ)(Ln:Own K mg iY)(Ik:Own K mg dJ)(Q4:Own K mg fU)(Q0:Own K mg f7)(QL:Own K mg en)(Q3:Own K mg i8)(Qo:Own K mg fW)(Qx:Own K mg e8)(QV:Own K mg fC)(Qd:Own K mg eB)(Qi:Own K mg fK)(QD:Own K mg gb)(PN:Own K mg gY)(QW:Own K mg g8)(O5:nsIn K Gc "law"=some (some (.ref OR)))(N9:K.lookup OR=some #[OU,PB,.func (fnOf "law" "law" (dE kj) (aT kj) (ai kj) .none Im L8 KG Ma Gj LG),O8])(Na:codeIn K Gj "law"=true)(OJ:keepIn K (.ref OR)=true)(aC:nsIn K Gc "ValueRead"=some (some (.ref C)))(Gk:findIn K (.ref C) "__init__"=some (some (.ref ME)))(Pu:K.lookup ME=some #[Ow,Pr,.func (fnOf "__init__" "ValueRead.__init__" (dE fi) (aT fi) (ai fi) .none NM NZ O1 NU KP NW),OV])(Nn:codeIn K KP "ValueRead.__init__"=true)(NR:keepIn K (.ref ME)=true)(Fd:PySem.W.isFn K (.ref ME)=true)(HM:findIn K (.ref C) "plan"=some (some (.ref Mt)))(Py:K.lookup Mt=some #[M7,NY,.func (fnOf "plan" "ValueRead.plan" (dE fb) (aT fb) (ai fb) .none N1 OO Nr MY Iq Np),NK])(OC:codeIn K Iq "ValueRead.plan"=true)(MN:keepIn K (.ref Mt)=true)(HB:PySem.W.isFn K (.ref Mt)=true)(GV:findIn K (.ref C) "need_sign"=some (some (.ref Mm)))(NS:K.lookup Mm=some #[Ov,Ng,.func (fnOf "need_sign" "ValueRead.need_sign" (dE cm) (aT cm) (ai cm) .none Nk Nj PD NL Mg Pe),Pb])(Pl:codeIn K Mg "ValueRead.need_sign"=true)(MH:keepIn K (.ref Mm)=true)(FZ:PySem.W.isFn K (.ref Mm)=true)(Hm:findIn K (.ref C) "take_word"=some (some (.ref Ms)))(Nw:K.lookup Ms=some #[Ol,OS,.func (fnOf "take_word" "ValueRead.take_word" (dE cg) (aT cg) (ai cg) .none Pj Ni Pf NX Lz Om),Pq])(Nl:codeIn K Lz "ValueRead.take_word"=true)(Mp:keepIn K (.ref Ms)=true)(Fv:PySem.W.isFn K (.ref Ms)=true)(C1:PySem.W.plainGet K C Str.empty=true)(C2:PySem.W.hasDictIn K C=true)(C3:PySem.W.plainOver K C=true)(Og:findIn K (.ref C) "__setattr__"=some (some (.builtin "object.__setattr__")))(Nf:findIn K (.ref C) "text"=some none)(M8:findIn K (.ref C) "place"=some none)(O4:findIn K (.ref C) "ahead"=some none)(N8:findIn K (.ref C) "done"=some none)(M1:PySem.W.makesIn K C=true)(M4:keepIn K (.ref C)=true)(aM:nsIn K Gc "MOST_FIGURES"=some (some (.int 6 tm)))(A6:nsIn K Gc "all"=some none)(vz:nsIn K Gc "bool"=some none)(vx:nsIn K Gc "dict"=some none)(Ad:nsIn K Gc "int"=some none)(gW:nsIn K Gc "isinstance"=some none)(BX:nsIn K Gc "len"=some none)(vR:nsIn K Gc "list"=some none)(zv:nsIn K Gc "max"=some none)(Bu:nsIn K Gc "min"=some none)(qD:nsIn K Gc "range"=some none)(jN:nsIn K Gc "reversed"=some none)(zq:nsIn K Gc "str"=some none)(Ay:nsIn K Gc "sum"=some none)(rO:nsIn K Gc "tuple"=some none)(Ar:nsIn K Gc "zip"=some none) :
  ∃ fd:GT,(∀ (s:Da) (v:AT),BindsTo s fd #[[v],[]] [("_law_script",v)])/\∀ base:EQ,K.In base->base.Ns Gc mg->bN l.prog w K mg base aP 126 fa fd ["_law_script"] (xD K):=by
 have e:=Q8.symm.trans (PySem.W.mg_of X G O5);cases e;have T:Txt K mg:=#[S8 X G A6,S8 X G vz,S8 X G vx,S8 X G Ad,S8 X G gW,S8 X G BX,S8 X G vR,S8 X G zv,S8 X G Bu,S8 X G qD,S8 X G jN,S8 X G zq,S8 X G Ay,S8 X G rO,S8 X G Ar];have V:CW K C:=#[#[C1,C2,C3,Og],Nf,M8,O4,N8];have J:Qr K mg:=#[#[tm,PySem.W.mg_of X G aM]];have FLa:=jP (st:=kj) N9 Na OJ;have FvI:=jP (st:=fi) Pu Nn NR;have BvI:=FvI.binds (ps:=["self","text"]) λ_ _ _ _ _ _ us hl=>match us,hl with | [_,_],_=>rfl
 have FvP:=jP (st:=fb) Py OC MN;have BvP:=FvP.binds (ps:=["self","tasks"]) λ_ _ _ _ _ _ us hl=>match us,hl with | [_,_],_=>rfl
 have OP:uI K C "ValueRead.plan" gJ:=#[_,_,FvP,#[HM,HB,MN],BvP];have FvN:=jP (st:=cm) NS Pl MH;have BvN:=FvN.binds (ps:=["self","sign"]) λ_ _ _ _ _ _ us hl=>match us,hl with | [_,_],_=>rfl
 have ON:uI K C "ValueRead.need_sign" cX:=#[_,_,FvN,#[GV,FZ,MH],BvN];have FvW:=jP (st:=cg) Nw Nl Mp;have BvW:=FvW.binds (ps:=["self","first","last"]) λ_ _ _ _ _ _ us hl=>match us,hl with | [_,_,_],_=>rfl
 have OW:uI K C "ValueRead.take_word" cZ:=#[_,_,FvW,#[Hm,Fv,Mp],BvW];show#[fnOf "law" "law" (dE kj) (aT kj) (ai kj) .none Im L8 KG Ma Gj LG,λs v=>.of_eq U,λbase _ _=>?_];have gTh:=Lx (P:=l.prog) (w:=w) (base:=base) Qp T;have gDr:=λd l'=>(Fs (P:=l.prog) (w:=w) (base:=base) QM T).imp λ_ _=>D5 (d:=d) (l:=l');have gWo:=λd l'=>zp (gDr d l') PL T;have gPa:=λd l'=>Kj (gDr d l') Qs T;have gHe:=λd l'=>LN (gDr d l') (gPa d l') PH T;have gWd:=λd l'=>JD (gWo d l') (gHe d l') Q4 T;have gBo:=λd l'=>IW (gDr d l') QR T;have gLe:=λd l'=>EB (gDr d l') HZ T 2;have gTe:=λd l'=>Eg (gDr d l') gTh (gBo d l') (gLe d l') Jh IK Jj Ln Ik T 2;have gCs:=λd l'=>JB (gDr d l') (gTe d l') Q0 T ();have gPr:=λd l'=>IC (gDr d l') (gCs d l') QL T ();have gAN:=λd l'=>ES (gDr d l') Q3 T 62;have gCH:=λd l'=>Ks (gDr d l') Qo T;have gTG:=λd l'=>Ed (gDr d l') QD T 33;have gMI:=Kh (P:=l.prog) (w:=w) (base:=base) QG T;have gKC:=LV (P:=l.prog) (w:=w) (base:=base) Qe T;have gMO:=IT gKC gMI Qw T;have gSO:=KU gKC Q6 T;let(fL0,fdL0,FL0,mL0,bL0):=id Qa;have gNU:C4 l.prog w K mg base aP iB 2 (bf K .no (Oz isNum)):=Ql.c λ_ _ F=>LZ (yg F T J FL0 mL0 bL0);have gNS:=IB (P:=l.prog) (w:=w) (base:=base) N4 T;have gND:=JE (P:=l.prog) (w:=w) (base:=base) N4 T;have gST:=Lr (P:=l.prog) (w:=w) (base:=base) MO T;have gDT:=J9 (P:=l.prog) (w:=w) (base:=base) MV T;have gSN:=LJ (P:=l.prog) (w:=w) (base:=base) Qk T;have gSU:=Lk (P:=l.prog) (w:=w) (base:=base) MF T;have gTH:=LK gSN MD T;have gSZ:=Jr gNS gST Cd QP T;have gDE:=LA gND gDT Cd QT T;have gSV:=Me gSU gTH Cd Qb T;have gPL:=Jt (P:=l.prog) (w:=w) (base:=base) (mg:=mg) OP V T;have gNG:=Jn (P:=l.prog) (w:=w) (base:=base) (mg:=mg) ON V T;have gTW:=Ip (P:=l.prog) (w:=w) (base:=base) (mg:=mg) OW V T;have gRN:=Io gTW gNU PR V T;have gTB:=KD (P:=l.prog) (w:=w) (base:=base) PF T;have gBT:=KC (P:=l.prog) (w:=w) (base:=base) P4 V T;have gRT:=Jo gSO gMO gTB gPL gNG gTW QS V T;have gI:Qm l.prog w K mg base C 1 (Kr K C (OX C)):=#[_,_,Kc FvI V,#[M1,Gk,Fd,M4],BvI,PySem.W.mg_of X G aC];have gRV:=Jv gI gPL gNG gBT gRN gRT Qt V T;have gWH:=IY (P:=l.prog) (w:=w) (base:=base) Qd T;have gDP:=JR (P:=l.prog) (w:=w) (base:=base) Qx T;have gTX:=EK (P:=l.prog) (w:=w) (base:=base) QV T 62;have gTD:=IX gDP gSZ gDE gSV gWH gTX Qi T;have gSM:=D9 gWH PN T 62;have gRD:=KR gTD gSM gRV gTX QW T;exact GG gDr gWd gPr gAN gCH gTG gTh gTD gRD (GK (P:=l.prog) (w:=w) (base:=base) QX T) FLa T
theorem walk{l:PySem.W.OpenLaw}{q:Fr}{loose:!Str}{XP:(Str->Option AT)->EQ->Prop}{YP:Fa->EQ->Prop}{d:DefRec}{K:ST->Frag}(hn:l.most=some 63)(IE:d.params.defaults=[])(hY:∀ (w:Fa) (h:EQ),YP w h->(K w.params).In h)(F:∀ (w:Fa) (mg:Str->Option AT) (fa:AC) (h:EQ),(K w.params).In h->h.Ns Gc mg->mg d.name=some (.ref fa) ->
   ∃ fd:GT,(∀ (s:Da) (u:AT),BindsTo s fd #[[u],[]] [("_law_script",u)])/\∀ base:EQ,(K w.params).In base->base.Ns Gc mg->bN l.prog w (K w.params) mg base aP 126 fa fd ["_law_script"] (xD (K w.params))) :
  PySem.W.WalkO q loose XP YP l.row.toRowW d [] (λf vs=>PySem.call f vs) :=
 L2.CT (n:=63) (k:=126) (x:="_law_script") (CX:=λ_=>aP) (sp:=λw=>xD (K w.params)) hn () IE #[U,by decide,by decide] hY F (λ_ _ a ns hl _ hS=>#[a,ns,U,hS,hl,λ_=>rfl]) λ_ _ _ _ _ z=>z
end Js
end
end
end
section
local macro_rules
 | `(#check [$n,*])=>do return Lean.mkNullNode (<-n.getElems.mapM fun x=>`(command|theorem $(Lean.mkIdent (.mkSimple s!"tw{x.raw.isNatLit?.get!}")):ident :True:=trivial))
namespace PySem.W.Fast
#check [13431647147453644196,10308516621417599283,9304180605023467401,8159379135604139964,8842768268095625880,7193428508274972229,1908983211194687897,8909971703449111165,10515777422624082181,9124955339098094299,9293013162787996042,7944567725547448521,14066114542712149867,12354489951870228090,11857077528352393209,15177346272427982484,14096705322707026948,14196285278493270501,4766233133914419488,16762956637301032070,888566414081183969,6608119363933611571,1884770044176333631,1747259764735856127,10275142209395614654,5795943026921305554,17846070343396787538,12128262308971010502,12313760562807627421,13424687195214968977,7234379929728430092,12184722082822290713,8600850660446971970,2854314384089506907,2137815343259767463,14893822451020339124,17521844272253184230,15946691689347684018,386223727565732480,17357654399604409156,10915789363329873480,2290738617710249127,4578621171203682555,10494728218486835852,13278990875968984506,2275306743414828388,15875726767683363598,2400254199744619776,5246714130270105371,9144595100487364049,16210107446056979676,8465939079961953143,8730978687341208889,14029843238759395952,17768341191816443077,12778289435226689460,17989899034840848551,9141786265081745549,16211696703590512855,2974061143473088793,6054038026828257064,11262533166135094489,15263538540503837640,8647320798955248704,12659597295142339047,8405055781146909979,5080270774523970072,15347330438542330865,17423095199392218681,3006705821281593822,7712069266104151973,8071404576214786985,16787803542691345864,18263907394748549561,2552338653581544174,129082059958783109,6045947600350764916,15302413271066380650,11352846157641676671,7207030326053114952,9743929282209422448,5178538802534398324,12662487926778087441,11759592204342729083,3765526194923766779,12022204005366998046,16789028164319086250,17097678948592212295,1937091201004572792,15633072681573017982,9606815855270314018,16880524007192122673,938288536289301482,18066728267137144640,15720536226891782528,3230219268077832057,17675535281720950224,16749255321587191238,10921396595516419712,8480646185152433054,14941131780696685440,5451529746477416646,8977248888495344412,1018472858768749910,8662807917280136039,7211365086041773466,9283587797406706318,11849305810093276314,823217907509518616,3269016096659953352,7171447595799767031,861838816535562068,3342133732688299473,5067902426738225388,1054222184700129953,12176663337769505722,10594678773351933115,11141690050343709219,8122401733808029167,14943884309978693114,6400295059421035929,15294718268385896634,5658231535146270392,16849177347640357906,10919843651373421467,10737343791141247881,11807594861906386521,6494096440435837631,14953561276901868193,11385597364193605006,9204034831873675472,1875387220375341487,12771664282411068964,11000093067037771551,4721578616954935090,9158493140709011082,14090772129266867689,11001954155777822799,16916797519457731356,10232374309306959224,5716453686270917040,10217283428255930725,4525645497576948033,17315432390027039636,16127770142823667710,9569726023143910935,2676402768396937701,4928415833483025919,3810877613552279974,4792251148848651910,15349506597770736676,12494460132163754824,16513454253134291435,17324644503711837554,12150075544246223942,3629203739734447162,18131391772594538123,4976807127812779367,16513777760521482895,14732354104035838989,16352420329446737741,18302448113651666567,8684473474809542271,15817611846568620246,2580225952040171240,5941373340414355857,13472702919555578782,6540154770219613886,1365299710781822399,8239840477817189569,3026681339808534811,1201287164528591807,11863485549369889616,4830447993405850308,7804019627106646042,7474783009863597049,6048156257426587967,18143800044223694272,13981517180730108378,18388844521060981389,3995355063533538454,216015222278033422,4803628125990408203,7844751480625556984,1898125674828426016,7558415617286033796,41375405159115557,2202576808997832229,16288889915954798571,15234781328979532556,17371548058828992487,13752109742250254129,1101554807356945941,10086522604720962932,16195578112587184060,7685312259359398945,13245156319741335170,4396412752082840283,10325949510390507350,3546479894294493018,4652731176453408037,11029824013584563931,11434538787085991569,10683042476896649145,10859308980407982955,9734065645618842067,5549200178634996463,13961643491106663728,3731039070399613509,1088032802513513928,12855776079628588630,3765780430265733151,18009974399614458868,2920391278801221693,13963182141508747324,3289075435108484610,4582016479179838789,15418593596489352134,2439249678400619089,8511105525540003766,13699718991328744125,11237619123618205299,10843403722800365156,12950186734081233295,15778228763277019482,7988042452428659115,5646318101823637412,17810642022529420381,8783495966720233262,14846223984667406297,17005891127602359142,694539826539988412,7671726907268969804,9088886939019810095,14208588708159172245,9019031724441115832,9878296560614339778,3848280879449864297,16318765449810935932,3571581519143298466,7426107583640607125,12655841760604813630,15470240281944838549,406718269940409068,12890949593652526768,12626099991791376140,10503896286966024314,13442966289019630934,14713418854002955219,15354205846545640096,5171814031272423737,4926617452426124770,12877689472375977401,13636076296476263855,4078782076750783001,3769999565177887114,4432927049818047613,12507868538021626466,4223818524962953787,674886473449718783,11413361360834580424,5870062413711234321,10862198362341330615,10991710076186952715,17648286820287193263,2003232879885248762,13262233779222223497,1937668525855142023,4994900519872025187,10478430401197532213,11228229715263310707,2014183124878892640,254251189894891958,5397162857485603903,11154848165921758055,8921329791859720492,734834832146418499,16312164000000412528,16287767301415126960,17641891153933901958,1736156857020731240,17503914861450752483,14775646667850588561,408410313916215577,11881558115393388601,5431292099755956958,898097835914147999,14711835664685925100,9131018675972040280,12693349917628914558,4594356674963606493,7534392035744434347,15759872681257354786,3889302364559315514,6929444380957806607,14131488299589127856,8870070999586211651,17699990566046112677,12983766801534285033,11140381779293744458,5001988829394712868,6290958661551953539,12602716758087613828,5627643597801584933,4856423173801308033,7668031209377536354,17153160596590744749,15120959679893096029,3241923979331657,50180038358540559,1098803159632745192,17437478940881882887,2745400550796127321,2418997450035058161,6434843857160817192,2548884556755554744,12735734459262385642,9318748834120537153,11440078029284244180,17969013915253312421,10350740447940220464,14457601908089883775,6802939336036876225,121589349773213653,5267070406483398277,6109274617480738751,1415887647265794109,15727313807999274865,2064270548047205371,1558761608585363839,8658408140117448177,2326315006915067410,5862831815492170000,7826015075742095961,6626598224282969953,10730585360420731273,14339054051800265756]
end PySem.W.Fast
end
open PySem PySem.W PyProof.Rows
set_option maxRecDepth 100000 in
set_option maxHeartbeats 0 in
theorem PySem.Challenge.cw_sideturn_k16_values_and_their_texts_holds : PySem.Challenge.rw_sideturn_k16_values_and_their_texts.Holds := by
 w_on;o_law;k_head;(case hw=>w_witness2)
 k_fill
 refine Js.walk (l:=PySem.Challenge.rw_sideturn_k16_values_and_their_texts) U U (λw h Y=>PySem.W.kIn_of Y) ?F
 case F =>
  intro w mg fa h KX G hmg
  refine' Js.all_mk KX G hmg ?QG ?Qe ?Qw ?Q6 ?Cd ?N4 ?MO ?MV ?QP ?QT ?Qa ?Ql ?Qk ?MD ?MF ?Qb ?PR ?PF ?QS ?P4 ?Qt ?QX ?QM ?PL ?Qs ?PH ?Qp ?QR ?HZ ?Jh ?IK ?Jj ?Ln ?Ik ?Q4 ?Q0 ?QL ?Q3 ?Qo ?Qx ?QV ?Qd ?Qi ?QD ?PN ?QW ?O5 ?N9 ?Na ?OJ ?aC ?Gk ?Pu ?Nn ?NR ?Fd ?HM ?Py ?OC ?MN ?HB ?GV ?NS ?Pl ?MH ?FZ ?Hm ?Nw ?Nl ?Mp ?Fv ?C1 ?C2 ?C3 ?Og ?Nf ?M8 ?O4 ?N8 ?M1 ?M4 ?aM ?A6 ?vz ?vx ?Ad ?gW ?BX ?vR ?zv ?Bu ?qD ?jN ?zq ?Ay ?rO ?Ar
  all_goals try (refine' DL.GF KX G ?a ?l ?c ?k ?b;(case a=>k_is);(case l=>k_is);(case c=>k_is);(case k=>k_is);(case b=>intro _ _ _ _ _ _ us hl;rcases us with _ | ⟨_,_ | ⟨_,_ | ⟨_,_ | ⟨_,_ | ⟨_,_ | ⟨_,_⟩⟩⟩⟩⟩⟩<;>first | rfl | cases hl))
  (case O5=>k_is)
  (case N9=>k_is)
  (case Na=>k_is)
  (case OJ=>k_is)
  (case aC=>k_is)
  (case Gk=>k_is)
  (case Pu=>k_is)
  (case Nn=>k_is)
  (case NR=>k_is)
  (case Fd=>k_is)
  (case HM=>k_is)
  (case Py=>k_is)
  (case OC=>k_is)
  (case MN=>k_is)
  (case HB=>k_is)
  (case GV=>k_is)
  (case NS=>k_is)
  (case Pl=>k_is)
  (case MH=>k_is)
  (case FZ=>k_is)
  (case Hm=>k_is)
  (case Nw=>k_is)
  (case Nl=>k_is)
  (case Mp=>k_is)
  (case Fv=>k_is)
  (case C1=>k_is)
  (case C2=>k_is)
  (case C3=>k_is)
  (case Og=>k_is)
  (case Nf=>k_is)
  (case M8=>k_is)
  (case O4=>k_is)
  (case N8=>k_is)
  (case M1=>k_is)
  (case M4=>k_is)
  (case aM=>k_is)
  (case A6=>k_is)
  (case vz=>k_is)
  (case vx=>k_is)
  (case Ad=>k_is)
  (case gW=>k_is)
  (case BX=>k_is)
  (case vR=>k_is)
  (case zv=>k_is)
  (case Bu=>k_is)
  (case qD=>k_is)
  (case jN=>k_is)
  (case zq=>k_is)
  (case Ay=>k_is)
  (case rO=>k_is)
  (case Ar=>k_is)
